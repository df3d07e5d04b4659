import Derived.Test.YtemkgikncmhoaaaM34
/-
  weave: what a delivery comes to, line by line. Plain mathematics. Own work.
-/
namespace Go.Proofs.Ytemkgikncmhoaaa

/-- k of what was kept are taken. -/
structure Took (E E2 : IEnd) (k : Nat) : Prop where
  known : E2.known = E.known
  waiting : E2.waiting = E.waiting
  flying : E2.flying = E.flying
  taken : E2.taken = E.taken + k
  kept : ∀ m, m ∈ E2.kept ↔ m ∈ E.kept ∧ E.taken + k < m.number
  were : ∀ n, E.taken < n → n ≤ E.taken + k → n ∈ E.kept.map IMsg.number
theorem Took.zero {E : IEnd} (h : ∀ m ∈ E.kept, E.taken < m.number) : Took E E 0 :=
  ⟨rfl, rfl, rfl, rfl, fun m => ⟨fun hm => ⟨hm, by have := h m hm; omega⟩, fun hm => hm.1⟩, fun n h1 h2 => by omega⟩
theorem Took.step {E E2 : IEnd} {m : IMsg} {k : Nat} (hm : m ∈ E.kept) (hn : m.number = E.taken + 1) (h : Took ((E.drop m.number).take m) E2 k) : Took E E2 (k + 1) := by
  have e1 : ((E.drop m.number).take m).taken = E.taken + 1 := hn
  refine ⟨h.known, h.waiting, h.flying, by rw [h.taken, e1]; omega, fun q => ?_, fun n h1 h2 => ?_⟩
  · rw [h.kept q, e1]
    show (q ∈ E.kept.filter _ ∧ _) ↔ _
    rw [List.mem_filter]
    constructor
    · rintro ⟨⟨a, _⟩, b⟩; exact ⟨a, by omega⟩
    · rintro ⟨a, b⟩; exact ⟨⟨a, by simp; omega⟩, by omega⟩
  · by_cases hq : n = E.taken + 1
    · exact List.mem_map.2 ⟨m, hm, by omega⟩
    · have := h.were n (by rw [e1]; omega) (by rw [e1]; omega)
      obtain ⟨q, a, b⟩ := List.mem_map.1 this
      exact List.mem_map.2 ⟨q, (List.mem_filter.1 a).1, b⟩
theorem drop_above {E : IEnd} {m : IMsg} (hn : m.number = E.taken + 1) (h : ∀ q ∈ E.kept, E.taken < q.number) : ∀ q ∈ ((E.drop m.number).take m).kept, ((E.drop m.number).take m).taken < q.number := by
  intro q hq
  obtain ⟨a, b⟩ := List.mem_filter.1 hq
  have := h q a
  have b' : q.number ≠ m.number := by simpa using b
  show m.number < q.number
  omega
theorem drop_shorter {E : IEnd} {m : IMsg} (hm : m ∈ E.kept) : ((E.drop m.number).take m).kept.length + 1 ≤ E.kept.length := by
  show (E.kept.filter _).length + 1 ≤ _
  have : (E.kept.filter fun q => decide (q.number ≠ m.number)).length < E.kept.length := by
    rw [List.length_filter_lt_length_iff_exists]
    exact ⟨m, hm, by simp⟩
  omega
theorem nextKept_short {E : IEnd} (h : E.kept.length ≤ 0) : E.nextKept = none := by
  have : E.kept = [] := List.eq_nil_of_length_eq_zero (by omega)
  unfold IEnd.nextKept; rw [this]; rfl
theorem list_set_self {α : Type} {l : List α} {i : Nat} {a : α} (h : l[i]? = some a) : l.set i a = l := by
  apply List.ext_getElem?
  intro j
  by_cases hj : i = j
  · subst hj; rw [List.getElem?_set_self (List.getElem?_eq_some_iff.1 h).1, h]
  · rw [List.getElem?_set_ne hj]
theorem setA_self {X : IRoom} {i : Nat} {t : List UInt8} {E : IEnd} (h1 : X.texts[i]? = some t) (h2 : X.ends[i]? = some E) : X.setA i t E = X := by
  unfold IRoom.setA; rw [list_set_self h1, list_set_self h2]
theorem setB_self {X : IRoom} {i : Nat} {S : IEnd} (h : X.sends[i]? = some S) : X.setB i S = X := by
  unfold IRoom.setB; rw [list_set_self h]

theorem takesA_took (i : Nat) : ∀ (f : Nat) (X : IRoom) (t : List UInt8) (E : IEnd), X.texts[i]? = some t → X.ends[i]? = some E → (∀ m ∈ E.kept, E.taken < m.number) →
    ∃ k t2 E2, X.takesA i f = X.setA i t2 E2 ∧ Took E E2 k ∧ (E.kept.length ≤ f → E2.nextKept = none) ∧ (k = 0 → t2 = t)
  | 0, X, t, E, h1, h2, hk => ⟨0, t, E, (setA_self h1 h2).symm, .zero hk, nextKept_short, fun _ => rfl⟩
  | f + 1, X, t, E, h1, h2, hk => by
    cases hn : E.nextKept with
    | none => exact ⟨0, t, E, by rw [IRoom.takesA_none h1 h2 hn, setA_self h1 h2], .zero hk, fun _ => hn, fun _ => rfl⟩
    | some m =>
      obtain ⟨m1, m2⟩ := IEnd.nextKept_some hn
      rw [IRoom.takesA_some h1 h2 hn]
      unfold IRoom.stepA
      obtain ⟨g1, g2⟩ := setA_get (t' := (E.taking m).1.does t) (E' := (E.drop m.number).take m) h1 h2
      obtain ⟨k, t2, E2, a1, a2, a3, _⟩ := takesA_took i f _ _ _ g1 g2 (drop_above m2 hk)
      refine ⟨k + 1, t2, E2, by rw [a1, setA_setA], a2.step m1 m2, fun hl => a3 ?_, fun h => by omega⟩
      have := drop_shorter m1
      omega

/-- What the server took, it told the others. -/
def IRoom.tells (X : IRoom) (i : Nat) (S : IEnd) (os : List ROp) : IRoom := { X with server := os.foldl (fun s o => o.does s) X.server, sends := X.sends.mapIdx fun j Z => if j = i then S else os.foldl (fun Z o => Z.make o X.window) Z }
theorem tells_nil {X : IRoom} {i : Nat} (S : IEnd) : X.tells i S [] = X.setB i S := by
  unfold IRoom.tells IRoom.setB
  congr 1
  apply List.ext_getElem?
  intro j
  rw [List.getElem?_mapIdx]
  by_cases hj : i = j
  · subst hj
    by_cases hl : i < X.sends.length
    · rw [List.getElem?_set_self hl]; simp [hl]
    · simp [hl]
  · rw [List.getElem?_set_ne hj]
    have hj' : ¬ j = i := fun h => hj h.symm
    cases X.sends[j]? <;> simp [hj']
theorem tell_tells (X : IRoom) (i : Nat) (S S2 : IEnd) (o : ROp) (os : List ROp) : (X.tell i S o).tells i S2 os = X.tells i S2 (o :: os) := by
  unfold IRoom.tells IRoom.tell
  simp only [List.foldl_cons]
  congr 1
  apply List.ext_getElem?
  intro j
  simp only [List.getElem?_mapIdx]
  cases X.sends[j]? with
  | none => rfl
  | some Z => by_cases hj : j = i <;> simp [hj]
theorem setB_tells (X : IRoom) (i : Nat) (S S2 : IEnd) (os : List ROp) : (X.setB i S).tells i S2 os = X.tells i S2 os := by
  unfold IRoom.tells IRoom.setB
  simp only
  congr 1
  apply List.ext_getElem?
  intro j
  simp only [List.getElem?_mapIdx]
  by_cases hj : i = j
  · subst hj
    by_cases hl : i < X.sends.length
    · rw [List.getElem?_set_self hl]; simp [hl]
    · simp [hl]
  · rw [List.getElem?_set_ne hj]
theorem tells_setB (X : IRoom) (i : Nat) (S S2 : IEnd) (os : List ROp) : (X.tells i S os).setB i S2 = X.tells i S2 os := by
  unfold IRoom.tells IRoom.setB
  simp only
  congr 1
  apply List.ext_getElem?
  intro j
  by_cases hj : i = j
  · subst hj
    by_cases hl : i < X.sends.length
    · rw [List.getElem?_set_self (by simpa using hl)]; simp [hl]
    · simp [hl]
  · rw [List.getElem?_set_ne hj]
    simp only [List.getElem?_mapIdx]
    have hj' : ¬ j = i := fun h => hj h.symm
    cases X.sends[j]? <;> simp [hj']
theorem tells_get {X : IRoom} {i : Nat} {Z : IEnd} (S2 : IEnd) (os : List ROp) (h : X.sends[i]? = some Z) : (X.tells i S2 os).sends[i]? = some S2 := by
  simp [IRoom.tells, List.getElem?_mapIdx, h]
theorem takesB_took (i : Nat) : ∀ (f : Nat) (X : IRoom) (S : IEnd), X.sends[i]? = some S → (∀ m ∈ S.kept, S.taken < m.number) →
    ∃ os S2, X.takesB i f = X.tells i S2 os ∧ Took S S2 os.length ∧ (S.kept.length ≤ f → S2.nextKept = none)
  | 0, X, S, h, hk => ⟨[], S, by rw [tells_nil, setB_self h]; rfl, .zero hk, nextKept_short⟩
  | f + 1, X, S, h, hk => by
    cases hn : S.nextKept with
    | none => exact ⟨[], S, by rw [IRoom.takesB_none h hn, tells_nil, setB_self h], .zero hk, fun _ => hn⟩
    | some m =>
      obtain ⟨m1, m2⟩ := IEnd.nextKept_some hn
      rw [IRoom.takesB_some h hn]
      unfold IRoom.stepB
      have g : (X.tell i ((S.drop m.number).take m) (S.taking m).1).sends[i]? = some ((S.drop m.number).take m) := by simp [IRoom.tell, List.getElem?_mapIdx, h]
      obtain ⟨os, S2, a1, a2, a3⟩ := takesB_took i f _ _ g (drop_above m2 hk)
      refine ⟨(S.taking m).1 :: os, S2, by rw [a1, tell_tells], a2.step m1 m2, fun hl => a3 ?_⟩
      have := drop_shorter m1
      omega

/-- A datagram comes to an end: the end behind it, and how many it took. -/
inductive Came (window : Nat) (E : IEnd) (d : ByteArray) : IEnd → Nat → Prop
  | none (h : readD d = none) : Came window E d E 0
  | word (tk : Nat) (h : readD d = some (tk, none)) : Came window E d (E.learn window tk) 0
  | msg (tk : Nat) (m : IMsg) (E2 : IEnd) (k : Nat) (h : readD d = some (tk, some m)) (ht : Took ((E.learn window tk).keep window m) E2 k) (hs : E2.nextKept = none) : Came window E d E2.word k

/-! ### The pieces of a room by their numbers -/
def IRoom.e (X : IRoom) (i : Nat) : IEnd := X.ends.getD i .zero
def IRoom.s (X : IRoom) (i : Nat) : IEnd := X.sends.getD i .zero
def IRoom.tx (X : IRoom) (i : Nat) : List UInt8 := X.texts.getD i []
section
variable {X : IRoom} {us ds : Nat → List GMsg} {T : Nat → Nat → Nat → List UInt8}
theorem getD_some {α : Type} {l : List α} {i : Nat} {a z : α} (h : l[i]? = some a) : l.getD i z = a := by rw [List.getD_eq_getElem?_getD, h]; rfl
theorem RInv.at' (h : RInv X us ds T) {i : Nat} (hi : i < X.texts.length) : X.texts[i]? = some (X.tx i) ∧ X.ends[i]? = some (X.e i) ∧ X.sends[i]? = some (X.s i) := by
  obtain ⟨t, E, S, a, b, c⟩ := h.get hi
  unfold IRoom.tx IRoom.e IRoom.s
  rw [getD_some a, getD_some b, getD_some c]
  exact ⟨a, b, c⟩
theorem e_setA {i : Nat} {t : List UInt8} {E : IEnd} (h : i < X.ends.length) (j : Nat) : (X.setA i t E).e j = if j = i then E else X.e j := by
  unfold IRoom.e IRoom.setA
  simp only [List.getD_eq_getElem?_getD]
  by_cases hj : j = i
  · subst hj; simp [h]
  · rw [if_neg hj, List.getElem?_set_ne (fun h => hj h.symm)]
theorem tx_setA {i : Nat} {t : List UInt8} {E : IEnd} (h : i < X.texts.length) (j : Nat) : (X.setA i t E).tx j = if j = i then t else X.tx j := by
  unfold IRoom.tx IRoom.setA
  simp only [List.getD_eq_getElem?_getD]
  by_cases hj : j = i
  · subst hj; simp [h]
  · rw [if_neg hj, List.getElem?_set_ne (fun h => hj h.symm)]
theorem s_setA {i : Nat} {t : List UInt8} {E : IEnd} (j : Nat) : (X.setA i t E).s j = X.s j := rfl
theorem s_setB {i : Nat} {S : IEnd} (h : i < X.sends.length) (j : Nat) : (X.setB i S).s j = if j = i then S else X.s j := by
  unfold IRoom.s IRoom.setB
  simp only [List.getD_eq_getElem?_getD]
  by_cases hj : j = i
  · subst hj; simp [h]
  · rw [if_neg hj, List.getElem?_set_ne (fun h => hj h.symm)]
theorem s_tells {i : Nat} {S : IEnd} {os : List ROp} (h : i < X.sends.length) (j : Nat) : (X.tells i S os).s j = if j = i then S else if j < X.sends.length then os.foldl (fun Z o => Z.make o X.window) (X.s j) else X.s j := by
  unfold IRoom.s IRoom.tells
  simp only [List.getD_eq_getElem?_getD, List.getElem?_mapIdx]
  by_cases hj : j = i
  · subst hj; simp [h]
  · by_cases hl : j < X.sends.length
    · simp [hj, hl]
    · simp [hj, hl]

theorem RInv.cameA (h : RInv X us ds T) {i : Nat} (hi : i < X.texts.length) {d : ByteArray} (hd : Flies (ds i) (X.s i).taken d) : ∃ t2 E2 k, X.comeA i d = X.setA i t2 E2 ∧ Came X.window (X.e i) d E2 k ∧ (k = 0 → t2 = X.tx i) := by
  obtain ⟨h1, h2, h3⟩ := h.at' hi
  obtain ⟨hl, _⟩ := h.line i _ _ _ h1 h2 h3
  have ht := (h.waitB h1 h2 h3).2.2.1
  unfold IRoom.comeA
  rcases hd.reads (by omega) (fun n tk a b c => h.bytesB h1 h2 h3 a b c) with e | ⟨tk, m, e, e1, e2⟩ <;> rw [e]
  · exact ⟨X.tx i, X.e i, 0, (setA_self h1 h2).symm, .none e, fun _ => rfl⟩
  · unfold IRoom.arriveA
    simp only [h1, h2]
    cases m with
    | none => exact ⟨_, _, 0, rfl, .word tk e, fun _ => rfl⟩
    | some m =>
      have hh := hl.a.heard X.window tk (some m) e2
      have hk : ∀ q ∈ ((X.e i).hears X.window tk (some m)).kept, ((X.e i).hears X.window tk (some m)).taken < q.number := fun q hq => by
        obtain ⟨n, b1, _, rfl⟩ := hh.kept q hq
        exact b1
      obtain ⟨g1, g2⟩ := setA_get (t' := X.tx i) (E' := (X.e i).hears X.window tk (some m)) h1 h2
      obtain ⟨k, t2, E2, a1, a2, a3, a4⟩ := takesA_took i ((X.e i).hears X.window tk (some m)).kept.length _ _ _ g1 g2 hk
      obtain ⟨g3, g4⟩ := setA_get (t' := t2) (E' := E2) h1 h2
      refine ⟨t2, E2.word, k, ?_, .msg tk m E2 k e a2 (a3 (Nat.le_refl _)), a4⟩
      simp only [a1, setA_setA]
      unfold IRoom.wordA
      rw [g3, g4]
      simp only [setA_setA]
theorem RInv.cameB (h : RInv X us ds T) {i : Nat} (hi : i < X.texts.length) {d : ByteArray} (hd : Flies (us i) (X.e i).taken d) : ∃ os S2, X.comeB i d = X.tells i S2 os ∧ Came X.window (X.s i) d S2 os.length := by
  obtain ⟨h1, h2, h3⟩ := h.at' hi
  obtain ⟨hl, _⟩ := h.line i _ _ _ h1 h2 h3
  have ht := (h.waitA h1 h2 h3).2.2.1
  unfold IRoom.comeB
  rcases hd.reads (by omega) (fun n tk a b c => h.bytesA h1 h2 h3 a b c) with e | ⟨tk, m, e, e1, e2⟩ <;> rw [e]
  · exact ⟨[], X.s i, by rw [tells_nil, setB_self h3], .none e⟩
  · unfold IRoom.arriveB
    simp only [h3]
    cases m with
    | none => exact ⟨[], (X.s i).learn X.window tk, by rw [tells_nil]; rfl, .word tk e⟩
    | some m =>
      have hh := hl.b.heard X.window tk (some m) e2
      have hk : ∀ q ∈ ((X.s i).hears X.window tk (some m)).kept, ((X.s i).hears X.window tk (some m)).taken < q.number := fun q hq => by
        obtain ⟨n, b1, _, rfl⟩ := hh.kept q hq
        exact b1
      have g := setB_get (S' := (X.s i).hears X.window tk (some m)) h3
      obtain ⟨os, S2, a1, a2, a3⟩ := takesB_took i ((X.s i).hears X.window tk (some m)).kept.length _ _ g hk
      refine ⟨os, S2.word, ?_, .msg tk m S2 os.length e a2 (a3 (Nat.le_refl _))⟩
      simp only [a1, setB_tells]
      unfold IRoom.wordB
      rw [tells_get S2 os h3]
      simp only [tells_setB]
end
end Go.Proofs.Ytemkgikncmhoaaa

/-
  weave: deliveries come to an end: each lessens what is still to do. Plain mathematics. Own work.
-/
namespace Go.Proofs.Ytemkgikncmhoaaa

def numD (d : ByteArray) : Option Nat := match readD d with
  | some (_, some m) => some m.number
  | _ => none
def tellD (d : ByteArray) : Option Nat := (readD d).map Prod.fst
def wt (d : ByteArray) : Nat := if (numD d).isSome then 2 else 1
def wsum (fl : List ByteArray) : Nat := (fl.map wt).sum
theorem wt_le (d : ByteArray) : 1 ≤ wt d ∧ wt d ≤ 2 := by unfold wt; split <;> omega
theorem readD_word' (tk : Nat) : readD (ckd [2, (tk : Int)]) = some ((byteOf tk).toNat, none) := by
  show (if byteOf 2 = 2 then some ((byteOf tk).toNat, none) else none) = _
  rw [if_pos (by decide)]
theorem numD_word (tk : Nat) : numD (ckd [2, (tk : Int)]) = none := by unfold numD; rw [readD_word']
theorem wt_word (tk : Nat) : wt (ckd [2, (tk : Int)]) = 1 := by unfold wt; rw [numD_word]; rfl
theorem wsum_append (a b : List ByteArray) : wsum (a ++ b) = wsum a + wsum b := by simp [wsum]
theorem wsum_cons (a : ByteArray) (b : List ByteArray) : wsum (a :: b) = wt a + wsum b := by simp [wsum]
theorem wsum_le : ∀ (l : List ByteArray), wsum l ≤ 2 * l.length
  | [] => by simp [wsum]
  | a :: l => by rw [wsum_cons, List.length_cons]; have := wsum_le l; have := (wt_le a).2; omega

theorem IEnd.sends_flying : ∀ (ms : List IMsg) (E : IEnd), (E.sends ms).flying = E.flying ++ (ms.map fun m => ckd (m.bytes E.taken)).take (12 - E.flying.length)
  | [], E => by simp [IEnd.sends]
  | m :: ms, E => by
    have e : E.sends (m :: ms) = (E.fly (ckd (m.bytes E.taken))).sends ms := rfl
    rw [e, IEnd.sends_flying ms, (E.fly_fields _).2.2.1]
    unfold IEnd.fly
    by_cases h : E.flying.length < 12
    · rw [if_pos h]
      obtain ⟨q, hq⟩ : ∃ q, 12 - E.flying.length = q + 1 := ⟨12 - E.flying.length - 1, by omega⟩
      simp only [List.length_append, List.length_cons, List.length_nil, List.map_cons, hq, List.take_succ_cons, List.append_assoc, List.singleton_append]
      rw [show 12 - (E.flying.length + (0 + 1)) = q by omega]
    · rw [if_neg h, show 12 - E.flying.length = 0 by omega]; simp
theorem lose_split {l : List ByteArray} {n : Nat} {d : ByteArray} (h : l[n]? = some d) : l = l.take n ++ d :: l.drop (n + 1) := by
  obtain ⟨hn, rfl⟩ := List.getElem?_eq_some_iff.1 h
  rw [← List.drop_eq_getElem_cons hn, List.take_append_drop]
theorem wsum_lose {E : IEnd} {n : Nat} {d : ByteArray} (h : E.flying[n]? = some d) : wsum (E.lose n).flying + wt d = wsum E.flying := by
  have : wsum E.flying = wsum (E.flying.take n ++ d :: E.flying.drop (n + 1)) := by rw [← lose_split h]
  rw [this]
  show wsum (E.flying.take n ++ E.flying.drop (n + 1)) + _ = _
  rw [wsum_append, wsum_append, wsum_cons]; omega

theorem nodup_le : ∀ (q : Nat) (l : List Nat) (a b : Nat), b - a = q → l.Nodup → (∀ x ∈ l, a < x ∧ x ≤ b) → l.length ≤ q
  | 0, l, a, b, h, _, hl => by
    cases l with
    | nil => simp
    | cons x l => have := hl x (by simp); omega
  | q + 1, l, a, b, h, hn, hl => by
    have := nodup_le q (l.erase b) a (b - 1) (by omega) (hn.erase b) (fun x hx => by
      have h1 := (hn.mem_erase_iff).1 hx
      have h2 := hl x h1.2
      have h3 := h1.1
      omega)
    by_cases hb : b ∈ l
    · rw [List.length_erase_of_mem hb] at this; omega
    · rw [List.erase_of_not_mem hb] at this; omega

def IEnd.sentTo (E : IEnd) (window : Nat) : Nat := E.known + min window E.waiting.length
theorem tailOf_take (own : List GMsg) (n w : Nat) : (tailOf own n).take w = (List.range (min w (own.length - n))).map fun j => imsg own (n + j + 1) := by
  unfold tailOf
  rw [← List.map_take, List.take_range]
section
variable {own oth : List GMsg} {E : IEnd} {window : Nat}
theorem Half.sentTo_moved (h : Half own oth E) {n : Nat} (h1 : E.known < n) (h2 : n ≤ own.length) : (E.moved n).sentTo window = n + min window (own.length - n) := by
  have := (h.moved h1 h2).wait
  unfold IEnd.sentTo
  rw [this, tailOf_length]; rfl
theorem Half.sentTo_eq (h : Half own oth E) : E.sentTo window = E.known + min window (own.length - E.known) := by
  unfold IEnd.sentTo
  rw [h.wait, tailOf_length]
theorem Half.fresh_mem (h : Half own oth E) {n : Nat} (h1 : E.known < n) (h2 : n ≤ own.length) (m : IMsg) : m ∈ E.fresh window n ↔ ∃ q, E.sentTo window < q ∧ n < q ∧ q ≤ (E.moved n).sentTo window ∧ m = imsg own q := by
  rw [h.sentTo_moved h1 h2]
  unfold IEnd.fresh
  have hw : (E.moved n).waiting = tailOf own n := (h.moved h1 h2).wait
  rw [hw, tailOf_take, List.mem_filter, List.mem_map]
  constructor
  · rintro ⟨⟨j, a, rfl⟩, b⟩
    have a := List.mem_range.1 a
    exact ⟨n + j + 1, of_decide_eq_true b, by omega, by omega, rfl⟩
  · rintro ⟨q, a, b, c, rfl⟩
    exact ⟨⟨q - n - 1, List.mem_range.2 (by omega), by rw [show n + (q - n - 1) + 1 = q by omega]⟩, decide_eq_true a⟩
theorem Half.fresh_nodup (h : Half own oth E) {n : Nat} (h1 : E.known < n) (h2 : n ≤ own.length) : ((E.fresh window n).map IMsg.number).Nodup := by
  unfold IEnd.fresh
  have hw : (E.moved n).waiting = tailOf own n := (h.moved h1 h2).wait
  rw [hw, tailOf_take]
  refine List.Sublist.nodup (List.Sublist.map _ List.filter_sublist) ?_
  rw [List.map_map]
  refine List.Pairwise.map _ (S := fun a b => a ≠ b) ?_ List.nodup_range
  intro a b hab h
  simp [imsg] at h
  exact hab h
def IEnd.load (E : IEnd) (window : Nat) : Nat := wsum E.flying + 2 * (E.made - E.sentTo window)
theorem Half.learn_cases (h : Half own oth E) (n : Nat) : ((n ≤ E.known ∨ own.length < n) ∧ E.learn window n = E) ∨ (E.known < n ∧ n ≤ own.length ∧ E.learn window n = (E.moved n).sends (E.fresh window n)) := by
  have := h.made
  unfold IEnd.learn
  by_cases g : n ≤ E.known ∨ E.made < n
  · exact .inl ⟨by rw [← this]; exact g, if_pos g⟩
  · exact .inr ⟨by omega, by omega, if_neg g⟩
theorem moved_made (E : IEnd) {n : Nat} (h1 : E.known < n) (h2 : n ≤ E.made) : (E.moved n).made = E.made := by
  simp only [IEnd.moved, IEnd.made, List.length_drop] at *; omega
theorem sends_made (E : IEnd) (ms : List IMsg) : (E.sends ms).made = E.made ∧ (E.sends ms).sentTo window = E.sentTo window := by
  obtain ⟨a1, a2, _⟩ := IEnd.sends_fields ms E
  unfold IEnd.made IEnd.sentTo
  rw [a1, a2]
  exact ⟨rfl, rfl⟩
theorem Half.fresh_len (h : Half own oth E) {n : Nat} (h1 : E.known < n) (h2 : n ≤ own.length) : E.sentTo window + (E.fresh window n).length ≤ (E.moved n).sentTo window := by
  have := nodup_le _ ((E.fresh window n).map IMsg.number) (E.sentTo window) ((E.moved n).sentTo window) rfl (h.fresh_nodup h1 h2) (fun x hx => by
    obtain ⟨m, hm, rfl⟩ := List.mem_map.1 hx
    obtain ⟨q, a, b, c, rfl⟩ := (h.fresh_mem h1 h2 m).1 hm
    exact ⟨a, c⟩)
  rw [List.length_map] at this
  have e1 := h.sentTo_moved (window := window) h1 h2
  have e2 := h.sentTo_eq (window := window)
  omega
theorem Half.learn_load (h : Half own oth E) (n : Nat) : (E.learn window n).load window ≤ E.load window := by
  rcases h.learn_cases (window := window) n with ⟨_, e⟩ | ⟨h1, h2, e⟩ <;> rw [e]
  · exact Nat.le_refl _
  · have hl := h.fresh_len (window := window) h1 h2
    have hm := moved_made E h1 (by rw [h.made]; exact h2)
    obtain ⟨s1, s2⟩ := sends_made (window := window) (E.moved n) (E.fresh window n)
    have e1 := h.sentTo_moved (window := window) h1 h2
    have hmd := h.made
    unfold IEnd.load
    rw [s1, s2, hm, IEnd.sends_flying, wsum_append]
    have hf : wsum (E.moved n).flying = wsum E.flying := rfl
    refine Nat.le_trans (Nat.add_le_add_right (Nat.add_le_add_left (wsum_le _) _) _) ?_
    simp only [List.length_take, List.length_map]
    omega
end
theorem make_load (Z : IEnd) (o : ROp) (window : Nat) : (Z.make o window).load window ≤ Z.load window + 2 := by
  unfold IEnd.make
  split
  · rename_i h
    obtain ⟨s1, s2⟩ := sends_made (window := window) (Z.grow o) [Z.next o]
    unfold IEnd.load
    rw [s1, s2, IEnd.sends_flying, wsum_append]
    have e1 : wsum (Z.grow o).flying = wsum Z.flying := rfl
    have e2 : (Z.grow o).made = Z.made + 1 := by simp [IEnd.grow, IEnd.made]; omega
    have e3 : (Z.grow o).sentTo window = Z.made + 1 := by simp [IEnd.grow, IEnd.sentTo, IEnd.made]; omega
    refine Nat.le_trans (Nat.add_le_add_right (Nat.add_le_add_left (wsum_le _) _) _) ?_
    simp only [List.length_take, List.length_map, List.length_cons, List.length_nil]
    omega
  · rename_i h
    have e2 : (Z.grow o).made = Z.made + 1 := by simp [IEnd.grow, IEnd.made]; omega
    have e3 : (Z.grow o).sentTo window = Z.sentTo window := by simp [IEnd.grow, IEnd.sentTo]; omega
    unfold IEnd.load
    have e1 : (Z.grow o).flying = Z.flying := rfl
    rw [e1, e2, e3]
    omega
theorem makes_load (window : Nat) : ∀ (os : List ROp) (Z : IEnd), (os.foldl (fun Z o => Z.make o window) Z).load window ≤ Z.load window + 2 * os.length
  | [], Z => by simp
  | o :: os, Z => by
    have := makes_load window os (Z.make o window)
    have := make_load Z o window
    simp only [List.foldl_cons, List.length_cons]
    omega
theorem make_fields (Z : IEnd) (o : ROp) (window : Nat) : (Z.make o window).taken = Z.taken ∧ (Z.make o window).known = Z.known ∧ (Z.make o window).kept = Z.kept ∧ (Z.make o window).waiting = Z.waiting ++ [Z.next o] := by
  unfold IEnd.make
  split
  · obtain ⟨a1, a2, a3, _, _, a6⟩ := IEnd.sends_fields [Z.next o] (Z.grow o)
    exact ⟨a3, a1, a6, a2⟩
  · exact ⟨rfl, rfl, rfl, rfl⟩
theorem makes_fields (window : Nat) : ∀ (os : List ROp) (Z : IEnd), (os.foldl (fun Z o => Z.make o window) Z).taken = Z.taken ∧ (os.foldl (fun Z o => Z.make o window) Z).known = Z.known ∧ (os.foldl (fun Z o => Z.make o window) Z).kept = Z.kept
  | [], Z => ⟨rfl, rfl, rfl⟩
  | o :: os, Z => by
    obtain ⟨a1, a2, a3⟩ := makes_fields window os (Z.make o window)
    obtain ⟨b1, b2, b3, _⟩ := make_fields Z o window
    simp only [List.foldl_cons]
    exact ⟨a1.trans b1, a2.trans b2, a3.trans b3⟩
theorem word_load (E : IEnd) (window : Nat) : E.word.load window ≤ E.load window + 1 := by
  obtain ⟨a1, a2, _⟩ := E.fly_fields (ckd [2, (E.taken : Int)])
  have : E.word.made = E.made ∧ E.word.sentTo window = E.sentTo window := by
    unfold IEnd.made IEnd.sentTo IEnd.word; rw [a1, a2]; exact ⟨rfl, rfl⟩
  unfold IEnd.load
  rw [this.1, this.2]
  have hw : wsum E.word.flying ≤ wsum E.flying + 1 := by
    unfold IEnd.word IEnd.fly
    split
    · rw [wsum_append, wsum_cons, wt_word]; simp [wsum]
    · omega
  omega
theorem Took.load {E E2 : IEnd} {k : Nat} (h : Took E E2 k) (window : Nat) : E2.load window = E.load window ∧ E2.made = E.made ∧ E2.sentTo window = E.sentTo window := by
  unfold IEnd.load IEnd.made IEnd.sentTo
  rw [h.known, h.waiting, h.flying]
  exact ⟨rfl, rfl, rfl⟩
theorem keep_load (E : IEnd) (window : Nat) (m : IMsg) : (E.keep window m).load window = E.load window ∧ (E.keep window m).made = E.made ∧ (E.keep window m).sentTo window = E.sentTo window := by
  obtain ⟨_, a2, a3, a4⟩ := E.keep_fields window m
  unfold IEnd.load IEnd.made IEnd.sentTo
  rw [a2, a3, a4]
  exact ⟨rfl, rfl, rfl⟩
section
variable {own oth : List GMsg} {E E' : IEnd} {window k : Nat} {d : ByteArray}
theorem Half.learn_made (h : Half own oth E) (n : Nat) : (E.learn window n).made = E.made := by
  rw [(h.learnt n).made, h.made]
theorem word_fields (E : IEnd) : E.word.known = E.known ∧ E.word.waiting = E.waiting ∧ E.word.taken = E.taken ∧ E.word.kept = E.kept ∧ E.word.made = E.made ∧ ∀ window, E.word.sentTo window = E.sentTo window := by
  obtain ⟨a1, a2, a3, _, _, a6⟩ := E.fly_fields (ckd [2, (E.taken : Int)])
  exact ⟨a1, a2, a3, a6, by unfold IEnd.made IEnd.word; rw [a1, a2], fun window => by unfold IEnd.sentTo IEnd.word; rw [a1, a2]⟩
theorem Came.load (c : Came window E d E' k) (h : Half own oth E) : E'.load window + 1 ≤ E.load window + wt d ∧ E'.taken = E.taken + k ∧ E'.made = E.made := by
  have hw := wt_le d
  cases c with
  | none hd => exact ⟨by omega, rfl, rfl⟩
  | word tk hd => exact ⟨by have := h.learn_load (window := window) tk; omega, (Half.learn_fields E window tk).1, h.learn_made tk⟩
  | msg tk m E2 k hd ht hs =>
    obtain ⟨t1, t2, _⟩ := ht.load window
    obtain ⟨k1, k2, _⟩ := keep_load (E.learn window tk) window m
    have hl := h.learn_load (window := window) tk
    have hwd := word_load E2 window
    obtain ⟨_, _, w3, _, w5, _⟩ := word_fields E2
    have : wt d = 2 := by unfold wt numD; rw [hd]; rfl
    refine ⟨by omega, ?_, by rw [w5, t2, k2, h.learn_made]⟩
    rw [w3, ht.taken, ((E.learn window tk).keep_fields window m).1, (Half.learn_fields E window tk).1]
end

/-! ### All lines -/
def phi (window : Nat) (E S : IEnd) : Nat := E.load window + S.load window + 6 * (E.made - S.taken)
def IRoom.phi (X : IRoom) (i : Nat) : Nat := Go.Proofs.Ytemkgikncmhoaaa.phi X.window (X.e i) (X.s i)
def IRoom.total (X : IRoom) : Nat := X.phi 0 + X.phi 1 + X.phi 2 + X.phi 3
section
variable {X : IRoom} {us ds : Nat → List GMsg} {T : Nat → Nat → Nat → List UInt8}
theorem RInv.far (h : RInv X us ds T) {i : Nat} (hi : ¬ i < X.texts.length) : X.e i = .zero ∧ X.s i = .zero := by
  have h1 := h.le
  have h2 := h.ls
  unfold IRoom.e IRoom.s
  rw [List.getD_eq_getElem?_getD, List.getD_eq_getElem?_getD, List.getElem?_eq_none (by omega), List.getElem?_eq_none (by omega)]
  exact ⟨rfl, rfl⟩
theorem phi_zero (window : Nat) : phi window .zero .zero = 0 := by simp [phi, IEnd.load, IEnd.zero, IEnd.made, IEnd.sentTo, wsum]
theorem load_lose {E : IEnd} {n : Nat} {d : ByteArray} (h : E.flying[n]? = some d) (window : Nat) : (E.lose n).load window + wt d = E.load window := by
  have := wsum_lose h
  have e : (E.lose n).made - (E.lose n).sentTo window = E.made - E.sentTo window := rfl
  unfold IEnd.load
  omega
theorem RInv.phi_le (h : RInv X us ds T) (i : Nat) : X.phi i ≤ 432 := by
  by_cases hi : i < X.texts.length
  · obtain ⟨h1, h2, h3⟩ := h.at' hi
    obtain ⟨hl, hw, hu, _⟩ := h.line i _ _ _ h1 h2 h3
    have hd := h.ds180 hi
    have w4 := h.w4
    have a1 := hl.a.made
    have a2 := hl.b.made
    have a3 := wsum_le (X.e i).flying
    have a4 := wsum_le (X.s i).flying
    have a5 := hl.a.fly
    have a6 := hl.b.fly
    have a7 := hl.ka
    have e1 : (X.e i).sentTo X.window = (X.e i).made := by unfold IEnd.sentTo IEnd.made; omega
    have e2 : (X.e i).made = (X.e i).known + (X.e i).waiting.length := rfl
    unfold IRoom.phi Go.Proofs.Ytemkgikncmhoaaa.phi IEnd.load
    omega
  · obtain ⟨e1, e2⟩ := h.far hi
    unfold IRoom.phi
    rw [e1, e2, phi_zero]
    omega
theorem RInv.total_le (h : RInv X us ds T) : X.total ≤ 1728 := by
  have := h.phi_le 0
  have := h.phi_le 1
  have := h.phi_le 2
  have := h.phi_le 3
  unfold IRoom.total
  omega
theorem sum_falls (f g : Nat → Nat) (i k : Nat) (hi : i < 4) (h1 : g i + 1 + 6 * k ≤ f i) (h2 : ∀ j, j ≠ i → g j ≤ f j + 2 * k) : g 0 + g 1 + g 2 + g 3 + 1 ≤ f 0 + f 1 + f 2 + f 3 := by
  have a0 := h2 0
  have a1 := h2 1
  have a2 := h2 2
  have a3 := h2 3
  match i, hi with
  | 0, _ | 1, _ | 2, _ | 3, _ => omega
/-- What a delivery to the server comes to. -/
theorem RInv.upped (h : RInv X us ds T) {i n : Nat} (hi : i < X.texts.length) {d : ByteArray} (hd : (X.e i).flying[n]? = some d) : ∃ os S2, (X.setA i (X.tx i) ((X.e i).lose n)).comeB i d = (X.setA i (X.tx i) ((X.e i).lose n)).tells i S2 os ∧ Came X.window (X.s i) d S2 os.length := by
  obtain ⟨h1, h2, h3⟩ := h.at' hi
  have hR := h.loseA h1 h2 h3 n
  obtain ⟨hl, _⟩ := h.line i _ _ _ h1 h2 h3
  have hi' : i < (X.setA i (X.tx i) ((X.e i).lose n)).texts.length := by simpa [IRoom.setA] using hi
  have he : (X.setA i (X.tx i) ((X.e i).lose n)).e i = (X.e i).lose n := by rw [e_setA (by have := h.le; omega), if_pos rfl]
  have := hR.cameB hi' (d := d) (by rw [he]; exact hl.a.flies d (List.mem_of_getElem? hd))
  exact this
theorem RInv.downed (h : RInv X us ds T) {i n : Nat} (hi : i < X.texts.length) {d : ByteArray} (hd : (X.s i).flying[n]? = some d) : ∃ t2 E2 k, (X.setB i ((X.s i).lose n)).comeA i d = (X.setB i ((X.s i).lose n)).setA i t2 E2 ∧ Came X.window (X.e i) d E2 k ∧ (k = 0 → t2 = X.tx i) := by
  obtain ⟨h1, h2, h3⟩ := h.at' hi
  have hR := h.loseB h1 h2 h3 n
  obtain ⟨hl, _⟩ := h.line i _ _ _ h1 h2 h3
  have he : (X.setB i ((X.s i).lose n)).s i = (X.s i).lose n := by rw [s_setB (by have := h.ls; omega), if_pos rfl]
  exact hR.cameA hi (d := d) (by rw [he]; exact hl.b.flies d (List.mem_of_getElem? hd))
theorem RInv.up_falls (h : RInv X us ds T) {i n : Nat} (hi : i < X.texts.length) {d : ByteArray} (hd : (X.e i).flying[n]? = some d) : ((X.setA i (X.tx i) ((X.e i).lose n)).comeB i d).total + 1 ≤ X.total := by
  obtain ⟨h1, h2, h3⟩ := h.at' hi
  obtain ⟨hl, _⟩ := h.line i _ _ _ h1 h2 h3
  obtain ⟨os, S2, e, c⟩ := h.upped hi hd
  obtain ⟨ds', T', hR⟩ := h.up h1 h2 h3 hd
  obtain ⟨c1, c2, c3⟩ := c.load hl.b
  rw [e] at hR ⊢
  generalize hX' : (X.setA i (X.tx i) ((X.e i).lose n)).tells i S2 os = X' at *
  have hw : X'.window = X.window := by rw [← hX']; rfl
  have hx : X'.texts.length = X.texts.length := by rw [← hX']; simp [IRoom.tells, IRoom.setA]
  have ee : ∀ j, X'.e j = if j = i then (X.e i).lose n else X.e j := fun j => by rw [← hX']; show (X.setA i (X.tx i) ((X.e i).lose n)).e j = _; exact e_setA (by have := h.le; omega) j
  have es : ∀ j, X'.s j = if j = i then S2 else if j < X.sends.length then os.foldl (fun Z o => Z.make o X.window) (X.s j) else X.s j := fun j => by rw [← hX']; exact s_tells (X := X.setA i (X.tx i) ((X.e i).lose n)) (by have := h.ls; show i < X.sends.length; omega) j
  refine sum_falls X.phi X'.phi i os.length (by have := h.n4; omega) ?_ fun j hj => ?_
  · obtain ⟨g1, g2, g3⟩ := hR.at' (i := i) (by omega)
    obtain ⟨hl', _⟩ := hR.line i _ _ _ g1 g2 g3
    have t1 := hl'.b.tk
    have m1 := hl.a.made
    have q1 := load_lose hd X.window
    have ei : X'.e i = (X.e i).lose n := by rw [ee, if_pos rfl]
    have si : X'.s i = S2 := by rw [es, if_pos rfl]
    rw [si] at t1
    have m2 : ((X.e i).lose n).made = (X.e i).made := rfl
    unfold IRoom.phi phi
    rw [hw, ei, si, m2]
    omega
  · unfold IRoom.phi
    rw [hw, ee, if_neg hj, es, if_neg hj]
    split
    · have := makes_load X.window os (X.s j)
      have := (makes_fields X.window os (X.s j)).1
      unfold Go.Proofs.Ytemkgikncmhoaaa.phi
      rw [this]
      omega
    · omega
theorem RInv.down_falls (h : RInv X us ds T) {i n : Nat} (hi : i < X.texts.length) {d : ByteArray} (hd : (X.s i).flying[n]? = some d) : ((X.setB i ((X.s i).lose n)).comeA i d).total + 1 ≤ X.total := by
  obtain ⟨h1, h2, h3⟩ := h.at' hi
  obtain ⟨hl, _⟩ := h.line i _ _ _ h1 h2 h3
  obtain ⟨t2, E2, k, e, c, _⟩ := h.downed hi hd
  obtain ⟨c1, c2, c3⟩ := c.load hl.a
  rw [e]
  generalize hX' : (X.setB i ((X.s i).lose n)).setA i t2 E2 = X' at *
  have hw : X'.window = X.window := by rw [← hX']; rfl
  have ee : ∀ j, X'.e j = if j = i then E2 else X.e j := fun j => by rw [← hX']; exact e_setA (X := X.setB i ((X.s i).lose n)) (by have := h.le; show i < X.ends.length; omega) j
  have es : ∀ j, X'.s j = if j = i then (X.s i).lose n else X.s j := fun j => by rw [← hX']; exact s_setB (by have := h.ls; omega) j
  refine sum_falls X.phi X'.phi i 0 (by have := h.n4; omega) ?_ fun j hj => ?_
  · have q1 := load_lose hd X.window
    have m2 : ((X.s i).lose n).taken = (X.s i).taken := rfl
    unfold IRoom.phi phi
    rw [hw, ee, es, if_pos rfl, if_pos rfl, m2]
    omega
  · unfold IRoom.phi
    rw [hw, ee, es, if_neg hj, if_neg hj]
    omega
end
end Go.Proofs.Ytemkgikncmhoaaa

