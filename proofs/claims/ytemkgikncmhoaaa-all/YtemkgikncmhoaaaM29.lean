import Derived.Test.YtemkgikncmhoaaaM28
namespace Go.Proofs.Ytemkgikncmhoaaa

def numD (d : ByteArray) : Option Nat := match readD d with
 | some (_, some m) => some m.number
 | _ => none
def wt (d : ByteArray) : Nat := if (numD d).isSome then 2 else 1
def wsum (fl : List ByteArray) : Nat := (fl.map wt).sum
theorem wt_le (d : ByteArray) : 1 ≤ wt d ∧ wt d ≤ 2 := by unfold wt; split <;> omega
theorem readD_word' (tk : Nat) : readD (ckd [2, (tk : Int)]) = some ((byteOf tk).toNat, none) := by
 show (if byteOf 2 = 2 then some ((byteOf tk).toNat, none) else none) = _
 rw [if_pos (by decide)]
theorem numD_word (tk : Nat) : numD (ckd [2, (tk : Int)]) = none := by unfold numD; rw [readD_word']
theorem wt_word (tk : Nat) : wt (ckd [2, (tk : Int)]) = 1 := by unfold wt; rw [numD_word]; rfl
theorem wsum_append (a b : List ByteArray) : wsum (a ++ b) = wsum a + wsum b := by simp [wsum]
theorem wsum_cons (a : ByteArray) (b : List ByteArray) : wsum (a :: b) = wt a + wsum b := by simp [wsum]
theorem wsum_le : ∀ (l : List ByteArray), wsum l ≤ 2 * l.length
 | [] => by simp [wsum]
 | a :: l => by rw [wsum_cons, List.length_cons]; have := wsum_le l; have := (wt_le a).2; omega

theorem IEnd.sends_flying : ∀ (ms : List IMsg) (E : IEnd), (E.sends ms).flying = E.flying ++ (ms.map fun m => ckd (m.bytes E.taken)).take (12 - E.flying.length)
 | [], E => by simp [IEnd.sends]
 | m :: ms, E => by
  have e : E.sends (m :: ms) = (E.fly (ckd (m.bytes E.taken))).sends ms := rfl
  rw [e, IEnd.sends_flying ms, (E.fly_fields _).2.2.1]
  unfold IEnd.fly
  by_cases h : E.flying.length < 12
  ·rw [if_pos h]
   obtain ⟨q, hq⟩ : ∃ q, 12 - E.flying.length = q + 1 := ⟨12 - E.flying.length - 1, by omega⟩
   simp only [List.length_append, List.length_cons, List.length_nil, List.map_cons, hq, List.take_succ_cons, List.append_assoc, List.singleton_append]
   rw [show 12 - (E.flying.length + (0 + 1)) = q by omega]
  ·rw [if_neg h, show 12 - E.flying.length = 0 by omega]; simp
theorem lose_split {l : List ByteArray} {n : Nat} {d : ByteArray} (h : l[n]? = some d) : l = l.take n ++ d :: l.drop (n + 1) := by
 obtain ⟨hn, rfl⟩ := List.getElem?_eq_some_iff.1 h
 rw [← List.drop_eq_getElem_cons hn, List.take_append_drop]
theorem wsum_lose {E : IEnd} {n : Nat} {d : ByteArray} (h : E.flying[n]? = some d) : wsum (E.lose n).flying + wt d = wsum E.flying := by
 have : wsum E.flying = wsum (E.flying.take n ++ d :: E.flying.drop (n + 1)) := by rw [← lose_split h]
 rw [this]
 show wsum (E.flying.take n ++ E.flying.drop (n + 1)) + _ = _
 rw [wsum_append, wsum_append, wsum_cons]; omega

theorem nodup_le : ∀ (q : Nat) (l : List Nat) (a b : Nat), b - a = q → l.Nodup → (∀ x ∈ l, a < x ∧ x ≤ b) → l.length ≤ q
 | 0, l, a, b, h, _, hl => by
  cases l with
  | nil => simp
  | cons x l => have := hl x (by simp); omega
 | q + 1, l, a, b, h, hn, hl => by
  have := nodup_le q (l.erase b) a (b - 1) (by omega) (hn.erase b) (fun x hx => by
   have h1 := (hn.mem_erase_iff).1 hx
   have h2 := hl x h1.2
   have h3 := h1.1
   omega)
  by_cases hb : b ∈ l
  ·rw [List.length_erase_of_mem hb] at this; omega
  ·rw [List.erase_of_not_mem hb] at this; omega

def IEnd.sentTo (E : IEnd) (window : Nat) : Nat := E.known + min window E.waiting.length
theorem tailOf_take (own : List GMsg) (n w : Nat) : (tailOf own n).take w = (List.range (min w (own.length - n))).map fun j => imsg own (n + j + 1) := by
 unfold tailOf
 rw [← List.map_take, List.take_range]
section
variable {own oth : List GMsg} {E : IEnd} {window : Nat}
theorem Half.sentTo_moved (h : Half own oth E) {n : Nat} (h1 : E.known < n) (h2 : n ≤ own.length) : (E.moved n).sentTo window = n + min window (own.length - n) := by
 have := (h.moved h1 h2).wait
 unfold IEnd.sentTo
 rw [this, tailOf_length]; rfl
theorem Half.sentTo_eq (h : Half own oth E) : E.sentTo window = E.known + min window (own.length - E.known) := by
 unfold IEnd.sentTo
 rw [h.wait, tailOf_length]
theorem Half.fresh_mem (h : Half own oth E) {n : Nat} (h1 : E.known < n) (h2 : n ≤ own.length) (m : IMsg) : m ∈ E.fresh window n ↔ ∃ q, E.sentTo window < q ∧ n < q ∧ q ≤ (E.moved n).sentTo window ∧ m = imsg own q := by
 rw [h.sentTo_moved h1 h2]
 unfold IEnd.fresh
 have hw : (E.moved n).waiting = tailOf own n := (h.moved h1 h2).wait
 rw [hw, tailOf_take, List.mem_filter, List.mem_map]
 constructor
 ·rintro ⟨⟨j, a, rfl⟩, b⟩
  have a := List.mem_range.1 a
  exact ⟨n + j + 1, of_decide_eq_true b, by omega, by omega, rfl⟩
 ·rintro ⟨q, a, b, c, rfl⟩
  exact ⟨⟨q - n - 1, List.mem_range.2 (by omega), by rw [show n + (q - n - 1) + 1 = q by omega]⟩, decide_eq_true a⟩
theorem Half.fresh_nodup (h : Half own oth E) {n : Nat} (h1 : E.known < n) (h2 : n ≤ own.length) : ((E.fresh window n).map IMsg.number).Nodup := by
 unfold IEnd.fresh
 have hw : (E.moved n).waiting = tailOf own n := (h.moved h1 h2).wait
 rw [hw, tailOf_take]
 refine List.Sublist.nodup (List.Sublist.map _ List.filter_sublist) ?_
 rw [List.map_map]
 refine List.Pairwise.map _ (S := fun a b => a ≠ b) ?_ List.nodup_range
 intro a b hab h
 simp [imsg] at h
 exact hab h
def IEnd.load (E : IEnd) (window : Nat) : Nat := wsum E.flying + 2 * (E.made - E.sentTo window)
theorem Half.learn_cases (h : Half own oth E) (n : Nat) : ((n ≤ E.known ∨ own.length < n) ∧ E.learn window n = E) ∨ (E.known < n ∧ n ≤ own.length ∧ E.learn window n = (E.moved n).sends (E.fresh window n)) := by
 have := h.made
 unfold IEnd.learn
 by_cases g : n ≤ E.known ∨ E.made < n
 ·exact .inl ⟨by rw [← this]; exact g, if_pos g⟩
 ·exact .inr ⟨by omega, by omega, if_neg g⟩
theorem moved_made (E : IEnd) {n : Nat} (h1 : E.known < n) (h2 : n ≤ E.made) : (E.moved n).made = E.made := by
 simp only [IEnd.moved, IEnd.made, List.length_drop] at *; omega
theorem sends_made (E : IEnd) (ms : List IMsg) : (E.sends ms).made = E.made ∧ (E.sends ms).sentTo window = E.sentTo window := by
 obtain ⟨a1, a2, _⟩ := IEnd.sends_fields ms E
 unfold IEnd.made IEnd.sentTo
 rw [a1, a2]
 exact ⟨rfl, rfl⟩
theorem Half.fresh_len (h : Half own oth E) {n : Nat} (h1 : E.known < n) (h2 : n ≤ own.length) : E.sentTo window + (E.fresh window n).length ≤ (E.moved n).sentTo window := by
 have := nodup_le _ ((E.fresh window n).map IMsg.number) (E.sentTo window) ((E.moved n).sentTo window) rfl (h.fresh_nodup h1 h2) (fun x hx => by
  obtain ⟨m, hm, rfl⟩ := List.mem_map.1 hx
  obtain ⟨q, a, b, c, rfl⟩ := (h.fresh_mem h1 h2 m).1 hm
  exact ⟨a, c⟩)
 rw [List.length_map] at this
 have e1 := h.sentTo_moved (window := window) h1 h2
 have e2 := h.sentTo_eq (window := window)
 omega
theorem Half.learn_load (h : Half own oth E) (n : Nat) : (E.learn window n).load window ≤ E.load window := by
 rcases h.learn_cases (window := window) n with ⟨_, e⟩ | ⟨h1, h2, e⟩ <;> rw [e]
 ·exact Nat.le_refl _
 ·have hl := h.fresh_len (window := window) h1 h2
  have hm := moved_made E h1 (by rw [h.made]; exact h2)
  obtain ⟨s1, s2⟩ := sends_made (window := window) (E.moved n) (E.fresh window n)
  have e1 := h.sentTo_moved (window := window) h1 h2
  have hmd := h.made
  unfold IEnd.load
  rw [s1, s2, hm, IEnd.sends_flying, wsum_append]
  have hf : wsum (E.moved n).flying = wsum E.flying := rfl
  refine Nat.le_trans (Nat.add_le_add_right (Nat.add_le_add_left (wsum_le _) _) _) ?_
  simp only [List.length_take, List.length_map]
  omega
end
theorem make_load (Z : IEnd) (o : ROp) (window : Nat) : (Z.make o window).load window ≤ Z.load window + 2 := by
 unfold IEnd.make
 split
 ·rename_i h
  obtain ⟨s1, s2⟩ := sends_made (window := window) (Z.grow o) [Z.next o]
  unfold IEnd.load
  rw [s1, s2, IEnd.sends_flying, wsum_append]
  have e1 : wsum (Z.grow o).flying = wsum Z.flying := rfl
  have e2 : (Z.grow o).made = Z.made + 1 := by simp [IEnd.grow, IEnd.made]; omega
  have e3 : (Z.grow o).sentTo window = Z.made + 1 := by simp [IEnd.grow, IEnd.sentTo, IEnd.made]; omega
  refine Nat.le_trans (Nat.add_le_add_right (Nat.add_le_add_left (wsum_le _) _) _) ?_
  simp only [List.length_take, List.length_map, List.length_cons, List.length_nil]
  omega
 ·rename_i h
  have e2 : (Z.grow o).made = Z.made + 1 := by simp [IEnd.grow, IEnd.made]; omega
  have e3 : (Z.grow o).sentTo window = Z.sentTo window := by simp [IEnd.grow, IEnd.sentTo]; omega
  unfold IEnd.load
  have e1 : (Z.grow o).flying = Z.flying := rfl
  rw [e1, e2, e3]
  omega
theorem makes_load (window : Nat) : ∀ (os : List ROp) (Z : IEnd), (os.foldl (fun Z o => Z.make o window) Z).load window ≤ Z.load window + 2 * os.length
 | [], Z => by simp
 | o :: os, Z => by
  have := makes_load window os (Z.make o window)
  have := make_load Z o window
  simp only [List.foldl_cons, List.length_cons]
  omega
theorem make_fields (Z : IEnd) (o : ROp) (window : Nat) : (Z.make o window).taken = Z.taken ∧ (Z.make o window).known = Z.known ∧ (Z.make o window).kept = Z.kept ∧ (Z.make o window).waiting = Z.waiting ++ [Z.next o] := by
 unfold IEnd.make
 split
 ·obtain ⟨a1, a2, a3, _, _, a6⟩ := IEnd.sends_fields [Z.next o] (Z.grow o)
  exact ⟨a3, a1, a6, a2⟩
 ·exact ⟨rfl, rfl, rfl, rfl⟩
theorem makes_fields (window : Nat) : ∀ (os : List ROp) (Z : IEnd), (os.foldl (fun Z o => Z.make o window) Z).taken = Z.taken ∧ (os.foldl (fun Z o => Z.make o window) Z).known = Z.known ∧ (os.foldl (fun Z o => Z.make o window) Z).kept = Z.kept
 | [], Z => ⟨rfl, rfl, rfl⟩
 | o :: os, Z => by
  obtain ⟨a1, a2, a3⟩ := makes_fields window os (Z.make o window)
  obtain ⟨b1, b2, b3, _⟩ := make_fields Z o window
  simp only [List.foldl_cons]
  exact ⟨a1.trans b1, a2.trans b2, a3.trans b3⟩
theorem word_load (E : IEnd) (window : Nat) : E.word.load window ≤ E.load window + 1 := by
 obtain ⟨a1, a2, _⟩ := E.fly_fields (ckd [2, (E.taken : Int)])
 have : E.word.made = E.made ∧ E.word.sentTo window = E.sentTo window := by
  unfold IEnd.made IEnd.sentTo IEnd.word; rw [a1, a2]; exact ⟨rfl, rfl⟩
 unfold IEnd.load
 rw [this.1, this.2]
 have hw : wsum E.word.flying ≤ wsum E.flying + 1 := by
  unfold IEnd.word IEnd.fly
  split
  ·rw [wsum_append, wsum_cons, wt_word]; simp [wsum]
  ·omega
 omega
theorem Took.load {E E2 : IEnd} {k : Nat} (h : Took E E2 k) (window : Nat) : E2.load window = E.load window ∧ E2.made = E.made ∧ E2.sentTo window = E.sentTo window := by
 unfold IEnd.load IEnd.made IEnd.sentTo
 rw [h.known, h.waiting, h.flying]
 exact ⟨rfl, rfl, rfl⟩
theorem keep_load (E : IEnd) (window : Nat) (m : IMsg) : (E.keep window m).load window = E.load window ∧ (E.keep window m).made = E.made ∧ (E.keep window m).sentTo window = E.sentTo window := by
 obtain ⟨_, a2, a3, a4⟩ := E.keep_fields window m
 unfold IEnd.load IEnd.made IEnd.sentTo
 rw [a2, a3, a4]
 exact ⟨rfl, rfl, rfl⟩
section
variable {own oth : List GMsg} {E E' : IEnd} {window k : Nat} {d : ByteArray}
theorem Half.learn_made (h : Half own oth E) (n : Nat) : (E.learn window n).made = E.made := by
 rw [(h.learnt n).made, h.made]
theorem word_fields (E : IEnd) : E.word.known = E.known ∧ E.word.waiting = E.waiting ∧ E.word.taken = E.taken ∧ E.word.kept = E.kept ∧ E.word.made = E.made ∧ ∀ window, E.word.sentTo window = E.sentTo window := by
 obtain ⟨a1, a2, a3, _, _, a6⟩ := E.fly_fields (ckd [2, (E.taken : Int)])
 exact ⟨a1, a2, a3, a6, by unfold IEnd.made IEnd.word; rw [a1, a2], fun window => by unfold IEnd.sentTo IEnd.word; rw [a1, a2]⟩
theorem Came.load (c : Came window E d E' k) (h : Half own oth E) : E'.load window + 1 ≤ E.load window + wt d ∧ E'.taken = E.taken + k ∧ E'.made = E.made := by
 have hw := wt_le d
 cases c with
 | none hd => exact ⟨by omega, rfl, rfl⟩
 | word tk hd => exact ⟨by have := h.learn_load (window := window) tk; omega, (Half.learn_fields E window tk).1, h.learn_made tk⟩
 | msg tk m E2 k hd ht hs =>
  obtain ⟨t1, t2, _⟩ := ht.load window
  obtain ⟨k1, k2, _⟩ := keep_load (E.learn window tk) window m
  have hl := h.learn_load (window := window) tk
  have hwd := word_load E2 window
  obtain ⟨_, _, w3, _, w5, _⟩ := word_fields E2
  have : wt d = 2 := by unfold wt numD; rw [hd]; rfl
  refine ⟨by omega, ?_, by rw [w5, t2, k2, h.learn_made]⟩
  rw [w3, ht.taken, ((E.learn window tk).keep_fields window m).1, (Half.learn_fields E window tk).1]
end

/-! ### All lines -/
def phi (window : Nat) (E S : IEnd) : Nat := E.load window + S.load window + 6 * (E.made - S.taken)
def IRoom.phi (X : IRoom) (i : Nat) : Nat := Go.Proofs.Ytemkgikncmhoaaa.phi X.window (X.e i) (X.s i)
def IRoom.total (X : IRoom) : Nat := X.phi 0 + X.phi 1 + X.phi 2 + X.phi 3
section
variable {X : IRoom} {us ds : Nat → List GMsg} {T : Nat → Nat → Nat → List UInt8}
theorem load_lose {E : IEnd} {n : Nat} {d : ByteArray} (h : E.flying[n]? = some d) (window : Nat) : (E.lose n).load window + wt d = E.load window := by
 have := wsum_lose h
 have e : (E.lose n).made - (E.lose n).sentTo window = E.made - E.sentTo window := rfl
 unfold IEnd.load
 omega
theorem sum_falls (f g : Nat → Nat) (i k : Nat) (hi : i < 4) (h1 : g i + 1 + 6 * k ≤ f i) (h2 : ∀ j, j ≠ i → g j ≤ f j + 2 * k) : g 0 + g 1 + g 2 + g 3 + 1 ≤ f 0 + f 1 + f 2 + f 3 := by
 have a0 := h2 0
 have a1 := h2 1
 have a2 := h2 2
 have a3 := h2 3
 match i, hi with
 | 0, _ | 1, _ | 2, _ | 3, _ => omega
/-- What a delivery to the server comes to. -/
theorem RInv.upped (h : RInv X us ds T) {i n : Nat} (hi : i < X.texts.length) {d : ByteArray} (hd : (X.e i).flying[n]? = some d) : ∃ os S2, (X.setA i (X.tx i) ((X.e i).lose n)).comeB i d = (X.setA i (X.tx i) ((X.e i).lose n)).tells i S2 os ∧ Came X.window (X.s i) d S2 os.length := by
 obtain ⟨h1, h2, h3⟩ := h.at' hi
 have hR := h.loseA h1 h2 h3 n
 obtain ⟨hl, _⟩ := h.line i _ _ _ h1 h2 h3
 have hi' : i < (X.setA i (X.tx i) ((X.e i).lose n)).texts.length := by simpa [IRoom.setA] using hi
 have he : (X.setA i (X.tx i) ((X.e i).lose n)).e i = (X.e i).lose n := by rw [e_setA (by have := h.le; omega), if_pos rfl]
 have := hR.cameB hi' (d := d) (by rw [he]; exact hl.a.flies d (List.mem_of_getElem? hd))
 exact this
theorem RInv.downed (h : RInv X us ds T) {i n : Nat} (hi : i < X.texts.length) {d : ByteArray} (hd : (X.s i).flying[n]? = some d) : ∃ t2 E2 k, (X.setB i ((X.s i).lose n)).comeA i d = (X.setB i ((X.s i).lose n)).setA i t2 E2 ∧ Came X.window (X.e i) d E2 k ∧ (k = 0 → t2 = X.tx i) := by
 obtain ⟨h1, h2, h3⟩ := h.at' hi
 have hR := h.loseB h1 h2 h3 n
 obtain ⟨hl, _⟩ := h.line i _ _ _ h1 h2 h3
 have he : (X.setB i ((X.s i).lose n)).s i = (X.s i).lose n := by rw [s_setB (by have := h.ls; omega), if_pos rfl]
 exact hR.cameA hi (d := d) (by rw [he]; exact hl.b.flies d (List.mem_of_getElem? hd))
theorem RInv.up_falls (h : RInv X us ds T) {i n : Nat} (hi : i < X.texts.length) {d : ByteArray} (hd : (X.e i).flying[n]? = some d) : ((X.setA i (X.tx i) ((X.e i).lose n)).comeB i d).total + 1 ≤ X.total := by
 obtain ⟨h1, h2, h3⟩ := h.at' hi
 obtain ⟨hl, _⟩ := h.line i _ _ _ h1 h2 h3
 obtain ⟨os, S2, e, c⟩ := h.upped hi hd
 obtain ⟨ds', T', hR⟩ := h.up h1 h2 h3 hd
 obtain ⟨c1, c2, c3⟩ := c.load hl.b
 rw [e] at hR ⊢
 generalize hX' : (X.setA i (X.tx i) ((X.e i).lose n)).tells i S2 os = X' at *
 have hw : X'.window = X.window := by rw [← hX']; rfl
 have hx : X'.texts.length = X.texts.length := by rw [← hX']; simp [IRoom.tells, IRoom.setA]
 have ee : ∀ j, X'.e j = if j = i then (X.e i).lose n else X.e j := fun j => by rw [← hX']; show (X.setA i (X.tx i) ((X.e i).lose n)).e j = _; exact e_setA (by have := h.le; omega) j
 have es : ∀ j, X'.s j = if j = i then S2 else if j < X.sends.length then os.foldl (fun Z o => Z.make o X.window) (X.s j) else X.s j := fun j => by rw [← hX']; exact s_tells (X := X.setA i (X.tx i) ((X.e i).lose n)) (by have := h.ls; show i < X.sends.length; omega) j
 refine sum_falls X.phi X'.phi i os.length (by have := h.n4; omega) ?_ fun j hj => ?_
 ·obtain ⟨g1, g2, g3⟩ := hR.at' (i := i) (by omega)
  obtain ⟨hl', _⟩ := hR.line i _ _ _ g1 g2 g3
  have t1 := hl'.b.tk
  have m1 := hl.a.made
  have q1 := load_lose hd X.window
  have ei : X'.e i = (X.e i).lose n := by rw [ee, if_pos rfl]
  have si : X'.s i = S2 := by rw [es, if_pos rfl]
  rw [si] at t1
  have m2 : ((X.e i).lose n).made = (X.e i).made := rfl
  unfold IRoom.phi phi
  rw [hw, ei, si, m2]
  omega
 ·unfold IRoom.phi
  rw [hw, ee, if_neg hj, es, if_neg hj]
  split
  ·have := makes_load X.window os (X.s j)
   have := (makes_fields X.window os (X.s j)).1
   unfold Go.Proofs.Ytemkgikncmhoaaa.phi
   rw [this]
   omega
  ·omega
theorem RInv.down_falls (h : RInv X us ds T) {i n : Nat} (hi : i < X.texts.length) {d : ByteArray} (hd : (X.s i).flying[n]? = some d) : ((X.setB i ((X.s i).lose n)).comeA i d).total + 1 ≤ X.total := by
 obtain ⟨h1, h2, h3⟩ := h.at' hi
 obtain ⟨hl, _⟩ := h.line i _ _ _ h1 h2 h3
 obtain ⟨t2, E2, k, e, c, _⟩ := h.downed hi hd
 obtain ⟨c1, c2, c3⟩ := c.load hl.a
 rw [e]
 generalize hX' : (X.setB i ((X.s i).lose n)).setA i t2 E2 = X' at *
 have hw : X'.window = X.window := by rw [← hX']; rfl
 have ee : ∀ j, X'.e j = if j = i then E2 else X.e j := fun j => by rw [← hX']; exact e_setA (X := X.setB i ((X.s i).lose n)) (by have := h.le; show i < X.ends.length; omega) j
 have es : ∀ j, X'.s j = if j = i then (X.s i).lose n else X.s j := fun j => by rw [← hX']; exact s_setB (by have := h.ls; omega) j
 refine sum_falls X.phi X'.phi i 0 (by have := h.n4; omega) ?_ fun j hj => ?_
 ·have q1 := load_lose hd X.window
  have m2 : ((X.s i).lose n).taken = (X.s i).taken := rfl
  unfold IRoom.phi phi
  rw [hw, ee, es, if_pos rfl, if_pos rfl, m2]
  omega
 ·unfold IRoom.phi
  rw [hw, ee, es, if_neg hj, if_neg hj]
  omega
end
end Go.Proofs.Ytemkgikncmhoaaa

namespace Go.Proofs.Ytemkgikncmhoaaa

def nums (fl : List ByteArray) : List Nat := fl.filterMap numD
theorem mem_nums {fl : List ByteArray} {n : Nat} : n ∈ nums fl ↔ ∃ d ∈ fl, numD d = some n := List.mem_filterMap
theorem nums_append (a b : List ByteArray) : nums (a ++ b) = nums a ++ nums b := List.filterMap_append
/-- What an end's messages say when they are sent. -/
def Reads (E : IEnd) : Prop := ∀ m ∈ E.waiting, readD (ckd (m.bytes E.taken)) = some (E.taken, some m)
theorem numD_msg {d : ByteArray} {tk : Nat} {m : IMsg} (h : readD d = some (tk, some m)) : numD d = some m.number := by unfold numD; rw [h]
theorem nums_sent {E : IEnd} (tk : Nat) : ∀ (ms : List IMsg), (∀ m ∈ ms, readD (ckd (m.bytes tk)) = some (tk, some m)) → nums (ms.map fun m => ckd (m.bytes tk)) = ms.map IMsg.number
 | [], _ => rfl
 | m :: ms, h => by
  have h1 := numD_msg (h m (by simp))
  have h2 := nums_sent (E := E) tk ms (fun q hq => h q (by simp [hq]))
  unfold nums at *
  rw [List.map_cons, List.filterMap_cons, h1, List.map_cons]
  exact congrArg _ h2
theorem lose_sub (E : IEnd) (n : Nat) : (E.lose n).flying.Sublist E.flying := by
 have : (E.flying.take n ++ E.flying.drop (n + 1)).Sublist (E.flying.take n ++ E.flying.drop n) :=
  (List.Sublist.refl _).append (by rw [show E.flying.drop (n + 1) = (E.flying.drop n).drop 1 by rw [List.drop_drop]]; exact List.drop_sublist _ _)
 rwa [List.take_append_drop] at this
theorem nums_lose_sub (E : IEnd) (n : Nat) : (nums (E.lose n).flying).Sublist (nums E.flying) := (lose_sub E n).filterMap _
theorem nextKept_iff (E : IEnd) : E.nextKept = none ↔ ∀ m ∈ E.kept, m.number ≠ E.taken + 1 := by
 constructor
 ·intro h m hm hn
  unfold IEnd.nextKept at h
  rw [List.find?_eq_none] at h
  have := h m hm
  simp [hn] at this
 ·exact IEnd.nextKept_none
theorem nextKept_congr {E E' : IEnd} (h1 : E'.kept = E.kept) (h2 : E'.taken = E.taken) : E'.nextKept = E.nextKept := by
 unfold IEnd.nextKept; rw [h1, h2]
theorem keep_sub {E : IEnd} {window : Nat} {m q : IMsg} (h : q ∈ (E.keep window m).kept) : q ∈ E.kept ∨ q = m := by
 unfold IEnd.keep at h
 split at h
 ·exact .inl h
 ·simpa using h
/-- What is so of a line at any time, besides its rows. -/
structure Sane (window : Nat) (E S : IEnd) : Prop where
 fly : ∀ n ∈ nums S.flying, n ≤ S.sentTo window
 kept : ∀ m ∈ E.kept, m.number ≤ S.sentTo window
 tak : E.taken ≤ S.sentTo window
 nA : E.nextKept = none
 nB : S.nextKept = none
/-- The two ends, beside their rows. -/
structure Pair (us ds : List GMsg) (window : Nat) (E S : IEnd) : Prop where
 a : Half us ds E
 b : Half ds us S
 ka : E.known ≤ S.taken
 kb : S.known ≤ E.taken
 wa : E.waiting.length ≤ window
 w1 : 1 ≤ window
 w4 : window ≤ 4
 ra : Reads E
 rb : Reads S
theorem RInv.pair {X : IRoom} {us ds : Nat → List GMsg} {T : Nat → Nat → Nat → List UInt8} (h : RInv X us ds T) {i : Nat} (hi : i < X.texts.length) : Pair (us i) (ds i) X.window (X.e i) (X.s i) := by
 obtain ⟨h1, h2, h3⟩ := h.at' hi
 obtain ⟨hl, hw, _⟩ := h.line i _ _ _ h1 h2 h3
 exact ⟨hl.a, hl.b, hl.ka, hl.kb, hw, h.w1, h.w4, fun m hm => readD_msg _ _ ((h.waitA h1 h2 h3).1 m hm), fun m hm => readD_msg _ _ ((h.waitB h1 h2 h3).1 m hm)⟩
section
variable {own oth us ds : List GMsg} {E S E' S' : IEnd} {window k n tk : Nat} {d : ByteArray}
theorem Half.learn_fl (h : Half own oth S) (hr : Reads S) (n : Nat) : ∃ fr : List ByteArray, (S.learn window n).flying = S.flying ++ fr.take (12 - S.flying.length) ∧ (∀ q, q ∈ nums fr ↔ S.sentTo window < q ∧ n < q ∧ q ≤ (S.learn window n).sentTo window) ∧ (nums fr).Nodup ∧ (nums fr).length = fr.length ∧ S.sentTo window ≤ (S.learn window n).sentTo window := by
 rcases h.learn_cases (window := window) n with ⟨_, e⟩ | ⟨h1, h2, e⟩ <;> rw [e]
 ·refine ⟨[], by simp, fun q => ⟨fun hq => by simp [nums] at hq, fun hq => by omega⟩, by simp [nums], rfl, Nat.le_refl _⟩
 ·obtain ⟨s1, s2⟩ := sends_made (window := window) (S.moved n) (S.fresh window n)
  have hq : ∀ m ∈ S.fresh window n, readD (ckd (m.bytes S.taken)) = some (S.taken, some m) := fun m hm => by
   obtain ⟨q, a, b, c, rfl⟩ := (h.fresh_mem h1 h2 m).1 hm
   refine hr _ ?_
   rw [h.wait]
   have e1 := h.sentTo_moved (window := window) h1 h2
   exact List.mem_map.2 ⟨q - S.known - 1, List.mem_range.2 (by omega), by rw [show S.known + (q - S.known - 1) + 1 = q by omega]⟩
  have hn := nums_sent (E := S) S.taken (S.fresh window n) hq
  refine ⟨(S.fresh window n).map fun m => ckd (m.bytes S.taken), by rw [IEnd.sends_flying]; rfl, fun q => ?_, ?_, ?_, ?_⟩
  ·rw [hn, s2, List.mem_map]
   constructor
   ·rintro ⟨m, hm, rfl⟩
    obtain ⟨q, a, b, c, rfl⟩ := (h.fresh_mem h1 h2 m).1 hm
    exact ⟨a, b, c⟩
   ·rintro ⟨a, b, c⟩
    exact ⟨imsg own q, (h.fresh_mem h1 h2 _).2 ⟨q, a, b, c, rfl⟩, rfl⟩
  ·rw [hn]; exact h.fresh_nodup h1 h2
  ·rw [hn]; simp
  ·rw [s2]; have := h.fresh_len (window := window) h1 h2; omega
theorem Sane.setE (h : Sane window E S) (h1 : E'.taken = E.taken) (h2 : E'.kept = E.kept) : Sane window E' S :=
 ⟨h.fly, by rw [h2]; exact h.kept, by rw [h1]; exact h.tak, (nextKept_congr h2 h1).trans h.nA, h.nB⟩
theorem Sane.setS (h : Sane window E S) (hf : ∀ n ∈ nums S'.flying, n ≤ S'.sentTo window) (h0 : S.sentTo window ≤ S'.sentTo window) (h1 : S'.taken = S.taken) (h2 : S'.kept = S.kept) : Sane window E S' :=
 ⟨hf, fun m hm => Nat.le_trans (h.kept m hm) h0, Nat.le_trans h.tak h0, h.nA, (nextKept_congr h2 h1).trans h.nB⟩
theorem nums_take {fl : List ByteArray} {q j : Nat} (h : q ∈ nums (fl.take j)) : q ∈ nums fl := ((List.take_sublist j fl).filterMap numD).subset h
theorem word_nums (E : IEnd) : nums E.word.flying = nums E.flying := by
 unfold IEnd.word IEnd.fly
 split
 ·rw [nums_append]; simp [nums, numD_word]
 ·rfl
theorem Sane.up (h : Sane window E S) (hb : Half ds us S) (hr : Reads S) (c : Came window S d S' k) : Sane window E S' := by
 cases c with
 | none hd => exact h
 | word tk hd =>
  obtain ⟨fr, f1, f2, _, _, f5⟩ := hb.learn_fl (window := window) hr tk
  obtain ⟨a1, _, _, a4, _⟩ := Half.learn_fields S window tk
  refine h.setS (fun n hn => ?_) f5 a1 a4
  rw [f1, nums_append, List.mem_append] at hn
  rcases hn with hn | hn
  ·exact Nat.le_trans (h.fly n hn) f5
  ·exact ((f2 n).1 (nums_take hn)).2.2
 | msg tk m S2 k hd ht hs =>
  obtain ⟨fr, f1, f2, _, _, f5⟩ := hb.learn_fl (window := window) hr tk
  obtain ⟨_, _, t3⟩ := ht.load window
  obtain ⟨_, _, k3⟩ := keep_load (S.learn window tk) window m
  obtain ⟨_, _, w3, w4, _, w6⟩ := word_fields S2
  have e : S2.word.sentTo window = (S.learn window tk).sentTo window := by rw [w6, t3, k3]
  refine ⟨fun n hn => ?_, fun m hm => ?_, ?_, h.nA, ?_⟩
  ·rw [word_nums, ht.flying, ((S.learn window tk).keep_fields window m).2.2.2, f1, nums_append, List.mem_append] at hn
   rw [e]
   rcases hn with hn | hn
   ·exact Nat.le_trans (h.fly n hn) f5
   ·exact ((f2 n).1 (nums_take hn)).2.2
  ·rw [e]; exact Nat.le_trans (h.kept m hm) f5
  ·rw [e]; exact Nat.le_trans h.tak f5
  ·exact (nextKept_congr w4 w3).trans hs
theorem Sane.down (h : Sane window E S) (hd : d ∈ S.flying) (c : Came window E d E' k) : Sane window E' S := by
 cases c with
 | none hr => exact h
 | word tk hr =>
  obtain ⟨a1, _, _, a4, _⟩ := Half.learn_fields E window tk
  exact h.setE a1 a4
 | msg tk m E2 k hr ht hs =>
  obtain ⟨a1, _, _, a4, _⟩ := Half.learn_fields E window tk
  obtain ⟨_, _, w3, w4, _, _⟩ := word_fields E2
  obtain ⟨k1, _⟩ := (E.learn window tk).keep_fields window m
  have hm : m.number ≤ S.sentTo window := h.fly _ (mem_nums.2 ⟨d, hd, numD_msg hr⟩)
  have hk : ∀ q ∈ ((E.learn window tk).keep window m).kept, q.number ≤ S.sentTo window := fun q hq => by
   rcases keep_sub hq with hq | rfl
   ·exact h.kept q (by rwa [a4] at hq)
   ·exact hm
  refine ⟨h.fly, fun q hq => ?_, ?_, (nextKept_congr w4 w3).trans hs, h.nB⟩
  ·rw [w4] at hq
   exact hk q ((ht.kept q).1 hq).1
  ·rw [w3, ht.taken]
   by_cases hz : k = 0
   ·rw [hz, k1, a1]; exact h.tak
   ·obtain ⟨q, a, b⟩ := List.mem_map.1 (ht.were (((E.learn window tk).keep window m).taken + k) (by omega) (Nat.le_refl _))
    rw [← b]
    exact hk q a
theorem make_sentTo (S : IEnd) (o : ROp) (window : Nat) : (S.make o window).sentTo window = if S.waiting.length + 1 ≤ window then S.sentTo window + 1 else S.sentTo window := by
 obtain ⟨_, a2, _, a4⟩ := make_fields S o window
 unfold IEnd.sentTo
 rw [a2, a4, List.length_append, List.length_cons, List.length_nil]
 split <;> omega
theorem make_flying (S : IEnd) (o : ROp) (window : Nat) : (S.make o window).flying = if S.waiting.length + 1 ≤ window then S.flying ++ [ckd ((S.next o).bytes S.taken)].take (12 - S.flying.length) else S.flying := by
 unfold IEnd.make
 split
 ·rw [IEnd.sends_flying]; rfl
 ·rfl
theorem Sane.make (h : Sane window E S) (o : ROp) (hr : readD (ckd ((S.next o).bytes S.taken)) = some (S.taken, some (S.next o))) : Sane window E (S.make o window) := by
 obtain ⟨a1, _, a3, _⟩ := make_fields S o window
 have e := make_sentTo S o window
 refine h.setS (fun n hn => ?_) (by rw [e]; split <;> omega) a1 a3
 rw [make_flying] at hn
 rw [e]
 by_cases hw : S.waiting.length + 1 ≤ window
 ·rw [if_pos hw] at hn ⊢
  rw [nums_append, List.mem_append] at hn
  rcases hn with hn | hn
  ·have := h.fly n hn; omega
  ·have hn := nums_take hn
   simp only [nums, List.filterMap_cons, numD_msg hr, List.filterMap_nil, List.mem_singleton] at hn
   subst hn
   show S.made + 1 ≤ _
   unfold IEnd.made IEnd.sentTo
   omega
 ·rw [if_neg hw] at hn ⊢
  exact h.fly n hn
end
end Go.Proofs.Ytemkgikncmhoaaa

namespace Go.Proofs.Ytemkgikncmhoaaa

section
variable {us ds us' ds' : List GMsg} {E S E' S' : IEnd} {L q window k n tk : Nat} {d : ByteArray}
end
end Go.Proofs.Ytemkgikncmhoaaa

namespace Go.Proofs.Ytemkgikncmhoaaa

section
variable {us ds : List GMsg} {E S E' S' : IEnd} {window k n : Nat} {d : ByteArray}
theorem tick_sentTo (E : IEnd) (window : Nat) : (E.tick window).sentTo window = E.sentTo window ∧ (E.tick window).made = E.made := by
 obtain ⟨a1, _, a3, _⟩ := E.tick_fields window
 unfold IEnd.sentTo IEnd.made; rw [a1, a3]; exact ⟨rfl, rfl⟩
theorem tick_nums (hr : Reads S) {v : Nat} (h : v ∈ nums (S.tick window).flying) : v ∈ nums S.flying ∨ v ∈ (S.waiting.take window).map IMsg.number := by
 unfold IEnd.tick at h
 split at h
 ·rw [IEnd.sends_flying, nums_append, List.mem_append] at h
  rcases h with h | h
  ·exact .inl h
  ·have h := nums_take h
   rw [nums_sent (E := S) S.taken _ (fun m hm => hr m (List.mem_of_mem_take hm))] at h
   exact .inr h
 ·split at h
  ·have := word_nums S
   unfold IEnd.word at this
   rw [this] at h
   exact .inl h
  ·exact .inl h
theorem take_sent (hb : Half ds us S) (v : Nat) : v ∈ (S.waiting.take window).map IMsg.number ↔ S.known < v ∧ v ≤ S.sentTo window := by
 rw [hb.sentTo_eq, hb.wait, tailOf_take, List.map_map, List.mem_map]
 constructor
 ·rintro ⟨j, a, rfl⟩
  have := List.mem_range.1 a
  simp only [Function.comp, imsg]
  omega
 ·rintro ⟨a, b⟩
  exact ⟨v - S.known - 1, List.mem_range.2 (by omega), by simp only [Function.comp, imsg]; omega⟩
theorem Sane.tickB (h : Sane window E S) (hb : Half ds us S) (hr : Reads S) : Sane window E (S.tick window) := by
 obtain ⟨_, a2, _, a4⟩ := S.tick_fields window
 obtain ⟨e, _⟩ := tick_sentTo S window
 refine h.setS (fun v hv => ?_) (by omega) a2 a4
 rw [e]
 rcases tick_nums hr hv with g | g
 ·exact h.fly v g
 ·exact ((take_sent hb v).1 g).2
end

/-! ### Rooms -/
def IRoom.Sane (X : IRoom) : Prop := ∀ i, i < X.texts.length → Go.Proofs.Ytemkgikncmhoaaa.Sane X.window (X.e i) (X.s i)
structure Fit (X : IRoom) : Prop where
 rows : ∃ us ds T, RInv X us ds T
 sane : X.Sane
def IRoom.up (X : IRoom) (i n : Nat) : IRoom := match (X.e i).flying[n]? with
 | some d => (X.setA i (X.tx i) ((X.e i).lose n)).comeB i d
 | none => X
def IRoom.down (X : IRoom) (i n : Nat) : IRoom := match (X.s i).flying[n]? with
 | some d => (X.setB i ((X.s i).lose n)).comeA i d
 | none => X
/-- What a delivery to the server comes to, line by line. -/
structure Upped (X X' : IRoom) (i n : Nat) (d : ByteArray) (os : List ROp) : Prop where
 window : X'.window = X.window
 texts : X'.texts = X.texts
 server : X'.server = os.foldl (fun s o => o.does s) X.server
 e : ∀ j, X'.e j = if j = i then (X.e i).lose n else X.e j
 s : ∀ j, j ≠ i → X'.s j = if j < X.texts.length then os.foldl (fun Z o => Z.make o X.window) (X.s j) else X.s j
 came : Came X.window (X.s i) d (X'.s i) os.length
structure Downed (X X' : IRoom) (i n : Nat) (d : ByteArray) (k : Nat) : Prop where
 window : X'.window = X.window
 len : X'.texts.length = X.texts.length
 server : X'.server = X.server
 tx : ∀ j, j ≠ i ∨ k = 0 → X'.tx j = X.tx j
 e : ∀ j, j ≠ i → X'.e j = X.e j
 s : ∀ j, X'.s j = if j = i then (X.s i).lose n else X.s j
 came : Came X.window (X.e i) d (X'.e i) k
section
variable {X Y : IRoom} {us ds : Nat → List GMsg} {T : Nat → Nat → Nat → List UInt8} {i n : Nat} {d : ByteArray}
theorem RInv.upped' (h : RInv X us ds T) (hi : i < X.texts.length) (hd : (X.e i).flying[n]? = some d) : ∃ os, Upped X (X.up i n) i n d os ∧ (∃ ds' T', RInv (X.up i n) us ds' T') ∧ (X.up i n).total + 1 ≤ X.total := by
 obtain ⟨h1, h2, h3⟩ := h.at' hi
 obtain ⟨os, S2, e, c⟩ := h.upped hi hd
 have eu : X.up i n = (X.setA i (X.tx i) ((X.e i).lose n)).comeB i d := by unfold IRoom.up; rw [hd]
 have hf := h.up_falls hi hd
 have hr := h.up h1 h2 h3 hd
 have hs : i < (X.setA i (X.tx i) ((X.e i).lose n)).sends.length := by have := h.ls; show i < X.sends.length; omega
 refine ⟨os, ?_, by rw [eu]; exact hr, by rw [eu]; exact hf⟩
 rw [eu, e]
 refine ⟨rfl, list_set_self h1, rfl, fun j => ?_, fun j hj => ?_, ?_⟩
 ·show (X.setA i (X.tx i) ((X.e i).lose n)).e j = _
  exact e_setA (by have := h.le; omega) j
 ·rw [s_tells hs, if_neg hj]
  show (if j < X.sends.length then _ else _) = _
  rw [h.ls]; rfl
 ·rw [s_tells hs, if_pos rfl]; exact c
theorem RInv.downed' (h : RInv X us ds T) (hi : i < X.texts.length) (hd : (X.s i).flying[n]? = some d) : ∃ k, Downed X (X.down i n) i n d k ∧ RInv (X.down i n) us ds T ∧ (X.down i n).total + 1 ≤ X.total := by
 obtain ⟨h1, h2, h3⟩ := h.at' hi
 obtain ⟨t2, E2, k, e, c, hk⟩ := h.downed hi hd
 have eu : X.down i n = (X.setB i ((X.s i).lose n)).comeA i d := by unfold IRoom.down; rw [hd]
 have hf := h.down_falls hi hd
 have hr := h.down h1 h2 h3 hd
 have he : i < (X.setB i ((X.s i).lose n)).ends.length := by have := h.le; show i < X.ends.length; omega
 refine ⟨k, ?_, by rw [eu]; exact hr, by rw [eu]; exact hf⟩
 rw [eu, e]
 refine ⟨rfl, by simp [IRoom.setA, IRoom.setB], rfl, fun j hj => ?_, fun j hj => ?_, fun j => ?_, ?_⟩
 ·rw [tx_setA (X := X.setB i ((X.s i).lose n)) hi]
  split
  ·rename_i hji
   rcases hj with hj | hj
   ·exact absurd hji hj
   ·rw [hji]; exact hk hj
  ·rfl
 ·rw [e_setA he, if_neg hj]; rfl
 ·show (X.setB i ((X.s i).lose n)).s j = _
  exact s_setB (by have := h.ls; omega) j
 ·rw [e_setA he, if_pos rfl]; exact c
theorem up_none (h : (X.e i).flying[n]? = none) : X.up i n = X := by unfold IRoom.up; rw [h]
theorem down_none (h : (X.s i).flying[n]? = none) : X.down i n = X := by unfold IRoom.down; rw [h]
/-- The ends' fitness, behind a delivery to the server. -/
theorem makes_mem (window : Nat) : ∀ (os : List ROp) (Z : IEnd) (m : IMsg), m ∈ Z.waiting → m ∈ (os.foldl (fun Z o => Z.make o window) Z).waiting
 | [], _, _, h => h
 | o :: os, Z, m, h => makes_mem window os _ m (by rw [(make_fields Z o window).2.2.2]; simp [h])
theorem Sane.makes {window : Nat} {E : IEnd} : ∀ (os : List ROp) {S : IEnd}, Go.Proofs.Ytemkgikncmhoaaa.Sane window E S → (∀ m ∈ (os.foldl (fun Z o => Z.make o window) S).waiting, readD (ckd (m.bytes S.taken)) = some (S.taken, some m)) → Go.Proofs.Ytemkgikncmhoaaa.Sane window E (os.foldl (fun Z o => Z.make o window) S)
 | [], _, f, _ => f
 | o :: os, S, f, hr => by
  obtain ⟨a1, a2, _, a4⟩ := make_fields S o window
  simp only [List.foldl_cons] at hr ⊢
  exact Sane.makes os (f.make o (hr _ (makes_mem window os _ _ (by rw [a4]; simp)))) (by rw [a1]; exact hr)
theorem Fit.up (h : Fit X) (hi : i < X.texts.length) (n : Nat) : Fit (X.up i n) := by
 cases hd : (X.e i).flying[n]? with
 | none => rw [up_none hd]; exact h
 | some d =>
  obtain ⟨us, ds, T, hr⟩ := h.rows
  obtain ⟨os, u, ⟨ds', T', hr'⟩, _⟩ := hr.upped' hi hd
  refine ⟨⟨us, ds', T', hr'⟩, fun j hj => ?_⟩
  rw [u.texts] at hj
  have p := hr.pair hj
  have p' := hr'.pair (i := j) (by rw [u.texts]; exact hj)
  rw [u.window, u.e]
  by_cases hji : j = i
  ·subst hji
   rw [if_pos rfl]
   exact ((h.sane j hj).up p.b p.rb u.came).setE rfl rfl
  ·rw [if_neg hji, u.s j hji, if_pos hj]
   refine Sane.makes os (h.sane j hj) ?_
   have := p'.rb
   unfold Reads at this
   rw [u.s j hji, if_pos hj, (makes_fields X.window os (X.s j)).1] at this
   exact this
theorem Fit.down (h : Fit X) (hi : i < X.texts.length) (n : Nat) : Fit (X.down i n) := by
 cases hd : (X.s i).flying[n]? with
 | none => rw [down_none hd]; exact h
 | some d =>
  obtain ⟨us, ds, T, hr⟩ := h.rows
  obtain ⟨k, u, hr', _⟩ := hr.downed' hi hd
  refine ⟨⟨us, ds, T, hr'⟩, fun j hj => ?_⟩
  rw [u.len] at hj
  rw [u.window, u.s]
  by_cases hji : j = i
  ·subst hji
   rw [if_pos rfl]
   have hs := (h.sane j hj).down (List.mem_of_getElem? hd) u.came
   exact hs.setS (fun v hv => hs.fly v ((nums_lose_sub _ n).subset hv)) (Nat.le_refl _) rfl rfl
  ·rw [if_neg hji, u.e j hji]
   exact h.sane j hj
theorem up_len (h : Fit X) (hi : i < X.texts.length) (n : Nat) : (X.up i n).texts = X.texts ∧ (X.up i n).window = X.window := by
 cases hd : (X.e i).flying[n]? with
 | none => rw [up_none hd]; exact ⟨rfl, rfl⟩
 | some d =>
  obtain ⟨us, ds, T, hr⟩ := h.rows
  obtain ⟨os, u, _⟩ := hr.upped' hi hd
  exact ⟨u.texts, u.window⟩
theorem down_len (h : Fit X) (hi : i < X.texts.length) (n : Nat) : (X.down i n).texts.length = X.texts.length ∧ (X.down i n).window = X.window := by
 cases hd : (X.s i).flying[n]? with
 | none => rw [down_none hd]; exact ⟨rfl, rfl⟩
 | some d =>
  obtain ⟨us, ds, T, hr⟩ := h.rows
  obtain ⟨os, u, _⟩ := hr.downed' hi hd
  exact ⟨u.len, u.window⟩
/-- The clients ahead of c have ticked, both ends. -/
def IRoom.tickA (X : IRoom) (i : Nat) : IRoom := X.setA i (X.tx i) ((X.e i).tick X.window)
def IRoom.tickB (X : IRoom) (i : Nat) : IRoom := X.setB i ((X.s i).tick X.window)
theorem Fit.tickA (h : Fit X) (hi : i < X.texts.length) : Fit (X.tickA i) := by
 obtain ⟨us, ds, T, hr⟩ := h.rows
 obtain ⟨h1, h2, h3⟩ := hr.at' hi
 refine ⟨⟨us, ds, T, hr.tickA h1 h2 h3⟩, fun j hj => ?_⟩
 have hj2 : j < X.texts.length := by simpa [IRoom.tickA, IRoom.setA] using hj
 clear hj
 show Go.Proofs.Ytemkgikncmhoaaa.Sane X.window ((X.setA i (X.tx i) ((X.e i).tick X.window)).e j) (X.s j)
 rw [e_setA (by have := hr.le; omega)]
 split
 ·rename_i hji; subst hji
  obtain ⟨_, a2, _, a4⟩ := (X.e j).tick_fields X.window
  exact (h.sane j hj2).setE a2 a4
 ·exact h.sane j hj2
theorem Fit.tickB (h : Fit X) (hi : i < X.texts.length) : Fit (X.tickB i) := by
 obtain ⟨us, ds, T, hr⟩ := h.rows
 obtain ⟨h1, h2, h3⟩ := hr.at' hi
 refine ⟨⟨us, ds, T, hr.tickB h1 h2 h3⟩, fun j hj => ?_⟩
 have hj : j < X.texts.length := hj
 show Go.Proofs.Ytemkgikncmhoaaa.Sane X.window (X.e j) ((X.setB i ((X.s i).tick X.window)).s j)
 rw [s_setB (by have := hr.ls; omega)]
 split
 ·rename_i hji; subst hji
  exact (h.sane j hj).tickB (hr.pair hj).b (hr.pair hj).rb
 ·exact h.sane j hj
end
end Go.Proofs.Ytemkgikncmhoaaa

namespace Go.Proofs.Ytemkgikncmhoaaa

/-- What flies alone is turned. -/
structure Air (X X' : IRoom) : Prop where
 rows : ∀ us ds T, RInv X us ds T → RInv X' us ds T
 sane : Fit X → X'.Sane
 texts : X'.texts = X.texts
 server : X'.server = X.server
 window : X'.window = X.window
 eknown : ∀ j, (X'.e j).known = (X.e j).known
 sknown : ∀ j, (X'.s j).known = (X.s j).known
 ewait : ∀ j, (X'.e j).waiting = (X.e j).waiting
 swait : ∀ j, (X'.s j).waiting = (X.s j).waiting
 etaken : ∀ j, (X'.e j).taken = (X.e j).taken
 staken : ∀ j, (X'.s j).taken = (X.s j).taken
section
variable {X : IRoom} {us ds : Nat → List GMsg} {T : Nat → Nat → Nat → List UInt8} {i n : Nat} {d : ByteArray}
theorem Fit.get (h : Fit X) (hi : i < X.texts.length) : X.texts[i]? = some (X.tx i) ∧ X.ends[i]? = some (X.e i) ∧ X.sends[i]? = some (X.s i) := by
 obtain ⟨us, ds, T, hr⟩ := h.rows
 exact hr.at' hi
theorem Fit.setA (h : Fit X) (hi : i < X.texts.length) {E' : IEnd} (hH : ∀ own oth, Half own oth (X.e i) → Half own oth E') (h1 : E'.taken = (X.e i).taken) (h2 : E'.kept = (X.e i).kept) (h3 : E'.known = (X.e i).known) (h4 : E'.waiting = (X.e i).waiting) : Air X (X.setA i (X.tx i) E') := by
 have gg := h.get hi
 obtain ⟨g1, g2, g3⟩ := gg
 have he : i < X.ends.length := (List.getElem?_eq_some_iff.1 g2).1
 have hj : ∀ {α : Type} (f : IEnd → α), f E' = f (X.e i) → ∀ j, f ((X.setA i (X.tx i) E').e j) = f (X.e j) := fun f hf j => by
  rw [e_setA he]
  split
  ·rename_i hji; rw [hji]; exact hf
  ·rfl
 refine ⟨fun us ds T hr => hr.turnA g1 g2 g3 (hH _ _) h1 h3, fun _ j hj => ?_, list_set_self g1, rfl, rfl, hj IEnd.known h3, fun _ => rfl, hj IEnd.waiting h4, fun _ => rfl, hj IEnd.taken h1, fun _ => rfl⟩
 have hj2 : j < X.texts.length := by simpa [IRoom.setA] using hj
 clear hj
 show Go.Proofs.Ytemkgikncmhoaaa.Sane X.window ((X.setA i (X.tx i) E').e j) (X.s j)
 rw [e_setA he]
 split
 ·rename_i hji; subst hji; exact (h.sane j hj2).setE h1 h2
 ·exact h.sane j hj2
theorem Fit.setB (h : Fit X) (hi : i < X.texts.length) {S' : IEnd} (hH : ∀ own oth, Half own oth (X.s i) → Half own oth S') (h1 : S'.taken = (X.s i).taken) (h2 : S'.kept = (X.s i).kept) (h3 : S'.known = (X.s i).known) (h4 : S'.waiting = (X.s i).waiting) (h5 : ∀ v ∈ nums S'.flying, v ≤ (X.s i).sentTo X.window) : Air X (X.setB i S') := by
 have gg := h.get hi
 obtain ⟨g1, g2, g3⟩ := gg
 have hs : i < X.sends.length := (List.getElem?_eq_some_iff.1 g3).1
 have hj : ∀ {α : Type} (f : IEnd → α), f S' = f (X.s i) → ∀ j, f ((X.setB i S').s j) = f (X.s j) := fun f hf j => by
  rw [s_setB hs]
  split
  ·rename_i hji; rw [hji]; exact hf
  ·rfl
 have e : S'.sentTo X.window = (X.s i).sentTo X.window := by unfold IEnd.sentTo; rw [h3, h4]
 refine ⟨fun us ds T hr => hr.turnB g1 g2 g3 (hH _ _) h1 h3, fun _ j hj => ?_, rfl, rfl, rfl, fun _ => rfl, hj IEnd.known h3, fun _ => rfl, hj IEnd.waiting h4, fun _ => rfl, hj IEnd.taken h1⟩
 have hj2 : j < X.texts.length := hj
 clear hj
 show Go.Proofs.Ytemkgikncmhoaaa.Sane X.window (X.e j) ((X.setB i S').s j)
 rw [s_setB hs]
 split
 ·rename_i hji; subst hji
  exact (h.sane j hj2).setS (fun v hv => by rw [e]; exact h5 v hv) (by omega) h1 h2
 ·exact h.sane j hj2
theorem Fit.loseA (h : Fit X) (hi : i < X.texts.length) (n : Nat) : Air X (X.setA i (X.tx i) ((X.e i).lose n)) := h.setA hi (fun _ _ q => q.lose n) rfl rfl rfl rfl
theorem Fit.loseB (h : Fit X) (hi : i < X.texts.length) (n : Nat) : Air X (X.setB i ((X.s i).lose n)) :=
 h.setB hi (fun _ _ q => q.lose n) rfl rfl rfl rfl (fun v hv => (h.sane i hi).fly v ((nums_lose_sub _ n).subset hv))
theorem Fit.doubleA (h : Fit X) (hi : i < X.texts.length) (hd : d ∈ (X.e i).flying) : Air X (X.setA i (X.tx i) ((X.e i).fly d)) := by
 obtain ⟨a1, a2, a3, _, _, a6⟩ := (X.e i).fly_fields d
 exact h.setA hi (fun _ _ q => q.double hd) a3 a6 a1 a2
theorem Fit.doubleB (h : Fit X) (hi : i < X.texts.length) (hd : d ∈ (X.s i).flying) : Air X (X.setB i ((X.s i).fly d)) := by
 obtain ⟨a1, a2, a3, _, _, a6⟩ := (X.s i).fly_fields d
 refine h.setB hi (fun _ _ q => q.double hd) a3 a6 a1 a2 (fun v hv => ?_)
 obtain ⟨x, x1, x2⟩ := mem_nums.1 hv
 refine (h.sane i hi).fly v (mem_nums.2 ⟨x, ?_, x2⟩)
 rcases IEnd.fly_flying _ _ x x1 with g | rfl
 ·exact g
 ·exact hd
theorem spoil_num {own : List GMsg} {taken : Nat} (h : Dgm own taken d) : numD (spoil d) = none := by
 rcases h with ⟨n, tk, h1, h2, h3⟩ | ⟨tk, h3⟩
 ·unfold numD; rw [readD_msg_spoilt]
 ·unfold numD; rw [readD_word_spoilt]
theorem Flies.good {own : List GMsg} {taken : Nat} (h : Flies own taken d) (hr : readD d ≠ none) : Dgm own taken d := by
 rcases h with h | ⟨d0, h, rfl⟩
 ·exact h
 ·exfalso
  rcases h with ⟨n, tk, h1, h2, h3⟩ | ⟨tk, h3⟩
  ·exact hr (readD_msg_spoilt _ _)
  ·exact hr (readD_word_spoilt _)
theorem Fit.spoilA (h : Fit X) (hi : i < X.texts.length) (hd : (X.e i).flying[n]? = some d) (hr : readD d ≠ none) : Air X (X.setA i (X.tx i) { X.e i with flying := (X.e i).flying.set n (spoil d) }) :=
 h.setA hi (fun _ _ q => q.spoil n ((q.flies d (List.mem_of_getElem? hd)).good hr)) rfl rfl rfl rfl
theorem Fit.spoilB (h : Fit X) (hi : i < X.texts.length) (hd : (X.s i).flying[n]? = some d) (hr : readD d ≠ none) : Air X (X.setB i { X.s i with flying := (X.s i).flying.set n (spoil d) }) := by
 refine h.setB hi (fun _ _ q => q.spoil n ((q.flies d (List.mem_of_getElem? hd)).good hr)) rfl rfl rfl rfl (fun v hv => ?_)
 obtain ⟨us, ds, T, hR⟩ := h.rows
 obtain ⟨x, x1, x2⟩ := mem_nums.1 hv
 rcases List.mem_or_eq_of_mem_set x1 with g | rfl
 ·exact (h.sane i hi).fly v (mem_nums.2 ⟨x, g, x2⟩)
 ·rw [spoil_num (((hR.pair hi).b.flies d (List.mem_of_getElem? hd)).good hr)] at x2; simp at x2
/-- A client makes one. -/
def IRoom.made (X : IRoom) (i : Nat) (o : ROp) : IRoom := X.setA i (o.does (X.tx i)) ((X.e i).make o X.window)
theorem Fit.make (h : Fit X) (hi : i < X.texts.length) (o : ROp) (hc : o.client = i) (hn : o.Norm) (hf : o.fits (X.tx i).length) (hw : (X.e i).waiting.length < X.window) (hu : (X.e i).made < 60) : Fit (X.made i o) := by
 obtain ⟨us, ds, T, hr⟩ := h.rows
 obtain ⟨g1, g2, g3⟩ := hr.at' hi
 have he : i < X.ends.length := (List.getElem?_eq_some_iff.1 g2).1
 obtain ⟨T', hr'⟩ := hr.make g1 g2 g3 o hc hn hf hw hu
 refine ⟨⟨_, _, _, hr'⟩, fun j hj => ?_⟩
 have hj2 : j < X.texts.length := by simpa [IRoom.made, IRoom.setA] using hj
 clear hj
 show Go.Proofs.Ytemkgikncmhoaaa.Sane X.window ((X.setA i (o.does (X.tx i)) ((X.e i).make o X.window)).e j) (X.s j)
 rw [e_setA he]
 split
 ·rename_i hji; subst hji
  obtain ⟨a1, _, a3, _⟩ := make_fields (X.e j) o X.window
  exact (h.sane j hj2).setE a1 a3
 ·exact h.sane j hj2
/-! ### Where nobody waits -/
end

/-! ### Settling -/
end Go.Proofs.Ytemkgikncmhoaaa

