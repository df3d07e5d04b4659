import Derived.Test.YtemkgikncmhoaaaM35
/-
  weave: a line that loses nothing more. Plain mathematics. Own work.
-/
namespace Go.Proofs.Ytemkgikncmhoaaa

def nums (fl : List ByteArray) : List Nat := fl.filterMap numD
theorem mem_nums {fl : List ByteArray} {n : Nat} : n ∈ nums fl ↔ ∃ d ∈ fl, numD d = some n := List.mem_filterMap
theorem nums_append (a b : List ByteArray) : nums (a ++ b) = nums a ++ nums b := List.filterMap_append
/-- What an end's messages say when they are sent. -/
def Reads (E : IEnd) : Prop := ∀ m ∈ E.waiting, readD (ckd (m.bytes E.taken)) = some (E.taken, some m)
theorem numD_some {d : ByteArray} {n : Nat} (h : numD d = some n) : ∃ tk m, readD d = some (tk, some m) ∧ m.number = n := by
  unfold numD at h
  split at h
  · rename_i tk m e; exact ⟨tk, m, e, by simpa using h⟩
  · simp at h
theorem numD_msg {d : ByteArray} {tk : Nat} {m : IMsg} (h : readD d = some (tk, some m)) : numD d = some m.number := by unfold numD; rw [h]
theorem nums_sent {E : IEnd} (tk : Nat) : ∀ (ms : List IMsg), (∀ m ∈ ms, readD (ckd (m.bytes tk)) = some (tk, some m)) → nums (ms.map fun m => ckd (m.bytes tk)) = ms.map IMsg.number
  | [], _ => rfl
  | m :: ms, h => by
    have h1 := numD_msg (h m (by simp))
    have h2 := nums_sent (E := E) tk ms (fun q hq => h q (by simp [hq]))
    unfold nums at *
    rw [List.map_cons, List.filterMap_cons, h1, List.map_cons]
    exact congrArg _ h2
theorem mem_lose {E : IEnd} {n : Nat} {d x : ByteArray} (hd : E.flying[n]? = some d) (h : x ∈ E.flying) : x ∈ (E.lose n).flying ∨ x = d := by
  rw [lose_split hd] at h
  show x ∈ E.flying.take n ++ E.flying.drop (n + 1) ∨ _
  simp only [List.mem_append, List.mem_cons] at *
  rcases h with h | h | h
  · exact .inl (.inl h)
  · exact .inr h
  · exact .inl (.inr h)
theorem lose_sub (E : IEnd) (n : Nat) : (E.lose n).flying.Sublist E.flying := by
  have : (E.flying.take n ++ E.flying.drop (n + 1)).Sublist (E.flying.take n ++ E.flying.drop n) :=
    (List.Sublist.refl _).append (by rw [show E.flying.drop (n + 1) = (E.flying.drop n).drop 1 by rw [List.drop_drop]]; exact List.drop_sublist _ _)
  rwa [List.take_append_drop] at this
theorem nums_lose_sub (E : IEnd) (n : Nat) : (nums (E.lose n).flying).Sublist (nums E.flying) := (lose_sub E n).filterMap _
theorem len_lose {E : IEnd} {n : Nat} {d : ByteArray} (hd : E.flying[n]? = some d) : (E.lose n).flying.length + 1 = E.flying.length := by
  have : E.flying.length = (E.flying.take n ++ d :: E.flying.drop (n + 1)).length := by rw [← lose_split hd]
  rw [this]
  show (E.flying.take n ++ E.flying.drop (n + 1)).length + 1 = _
  simp only [List.length_append, List.length_cons]
  omega
theorem nums_split {l : List ByteArray} {n v : Nat} {d : ByteArray} (hd : l[n]? = some d) (hv : numD d = some v) : nums l = nums (l.take n) ++ v :: nums (l.drop (n + 1)) := by
  have : nums l = nums (l.take n ++ d :: l.drop (n + 1)) := by rw [← lose_split hd]
  rw [this, nums_append]
  unfold nums
  rw [List.filterMap_cons, hv]
theorem nums_lose_len {E : IEnd} {n v : Nat} {d : ByteArray} (hd : E.flying[n]? = some d) (hv : numD d = some v) : (nums (E.lose n).flying).length + 1 = (nums E.flying).length := by
  rw [nums_split hd hv]
  show (nums (E.flying.take n ++ E.flying.drop (n + 1))).length + 1 = _
  rw [nums_append]
  simp only [List.length_append, List.length_cons]
  omega
theorem nextKept_iff (E : IEnd) : E.nextKept = none ↔ ∀ m ∈ E.kept, m.number ≠ E.taken + 1 := by
  constructor
  · intro h m hm hn
    unfold IEnd.nextKept at h
    rw [List.find?_eq_none] at h
    have := h m hm
    simp [hn] at this
  · exact IEnd.nextKept_none
theorem nextKept_congr {E E' : IEnd} (h1 : E'.kept = E.kept) (h2 : E'.taken = E.taken) : E'.nextKept = E.nextKept := by
  unfold IEnd.nextKept; rw [h1, h2]
theorem keep_sub {E : IEnd} {window : Nat} {m q : IMsg} (h : q ∈ (E.keep window m).kept) : q ∈ E.kept ∨ q = m := by
  unfold IEnd.keep at h
  split at h
  · exact .inl h
  · simpa using h
theorem keep_sup {E : IEnd} {window : Nat} {m q : IMsg} (h : q ∈ E.kept) : q ∈ (E.keep window m).kept := by
  unfold IEnd.keep
  split
  · exact h
  · simp [h]
theorem keep_in {E : IEnd} {window : Nat} {m : IMsg} (h1 : E.taken < m.number) (h2 : m.number ≤ E.taken + window) : m.number ∈ (E.keep window m).kept.map IMsg.number := by
  unfold IEnd.keep
  split
  · rename_i h
    rcases h with h | h | h
    · omega
    · omega
    · exact h
  · simp

/-- What is so of a line at any time, besides its rows. -/
structure Sane (window : Nat) (E S : IEnd) : Prop where
  fly : ∀ n ∈ nums S.flying, n ≤ S.sentTo window
  kept : ∀ m ∈ E.kept, m.number ≤ S.sentTo window
  tak : E.taken ≤ S.sentTo window
  nA : E.nextKept = none
  nB : S.nextKept = none
/-- The two ends, beside their rows. -/
structure Pair (us ds : List GMsg) (window : Nat) (E S : IEnd) : Prop where
  a : Half us ds E
  b : Half ds us S
  ka : E.known ≤ S.taken
  kb : S.known ≤ E.taken
  wa : E.waiting.length ≤ window
  w1 : 1 ≤ window
  w4 : window ≤ 4
  ra : Reads E
  rb : Reads S
theorem RInv.pair {X : IRoom} {us ds : Nat → List GMsg} {T : Nat → Nat → Nat → List UInt8} (h : RInv X us ds T) {i : Nat} (hi : i < X.texts.length) : Pair (us i) (ds i) X.window (X.e i) (X.s i) := by
  obtain ⟨h1, h2, h3⟩ := h.at' hi
  obtain ⟨hl, hw, _⟩ := h.line i _ _ _ h1 h2 h3
  exact ⟨hl.a, hl.b, hl.ka, hl.kb, hw, h.w1, h.w4, fun m hm => readD_msg _ _ ((h.waitA h1 h2 h3).1 m hm), fun m hm => readD_msg _ _ ((h.waitB h1 h2 h3).1 m hm)⟩
section
variable {own oth us ds : List GMsg} {E S E' S' : IEnd} {window k n tk : Nat} {d : ByteArray}
theorem Half.learn_fl (h : Half own oth S) (hr : Reads S) (n : Nat) : ∃ fr : List ByteArray, (S.learn window n).flying = S.flying ++ fr.take (12 - S.flying.length) ∧ (∀ q, q ∈ nums fr ↔ S.sentTo window < q ∧ n < q ∧ q ≤ (S.learn window n).sentTo window) ∧ (nums fr).Nodup ∧ (nums fr).length = fr.length ∧ S.sentTo window ≤ (S.learn window n).sentTo window := by
  rcases h.learn_cases (window := window) n with ⟨_, e⟩ | ⟨h1, h2, e⟩ <;> rw [e]
  · refine ⟨[], by simp, fun q => ⟨fun hq => by simp [nums] at hq, fun hq => by omega⟩, by simp [nums], rfl, Nat.le_refl _⟩
  · obtain ⟨s1, s2⟩ := sends_made (window := window) (S.moved n) (S.fresh window n)
    have hq : ∀ m ∈ S.fresh window n, readD (ckd (m.bytes S.taken)) = some (S.taken, some m) := fun m hm => by
      obtain ⟨q, a, b, c, rfl⟩ := (h.fresh_mem h1 h2 m).1 hm
      refine hr _ ?_
      rw [h.wait]
      have e1 := h.sentTo_moved (window := window) h1 h2
      exact List.mem_map.2 ⟨q - S.known - 1, List.mem_range.2 (by omega), by rw [show S.known + (q - S.known - 1) + 1 = q by omega]⟩
    have hn := nums_sent (E := S) S.taken (S.fresh window n) hq
    refine ⟨(S.fresh window n).map fun m => ckd (m.bytes S.taken), by rw [IEnd.sends_flying]; rfl, fun q => ?_, ?_, ?_, ?_⟩
    · rw [hn, s2, List.mem_map]
      constructor
      · rintro ⟨m, hm, rfl⟩
        obtain ⟨q, a, b, c, rfl⟩ := (h.fresh_mem h1 h2 m).1 hm
        exact ⟨a, b, c⟩
      · rintro ⟨a, b, c⟩
        exact ⟨imsg own q, (h.fresh_mem h1 h2 _).2 ⟨q, a, b, c, rfl⟩, rfl⟩
    · rw [hn]; exact h.fresh_nodup h1 h2
    · rw [hn]; simp
    · rw [s2]; have := h.fresh_len (window := window) h1 h2; omega
theorem learn_nextKept (S : IEnd) (window n : Nat) : (S.learn window n).nextKept = S.nextKept :=
  nextKept_congr (Half.learn_fields S window n).2.2.2.1 (Half.learn_fields S window n).1
theorem Sane.setE (h : Sane window E S) (h1 : E'.taken = E.taken) (h2 : E'.kept = E.kept) : Sane window E' S :=
  ⟨h.fly, by rw [h2]; exact h.kept, by rw [h1]; exact h.tak, (nextKept_congr h2 h1).trans h.nA, h.nB⟩
theorem Sane.setS (h : Sane window E S) (hf : ∀ n ∈ nums S'.flying, n ≤ S'.sentTo window) (h0 : S.sentTo window ≤ S'.sentTo window) (h1 : S'.taken = S.taken) (h2 : S'.kept = S.kept) : Sane window E S' :=
  ⟨hf, fun m hm => Nat.le_trans (h.kept m hm) h0, Nat.le_trans h.tak h0, h.nA, (nextKept_congr h2 h1).trans h.nB⟩
theorem nums_take {fl : List ByteArray} {q j : Nat} (h : q ∈ nums (fl.take j)) : q ∈ nums fl := ((List.take_sublist j fl).filterMap numD).subset h
theorem word_nums (E : IEnd) : nums E.word.flying = nums E.flying := by
  unfold IEnd.word IEnd.fly
  split
  · rw [nums_append]; simp [nums, numD_word]
  · rfl
theorem Sane.up (h : Sane window E S) (hb : Half ds us S) (hr : Reads S) (c : Came window S d S' k) : Sane window E S' := by
  cases c with
  | none hd => exact h
  | word tk hd =>
    obtain ⟨fr, f1, f2, _, _, f5⟩ := hb.learn_fl (window := window) hr tk
    obtain ⟨a1, _, _, a4, _⟩ := Half.learn_fields S window tk
    refine h.setS (fun n hn => ?_) f5 a1 a4
    rw [f1, nums_append, List.mem_append] at hn
    rcases hn with hn | hn
    · exact Nat.le_trans (h.fly n hn) f5
    · exact ((f2 n).1 (nums_take hn)).2.2
  | msg tk m S2 k hd ht hs =>
    obtain ⟨fr, f1, f2, _, _, f5⟩ := hb.learn_fl (window := window) hr tk
    obtain ⟨_, _, t3⟩ := ht.load window
    obtain ⟨_, _, k3⟩ := keep_load (S.learn window tk) window m
    obtain ⟨_, _, w3, w4, _, w6⟩ := word_fields S2
    have e : S2.word.sentTo window = (S.learn window tk).sentTo window := by rw [w6, t3, k3]
    refine ⟨fun n hn => ?_, fun m hm => ?_, ?_, h.nA, ?_⟩
    · rw [word_nums, ht.flying, ((S.learn window tk).keep_fields window m).2.2.2, f1, nums_append, List.mem_append] at hn
      rw [e]
      rcases hn with hn | hn
      · exact Nat.le_trans (h.fly n hn) f5
      · exact ((f2 n).1 (nums_take hn)).2.2
    · rw [e]; exact Nat.le_trans (h.kept m hm) f5
    · rw [e]; exact Nat.le_trans h.tak f5
    · exact (nextKept_congr w4 w3).trans hs
theorem Sane.down (h : Sane window E S) (hd : d ∈ S.flying) (c : Came window E d E' k) : Sane window E' S := by
  cases c with
  | none hr => exact h
  | word tk hr =>
    obtain ⟨a1, _, _, a4, _⟩ := Half.learn_fields E window tk
    exact h.setE a1 a4
  | msg tk m E2 k hr ht hs =>
    obtain ⟨a1, _, _, a4, _⟩ := Half.learn_fields E window tk
    obtain ⟨_, _, w3, w4, _, _⟩ := word_fields E2
    obtain ⟨k1, _⟩ := (E.learn window tk).keep_fields window m
    have hm : m.number ≤ S.sentTo window := h.fly _ (mem_nums.2 ⟨d, hd, numD_msg hr⟩)
    have hk : ∀ q ∈ ((E.learn window tk).keep window m).kept, q.number ≤ S.sentTo window := fun q hq => by
      rcases keep_sub hq with hq | rfl
      · exact h.kept q (by rwa [a4] at hq)
      · exact hm
    refine ⟨h.fly, fun q hq => ?_, ?_, (nextKept_congr w4 w3).trans hs, h.nB⟩
    · rw [w4] at hq
      exact hk q ((ht.kept q).1 hq).1
    · rw [w3, ht.taken]
      by_cases hz : k = 0
      · rw [hz, k1, a1]; exact h.tak
      · obtain ⟨q, a, b⟩ := List.mem_map.1 (ht.were (((E.learn window tk).keep window m).taken + k) (by omega) (Nat.le_refl _))
        rw [← b]
        exact hk q a
theorem make_sentTo (S : IEnd) (o : ROp) (window : Nat) : (S.make o window).sentTo window = if S.waiting.length + 1 ≤ window then S.sentTo window + 1 else S.sentTo window := by
  obtain ⟨_, a2, _, a4⟩ := make_fields S o window
  unfold IEnd.sentTo
  rw [a2, a4, List.length_append, List.length_cons, List.length_nil]
  split <;> omega
theorem make_flying (S : IEnd) (o : ROp) (window : Nat) : (S.make o window).flying = if S.waiting.length + 1 ≤ window then S.flying ++ [ckd ((S.next o).bytes S.taken)].take (12 - S.flying.length) else S.flying := by
  unfold IEnd.make
  split
  · rw [IEnd.sends_flying]; rfl
  · rfl
theorem Sane.make (h : Sane window E S) (o : ROp) (hr : readD (ckd ((S.next o).bytes S.taken)) = some (S.taken, some (S.next o))) : Sane window E (S.make o window) := by
  obtain ⟨a1, _, a3, _⟩ := make_fields S o window
  have e := make_sentTo S o window
  refine h.setS (fun n hn => ?_) (by rw [e]; split <;> omega) a1 a3
  rw [make_flying] at hn
  rw [e]
  by_cases hw : S.waiting.length + 1 ≤ window
  · rw [if_pos hw] at hn ⊢
    rw [nums_append, List.mem_append] at hn
    rcases hn with hn | hn
    · have := h.fly n hn; omega
    · have hn := nums_take hn
      simp only [nums, List.filterMap_cons, numD_msg hr, List.filterMap_nil, List.mem_singleton] at hn
      subst hn
      show S.made + 1 ≤ _
      unfold IEnd.made IEnd.sentTo
      omega
  · rw [if_neg hw] at hn ⊢
    exact h.fly n hn
end
end Go.Proofs.Ytemkgikncmhoaaa

/-
  weave: behind a round of ticks nothing more is lost, and all that was made is taken. Plain mathematics. Own work.
-/
namespace Go.Proofs.Ytemkgikncmhoaaa

/-- Not one of the newer messages. -/
def isOld (L : Nat) (d : ByteArray) : Bool := match numD d with
  | some n => decide (n ≤ L)
  | none => true
def newer (L : Nat) (fl : List ByteArray) : List Nat := (nums fl).filter fun n => decide (L < n)
theorem old_new (L : Nat) : ∀ fl : List ByteArray, fl.length = fl.countP (isOld L) + (newer L fl).length
  | [] => rfl
  | d :: fl => by
    have ih := old_new L fl
    unfold newer nums isOld at *
    rw [List.countP_cons, List.filterMap_cons, List.length_cons]
    cases hd : numD d with
    | none => simp only [if_true]; omega
    | some n =>
      simp only [List.filter_cons]
      by_cases hn : n ≤ L
      · simp only [hn, decide_true, if_true, show ¬ L < n by omega, decide_false]
        simp only [Bool.false_eq_true, if_false]
        omega
      · simp only [hn, decide_false, show L < n by omega, decide_true, if_true, List.length_cons]
        simp only [Bool.false_eq_true, if_false]
        omega
theorem newer_append (L : Nat) (a b : List ByteArray) : newer L (a ++ b) = newer L a ++ newer L b := by unfold newer; rw [nums_append, List.filter_append]
theorem mem_newer {L n : Nat} {fl : List ByteArray} : n ∈ newer L fl ↔ n ∈ nums fl ∧ L < n := by unfold newer; rw [List.mem_filter]; simp
theorem newer_all {L : Nat} {fl : List ByteArray} (h : ∀ n ∈ nums fl, L < n) : newer L fl = nums fl := by
  unfold newer
  rw [List.filter_eq_self]
  exact fun n hn => by simpa using h n hn

/-- A line that loses nothing more: what was sent and is not taken flies, or is kept; what is not known flies. -/
structure Flow (L q window : Nat) (E S : IEnd) : Prop where
  sane : Sane window E S
  few : E.flying.length ≤ q
  old : S.flying.countP (isOld L) + (nums E.flying).length ≤ 8
  new1 : (newer L S.flying).Nodup
  new2 : ∀ n ∈ newer L S.flying, E.taken < n ∧ n ∉ E.kept.map IMsg.number
  low : L ≤ S.sentTo window
  aU : ∀ n, S.taken < n → n ≤ E.made → n ∈ nums E.flying ∨ n ∈ S.kept.map IMsg.number
  aD : ∀ n, E.taken < n → n ≤ S.sentTo window → n ∈ nums S.flying ∨ n ∈ E.kept.map IMsg.number
  bU : E.known < S.taken → ∃ d ∈ S.flying, tellD d = some S.taken
  bD : S.known < E.taken → ∃ d ∈ E.flying, tellD d = some E.taken
section
variable {us ds us' ds' : List GMsg} {E S E' S' : IEnd} {L q window k n tk : Nat} {d : ByteArray}
theorem Flow.mono (f : Flow L q window E S) {q' : Nat} (h : E.flying.length ≤ q') : Flow L q' window E S := ⟨f.sane, h, f.old, f.new1, f.new2, f.low, f.aU, f.aD, f.bU, f.bD⟩
/-- There is place for what is newly sent. -/
theorem Flow.place (f : Flow L q window E S) (hw : window ≤ 4) {more : List Nat} {B : Nat} (h1 : more.Nodup) (h2 : ∀ x ∈ more, S.sentTo window < x ∧ x ≤ B) (h3 : S.sentTo window ≤ B) (h4 : B ≤ E.taken + window) : S.flying.length + (nums E.flying).length + more.length ≤ 12 := by
  have e := old_new L S.flying
  have o := f.old
  have : (newer L S.flying ++ more).length ≤ B - E.taken := by
    refine nodup_le _ _ E.taken B rfl ?_ ?_
    · rw [List.nodup_append]
      refine ⟨f.new1, h1, fun a ha b hb hab => ?_⟩
      have g1 := f.sane.fly a (mem_newer.1 ha).1
      have g2 := (h2 b hb).1
      omega
    · intro x hx
      rcases List.mem_append.1 hx with hx | hx
      · exact ⟨(f.new2 x hx).1, Nat.le_trans (f.sane.fly x (mem_newer.1 hx).1) h3⟩
      · exact ⟨Nat.lt_of_le_of_lt f.sane.tak (h2 x hx).1, (h2 x hx).2⟩
  rw [List.length_append] at this
  omega
theorem learn_known (hb : Half ds us S) (hle : tk ≤ ds.length) : (S.learn window tk).known = max S.known tk := by
  have e := (Half.learn_fields S window tk).2.2.2.2
  have hm := hb.made
  rw [e]
  split
  · omega
  · omega
/-- The server's end hears what a client has taken. -/
theorem Flow.hear (f : Flow L q window E S) (p : Pair us ds window E S) (htk : tk ≤ E.taken) : ∃ fr : List ByteArray, (S.learn window tk).flying = S.flying ++ fr ∧ (∀ q, q ∈ nums fr ↔ S.sentTo window < q ∧ tk < q ∧ q ≤ (S.learn window tk).sentTo window) ∧ (nums fr).Nodup ∧ (nums fr).length = fr.length ∧ S.sentTo window ≤ (S.learn window tk).sentTo window ∧ (S.learn window tk).known = max S.known tk ∧ S.flying.length + (nums E.flying).length + fr.length ≤ 12 := by
  obtain ⟨fr, f1, f2, f3, f4, f5⟩ := p.b.learn_fl (window := window) p.rb tk
  have hk := learn_known (window := window) p.b (Nat.le_trans htk p.a.tk)
  have hpl := f.place p.w4 (more := nums fr) (B := (S.learn window tk).sentTo window) f3 (fun x hx => ⟨((f2 x).1 hx).1, ((f2 x).1 hx).2.2⟩) f5 (by
    have := p.kb
    unfold IEnd.sentTo
    omega)
  refine ⟨fr, ?_, f2, f3, f4, f5, hk, by omega⟩
  rw [f1, List.take_of_length_le (by omega)]
theorem hear_old (hL : L ≤ S.sentTo window) {fr : List ByteArray} (h2 : ∀ q ∈ nums fr, S.sentTo window < q) (h4 : (nums fr).length = fr.length) : fr.countP (isOld L) = 0 ∧ newer L fr = nums fr := by
  have e : newer L fr = nums fr := newer_all fun n hn => by have := h2 n hn; omega
  have := old_new L fr
  rw [e] at this
  exact ⟨by omega, e⟩
theorem tell_of {tk : Nat} {m : Option IMsg} (h : readD d = some (tk, m)) : tellD d = some tk := by unfold tellD; rw [h]; rfl
theorem tellD_word (tk : Nat) (h : tk ≤ 255) : tellD (ckd [2, (tk : Int)]) = some tk := tell_of (readD_word tk h)
/-- A client's datagram comes to the server. -/
theorem Flow.up (f : Flow L q window E S) (p : Pair us ds window E S) (hq : q ≤ 4) (hd : E.flying[n]? = some d) (ht : ∀ tk m, readD d = some (tk, m) → tk ≤ E.taken) (h255 : S'.taken ≤ 255) (c : Came window S d S' k) : Flow L (q - 1) window (E.lose n) S' := by
  have hs : Sane window (E.lose n) S' := (f.sane.up p.b p.rb c).setE rfl rfl
  have hlen := len_lose hd
  have hfew := f.few
  have hsub := nums_lose_sub E n
  have hmem : ∀ v, v ∈ nums E.flying → v ∈ nums (E.lose n).flying ∨ numD d = some v := fun v hv => by
    obtain ⟨x, a, b⟩ := mem_nums.1 hv
    rcases mem_lose hd a with g | rfl
    · exact .inl (mem_nums.2 ⟨x, g, b⟩)
    · exact .inr b
  have hall : ∀ tk m, readD d = some (tk, m) → ∀ {K : Nat}, K = max S.known tk → K < E.taken → ∃ d ∈ (E.lose n).flying, tellD d = some E.taken := fun tk m hr K hK h => by
    obtain ⟨x, a, b⟩ := f.bD (by omega)
    rcases mem_lose hd a with g | rfl
    · exact ⟨x, g, b⟩
    · rw [tell_of hr] at b
      have : tk = E.taken := by simpa using b
      omega
  cases c with
  | none hr =>
    have hn : numD d = none := by unfold numD; rw [hr]
    refine ⟨hs, by omega, Nat.le_trans (Nat.add_le_add_left hsub.length_le _) f.old, f.new1, f.new2, f.low, fun v a b => ?_, f.aD, f.bU, fun h => ?_⟩
    · rcases f.aU v a b with g | g
      · rcases hmem v g with g | g
        · exact .inl g
        · rw [hn] at g; simp at g
      · exact .inr g
    · obtain ⟨x, a, b⟩ := f.bD h
      rcases mem_lose hd a with g | rfl
      · exact ⟨x, g, b⟩
      · unfold tellD at b; rw [hr] at b; simp at b
  | word tk hr =>
    obtain ⟨fr, f1, f2, f3, f4, f5, f6, f7⟩ := f.hear p (ht tk _ hr)
    obtain ⟨a1, _, _, a4, _⟩ := Half.learn_fields S window tk
    obtain ⟨o1, o2⟩ := hear_old f.low (fun v hv => ((f2 v).1 hv).1) f4
    have hn : numD d = none := by unfold numD; rw [hr]
    refine ⟨hs, by omega, ?_, ?_, ?_, by have := f.low; omega, fun v a b => ?_, fun v a b => ?_, fun h => ?_, fun h => ?_⟩
    · rw [f1, List.countP_append, o1]
      exact Nat.le_trans (Nat.add_le_add_left hsub.length_le _) f.old
    · rw [f1, newer_append, o2, List.nodup_append]
      refine ⟨f.new1, f3, fun a ha b hb hab => ?_⟩
      have g1 := f.sane.fly a (mem_newer.1 ha).1
      have g2 := ((f2 b).1 hb).1
      omega
    · intro v hv
      rw [f1, newer_append, List.mem_append] at hv
      rcases hv with hv | hv
      · exact f.new2 v hv
      · rw [o2] at hv
        have g2 := ((f2 v).1 hv).1
        refine ⟨Nat.lt_of_le_of_lt f.sane.tak g2, fun hk => ?_⟩
        obtain ⟨m, m1, m2⟩ := List.mem_map.1 hk
        have := f.sane.kept m m1
        omega
    · rw [a1] at a; rw [a4]
      rcases f.aU v a b with g | g
      · rcases hmem v g with g | g
        · exact .inl g
        · rw [hn] at g; simp at g
      · exact .inr g
    · rw [f1, nums_append, List.mem_append]
      have a' : E.taken < v := a
      by_cases hv : v ≤ S.sentTo window
      · rcases f.aD v a hv with g | g
        · exact .inl (.inl g)
        · exact .inr g
      · exact .inl (.inr ((f2 v).2 ⟨by omega, by have := ht tk _ hr; omega, b⟩))
    · rw [a1] at h ⊢
      obtain ⟨x, a, b⟩ := f.bU h
      exact ⟨x, by rw [f1]; exact List.mem_append_left _ a, b⟩
    · exact hall tk _ hr f6 h
  | msg tk m S2 k hr hk hs2 =>
    obtain ⟨fr, f1, f2, f3, f4, f5, f6, f7⟩ := f.hear p (ht tk _ hr)
    obtain ⟨a1, _, _, a4, _⟩ := Half.learn_fields S window tk
    obtain ⟨o1, o2⟩ := hear_old f.low (fun v hv => ((f2 v).1 hv).1) f4
    obtain ⟨k1, k2, k3, k4⟩ := (S.learn window tk).keep_fields window m
    obtain ⟨w1, w2, w3, w4, _, w6⟩ := word_fields S2
    obtain ⟨_, _, t3⟩ := hk.load window
    obtain ⟨_, _, k5⟩ := keep_load (S.learn window tk) window m
    have hn := numD_msg hr
    have hlen2 := nums_lose_len hd hn
    have e1 : S2.word.sentTo window = (S.learn window tk).sentTo window := by rw [w6, t3, k5]
    have e2 : S2.flying = S.flying ++ fr := by rw [hk.flying, k4, f1]
    have e3 : S2.word.flying = S.flying ++ fr ++ [ckd [2, (S2.taken : Int)]] := by
      unfold IEnd.word IEnd.fly
      rw [if_pos (by rw [e2, List.length_append]; omega)]
      show S2.flying ++ _ = _
      rw [e2]
    have e4 : S2.word.known = max S.known tk := by rw [w1, hk.known, k2, f6]
    have nw : nums [ckd [2, (S2.taken : Int)]] = [] := by simp [nums, numD_word]
    have nw2 : newer L [ckd [2, (S2.taken : Int)]] = [] := by unfold newer; rw [nw]; rfl
    have e5 : nums S2.word.flying = nums S.flying ++ nums fr := by rw [e3, nums_append, nums_append, nw, List.append_nil]
    have e6 : newer L S2.word.flying = newer L S.flying ++ nums fr := by rw [e3, newer_append, newer_append, nw2, List.append_nil, o2]
    have e7 : S2.word.taken = S.taken + k := by rw [w3, hk.taken, k1, a1]
    refine ⟨hs, by omega, ?_, ?_, ?_, by rw [e1]; have := f.low; omega, fun v a b => ?_, fun v a b => ?_, fun h => ?_, fun h => ?_⟩
    · rw [e3, List.countP_append, List.countP_append, o1]
      have := f.old
      have : ([ckd [2, (S2.taken : Int)]] : List ByteArray).countP (isOld L) ≤ 1 := List.countP_le_length
      omega
    · rw [e6, List.nodup_append]
      refine ⟨f.new1, f3, fun a ha b hb hab => ?_⟩
      have g1 := f.sane.fly a (mem_newer.1 ha).1
      have g2 := ((f2 b).1 hb).1
      omega
    · intro v hv
      rw [e6, List.mem_append] at hv
      rcases hv with hv | hv
      · exact f.new2 v hv
      · have g2 := ((f2 v).1 hv).1
        refine ⟨Nat.lt_of_le_of_lt f.sane.tak g2, fun hk => ?_⟩
        obtain ⟨m, m1, m2⟩ := List.mem_map.1 hk
        have := f.sane.kept m m1
        omega
    · rw [e7] at a
      rw [w4]
      have hin : v ∈ ((S.learn window tk).keep window m).kept.map IMsg.number → v ∈ S2.kept.map IMsg.number := fun g => by
        obtain ⟨x, x1, x2⟩ := List.mem_map.1 g
        exact List.mem_map.2 ⟨x, (hk.kept x).2 ⟨x1, by rw [k1, a1]; omega⟩, x2⟩
      rcases f.aU v (by omega) b with g | g
      · rcases hmem v g with g | g
        · exact .inl g
        · rw [hn] at g
          have g : m.number = v := by simpa using g
          refine .inr (hin ?_)
          rw [← g]
          have b' : v ≤ E.known + E.waiting.length := b
          have := p.ka
          have := p.wa
          exact keep_in (by rw [a1]; omega) (by rw [a1]; omega)
      · refine .inr (hin ?_)
        obtain ⟨x, x1, x2⟩ := List.mem_map.1 g
        exact List.mem_map.2 ⟨x, keep_sup (by rwa [a4]), x2⟩
    · rw [e1] at b
      rw [e5, List.mem_append]
      have a' : E.taken < v := a
      by_cases hv : v ≤ S.sentTo window
      · rcases f.aD v a hv with g | g
        · exact .inl (.inl g)
        · exact .inr g
      · exact .inl (.inr ((f2 v).2 ⟨by omega, by have := ht tk _ hr; omega, b⟩))
    · rw [w3] at h255 ⊢
      exact ⟨_, by rw [e3]; simp, tellD_word _ h255⟩
    · exact hall tk _ hr e4 h
/-- A server's datagram comes to the client. -/
theorem Flow.down (f : Flow L q window E S) (p : Pair us ds window E S) (hq : q ≤ 11) (hd : S.flying[n]? = some d) (ht : ∀ tk m, readD d = some (tk, m) → tk ≤ S.taken) (h255 : E'.taken ≤ 255) (c : Came window E d E' k) : Flow L (q + 1) window E' (S.lose n) := by
  have hs0 : Sane window E' S := f.sane.down (List.mem_of_getElem? hd) c
  have hsub := nums_lose_sub S n
  have hs : Sane window E' (S.lose n) := hs0.setS (fun v hv => hs0.fly v (hsub.subset hv)) (Nat.le_refl _) rfl rfl
  have hfew := f.few
  have hmem : ∀ v, v ∈ nums S.flying → v ∈ nums (S.lose n).flying ∨ numD d = some v := fun v hv => by
    obtain ⟨x, a, b⟩ := mem_nums.1 hv
    rcases mem_lose hd a with g | rfl
    · exact .inl (mem_nums.2 ⟨x, g, b⟩)
    · exact .inr b
  have hall : ∀ tk m, readD d = some (tk, m) → ∀ {K : Nat}, K = max E.known tk → K < S.taken → ∃ d ∈ (S.lose n).flying, tellD d = some S.taken := fun tk m hr K hK h => by
    obtain ⟨x, a, b⟩ := f.bU (by omega)
    rcases mem_lose hd a with g | rfl
    · exact ⟨x, g, b⟩
    · rw [tell_of hr] at b
      have : tk = S.taken := by simpa using b
      omega
  have hold : (S.lose n).flying.countP (isOld L) + (nums E.flying).length ≤ 8 := Nat.le_trans (Nat.add_le_add_right ((lose_sub S n).countP_le) _) f.old
  have hnew1 : (newer L (S.lose n).flying).Nodup := f.new1.sublist (hsub.filter _)
  have hfl : ∀ tk, (E.learn window tk).flying = E.flying := fun tk => by
    obtain ⟨fr, f1, f2, f3, f4, f5⟩ := p.a.learn_fl (window := window) p.ra tk
    have hE : E.sentTo window = E.made := by have := p.wa; unfold IEnd.sentTo IEnd.made; omega
    have hE' : (E.learn window tk).sentTo window ≤ E.made := by rw [← p.a.learn_made (window := window) tk]; unfold IEnd.sentTo IEnd.made; omega
    have : fr = [] := by
      apply List.eq_nil_of_length_eq_zero
      rw [← f4]
      cases hz : nums fr with
      | nil => rfl
      | cons v l =>
        have := (f2 v).1 (by rw [hz]; simp)
        omega
    rw [f1, this]; simp
  cases c with
  | none hr =>
    have hn : numD d = none := by unfold numD; rw [hr]
    refine ⟨hs, by omega, hold, hnew1, fun v hv => f.new2 v (mem_newer.2 ⟨hsub.subset (mem_newer.1 hv).1, (mem_newer.1 hv).2⟩), f.low, f.aU, fun v a b => ?_, fun h => ?_, f.bD⟩
    · rcases f.aD v a b with g | g
      · rcases hmem v g with g | g
        · exact .inl g
        · rw [hn] at g; simp at g
      · exact .inr g
    · obtain ⟨x, a, b⟩ := f.bU h
      rcases mem_lose hd a with g | rfl
      · exact ⟨x, g, b⟩
      · unfold tellD at b; rw [hr] at b; simp at b
  | word tk hr =>
    obtain ⟨a1, _, _, a4, _⟩ := Half.learn_fields E window tk
    have hn : numD d = none := by unfold numD; rw [hr]
    have hk := learn_known (window := window) p.a (Nat.le_trans (ht tk _ hr) p.b.tk)
    refine ⟨hs, by rw [hfl]; omega, by rw [hfl]; exact hold, hnew1, fun v hv => by rw [a1, a4]; exact f.new2 v (mem_newer.2 ⟨hsub.subset (mem_newer.1 hv).1, (mem_newer.1 hv).2⟩), f.low, fun v a b => ?_, fun v a b => ?_, fun h => ?_, fun h => ?_⟩
    · rw [p.a.learn_made] at b; rw [hfl]; exact f.aU v a b
    · rw [a1] at a; rw [a4]
      rcases f.aD v a b with g | g
      · rcases hmem v g with g | g
        · exact .inl g
        · rw [hn] at g; simp at g
      · exact .inr g
    · exact hall tk _ hr hk h
    · rw [a1] at h ⊢; rw [hfl]; exact f.bD h
  | msg tk m E2 k hr hk hs2 =>
    obtain ⟨a1, _, _, a4, _⟩ := Half.learn_fields E window tk
    obtain ⟨k1, k2, k3, k4⟩ := (E.learn window tk).keep_fields window m
    obtain ⟨w1, w2, w3, w4, w5, _⟩ := word_fields E2
    obtain ⟨_, t2, _⟩ := hk.load window
    obtain ⟨_, k6, _⟩ := keep_load (E.learn window tk) window m
    have hkn := learn_known (window := window) p.a (Nat.le_trans (ht tk _ hr) p.b.tk)
    have hn := numD_msg hr
    have e1 : E2.flying = E.flying := by rw [hk.flying, k4, hfl]
    have e2 : E2.word.flying = E.flying ++ [ckd [2, (E2.taken : Int)]] := by
      unfold IEnd.word IEnd.fly
      rw [if_pos (by rw [e1]; omega)]
      show E2.flying ++ _ = _
      rw [e1]
    have e3 : nums E2.word.flying = nums E.flying := by rw [word_nums, e1]
    have e4 : E2.word.known = max E.known tk := by rw [w1, hk.known, k2, hkn]
    have e5 : E2.word.made = E.made := by rw [w5, t2, k6, p.a.learn_made]
    have e6 : E2.word.taken = E.taken + k := by rw [w3, hk.taken, k1, a1]
    have hin : ∀ v, E.taken + k < v → v ∈ ((E.learn window tk).keep window m).kept.map IMsg.number → v ∈ E2.kept.map IMsg.number := fun v hv g => by
      obtain ⟨x, x1, x2⟩ := List.mem_map.1 g
      exact List.mem_map.2 ⟨x, (hk.kept x).2 ⟨x1, by rw [k1, a1]; omega⟩, x2⟩
    refine ⟨hs, by rw [e2, List.length_append]; simp; omega, by rw [e3]; exact hold, hnew1, fun v hv => ?_, f.low, fun v a b => ?_, fun v a b => ?_, fun h => ?_, fun h => ?_⟩
    · obtain ⟨hv1, hv2⟩ := mem_newer.1 hv
      obtain ⟨g1, g2⟩ := f.new2 v (mem_newer.2 ⟨hsub.subset hv1, hv2⟩)
      have hne : v ≠ m.number := fun e => by
        subst e
        have h1 := f.new1
        unfold newer at h1
        rw [nums_split hd hn, List.filter_append, List.filter_cons, if_pos (by simpa using hv2), List.nodup_append] at h1
        obtain ⟨_, h3, h4⟩ := h1
        have hv1 : m.number ∈ nums (S.flying.take n ++ S.flying.drop (n + 1)) := hv1
        rw [nums_append, List.mem_append] at hv1
        rcases hv1 with hv1 | hv1
        · exact h4 m.number (List.mem_filter.2 ⟨hv1, by simpa using hv2⟩) m.number (by simp) rfl
        · exact (List.nodup_cons.1 h3).1 (List.mem_filter.2 ⟨hv1, by simpa using hv2⟩)
      have hnk : v ∉ ((E.learn window tk).keep window m).kept.map IMsg.number := fun g => by
        obtain ⟨x, x1, x2⟩ := List.mem_map.1 g
        rcases keep_sub x1 with x1 | rfl
        · exact g2 (List.mem_map.2 ⟨x, by rwa [a4] at x1, x2⟩)
        · exact hne x2.symm
      refine ⟨?_, fun g => hnk ?_⟩
      · rw [e6]
        by_cases hle : v ≤ E.taken + k
        · exact absurd (hk.were v (by rw [k1, a1]; exact g1) (by rw [k1, a1]; exact hle)) hnk
        · omega
      · rw [w4] at g
        obtain ⟨x, x1, x2⟩ := List.mem_map.1 g
        exact List.mem_map.2 ⟨x, ((hk.kept x).1 x1).1, x2⟩
    · rw [e5] at b; rw [e3]; exact f.aU v a b
    · rw [e6] at a
      rw [w4]
      rcases f.aD v (by omega) b with g | g
      · rcases hmem v g with g | g
        · exact .inl g
        · rw [hn] at g
          have g : m.number = v := by simpa using g
          refine .inr (hin v a ?_)
          rw [← g]
          have b' : v ≤ S.known + min window S.waiting.length := b
          have := p.kb
          exact keep_in (by rw [a1]; omega) (by rw [a1]; omega)
      · refine .inr (hin v a ?_)
        obtain ⟨x, x1, x2⟩ := List.mem_map.1 g
        exact List.mem_map.2 ⟨x, keep_sup (by rwa [a4]), x2⟩
    · exact hall tk _ hr e4 h
    · rw [w3] at h255 ⊢
      exact ⟨_, by rw [e2]; simp, tellD_word _ h255⟩
/-- The server makes a message for this line. -/
theorem Flow.make (f : Flow L q window E S) (kb : S.known ≤ E.taken) (w4 : window ≤ 4) (o : ROp) (hr : readD (ckd ((S.next o).bytes S.taken)) = some (S.taken, some (S.next o))) : Flow L q window E (S.make o window) := by
  have hs := f.sane.make o hr
  obtain ⟨a1, a2, a3, _⟩ := make_fields S o window
  have e := make_sentTo S o window
  have efl := make_flying S o window
  by_cases hw : S.waiting.length + 1 ≤ window
  · rw [if_pos hw] at e efl
    have hst : S.sentTo window = S.made := by unfold IEnd.sentTo IEnd.made; omega
    have hn : nums [ckd ((S.next o).bytes S.taken)] = [S.made + 1] := by
      simp only [nums, List.filterMap_cons, numD_msg hr, List.filterMap_nil]; rfl
    have hpl := f.place w4 (more := [S.made + 1]) (B := S.made + 1) (by simp) (fun x hx => by
      obtain rfl : x = S.made + 1 := by simpa using hx
      omega) (by omega) (by
      have : S.made = S.known + S.waiting.length := rfl
      omega)
    simp only [List.length_cons, List.length_nil] at hpl
    rw [List.take_of_length_le (by simp; omega)] at efl
    obtain ⟨o1, o2⟩ := hear_old f.low (fr := [ckd ((S.next o).bytes S.taken)]) (by rw [hn]; intro v hv; obtain rfl : v = S.made + 1 := by simpa using hv
                                                                                   omega) (by rw [hn]; rfl)
    refine ⟨hs, f.few, ?_, ?_, ?_, by rw [e]; have := f.low; omega, ?_, ?_, ?_, ?_⟩
    · rw [efl, List.countP_append, o1]; exact f.old
    · rw [efl, newer_append, o2, hn, List.nodup_append]
      refine ⟨f.new1, by simp, fun a ha b hb hab => ?_⟩
      have g1 := f.sane.fly a (mem_newer.1 ha).1
      obtain rfl : b = S.made + 1 := by simpa using hb
      omega
    · intro v hv
      rw [efl, newer_append, o2, hn, List.mem_append] at hv
      rcases hv with hv | hv
      · exact f.new2 v hv
      · obtain rfl : v = S.made + 1 := by simpa using hv
        refine ⟨by have := f.sane.tak; omega, fun hk => ?_⟩
        obtain ⟨m, m1, m2⟩ := List.mem_map.1 hk
        have := f.sane.kept m m1
        omega
    · rw [a1, a3]; exact f.aU
    · intro v a b
      rw [e] at b
      rw [efl, nums_append, hn, List.mem_append]
      by_cases hv : v ≤ S.sentTo window
      · rcases f.aD v a hv with g | g
        · exact .inl (.inl g)
        · exact .inr g
      · exact .inl (.inr (by simp; omega))
    · rw [a1]
      intro h
      obtain ⟨x, x1, x2⟩ := f.bU h
      exact ⟨x, by rw [efl]; exact List.mem_append_left _ x1, x2⟩
    · rw [a2]; exact f.bD
  · rw [if_neg hw] at e efl
    exact ⟨hs, f.few, by rw [efl]; exact f.old, by rw [efl]; exact f.new1, by rw [efl]; exact f.new2, by rw [e]; exact f.low, by rw [a1, a3]; exact f.aU, by rw [e, efl]; exact f.aD, by rw [a1, efl]; exact f.bU, by rw [a2]; exact f.bD⟩
theorem Flow.makes (w4 : window ≤ 4) : ∀ (os : List ROp) {S : IEnd}, Flow L q window E S → S.known ≤ E.taken → (∀ m ∈ (os.foldl (fun Z o => Z.make o window) S).waiting, readD (ckd (m.bytes S.taken)) = some (S.taken, some m)) → Flow L q window E (os.foldl (fun Z o => Z.make o window) S)
  | [], _, f, _, _ => f
  | o :: os, S, f, hk, hr => by
    obtain ⟨a1, a2, _, a4⟩ := make_fields S o window
    have hin : ∀ (os : List ROp) (Z : IEnd) (m : IMsg), m ∈ Z.waiting → m ∈ (os.foldl (fun Z o => Z.make o window) Z).waiting := fun os => by
      induction os with
      | nil => exact fun Z m h => h
      | cons o os ih => exact fun Z m h => ih _ m (by rw [(make_fields Z o window).2.2.2]; simp [h])
    simp only [List.foldl_cons] at hr ⊢
    exact Flow.makes w4 os (f.make hk w4 o (hr _ (hin os _ _ (by rw [a4]; simp)))) (by rw [a2]; exact hk) (by rw [a1]; exact hr)
/-- At rest nobody waits. -/
theorem Flow.rest (f : Flow L q window E S) (w1 : 1 ≤ window) (ka : E.known ≤ S.taken) (kb : S.known ≤ E.taken) (h1 : E.flying = []) (h2 : S.flying = []) : E.waiting = [] ∧ S.waiting = [] := by
  have e1 : E.known = S.taken := by
    by_cases h : E.known < S.taken
    · obtain ⟨x, a, _⟩ := f.bU h; rw [h2] at a; simp at a
    · omega
  have e2 : S.known = E.taken := by
    by_cases h : S.known < E.taken
    · obtain ⟨x, a, _⟩ := f.bD h; rw [h1] at a; simp at a
    · omega
  refine ⟨?_, ?_⟩
  · cases hz : E.waiting with
    | nil => rfl
    | cons m l =>
      exfalso
      rcases f.aU (S.taken + 1) (by omega) (by unfold IEnd.made; rw [hz, List.length_cons]; omega) with g | g
      · rw [h1] at g; simp [nums] at g
      · obtain ⟨x, x1, x2⟩ := List.mem_map.1 g
        exact (nextKept_iff S).1 f.sane.nB x x1 x2
  · cases hz : S.waiting with
    | nil => rfl
    | cons m l =>
      exfalso
      rcases f.aD (E.taken + 1) (by omega) (by unfold IEnd.sentTo; rw [hz, List.length_cons]; omega) with g | g
      · rw [h2] at g; simp [nums] at g
      · obtain ⟨x, x1, x2⟩ := List.mem_map.1 g
        exact (nextKept_iff E).1 f.sane.nA x x1 x2
end
end Go.Proofs.Ytemkgikncmhoaaa

