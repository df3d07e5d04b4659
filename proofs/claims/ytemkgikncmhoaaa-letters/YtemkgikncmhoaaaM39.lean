import Derived.Test.YtemkgikncmhoaaaM21
import Derived.Test.YtemkgikncmhoaaaM37
import Derived.Test.YtemkgikncmhoaaaM38
/-
  weave: the calls of a fit room. Own work.
-/
namespace Go.Proofs.Ytemkgikncmhoaaa
open Go.RowKit

/-- The room behind a call. -/
def After (own : Nat → Tag) (rid b : Nat) (w : World) (X' : IRoom) (w' : World) : Prop := ∃ own', RoomX own' rid w' b X' ∧ Upd own own' (inRoom rid) w w'
/-- What a fate does to a room. -/
inductive Moved (X : IRoom) : IRoom → Prop
  | air {X' : IRoom} (a : Air X X') : Moved X X'
  | up (i n : Nat) (hi : i < X.texts.length) : Moved X (X.up i n)
  | down (i n : Nat) (hi : i < X.texts.length) : Moved X (X.down i n)
theorem Moved.fit {X X' : IRoom} (m : Moved X X') (h : Fit X) : Fit X' ∧ X'.texts.length = X.texts.length ∧ X'.window = X.window := by
  cases m with
  | air a => exact ⟨a.fit h, by rw [a.texts], a.window⟩
  | up i n hi => exact ⟨h.up hi n, by rw [(up_len h hi n).1], (up_len h hi n).2⟩
  | down i n hi => exact ⟨h.down hi n, (down_len h hi n).1, (down_len h hi n).2⟩
section
variable {own : Nat → Tag} {rid b i : Nat} {X : IRoom} {w : World}
theorem Fit.hi4 (f : Fit X) (hi : i < X.texts.length) : i < 4 := by
  obtain ⟨us, ds, T, hr⟩ := f.rows
  have := hr.n4
  omega
theorem Fit.win (f : Fit X) : 1 ≤ X.window ∧ X.window ≤ 4 := by
  obtain ⟨us, ds, T, hr⟩ := f.rows
  exact ⟨hr.w1, hr.w4⟩
theorem Fit.num (f : Fit X) : 1 ≤ X.texts.length ∧ X.texts.length ≤ 4 := by
  obtain ⟨us, ds, T, hr⟩ := f.rows
  exact ⟨hr.n1, hr.n4⟩
theorem Fit.lens (f : Fit X) (hi : i < X.texts.length) : (X.tx i).length ≤ 240 ∧ (X.e i).flying.length ≤ 12 ∧ (X.s i).flying.length ≤ 12 ∧ (X.e i).waiting.length ≤ X.window := by
  obtain ⟨us, ds, T, hr⟩ := f.rows
  obtain ⟨g1, g2, g3⟩ := hr.at' hi
  obtain ⟨_, hw, _⟩ := hr.line i _ _ _ g1 g2 g3
  exact ⟨hr.text240 g1 g2 g3, (hr.waitA g1 g2 g3).2.2.2, (hr.waitB g1 g2 g3).2.2.2, hw⟩
theorem kRead (h : RoomX own rid w b X) (f : Fit X) (hi : i < X.texts.length) : Calls Try.prog 15 #[.pointer (some ⟨b, 0, none⟩), .int .i64 i] w fun e w' => e = .returned (.tuple #[bstr (X.tx i), .int .i64 0]) ∧ w' = w := by
  obtain ⟨g1, g2, g3⟩ := f.get hi
  exact xread_yes own rid b X i _ _ _ w h g1 g2 g3
theorem kWaits (h : RoomX own rid w b X) (f : Fit X) (hi : i < X.texts.length) : Calls Try.prog 19 #[.pointer (some ⟨b, 0, none⟩), .int .i64 i] w fun e w' => e = .returned (.tuple #[.int .i64 (X.e i).waiting.length, .int .i64 0]) ∧ w' = w := by
  obtain ⟨g1, g2, g3⟩ := f.get hi
  exact xwaits_yes own rid b X i _ _ _ w h g1 g2 g3
theorem kFlying_0 (h : RoomX own rid w b X) (f : Fit X) (hi : i < X.texts.length) : Calls Try.prog 26 #[.pointer (some ⟨b, 0, none⟩), .int .i64 i, .bool false] w fun e w' => e = .returned (.tuple #[.int .i64 (X.e i).flying.length, .int .i64 0]) ∧ w' = w := by
  obtain ⟨g1, g2, g3⟩ := f.get hi
  exact xflying_0 own rid b X i _ _ _ w h g1 g2 g3
theorem kTick_0 (h : RoomX own rid w b X) (f : Fit X) (hi : i < X.texts.length) : Calls Try.prog 34 #[.pointer (some ⟨b, 0, none⟩), .int .i64 i, .bool false] w fun e w' => e = .returned (.int .i64 0) ∧ After own rid b w (X.tickA i) w' := by
  obtain ⟨us, ds, T, hr⟩ := f.rows
  obtain ⟨g1, g2, g3⟩ := hr.at' hi
  obtain ⟨a1, a2, a3, a4⟩ := hr.waitA g1 g2 g3
  have : (X.e i).made = (X.e i).known + (X.e i).waiting.length := rfl
  exact xTick_0 own rid b X i _ _ _ w h g1 g2 g3 (f.hi4 hi) hr.w4 (by omega) (by omega) a4 a1
theorem kFlying_1 (h : RoomX own rid w b X) (f : Fit X) (hi : i < X.texts.length) : Calls Try.prog 26 #[.pointer (some ⟨b, 0, none⟩), .int .i64 i, .bool true] w fun e w' => e = .returned (.tuple #[.int .i64 (X.s i).flying.length, .int .i64 0]) ∧ w' = w := by
  obtain ⟨g1, g2, g3⟩ := f.get hi
  exact xflying_1 own rid b X i _ _ _ w h g1 g2 g3
theorem kTick_1 (h : RoomX own rid w b X) (f : Fit X) (hi : i < X.texts.length) : Calls Try.prog 34 #[.pointer (some ⟨b, 0, none⟩), .int .i64 i, .bool true] w fun e w' => e = .returned (.int .i64 0) ∧ After own rid b w (X.tickB i) w' := by
  obtain ⟨us, ds, T, hr⟩ := f.rows
  obtain ⟨g1, g2, g3⟩ := hr.at' hi
  obtain ⟨a1, a2, a3, a4⟩ := hr.waitB g1 g2 g3
  have : (X.s i).made = (X.s i).known + (X.s i).waiting.length := rfl
  exact xTick_1 own rid b X i _ _ _ w h g1 g2 g3 (f.hi4 hi) hr.w4 (by omega) (by omega) a4 a1
theorem kUp (h : RoomX own rid w b X) (f : Fit X) (hi : i < X.texts.length) {n : Nat} (hn : n < (X.e i).flying.length) : Calls Try.prog 27 #[.pointer (some ⟨b, 0, none⟩), .int .i64 i, .bool false, .int .i64 n, .int .i64 0] w fun e w' => e = .returned (.int .i64 0) ∧ After own rid b w (X.up i n) w' := by
  obtain ⟨us, ds, T, hr⟩ := f.rows
  obtain ⟨g1, g2, g3⟩ := hr.at' hi
  obtain ⟨A, h⟩ := h.addr
  have hd : (X.e i).flying[n]? = some (X.e i).flying[n] := List.getElem?_eq_getElem hn
  unfold IRoom.up
  rw [hd]
  refine (xR_up A own rid b X us ds T hr i n _ _ _ _ w h g1 g2 g3 hd).mono ?_
  rintro e w' ⟨rfl, own', a1, a2⟩
  exact ⟨rfl, own', a1.room, a2⟩
theorem kDown (h : RoomX own rid w b X) (f : Fit X) (hi : i < X.texts.length) {n : Nat} (hn : n < (X.s i).flying.length) : Calls Try.prog 27 #[.pointer (some ⟨b, 0, none⟩), .int .i64 i, .bool true, .int .i64 n, .int .i64 0] w fun e w' => e = .returned (.int .i64 0) ∧ After own rid b w (X.down i n) w' := by
  obtain ⟨us, ds, T, hr⟩ := f.rows
  obtain ⟨g1, g2, g3⟩ := hr.at' hi
  obtain ⟨A, h⟩ := h.addr
  have hd : (X.s i).flying[n]? = some (X.s i).flying[n] := List.getElem?_eq_getElem hn
  unfold IRoom.down
  rw [hd]
  refine (xR_down A own rid b X us ds T hr i n _ _ _ _ w h g1 g2 g3 hd).mono ?_
  rintro e w' ⟨rfl, own', a1, a2⟩
  exact ⟨rfl, own', a1.room, a2⟩
/-- How what flies is spoilt, by the program. -/
theorem Flies.spoils {own : List GMsg} {taken : Nat} {d : ByteArray} (h : Flies own taken d) (ht : taken ≤ 255) (hb : ∀ n tk, 1 ≤ n → n ≤ own.length → tk ≤ 255 → Bytes ((imsg own n).bytes tk)) :
    (readD d = none ∧ ∀ w, Calls Try.prog 77 #[.string d] w fun e w' => e = .returned (.bool true) ∧ w' = w) ∨
    (readD d ≠ none ∧ (∀ w, Calls Try.prog 77 #[.string d] w fun e w' => e = .returned (.bool false) ∧ w' = w) ∧ (∀ w, Calls Try.prog 78 #[.string d] w fun e w' => e = .returned (.string (spoil d)) ∧ Below w.heap.size w w')) := by
  rcases h with h | ⟨d0, h, rfl⟩
  · rcases h with ⟨n, tk, h1, h2, h3⟩ | ⟨tk, h3⟩
    · obtain ⟨_, _, _, _, r5, r6, _⟩ := reads_msg _ _ (hb n tk h1 h2 (by omega))
      exact .inr ⟨by rw [readD_msg _ _ (hb n tk h1 h2 (by omega))]; simp, r5, r6⟩
    · obtain ⟨_, _, _, r4, r5, _⟩ := reads_word tk (by omega)
      exact .inr ⟨by rw [readD_word tk (by omega)]; simp, r4, r5⟩
  · rcases h with ⟨n, tk, h1, h2, h3⟩ | ⟨tk, h3⟩
    · obtain ⟨_, _, _, _, _, _, _, r8⟩ := reads_msg _ _ (hb n tk h1 h2 (by omega))
      exact .inl ⟨readD_msg_spoilt _ _, r8⟩
    · obtain ⟨_, _, _, _, _, _, r7⟩ := reads_word tk (by omega)
      exact .inl ⟨readD_word_spoilt _, r7⟩
theorem kLose_0 (h : RoomX own rid w b X) (f : Fit X) (hi : i < X.texts.length) {n : Nat} (hn : n < (X.e i).flying.length) : Calls Try.prog 27 #[.pointer (some ⟨b, 0, none⟩), .int .i64 i, .bool false, .int .i64 n, .int .i64 1] w fun e w' => e = .returned (.int .i64 0) ∧ After own rid b w (X.setA i (X.tx i) ((X.e i).lose n)) w' := by
  obtain ⟨g1, g2, g3⟩ := f.get hi
  obtain ⟨A, h⟩ := h.addr
  refine (xR_lose_0 A own rid b X i n _ _ _ w h g1 g2 g3 (f.hi4 hi) hn (f.lens hi).2.1).mono ?_
  rintro e w' ⟨rfl, own', a1, a2⟩
  exact ⟨rfl, own', a1.room, a2⟩
theorem kDouble_0 (h : RoomX own rid w b X) (f : Fit X) (hi : i < X.texts.length) {n : Nat} {d : ByteArray} (hd : (X.e i).flying[n]? = some d) : Calls Try.prog 27 #[.pointer (some ⟨b, 0, none⟩), .int .i64 i, .bool false, .int .i64 n, .int .i64 2] w fun e w' => e = .returned (.int .i64 0) ∧ After own rid b w (X.setA i (X.tx i) ((X.e i).fly d)) w' := by
  obtain ⟨g1, g2, g3⟩ := f.get hi
  obtain ⟨A, h⟩ := h.addr
  refine (xR_double_0 A own rid b X i n _ _ _ _ w h g1 g2 g3 (f.hi4 hi) hd (f.lens hi).2.1).mono ?_
  rintro e w' ⟨rfl, own', a1, a2⟩
  exact ⟨rfl, own', a1.room, a2⟩
/-- Spoiling, once. -/
theorem kSpoil_0 (h : RoomX own rid w b X) (f : Fit X) (hi : i < X.texts.length) {n : Nat} {d : ByteArray} (hd : (X.e i).flying[n]? = some d) : Calls Try.prog 27 #[.pointer (some ⟨b, 0, none⟩), .int .i64 i, .bool false, .int .i64 n, .int .i64 3] w fun e w' => (readD d = none ∧ e = .returned (.int .i64 8) ∧ After own rid b w X w') ∨ (readD d ≠ none ∧ e = .returned (.int .i64 0) ∧ After own rid b w (X.setA i (X.tx i) { X.e i with flying := (X.e i).flying.set n (spoil d) }) w') := by
  obtain ⟨us, ds, T, hr⟩ := f.rows
  obtain ⟨g1, g2, g3⟩ := hr.at' hi
  obtain ⟨A, h⟩ := h.addr
  have hf := (hr.pair hi).a.flies d (List.mem_of_getElem? hd)
  have ht := (hr.waitA g1 g2 g3).2.2.1
  rcases hf.spoils (by omega) (fun n tk a b c => hr.bytesA g1 g2 g3 a b c) with ⟨r, s⟩ | ⟨r, s1, s2⟩
  · refine (xR_twice_0 A own rid b X i n _ _ _ _ w h g1 g2 g3 hd (f.lens hi).2.1 s).mono ?_
    rintro e w' ⟨rfl, own', a1, a2⟩
    exact .inl ⟨r, rfl, own', a1.room, a2⟩
  · refine (xR_spoil_0 A own rid b X i n _ _ _ _ _ w h g1 g2 g3 (f.hi4 hi) hd (f.lens hi).2.1 s1 s2).mono ?_
    rintro e w' ⟨rfl, own', a1, a2⟩
    exact .inr ⟨r, rfl, own', a1.room, a2⟩
/-- A fate, whichever. -/
theorem kFate_0 (h : RoomX own rid w b X) (f : Fit X) (hi : i < X.texts.length) {n : Nat} (hn : n < (X.e i).flying.length) (q : Nat) (hq : q < 4) : Calls Try.prog 27 #[.pointer (some ⟨b, 0, none⟩), .int .i64 i, .bool false, .int .i64 n, .int .i64 q] w fun e w' => ∃ (r : Int) (X' : IRoom), (r = 0 ∨ r = 8) ∧ e = .returned (.int .i64 r) ∧ Moved X X' ∧ After own rid b w X' w' := by
  have hd : (X.e i).flying[n]? = some (X.e i).flying[n] := List.getElem?_eq_getElem hn
  match q, hq with
  | 0, _ =>
    refine (kUp h f hi hn).mono ?_
    rintro e w' ⟨rfl, a⟩
    exact ⟨0, _, .inl rfl, rfl, .up i n hi, a⟩
  | 1, _ =>
    refine (kLose_0 h f hi hn).mono ?_
    rintro e w' ⟨rfl, a⟩
    exact ⟨0, _, .inl rfl, rfl, .air (f.loseA hi n), a⟩
  | 2, _ =>
    refine (kDouble_0 h f hi hd).mono ?_
    rintro e w' ⟨rfl, a⟩
    exact ⟨0, _, .inl rfl, rfl, .air (f.doubleA hi (List.mem_of_getElem? hd)), a⟩
  | 3, _ =>
    refine (kSpoil_0 h f hi hd).mono ?_
    rintro e w' (⟨_, rfl, a⟩ | ⟨r, rfl, a⟩)
    · exact ⟨8, _, .inr rfl, rfl, .air (.refl X), a⟩
    · exact ⟨0, _, .inl rfl, rfl, .air (f.spoilA hi hd r), a⟩
theorem kLose_1 (h : RoomX own rid w b X) (f : Fit X) (hi : i < X.texts.length) {n : Nat} (hn : n < (X.s i).flying.length) : Calls Try.prog 27 #[.pointer (some ⟨b, 0, none⟩), .int .i64 i, .bool true, .int .i64 n, .int .i64 1] w fun e w' => e = .returned (.int .i64 0) ∧ After own rid b w (X.setB i ((X.s i).lose n)) w' := by
  obtain ⟨g1, g2, g3⟩ := f.get hi
  obtain ⟨A, h⟩ := h.addr
  refine (xR_lose_1 A own rid b X i n _ _ _ w h g1 g2 g3 (f.hi4 hi) hn (f.lens hi).2.2.1).mono ?_
  rintro e w' ⟨rfl, own', a1, a2⟩
  exact ⟨rfl, own', a1.room, a2⟩
theorem kDouble_1 (h : RoomX own rid w b X) (f : Fit X) (hi : i < X.texts.length) {n : Nat} {d : ByteArray} (hd : (X.s i).flying[n]? = some d) : Calls Try.prog 27 #[.pointer (some ⟨b, 0, none⟩), .int .i64 i, .bool true, .int .i64 n, .int .i64 2] w fun e w' => e = .returned (.int .i64 0) ∧ After own rid b w (X.setB i ((X.s i).fly d)) w' := by
  obtain ⟨g1, g2, g3⟩ := f.get hi
  obtain ⟨A, h⟩ := h.addr
  refine (xR_double_1 A own rid b X i n _ _ _ _ w h g1 g2 g3 (f.hi4 hi) hd (f.lens hi).2.2.1).mono ?_
  rintro e w' ⟨rfl, own', a1, a2⟩
  exact ⟨rfl, own', a1.room, a2⟩
/-- Spoiling, once. -/
theorem kSpoil_1 (h : RoomX own rid w b X) (f : Fit X) (hi : i < X.texts.length) {n : Nat} {d : ByteArray} (hd : (X.s i).flying[n]? = some d) : Calls Try.prog 27 #[.pointer (some ⟨b, 0, none⟩), .int .i64 i, .bool true, .int .i64 n, .int .i64 3] w fun e w' => (readD d = none ∧ e = .returned (.int .i64 8) ∧ After own rid b w X w') ∨ (readD d ≠ none ∧ e = .returned (.int .i64 0) ∧ After own rid b w (X.setB i { X.s i with flying := (X.s i).flying.set n (spoil d) }) w') := by
  obtain ⟨us, ds, T, hr⟩ := f.rows
  obtain ⟨g1, g2, g3⟩ := hr.at' hi
  obtain ⟨A, h⟩ := h.addr
  have hf := (hr.pair hi).b.flies d (List.mem_of_getElem? hd)
  have ht := (hr.waitB g1 g2 g3).2.2.1
  rcases hf.spoils (by omega) (fun n tk a b c => hr.bytesB g1 g2 g3 a b c) with ⟨r, s⟩ | ⟨r, s1, s2⟩
  · refine (xR_twice_1 A own rid b X i n _ _ _ _ w h g1 g2 g3 hd (f.lens hi).2.2.1 s).mono ?_
    rintro e w' ⟨rfl, own', a1, a2⟩
    exact .inl ⟨r, rfl, own', a1.room, a2⟩
  · refine (xR_spoil_1 A own rid b X i n _ _ _ _ _ w h g1 g2 g3 (f.hi4 hi) hd (f.lens hi).2.2.1 s1 s2).mono ?_
    rintro e w' ⟨rfl, own', a1, a2⟩
    exact .inr ⟨r, rfl, own', a1.room, a2⟩
/-- A fate, whichever. -/
theorem kFate_1 (h : RoomX own rid w b X) (f : Fit X) (hi : i < X.texts.length) {n : Nat} (hn : n < (X.s i).flying.length) (q : Nat) (hq : q < 4) : Calls Try.prog 27 #[.pointer (some ⟨b, 0, none⟩), .int .i64 i, .bool true, .int .i64 n, .int .i64 q] w fun e w' => ∃ (r : Int) (X' : IRoom), (r = 0 ∨ r = 8) ∧ e = .returned (.int .i64 r) ∧ Moved X X' ∧ After own rid b w X' w' := by
  have hd : (X.s i).flying[n]? = some (X.s i).flying[n] := List.getElem?_eq_getElem hn
  match q, hq with
  | 0, _ =>
    refine (kDown h f hi hn).mono ?_
    rintro e w' ⟨rfl, a⟩
    exact ⟨0, _, .inl rfl, rfl, .down i n hi, a⟩
  | 1, _ =>
    refine (kLose_1 h f hi hn).mono ?_
    rintro e w' ⟨rfl, a⟩
    exact ⟨0, _, .inl rfl, rfl, .air (f.loseB hi n), a⟩
  | 2, _ =>
    refine (kDouble_1 h f hi hd).mono ?_
    rintro e w' ⟨rfl, a⟩
    exact ⟨0, _, .inl rfl, rfl, .air (f.doubleB hi (List.mem_of_getElem? hd)), a⟩
  | 3, _ =>
    refine (kSpoil_1 h f hi hd).mono ?_
    rintro e w' (⟨_, rfl, a⟩ | ⟨r, rfl, a⟩)
    · exact ⟨8, _, .inr rfl, rfl, .air (.refl X), a⟩
    · exact ⟨0, _, .inl rfl, rfl, .air (f.spoilB hi hd r), a⟩
theorem Fit.ok (f : Fit X) (hi : i < X.texts.length) : (X.e i).Ok := by
  obtain ⟨us, ds, T, hr⟩ := f.rows
  obtain ⟨g1, g2, g3⟩ := hr.at' hi
  obtain ⟨hl, _, hu, _⟩ := hr.line i _ _ _ g1 g2 g3
  obtain ⟨_, _, a3, a4⟩ := hr.waitA g1 g2 g3
  exact ⟨by rw [hl.a.made]; omega, a3, a4, by rw [hl.a.opn, formsOf_length]; omega⟩
/-- May this client make one more? -/
def IRoom.may (X : IRoom) (i : Nat) : Prop := (X.e i).waiting.length < X.window ∧ (X.e i).made < 60
theorem refusal_0 (hm : X.may i) : (X.e i).refusal X.window = 0 := by
  unfold IEnd.refusal
  rw [if_neg (by have := hm.1; omega), if_neg (by have := hm.2; omega)]
theorem refusal_no (hm : ¬ X.may i) : (X.e i).refusal X.window = 5 ∧ X.window ≤ (X.e i).waiting.length ∨ (X.e i).refusal X.window = 6 ∧ (X.e i).waiting.length < X.window ∧ 60 ≤ (X.e i).made := by
  unfold IEnd.refusal
  unfold IRoom.may at hm
  split
  · rename_i h; exact .inl ⟨rfl, h⟩
  · rename_i h
    split
    · rename_i h2; exact .inr ⟨rfl, by omega, h2⟩
    · omega
theorem kPut (h : RoomX own rid w b X) (f : Fit X) (hi : i < X.texts.length) (p l : Nat) (hp : p ≤ (X.tx i).length) (hl : 33 ≤ l ∧ l ≤ 126) :
    Calls Try.prog 25 #[.pointer (some ⟨b, 0, none⟩), .int .i64 i, .int .i64 p, .int .u8 l] w fun e w' => (e = .returned (.int .i64 0) ∧ X.may i ∧ (X.tx i).length < 60 ∧ After own rid b w (X.made i ⟨i, 1, p, l⟩) w') ∨ (∃ r : Int, (r = 5 ∧ X.window ≤ (X.e i).waiting.length ∨ r = 6 ∧ (60 ≤ (X.e i).made ∨ 60 ≤ (X.tx i).length)) ∧ e = .returned (.int .i64 r) ∧ ¬ (X.may i ∧ (X.tx i).length < 60) ∧ Below w.heap.size w w') := by
  obtain ⟨g1, g2, g3⟩ := f.get hi
  by_cases hm : X.may i
  · by_cases ht : (X.tx i).length < 60
    · refine (xput_ok own rid b X i p l _ _ _ w h g1 g2 g3 hp hl (f.ok hi) f.win.2 (refusal_0 hm) ht (f.hi4 hi)).mono ?_
      rintro e w' ⟨rfl, own', a1, a2⟩
      refine .inl ⟨rfl, hm, ht, own', ?_, a2⟩
      have e : insB (X.tx i) p l = (⟨i, 1, p, l⟩ : ROp).does (X.tx i) := by simp [insB, ROp.does, byteOf]
      rw [e] at a1
      exact a1
    · refine (xput_many own rid b X i p l _ _ _ w h g1 g2 g3 hp hl (f.ok hi) f.win.2 (refusal_0 hm) (by omega)).mono ?_
      rintro e w' ⟨rfl, a⟩
      exact .inr ⟨6, .inr ⟨rfl, .inr (by omega)⟩, rfl, fun q => ht q.2, a⟩
  · have hn := refusal_no hm
    refine (xput_refused own rid b X i p l _ _ _ w h g1 g2 g3 hp hl (f.ok hi) f.win.2 (by rcases hn with ⟨e, _⟩ | ⟨e, _⟩ <;> rw [e] <;> decide)).mono ?_
    rintro e w' ⟨rfl, a⟩
    exact .inr ⟨_, hn.imp (fun q => q) (fun q => ⟨q.1, .inl q.2.2⟩), rfl, fun q => hm q.1, a⟩
theorem kCut (h : RoomX own rid w b X) (f : Fit X) (hi : i < X.texts.length) (p : Nat) (hp : p < (X.tx i).length) :
    Calls Try.prog 37 #[.pointer (some ⟨b, 0, none⟩), .int .i64 i, .int .i64 p] w fun e w' => (e = .returned (.int .i64 0) ∧ X.may i ∧ After own rid b w (X.made i ⟨i, 2, p, 0⟩) w') ∨ (∃ r : Int, (r = 5 ∧ X.window ≤ (X.e i).waiting.length ∨ r = 6 ∧ 60 ≤ (X.e i).made) ∧ e = .returned (.int .i64 r) ∧ ¬ X.may i ∧ Below w.heap.size w w') := by
  obtain ⟨g1, g2, g3⟩ := f.get hi
  by_cases hm : X.may i
  · refine (xcut_ok own rid b X i p _ _ _ w h g1 g2 g3 hp (f.ok hi) f.win.2 (refusal_0 hm) (f.lens hi).1 (f.hi4 hi)).mono ?_
    rintro e w' ⟨rfl, own', a1, a2⟩
    refine .inl ⟨rfl, hm, own', ?_, a2⟩
    have e : delB (X.tx i) p = (⟨i, 2, p, 0⟩ : ROp).does (X.tx i) := by simp [delB, ROp.does]
    rw [e] at a1
    exact a1
  · have hn := refusal_no hm
    refine (xcut_refused own rid b X i p _ _ _ w h g1 g2 g3 hp (f.ok hi) f.win.2 (by rcases hn with ⟨e, _⟩ | ⟨e, _⟩ <;> rw [e] <;> decide)).mono ?_
    rintro e w' ⟨rfl, a⟩
    exact .inr ⟨_, hn.imp (fun q => q) (fun q => ⟨q.1, q.2.2⟩), rfl, hm, a⟩
theorem Fit.put (f : Fit X) (hi : i < X.texts.length) {p l : Nat} (hp : p ≤ (X.tx i).length) (hl : 33 ≤ l ∧ l ≤ 126) (hm : X.may i) : Fit (X.made i ⟨i, 1, p, l⟩) :=
  f.make hi _ rfl ⟨⟨by simp, by have := f.hi4 hi; simp; omega⟩, by simp; omega⟩ (.inr (.inl ⟨rfl, by simp, by simpa using hp⟩)) hm.1 hm.2
theorem Fit.cut (f : Fit X) (hi : i < X.texts.length) {p : Nat} (hp : p < (X.tx i).length) (hm : X.may i) : Fit (X.made i ⟨i, 2, p, 0⟩) :=
  f.make hi _ rfl ⟨⟨by simp, by have := f.hi4 hi; simp; omega⟩, by simp⟩ (.inr (.inr ⟨rfl, by simp, by simpa using hp⟩)) hm.1 hm.2
end
end Go.Proofs.Ytemkgikncmhoaaa

/-
  weavekeep: pick, letter, alike. Own work.
-/
namespace Go.Proofs.Ytemkgikncmhoaaa
open Go.RowKit
attribute [local go_sem ↓] Go.wp_at_zero Go.wp_at_succ

/-- Which of n things a raw number speaks of. -/
def pickN (c : Int) (n : Nat) : Nat := ((if c < 0 then -(c + 1) else c) % (n : Int)).toNat
theorem pickN_lt (c : Int) {n : Nat} (h : 1 ≤ n) : pickN c n < n := by
  unfold pickN
  have h1 := Int.emod_nonneg (if c < 0 then -(c + 1) else c) (show (n : Int) ≠ 0 by omega)
  have h2 := Int.emod_lt_of_pos (if c < 0 then -(c + 1) else c) (show (0 : Int) < (n : Int) by omega)
  omega
theorem pickN_cast (c : Int) {n : Nat} (h : 1 ≤ n) : ((pickN c n : Nat) : Int) = (if c < 0 then -(c + 1) else c) % (n : Int) := by
  unfold pickN
  have h1 := Int.emod_nonneg (if c < 0 then -(c + 1) else c) (show (n : Int) ≠ 0 by omega)
  omega
set_option maxRecDepth 100000 in
set_option maxHeartbeats 400000 in
theorem kpick (c : Int) (n : Nat) (hc : I64 c) (hn : 1 ≤ n) (hn2 : n ≤ 4611686018427387904) (w : World) :
    Calls Try.prog 20 #[.int .i64 c, .int .i64 n] w fun e w' => e = .returned (.int .i64 (pickN c n)) ∧ w' = w := by
  have HK := hide (pickN_cast c hn)
  unfold I64 at hc
  have hn0 : ¬ ((n : Int) = 0) := by omega
  have hnp : (0 : Int) < (n : Int) := by omega
  by_cases h : c < 0
  · go_enter Try.func20, Try.ntmps20
    go_wp2
    go_ret
    refine ⟨?_, rfl⟩
    have e := unhide HK
    rw [if_pos h] at e
    exact ret_int (show -(c + 1).tmod (n : Int) = _ from by rw [← Int.neg_tmod, Int.tmod_eq_emod_of_nonneg (by omega)]; exact e.symm)
  · go_enter Try.func20, Try.ntmps20
    go_wp2
    go_ret
    refine ⟨?_, rfl⟩
    have e := unhide HK
    rw [if_neg (by omega)] at e
    exact ret_int (by first | (rw [e]; done) | (rw [e]; go_arith) | (rw [e]; simp))
/-- The letter of a raw number. -/
def letterN (c : Int) : Nat := 97 + pickN c 26
theorem letterN_ok (c : Int) : 97 ≤ letterN c ∧ letterN c ≤ 122 := by have := pickN_lt c (n := 26) (by omega); unfold letterN; omega
def alphabet : ByteArray := { data := #[97, 98, 99, 100, 101, 102, 103, 104, 105, 106, 107, 108, 109, 110, 111, 112, 113, 114, 115, 116, 117, 118, 119, 120, 121, 122] }
theorem alphabet_at : ∀ q : Fin 26, (alphabet[q.1]'q.2).toNat = 97 + q.1 := by decide
set_option maxRecDepth 100000 in
set_option maxHeartbeats 400000 in
theorem kletter (c : Int) (hc : I64 c) (w : World) :
    Calls Try.prog 21 #[.int .i64 c] w fun e w' => e = .returned (.int .u8 (letterN c)) ∧ w' = w := by
  have HP := hide (fun w => kpick c 26 hc (by omega) (by omega) w)
  have hq := pickN_lt c (n := 26) (by omega)
  unfold letterN
  generalize pickN c 26 = q at *
  clear hc
  go_enter Try.func21, Try.ntmps21
  go_wp2_with (first | (go_at_call 20; refine (unhide HP _).mono ?_; rintro e w' ⟨rfl, hw'⟩; obtain rfl := hw'.symm))
  go_ret
  refine ⟨?_, rfl⟩
  have := alphabet_at ⟨q, hq⟩
  unfold alphabet at this
  simp only at this
  rw [this]
  rfl

/-- A room of weavekeep's, in memory. -/
structure KRoom (own : Nat → Tag) (w : World) (rb b : Nat) (X : IRoom) : Prop where
  box : CellsT own (2, 0, 0) w rb #[ptr b, .int .i64 X.texts.length] 36
  room : RoomX own 1 w b X
  fit : Fit X
theorem KRoom.c0 {own : Nat → Tag} {w : World} {rb b : Nat} {X : IRoom} (h : KRoom own w rb b X) : w.cell? ⟨rb, 0, none⟩ = some (.pointer (some ⟨b, 0, none⟩)) := by rw [h.box.cell]; rfl
theorem KRoom.c1 {own : Nat → Tag} {w : World} {rb b : Nat} {X : IRoom} (h : KRoom own w rb b X) : w.cell? ⟨rb, 1, none⟩ = some (.int .i64 X.texts.length) := by rw [h.box.cell]; rfl
theorem KRoom.upd {own own' : Nat → Tag} {w w' : World} {rb b : Nat} {X : IRoom} {may : Tag → Prop} (h : KRoom own w rb b X) (hu : Upd own own' may w w') (h1 : ∀ i k, ¬ may (1, i, k)) (h2 : ¬ may (2, 0, 0)) : KRoom own' w' rb b X :=
  ⟨h.box.upd hu h2, h.room.upd hu h1, h.fit⟩
theorem KRoom.after {own : Nat → Tag} {w w' : World} {rb b : Nat} {X X' : IRoom} (h : KRoom own w rb b X) (ha : After own 1 b w X' w') (hf : Fit X') (hl : X'.texts.length = X.texts.length) : ∃ own', KRoom own' w' rb b X' ∧ Upd own own' (inRoom 1) w w' := by
  obtain ⟨own', a1, a2⟩ := ha
  exact ⟨own', ⟨by rw [hl]; exact h.box.upd a2 (by simp [inRoom]), a1, hf⟩, a2⟩
set_option maxRecDepth 100000 in
set_option maxHeartbeats 400000 in
theorem kalike (own : Nat → Tag) (w : World) (rb b : Nat) (X : IRoom) (h : KRoom own w rb b X) (hs : ∀ i, i < X.texts.length → X.tx i = X.server) :
    Calls Try.prog 17 #[.pointer (some ⟨rb, 0, none⟩)] w fun e w' => e = .returned (.tuple #[bstr X.server, .bool true]) ∧ w' = w := by
  have c0 := h.c0
  have c1 := h.c1
  have HS := hide (xread_server own 1 b X w h.room)
  have HR := hide (fun i hi => hs i hi ▸ kRead (i := i) h.room h.fit hi)
  have hn := h.fit.num
  unfold bstr at HS HR ⊢
  generalize (⟨X.server.toArray⟩ : ByteArray) = s at *
  generalize X.texts.length = n at *
  clear h hs
  go_enter Try.func17, Try.ntmps17
  go_wp2_with (first | (go_at_call 15; with_reducible refine (unhide HS).mono ?_; rintro e w' ⟨rfl, hw'⟩; obtain rfl := hw'.symm))
  go_loopw [6] (fun v6 wr => ∃ c : Nat, c ≤ n ∧ v6 = .int .i64 c ∧ wr = w) (fun v6 _ => n - (intOf v6).toNat)
  case atStart => exact ⟨0, by omega, rfl, rfl⟩
  case round =>
    obtain ⟨c, hc, rfl, rfl⟩ := hrel
    by_cases hlt : c < n
    · have hlt' : (c : Int) < (n : Int) := by omega
      have H1 := hide (unhide HR c hlt)
      go_wp2_with (first | (go_at_call 15; with_reducible refine (unhide H1).mono ?_; rintro e w' ⟨rfl, hw'⟩; obtain rfl := hw'.symm))
      go_roundw
      case rel => exact ⟨c + 1, by omega, by go_num, by first | rfl | trivial⟩
      case measure => simp [intOf]; omega
    · have hlt' : ¬ (c : Int) < (n : Int) := by omega
      go_wp2
      go_ret2
      exact ⟨rfl, rfl⟩
end Go.Proofs.Ytemkgikncmhoaaa

/-
  weavekeep: flush. Own work.
-/
namespace Go.Proofs.Ytemkgikncmhoaaa
open Go.RowKit
attribute [local go_sem ↓] Go.wp_at_zero Go.wp_at_succ

/-- What holds within a pass: Y ahead of it, Z now; sm: something was delivered. -/
def FlI (Y Z : IRoom) (k c d : Nat) (sm : Bool) : Prop := (sm = true → Z.total + k + 1 ≤ 2999) ∧ (sm = false → Z = Y ∧ (∀ j, j < c → (Y.e j).flying = [] ∧ (Y.s j).flying = []) ∧ (1 ≤ d → (Y.e c).flying = []) ∧ (2 ≤ d → (Y.s c).flying = []))
section
variable {Y Z : IRoom} {k c : Nat} {sm : Bool}
theorem FlI.start : FlI Y Y k 0 0 false := ⟨fun h => by simp at h, fun _ => ⟨rfl, fun j hj => by omega, fun h => by omega, fun h => by omega⟩⟩
theorem FlI.up (h : FlI Y Z k c 0 sm) (f : Fit Z) (hc : c < Z.texts.length) (hk : Y.total + k ≤ 2999) (hn : (Z.e c).flying ≠ []) : FlI Y (Z.up c 0) k c 1 true := by
  refine ⟨fun _ => ?_, fun q => by simp at q⟩
  obtain ⟨us, ds, T, hr⟩ := f.rows
  cases hz : (Z.e c).flying with
  | nil => exact absurd hz hn
  | cons d l =>
    obtain ⟨_, _, _, hf⟩ := hr.upped' hc (n := 0) (d := d) (by rw [hz]; rfl)
    cases sm with
    | true => have := h.1 rfl; omega
    | false => have := (h.2 rfl).1; subst this; omega
theorem FlI.up0 (h : FlI Y Z k c 0 sm) (hn : (Z.e c).flying = []) : FlI Y (Z.up c 0) k c 1 sm := by
  rw [up_none (by rw [hn]; rfl)]
  refine ⟨h.1, fun q => ?_⟩
  obtain ⟨e, a, _, _⟩ := h.2 q
  subst e
  exact ⟨rfl, a, fun _ => hn, fun q => by omega⟩
theorem FlI.down (h : FlI Y Z k c 1 sm) (f : Fit Z) (hc : c < Z.texts.length) (hk : Y.total + k ≤ 2999) (hn : (Z.s c).flying ≠ []) : FlI Y (Z.down c 0) k c 2 true := by
  refine ⟨fun _ => ?_, fun q => by simp at q⟩
  obtain ⟨us, ds, T, hr⟩ := f.rows
  cases hz : (Z.s c).flying with
  | nil => exact absurd hz hn
  | cons d l =>
    obtain ⟨_, _, _, hf⟩ := hr.downed' hc (n := 0) (d := d) (by rw [hz]; rfl)
    cases sm with
    | true => have := h.1 rfl; omega
    | false => have := (h.2 rfl).1; subst this; omega
theorem FlI.down0 (h : FlI Y Z k c 1 sm) (hn : (Z.s c).flying = []) : FlI Y (Z.down c 0) k c 2 sm := by
  rw [down_none (by rw [hn]; rfl)]
  refine ⟨h.1, fun q => ?_⟩
  obtain ⟨e, a, b, _⟩ := h.2 q
  subst e
  exact ⟨rfl, a, fun _ => b (by omega), fun _ => hn⟩
theorem FlI.next (h : FlI Y Z k c 2 sm) : FlI Y Z k (c + 1) 0 sm := by
  refine ⟨h.1, fun q => ?_⟩
  obtain ⟨e, a, b, d⟩ := h.2 q
  refine ⟨e, fun j hj => ?_, fun q => by omega, fun q => by omega⟩
  by_cases hjc : j = c
  · subst hjc; exact ⟨b (by omega), d (by omega)⟩
  · exact a j (by omega)
theorem FlI.still (h : FlI Y Z k c 0 false) (hc : c = Y.texts.length) : Z = Y ∧ Y.Still := by
  obtain ⟨e, a, _⟩ := h.2 rfl
  exact ⟨e, fun j hj => a j (by omega)⟩
end
/-- Where flush is. -/
structure FlAt (own : Nat → Tag) (w : World) (rb b : Nat) (own1 : Nat → Tag) (wr : World) (Z : IRoom) : Prop where
  room : KRoom own1 wr rb b Z
  upd : Upd own own1 (inRoom 1) w wr
theorem FlAt.after {own own1 : Nat → Tag} {w wr w' : World} {rb b : Nat} {Z Z' : IRoom} (h : FlAt own w rb b own1 wr Z) (ha : After own1 1 b wr Z' w') (hf : Fit Z') (hl : Z'.texts.length = Z.texts.length) : ∃ own', FlAt own w rb b own' w' Z' := by
  obtain ⟨own', a1, a2⟩ := h.room.after ha hf hl
  exact ⟨own', a1, h.upd.trans a2⟩

set_option maxRecDepth 100000 in
set_option maxHeartbeats 1600000 in
theorem kflush (own : Nat → Tag) (w : World) (rb b : Nat) (X : IRoom) (h : KRoom own w rb b X) :
    Calls Try.prog 24 #[.pointer (some ⟨rb, 0, none⟩)] w fun e w' => e = .returned (.bool true) ∧ ∃ own' Y, KRoom own' w' rb b Y ∧ Upd own own' (inRoom 1) w w' ∧ Turns X Y ∧ Y.Still := by
  have hT : X.total ≤ 1728 := by obtain ⟨us, ds, T, hr⟩ := h.fit.rows; exact hr.total_le
  have HX := hide h.fit
  have H0 : Hid (FlAt own w rb b own w X) := hide ⟨h, Upd.refl _ _ _⟩
  have hn4 := h.fit.num
  generalize hN : X.texts.length = N at *
  have HN := hide hN
  clear h hN
  go_enter Try.func24, Try.ntmps24
  go_wp2_with fail
  go_loopw [3] (fun v3 wr => ∃ (k : Nat) (own1 : Nat → Tag) (Y : IRoom), k ≤ 3000 ∧ v3 = .int .i64 k ∧ FlAt own w rb b own1 wr Y ∧ Turns X Y ∧ Y.total + k ≤ 2999) (fun v3 _ => 3000 - (intOf v3).toNat)
  case atStart => exact ⟨0, own, X, by omega, rfl, unhide H0, .refl X, by omega⟩
  case round =>
    obtain ⟨k, own1, Y, hk, rfl, hY, hXY, hk2⟩ := hrel
    have hlt' : (k : Int) < 3000 := by omega
    have HY : Hid (FlAt own w rb b own1 wr Y ∧ Turns X Y ∧ Y.texts.length = N) := hide ⟨hY, hXY, (hXY.fit (unhide HX)).2.1.trans (unhide HN)⟩
    clear hY hXY
    go_wp2_with fail
    go_loopw [4, 5] (fun v4 v5 w2 => ∃ (c : Nat) (sm : Bool) (own2 : Nat → Tag) (Z : IRoom), c ≤ N ∧ v5 = .int .i64 c ∧ v4 = .bool sm ∧ FlAt own w rb b own2 w2 Z ∧ Turns X Z ∧ Z.texts.length = N ∧ FlI Y Z k c 0 sm) (fun v4 v5 _ => N - (intOf v5).toNat)
    case atStart => exact ⟨0, false, own1, Y, by omega, rfl, rfl, (unhide HY).1, (unhide HY).2.1, (unhide HY).2.2, FlI.start⟩
    case round =>
      obtain ⟨c, sm, own2, Z, hc, rfl, rfl, hZ, hXZ, hZN, hI⟩ := hrel
      have c0 := hZ.room.c0
      have c1 := hZ.room.c1
      rw [hZN] at c1
      have HZ := hide hZ
      have HXZ := hide hXZ
      have HZN := hide hZN
      have HI := hide hI
      have HF : Hid (Fit Z) := hide hZ.room.fit
      clear hZ hXZ hZN hI
      by_cases hlt : c < N
      · have hlt2 : (c : Int) < (N : Int) := by omega
        go_wp2_with fail
        clear c1
        go_loopw [4, 6] (fun v4 v6 w3 => ∃ (d : Nat) (sm : Bool) (own3 : Nat → Tag) (Z3 : IRoom), d ≤ 2 ∧ v6 = .int .i64 d ∧ v4 = .bool sm ∧ FlAt own w rb b own3 w3 Z3 ∧ FlI Y Z3 k c d sm ∧ (d = 0 → Z3 = Z) ∧ (d = 1 → Z3 = Z.up c 0) ∧ (d = 2 → Z3 = Z.turn c)) (fun v4 v6 _ => 2 - (intOf v6).toNat)
        case atStart => exact ⟨0, sm, own2, Z, by omega, rfl, rfl, unhide HZ, unhide HI, fun _ => rfl, fun h => by omega, fun h => by omega⟩
        case round =>
          obtain ⟨d, sm3, own3, Z3, hd, rfl, rfl, hZ3, hI3, e0, e1, e2⟩ := hrel
          have c0 := hZ3.room.c0
          have hF3 := hZ3.room.fit
          by_cases hd0 : d = 0
          · subst hd0
            obtain rfl := e0 rfl
            clear e0 e1 e2
            have hc3 : c < Z3.texts.length := by rw [unhide HZN]; exact hlt
            have HFl := hide (kFlying_0 (i := c) hZ3.room.room hF3 hc3)
            by_cases hz : (Z3.e c).flying = []
            · have HN1 : Hid (∃ own4, FlAt own w rb b own4 wr (Z3.up c 0) ∧ FlI Y (Z3.up c 0) k c 1 sm3) := hide ⟨own3, by rw [up_none (by rw [hz]; rfl)]; exact hZ3, hI3.up0 hz⟩
              rw [hz] at HFl
              clear hZ3 hI3 hF3 hz
              go_wp2_with (first | (go_at_call 26; with_reducible refine (unhide HFl).mono ?_; rintro e w' ⟨rfl, hw'⟩; obtain rfl := hw'.symm))
              go_roundw
              case rel =>
                obtain ⟨own4, a1, a2⟩ := unhide HN1
                exact ⟨1, sm3, own4, _, by omega, rfl, rfl, a1, a2, fun h => by omega, fun _ => rfl, fun h => by omega⟩
              case measure => simp [intOf]
            · have hl : 0 < (Z3.e c).flying.length := List.length_pos_iff.2 hz
              have HU : Hid (Calls Try.prog 27 #[.pointer (some ⟨b, 0, none⟩), .int .i64 c, .bool false, .int .i64 0, .int .i64 0] wr fun e w' => e = .returned (.int .i64 0) ∧ ∃ own4, FlAt own w rb b own4 w' (Z3.up c 0) ∧ FlI Y (Z3.up c 0) k c 1 true) := by
                apply hide
                refine (kUp (i := c) (n := 0) hZ3.room.room hF3 hc3 hl).mono ?_
                rintro e w' ⟨rfl, a⟩
                obtain ⟨own4, a'⟩ := hZ3.after a (hF3.up hc3 0) (by rw [(up_len hF3 hc3 0).1])
                exact ⟨rfl, own4, a', hI3.up hF3 hc3 hk2 hz⟩
              clear hZ3 hI3 hF3 hz
              generalize (Z3.e c).flying.length = m at *
              have hl' : (0 : Int) < (m : Int) := by omega
              go_wp2_with (first | (go_at_call 26; with_reducible refine (unhide HFl).mono ?_; rintro e w' ⟨rfl, hw'⟩; obtain rfl := hw'.symm) | (go_at_call 27; with_reducible refine (unhide HU).mono ?_; rintro e w4 ⟨rfl, hw4⟩))
              go_roundw
              case rel =>
                obtain ⟨own4, a1, a2⟩ := hw4
                exact ⟨1, true, own4, _, by omega, rfl, rfl, a1, a2, fun h => by omega, fun _ => rfl, fun h => by omega⟩
              case measure => simp [intOf]
          · by_cases hd1 : d = 1
            · subst hd1
              have ez := e1 rfl
              clear e0 e1 e2
              have hcz : c < Z.texts.length := by rw [unhide HZN]; exact hlt
              have hc3 : c < Z3.texts.length := by rw [ez, (up_len (unhide HF) hcz 0).1]; exact hcz
              have et : Z3.down c 0 = Z.turn c := by rw [ez]; rfl
              have HET := hide et
              have HFl := hide (kFlying_1 (i := c) hZ3.room.room hF3 hc3)
              clear ez et
              by_cases hz : (Z3.s c).flying = []
              · have HN1 : Hid (∃ own4, FlAt own w rb b own4 wr (Z3.down c 0) ∧ FlI Y (Z3.down c 0) k c 2 sm3) := hide ⟨own3, by rw [down_none (by rw [hz]; rfl)]; exact hZ3, hI3.down0 hz⟩
                rw [hz] at HFl
                clear hZ3 hI3 hF3 hz
                go_wp2_with (first | (go_at_call 26; with_reducible refine (unhide HFl).mono ?_; rintro e w' ⟨rfl, hw'⟩; obtain rfl := hw'.symm))
                go_roundw
                case rel =>
                  obtain ⟨own4, a1, a2⟩ := unhide HN1
                  exact ⟨2, sm3, own4, _, by omega, rfl, rfl, a1, a2, fun h => by omega, fun h => by omega, fun _ => unhide HET⟩
                case measure => simp [intOf]
              · have hl : 0 < (Z3.s c).flying.length := List.length_pos_iff.2 hz
                have HU : Hid (Calls Try.prog 27 #[.pointer (some ⟨b, 0, none⟩), .int .i64 c, .bool true, .int .i64 0, .int .i64 0] wr fun e w' => e = .returned (.int .i64 0) ∧ ∃ own4, FlAt own w rb b own4 w' (Z3.down c 0) ∧ FlI Y (Z3.down c 0) k c 2 true) := by
                  apply hide
                  refine (kDown (i := c) (n := 0) hZ3.room.room hF3 hc3 hl).mono ?_
                  rintro e w' ⟨rfl, a⟩
                  obtain ⟨own4, a'⟩ := hZ3.after a (hF3.down hc3 0) (down_len hF3 hc3 0).1
                  exact ⟨rfl, own4, a', hI3.down hF3 hc3 hk2 hz⟩
                clear hZ3 hI3 hF3 hz
                generalize (Z3.s c).flying.length = m at *
                have hl' : (0 : Int) < (m : Int) := by omega
                go_wp2_with (first | (go_at_call 26; with_reducible refine (unhide HFl).mono ?_; rintro e w' ⟨rfl, hw'⟩; obtain rfl := hw'.symm) | (go_at_call 27; with_reducible refine (unhide HU).mono ?_; rintro e w4 ⟨rfl, hw4⟩))
                go_roundw
                case rel =>
                  obtain ⟨own4, a1, a2⟩ := hw4
                  exact ⟨2, true, own4, _, by omega, rfl, rfl, a1, a2, fun h => by omega, fun h => by omega, fun _ => unhide HET⟩
                case measure => simp [intOf]
            · obtain rfl : d = 2 := by omega
              have ez := e2 rfl
              have HZ3 : Hid (FlAt own w rb b own3 wr (Z.turn c) ∧ FlI Y (Z.turn c) k (c + 1) 0 sm3 ∧ Turns X (Z.turn c) ∧ (Z.turn c).texts.length = N) := by
                subst ez
                have hcz : c < Z.texts.length := by rw [unhide HZN]; exact hlt
                exact hide ⟨hZ3, hI3.next, .step c (unhide HXZ) hcz, ((unhide HF).turn hcz).2.1.trans (unhide HZN)⟩
              clear hZ3 hI3 hF3 e0 e1 e2 ez c0
              go_wp2_with fail
              go_roundw
              case rel =>
                obtain ⟨a1, a2, a3, a4⟩ := unhide HZ3
                exact ⟨c + 1, sm3, own3, _, by omega, by go_num, rfl, a1, a3, a4, a2⟩
              case measure => simp [intOf]; omega
      · have hlt2 : ¬ (c : Int) < (N : Int) := by omega
        obtain rfl : c = N := by omega
        cases sm with
        | true =>
          go_wp2_with fail
          go_roundw
          case rel => exact ⟨k + 1, own2, Z, by omega, by go_num, unhide HZ, unhide HXZ, by have := (unhide HI).1 rfl; omega⟩
          case measure => simp [intOf]; omega
        | false =>
          go_wp2_with fail
          go_ret
          have hYN := (unhide HY).2.2
          obtain ⟨e, hs⟩ := (unhide HI).still hYN.symm
          subst e
          exact ⟨rfl, own2, Z, (unhide HZ).room, (unhide HZ).upd, unhide HXZ, hs⟩
end Go.Proofs.Ytemkgikncmhoaaa

