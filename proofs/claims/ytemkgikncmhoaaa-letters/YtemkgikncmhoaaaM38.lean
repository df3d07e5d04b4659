import Derived.Test.YtemkgikncmhoaaaM13
import Derived.Test.YtemkgikncmhoaaaM37
/-
  weave: where one alone has something to say. Plain mathematics. Own work.
-/
namespace Go.Proofs.Ytemkgikncmhoaaa

section
variable {X Y : IRoom} {i c : Nat} {t : List UInt8}
theorem lose_made (E : IEnd) (n : Nat) : (E.lose n).made = E.made := rfl
theorem up_made (h : Fit X) (hi : i < X.texts.length) (n j : Nat) : ((X.up i n).e j).made = (X.e j).made := by
  cases hd : (X.e i).flying[n]? with
  | none => rw [up_none hd]
  | some d =>
    obtain ⟨us, ds, T, hr⟩ := h.rows
    obtain ⟨os, u, _⟩ := hr.upped' hi hd
    rw [u.e]
    split
    · rename_i hj; rw [hj, lose_made]
    · rfl
theorem down_made (h : Fit X) (hi : i < X.texts.length) (n j : Nat) : ((X.down i n).e j).made = (X.e j).made := by
  cases hd : (X.s i).flying[n]? with
  | none => rw [down_none hd]
  | some d =>
    obtain ⟨us, ds, T, hr⟩ := h.rows
    obtain ⟨k, u, _⟩ := hr.downed' hi hd
    by_cases hj : j = i
    · subst hj; exact (u.came.load (hr.pair hi).a).2.2
    · rw [u.e j hj]
theorem Turns.made (q : Turns X Y) (h : Fit X) (j : Nat) : (Y.e j).made = (X.e j).made := by
  induction q with
  | refl => rfl
  | step i t hi ih =>
    have hF := (t.fit h).1
    have hi' := hi
    rw [← (up_len hF hi 0).1] at hi'
    exact (down_made (hF.up hi 0) hi' 0 j).trans ((up_made hF hi 0 j).trans ih)
theorem Fit.ticked_made (h : Fit X) {j k : Nat} (hk : k ≤ X.texts.length) (hj : j < X.texts.length) : ((X.ticked k).e j).made = (X.e j).made := by
  rw [(h.ticked k hk).e j hj]
  split
  · exact (tick_sentTo (X.e j) X.window).2
  · rfl
theorem Settles.made {k : Nat} (q : Settles X k Y) (h : Fit X) {j : Nat} (hj : j < X.texts.length) : (Y.e j).made = (X.e j).made := by
  induction q with
  | start t _ => exact t.made h j
  | round s t hs ih =>
    obtain ⟨a, _, c, _⟩ := s.fit h
    rw [t.made (a.ticked _ (Nat.le_refl _)).fit j, a.ticked_made (Nat.le_refl _) (by rw [c]; exact hj), ih]
/-- Client c alone has something that is not taken. -/
structure Solo (c : Nat) (t : List UInt8) (X : IRoom) : Prop where
  tx : X.tx c = t
  oth : ∀ j, j < X.texts.length → j ≠ c → (X.e j).made ≤ (X.s j).taken
  srv : (X.s c).made ≤ (X.e c).taken
theorem Solo.up (s : Solo c t X) (h : Fit X) (hc : c < X.texts.length) (hi : i < X.texts.length) (n : Nat) : Solo c t (X.up i n) := by
  cases hd : (X.e i).flying[n]? with
  | none => rw [up_none hd]; exact s
  | some d =>
    obtain ⟨us, ds, T, hr⟩ := h.rows
    obtain ⟨os, u, ⟨ds', T', hr'⟩, _⟩ := hr.upped' hi hd
    have hi' : i < (X.up i n).texts.length := by rw [u.texts]; exact hi
    obtain ⟨_, c2, c3⟩ := u.came.load (hr.pair hi).b
    have e1 := (hr.pair hi).a.made
    have e2 := (hr'.pair hi').b.tk
    refine ⟨by unfold IRoom.tx; rw [u.texts]; exact s.tx, fun j hj hjc => ?_, ?_⟩
    · rw [u.texts] at hj
      rw [u.e]
      by_cases hji : j = i
      · subst hji
        rw [if_pos rfl, lose_made]
        have := s.oth j hj hjc
        omega
      · rw [if_neg hji, u.s j hji, if_pos hj, (makes_fields X.window os (X.s j)).1]
        exact s.oth j hj hjc
    · rw [u.e]
      by_cases hci : c = i
      · subst hci
        rw [if_pos rfl]
        show _ ≤ (X.e c).taken
        rw [c3]
        exact s.srv
      · have := s.oth i hi (fun h => hci h.symm)
        have hos : os = [] := List.eq_nil_of_length_eq_zero (by omega)
        rw [if_neg hci, u.s c hci, if_pos hc, hos]
        exact s.srv
theorem Solo.down (s : Solo c t X) (h : Fit X) (hi : i < X.texts.length) (n : Nat) : Solo c t (X.down i n) := by
  cases hd : (X.s i).flying[n]? with
  | none => rw [down_none hd]; exact s
  | some d =>
    obtain ⟨us, ds, T, hr⟩ := h.rows
    obtain ⟨k, u, hr', _⟩ := hr.downed' hi hd
    have hi' : i < (X.down i n).texts.length := by rw [u.len]; exact hi
    obtain ⟨_, c2, c3⟩ := u.came.load (hr.pair hi).a
    have e1 := (hr.pair hi).b.made
    have e2 := (hr'.pair hi').a.tk
    refine ⟨?_, fun j hj hjc => ?_, ?_⟩
    · by_cases hci : c = i
      · subst hci
        have := s.srv
        rw [u.tx c (.inr (by omega))]; exact s.tx
      · rw [u.tx c (.inl hci)]; exact s.tx
    · rw [u.len] at hj
      rw [u.s]
      by_cases hji : j = i
      · subst hji
        rw [if_pos rfl, c3]
        exact s.oth j hj hjc
      · rw [if_neg hji, u.e j hji]
        exact s.oth j hj hjc
    · rw [u.s]
      by_cases hci : c = i
      · subst hci
        rw [if_pos rfl, lose_made, c2]
        have := s.srv
        omega
      · rw [if_neg hci, u.e c hci]; exact s.srv
theorem Turns.solo (q : Turns X Y) (s : Solo c t X) (h : Fit X) (hc : c < X.texts.length) : Solo c t Y := by
  induction q with
  | refl => exact s
  | step i q hi ih =>
    obtain ⟨hF, hl, _⟩ := q.fit h
    have hi' := hi
    rw [← (up_len hF hi 0).1] at hi'
    exact (ih.up hF (by rw [hl]; exact hc) hi 0).down (hF.up hi 0) hi' 0
theorem Solo.ticked (s : Solo c t X) (h : Fit X) (hc : c < X.texts.length) : Solo c t (X.ticked X.texts.length) := by
  have q := h.ticked X.texts.length (Nat.le_refl _)
  refine ⟨by unfold IRoom.tx; rw [q.texts]; exact s.tx, fun j hj hjc => ?_, ?_⟩
  · rw [q.texts] at hj
    rw [q.e j hj, q.s j hj, if_pos hj, if_pos hj, (tick_sentTo (X.e j) X.window).2, ((X.s j).tick_fields X.window).2.1]
    exact s.oth j hj hjc
  · rw [q.e c hc, q.s c hc, if_pos hc, if_pos hc, (tick_sentTo (X.s c) X.window).2, ((X.e c).tick_fields X.window).2.1]
    exact s.srv
theorem Settles.solo {k : Nat} (q : Settles X k Y) (s : Solo c t X) (h : Fit X) (hc : c < X.texts.length) : Solo c t Y := by
  induction q with
  | start q _ => exact q.solo s h hc
  | round q r hs ih =>
    obtain ⟨a, _, l, _⟩ := q.fit h
    have hc' := hc
    rw [← l] at hc'
    have tk := a.ticked _ (Nat.le_refl _)
    exact r.solo (ih.ticked a hc') tk.fit (by rw [tk.texts]; exact hc')
theorem Quiet.solo (h : Fit X) (hq : X.Quiet) (hc : c < X.texts.length) : Solo c (X.tx c) X := by
  obtain ⟨us, ds, T, hr⟩ := h.rows
  refine ⟨rfl, fun j hj _ => ?_, ?_⟩
  · have := (hr.pair hj).ka
    unfold IEnd.made
    rw [(hq j hj).1]
    simpa using this
  · have := (hr.pair hc).kb
    unfold IEnd.made
    rw [(hq c hc).2]
    simpa using this
/-- A client makes one more. -/
theorem Solo.make (s : Solo c t X) (h : Fit X) (hc : c < X.texts.length) (o : ROp) : Solo c (o.does t) (X.made c o) := by
  have gg := h.get hc
  have he : c < X.ends.length := (List.getElem?_eq_some_iff.1 gg.2.1).1
  have ee : ∀ j, (X.made c o).e j = if j = c then (X.e c).make o X.window else X.e j := fun j => e_setA he j
  refine ⟨?_, fun j hj hjc => ?_, ?_⟩
  · show (X.setA c _ _).tx c = _
    rw [tx_setA hc, if_pos rfl, s.tx]
  · have hj : j < X.texts.length := by simpa [IRoom.made, IRoom.setA] using hj
    rw [ee, if_neg hjc]
    exact s.oth j hj hjc
  · rw [ee, if_pos rfl, (make_fields (X.e c) o X.window).1]
    exact s.srv
theorem made_e (h : Fit X) (hc : c < X.texts.length) (o : ROp) (j : Nat) : ((X.made c o).e j).made = if j = c then (X.e c).made + 1 else (X.e j).made := by
  have gg := h.get hc
  have he : c < X.ends.length := (List.getElem?_eq_some_iff.1 gg.2.1).1
  show ((X.setA c _ _).e j).made = _
  rw [e_setA he]
  split
  · obtain ⟨_, a2, _, a4⟩ := make_fields (X.e c) o X.window
    unfold IEnd.made
    rw [a2, a4, List.length_append]
    simp; omega
  · rfl
/-- One edit where nobody waits and nothing flies: nothing is lost. -/
theorem Fit.flow_make (h : Fit X) (hq : X.Quiet) (hs : X.Still) (hc : c < X.texts.length) (o : ROp) (hf : Fit (X.made c o)) : (X.made c o).Flow (fun j => (X.s j).sentTo X.window) fun _ => 4 := by
  obtain ⟨us, ds, T, hr⟩ := h.rows
  obtain ⟨us', ds', T', hr'⟩ := hf.rows
  have gg := h.get hc
  have he : c < X.ends.length := (List.getElem?_eq_some_iff.1 gg.2.1).1
  have ee : ∀ j, (X.made c o).e j = if j = c then (X.e c).make o X.window else X.e j := fun j => e_setA he j
  intro j hj
  have hj2 : j < X.texts.length := by simpa [IRoom.made, IRoom.setA] using hj
  have hsane := hf.sane j hj
  have p := hr.pair hj2
  have p' := hr'.pair hj
  have q1 := hq j hj2
  have f1 := hs j hj2
  have m1 : (X.e j).made = (X.e j).known := by unfold IEnd.made; rw [q1.1]; rfl
  have m2 : (X.s j).made = (X.s j).known := by unfold IEnd.made; rw [q1.2]; rfl
  have st : (X.s j).sentTo X.window = (X.s j).known := by unfold IEnd.sentTo; rw [q1.2]; simp
  have a1 := p.a.made
  have a2 := p.b.made
  have t1 := p.a.tk
  have t2 := p.b.tk
  have ka := p.ka
  have kb := p.kb
  have sj : (X.made c o).s j = X.s j := rfl
  have wj : (X.made c o).window = X.window := rfl
  rw [sj, wj] at hsane p' ⊢
  have rest : ∀ E' : IEnd, Go.Proofs.Ytemkgikncmhoaaa.Sane X.window E' (X.s j) → E'.flying.length ≤ 4 → (nums E'.flying).length ≤ 4 → E'.taken = (X.e j).taken → E'.known = (X.e j).known → (∀ n, (X.s j).taken < n → n ≤ E'.made → n ∈ nums E'.flying) → Go.Proofs.Ytemkgikncmhoaaa.Flow ((X.s j).sentTo X.window) 4 X.window E' (X.s j) := fun E' b1 b2 b3 b4 b5 b6 => by
    refine ⟨b1, b2, by rw [f1.2]; simp; omega, by rw [f1.2]; simp [newer, nums], by rw [f1.2]; simp [newer, nums], Nat.le_refl _, fun n x y => .inl (b6 n x y), fun n x y => ?_, fun x => ?_, fun x => ?_⟩
    · rw [b4] at x; omega
    · rw [b5] at x; omega
    · rw [b4] at x; omega
  by_cases hjc : j = c
  · subst hjc
    rw [ee, if_pos rfl] at hsane p' ⊢
    have hw : (X.e j).waiting.length + 1 ≤ X.window := by rw [q1.1]; exact p.w1
    have hfl : ((X.e j).make o X.window).flying = [ckd (((X.e j).next o).bytes (X.e j).taken)] := by
      rw [make_flying, if_pos hw, f1.1]; rfl
    obtain ⟨b1, b2, _, b4⟩ := make_fields (X.e j) o X.window
    have hrd : readD (ckd (((X.e j).next o).bytes (X.e j).taken)) = some ((X.e j).taken, some ((X.e j).next o)) := by
      have := p'.ra ((X.e j).next o) (by rw [b4]; simp)
      rwa [b1] at this
    have hnm : nums ((X.e j).make o X.window).flying = [(X.e j).made + 1] := by
      rw [hfl]
      simp only [nums, List.filterMap_cons, numD_msg hrd, List.filterMap_nil]
      rfl
    refine rest _ hsane (by rw [hfl]; simp) (by rw [hnm]; simp) b1 b2 fun n x y => ?_
    rw [hnm]
    have : ((X.e j).make o X.window).made = (X.e j).made + 1 := by
      unfold IEnd.made; rw [b2, b4, List.length_append]; simp; omega
    have : n = (X.e j).made + 1 := by omega
    simp [this]
  · rw [ee, if_neg hjc] at hsane ⊢
    refine rest _ hsane (by rw [f1.1]; simp) (by rw [f1.1]; simp [nums]) rfl rfl fun n x y => ?_
    omega
/-- One edit, all delivered: nobody waits, and all have the editor's text. -/
theorem Fit.edit_flush (h : Fit X) (hq : X.Quiet) (hs : X.Still) (hc : c < X.texts.length) (o : ROp) (hf : Fit (X.made c o)) (q : Turns (X.made c o) Y) (hY : Y.Still) : Y.Quiet ∧ Y.server = o.does (X.tx c) := by
  have hY1 := (q.fit hf).1.rest (q.flow hf (h.flow_make hq hs hc o hf)) hY
  have hc' : c < (X.made c o).texts.length := by simpa [IRoom.made, IRoom.setA] using hc
  have sl := q.solo ((Quiet.solo h hq hc).make h hc o) hf hc'
  refine ⟨hY1, ?_⟩
  rw [← (q.fit hf).1.same hY1 (by rw [(q.fit hf).2.1]; exact hc'), sl.tx]
end
end Go.Proofs.Ytemkgikncmhoaaa

/-
  weave: (*Room).Put, Cut. Own work.
-/
namespace Go.Proofs.Ytemkgikncmhoaaa
open Go.RowKit

theorem EndX.ptr {own : Nat → Tag} {rid k b tb window : Nat} {E : IEnd} {w : World} (h : EndX own rid k w b tb window E) : w.cell? ⟨b, 0, none⟩ = some (.pointer (some ⟨tb, 0, none⟩)) := h.c0

set_option maxRecDepth 100000 in
set_option maxHeartbeats 400000 in
theorem xput_place (own : Nat → Tag) (rid b : Nat) (X : IRoom) (i : Nat) (p l : Int) (t : List UInt8) (E S : IEnd) (w : World) (h : RoomX own rid w b X) (ht : X.texts[i]? = some t) (hE : X.ends[i]? = some E) (hS : X.sends[i]? = some S) (hp : p < 0 ∨ p > t.length) :
    Calls Try.prog 25 #[.pointer (some ⟨b, 0, none⟩), .int .i64 i, .int .i64 p, .int .u8 l] w fun e w' => e = .returned (.int .i64 3) ∧ w' = w := by
  obtain ⟨mb, eb, sb, tbi, tb, c1, lk, _, hE1, hT1, _, _⟩ := h.yes ht hE hS
  have c0 := hE1.ptr
  have HL := hide (xlength own rid (2 * i) tbi t w hT1)
  clear h hE1 hT1
  by_cases hp0 : p < 0
  · clear hp
    go_enter Try.func25, Try.ntmps25
    go_wp2_with (first | (go_at_call 38; refine (unhide HL).mono ?_; rintro e w' ⟨rfl, rfl⟩))
    go_ret
    exact ⟨rfl, rfl⟩
  · have hp1 : (t.length : Int) < p := by omega
    clear hp
    go_enter Try.func25, Try.ntmps25
    go_wp2_with (first | (go_at_call 38; refine (unhide HL).mono ?_; rintro e w' ⟨rfl, rfl⟩))
    go_ret
    exact ⟨rfl, rfl⟩

set_option maxRecDepth 100000 in
set_option maxHeartbeats 400000 in
theorem xput_letter (own : Nat → Tag) (rid b : Nat) (X : IRoom) (i p : Nat) (l : Int) (t : List UInt8) (E S : IEnd) (w : World) (h : RoomX own rid w b X) (ht : X.texts[i]? = some t) (hE : X.ends[i]? = some E) (hS : X.sends[i]? = some S) (hp : p ≤ t.length) (hl : l < 33 ∨ l > 126) :
    Calls Try.prog 25 #[.pointer (some ⟨b, 0, none⟩), .int .i64 i, .int .i64 p, .int .u8 l] w fun e w' => e = .returned (.int .i64 4) ∧ w' = w := by
  obtain ⟨mb, eb, sb, tbi, tb, c1, lk, _, hE1, hT1, _, _⟩ := h.yes ht hE hS
  have c0 := hE1.ptr
  have HL := hide (xlength own rid (2 * i) tbi t w hT1)
  have hq : Calls Try.prog 39 #[.int .u8 l] w fun e w' => e = .returned (.bool false) ∧ w' = w := by
    have := xisLetter l w
    rwa [show decide (33 ≤ l ∧ l ≤ 126) = false from by simp; omega] at this
  have HQ := hide hq
  have hp0 : ¬ (p : Int) < 0 := by omega
  have hp1 : ¬ (t.length : Int) < (p : Int) := by omega
  clear h hE1 hT1 hl hq
  go_enter Try.func25, Try.ntmps25
  go_wp2_with (first | (go_at_call 38; refine (unhide HL).mono ?_; rintro e w' ⟨rfl, rfl⟩) | (go_at_call 39; refine (unhide HQ).mono ?_; rintro e w' ⟨rfl, rfl⟩))
  go_ret
  exact ⟨rfl, rfl⟩

/-- What is asked of an end's numbers. -/
structure IEnd.Ok (E : IEnd) : Prop where
  made : E.made ≤ 239
  taken : E.taken ≤ 240
  flying : E.flying.length ≤ 12
  opn : E.opn.length ≤ 240

set_option maxRecDepth 100000 in
set_option maxHeartbeats 400000 in
theorem xput_refused (own : Nat → Tag) (rid b : Nat) (X : IRoom) (i p l : Nat) (t : List UInt8) (E S : IEnd) (w : World) (h : RoomX own rid w b X) (ht : X.texts[i]? = some t) (hE : X.ends[i]? = some E) (hS : X.sends[i]? = some S) (hp : p ≤ t.length) (hl : 33 ≤ l ∧ l ≤ 126) (hok : E.Ok) (_hw : X.window ≤ 4)
    (hr : E.refusal X.window ≠ 0) :
    Calls Try.prog 25 #[.pointer (some ⟨b, 0, none⟩), .int .i64 i, .int .i64 p, .int .u8 l] w fun e w' => e = .returned (.int .i64 (E.refusal X.window)) ∧ Below w.heap.size w w' := by
  obtain ⟨mb, eb, sb, tbi, tb, c1, lk, _, hE1, hT1, _, _⟩ := h.yes ht hE hS
  have c0 := hE1.ptr
  have HL := hide (xlength own rid (2 * i) tbi t w hT1)
  have hq : Calls Try.prog 39 #[.int .u8 l] w fun e w' => e = .returned (.bool true) ∧ w' = w := by
    have := xisLetter l w
    rwa [show decide (33 ≤ (l : Int) ∧ (l : Int) ≤ 126) = true from by simp; omega] at this
  have HQ := hide hq
  have HR := hide (xrefusal own rid (2 * i) eb tbi X.window E w hE1 (by have := hok.made; omega))
  have hp0 : ¬ (p : Int) < 0 := by omega
  have hp1 : ¬ (t.length : Int) < (p : Int) := by omega
  generalize E.refusal X.window = rf at *
  have hrf : (rf == 0) = false := by simpa using hr
  have hrf' : (rf != 0) = true := by simpa using hr
  clear h hE1 hT1 hl hq hr
  go_enter Try.func25, Try.ntmps25
  go_wp2_with (first | (go_at_call 38; refine (unhide HL).mono ?_; rintro e w' ⟨rfl, rfl⟩) | (go_at_call 39; refine (unhide HQ).mono ?_; rintro e w' ⟨rfl, rfl⟩) | (go_at_call 40; refine (unhide HR).mono ?_; rintro e w1 ⟨rfl, hb1⟩))
  go_ret
  exact ⟨rfl, hb1⟩

set_option maxRecDepth 100000 in
set_option maxHeartbeats 400000 in
theorem xput_many (own : Nat → Tag) (rid b : Nat) (X : IRoom) (i p l : Nat) (t : List UInt8) (E S : IEnd) (w : World) (h : RoomX own rid w b X) (ht : X.texts[i]? = some t) (hE : X.ends[i]? = some E) (hS : X.sends[i]? = some S) (hp : p ≤ t.length) (hl : 33 ≤ l ∧ l ≤ 126) (hok : E.Ok) (_hw : X.window ≤ 4)
    (hr : E.refusal X.window = 0) (hm : 60 ≤ t.length) :
    Calls Try.prog 25 #[.pointer (some ⟨b, 0, none⟩), .int .i64 i, .int .i64 p, .int .u8 l] w fun e w' => e = .returned (.int .i64 6) ∧ Below w.heap.size w w' := by
  obtain ⟨mb, eb, sb, tbi, tb, c1, lk, _, hE1, hT1, _, _⟩ := h.yes ht hE hS
  have c0 := hE1.ptr
  have HL : Hid (∀ w1, Below w.heap.size w w1 → Calls Try.prog 38 #[.pointer (some ⟨tbi, 0, none⟩)] w1 fun e w' => e = .returned (.int .i64 t.length) ∧ w' = w1) := hide fun w1 hb => xlength own rid (2 * i) tbi t w1 (hT1.upd (Upd.of_below own (fun _ => False) hb) (fun h => h) (fun h => h))
  have hq : Calls Try.prog 39 #[.int .u8 l] w fun e w' => e = .returned (.bool true) ∧ w' = w := by
    have := xisLetter l w
    rwa [show decide (33 ≤ (l : Int) ∧ (l : Int) ≤ 126) = true from by simp; omega] at this
  have HQ := hide hq
  have hr0 := xrefusal own rid (2 * i) eb tbi X.window E w hE1 (by have := hok.made; omega)
  rw [hr] at hr0
  have ebl := World.block_lt_of_cell? _ _ c0
  have HR : Hid (Calls Try.prog 40 #[.pointer (some ⟨eb, 0, none⟩)] w fun e w' => e = .returned (.int .i64 0) ∧ Below w.heap.size w w' ∧ w'.cell? ⟨eb, 0, none⟩ = some (.pointer (some ⟨tbi, 0, none⟩))) := hide (hr0.mono fun e w' ⟨h1, h2⟩ => ⟨h1, h2, (h2.cell (p := ⟨eb, 0, none⟩) ebl).trans c0⟩)
  have hp0 : ¬ (p : Int) < 0 := by omega
  have hp1 : ¬ (t.length : Int) < (p : Int) := by omega
  have hm1 : (60 : Int) ≤ (t.length : Int) := by omega
  have B0 := hide (Below.refl w.heap.size w)
  clear h hE1 hT1 hl hq hr hr0
  go_enter Try.func25, Try.ntmps25
  go_wp2_with (first | (go_at_call 38; refine (unhide HL _ (by first | exact hb1 | exact unhide B0)).mono ?_; rintro e w' ⟨rfl, rfl⟩) | (go_at_call 39; refine (unhide HQ).mono ?_; rintro e w' ⟨rfl, rfl⟩) | (go_at_call 40; refine (unhide HR).mono ?_; rintro e w1 ⟨rfl, hb1, c01⟩))
  go_ret
  exact ⟨rfl, hb1⟩

set_option maxRecDepth 100000 in
set_option maxHeartbeats 400000 in
theorem xput_ok (own : Nat → Tag) (rid b : Nat) (X : IRoom) (i p l : Nat) (t : List UInt8) (E S : IEnd) (w : World) (h : RoomX own rid w b X) (ht : X.texts[i]? = some t) (hE : X.ends[i]? = some E) (hS : X.sends[i]? = some S) (hp : p ≤ t.length) (hl : 33 ≤ l ∧ l ≤ 126) (hok : E.Ok) (_hw : X.window ≤ 4)
    (hr : E.refusal X.window = 0) (hm : t.length < 60) (hi4 : i < 4) :
    Calls Try.prog 25 #[.pointer (some ⟨b, 0, none⟩), .int .i64 i, .int .i64 p, .int .u8 l] w fun e w' => e = .returned (.int .i64 0) ∧ ∃ own', RoomX own' rid w' b { X with texts := X.texts.set i (insB t p l), ends := X.ends.set i (E.make ⟨i, 1, p, l⟩ X.window) } ∧ Upd own own' (inRoom rid) w w' := by
  obtain ⟨mb, eb, sb, tbi, tb, c1, lk, _, hE1, hT1, _, hput⟩ := h.yes ht hE hS
  have c0 := hE1.ptr
  have HL : Hid (∀ w1, Below w.heap.size w w1 → Calls Try.prog 38 #[.pointer (some ⟨tbi, 0, none⟩)] w1 fun e w' => e = .returned (.int .i64 t.length) ∧ w' = w1) := hide fun w1 hb => xlength own rid (2 * i) tbi t w1 (hT1.upd (Upd.of_below own (fun _ => False) hb) (fun h => h) (fun h => h))
  have hq : Calls Try.prog 39 #[.int .u8 l] w fun e w' => e = .returned (.bool true) ∧ w' = w := by
    have := xisLetter l w
    rwa [show decide (33 ≤ (l : Int) ∧ (l : Int) ≤ 126) = true from by simp; omega] at this
  have HQ := hide hq
  have hr0 := xrefusal own rid (2 * i) eb tbi X.window E w hE1 (by have := hok.made; omega)
  rw [hr] at hr0
  have ebl := World.block_lt_of_cell? _ _ c0
  have HR : Hid (Calls Try.prog 40 #[.pointer (some ⟨eb, 0, none⟩)] w fun e w' => e = .returned (.int .i64 0) ∧ Below w.heap.size w w' ∧ w'.cell? ⟨eb, 0, none⟩ = some (.pointer (some ⟨tbi, 0, none⟩))) := hide (hr0.mono fun e w' ⟨h1, h2⟩ => ⟨h1, h2, (h2.cell (p := ⟨eb, 0, none⟩) ebl).trans c0⟩)
  have HC : Hid (∀ w1, Below w.heap.size w w1 → Calls Try.prog 41 #[.pointer (some ⟨eb, 0, none⟩), .agg #[.int .i64 i, .int .i64 1, .int .i64 p, .int .u8 l]] w1 fun e w' => e = .returned (.tuple #[]) ∧
      ∃ own', RoomX own' rid w' b { X with texts := X.texts.set i (insB t p l), ends := X.ends.set i (E.make ⟨i, 1, p, l⟩ X.window) } ∧ Upd own own' (inRoom rid) w w') := by
    apply hide
    intro w1 hb
    have U := Upd.of_below own (fun _ => False) hb
    have hs : ROp.Small ⟨i, 1, p, l⟩ := ⟨⟨by simp, by simp; omega⟩, ⟨by simp, by simp⟩, ⟨by simp, by simp; omega⟩, ⟨by simp, by simp; omega⟩⟩
    refine (xchange own rid (2 * i) eb tbi X.window E t (insB t p l) ⟨i, 1, p, l⟩ w1 (hE1.upd U (fun _ _ _ h => h)) (hT1.upd U (fun h => h) (fun h => h)) hs (by have := hok.made; omega) hok.taken hok.flying hok.opn (fun own1 w2 hT2 => xdo_put own1 rid (2 * i) tbi t i p l w2 hT2 hp (by omega) (by omega))).mono ?_
    rintro e w' ⟨rfl, own', a1, a2, a3⟩
    have U2 := (U.mono (may' := inClient rid (2 * i)) (fun _ h => h.elim)).trans a3
    exact ⟨rfl, own', hput own' w' _ _ U2 a1 a2, U2.mono (fun _ h => h.1)⟩
  have hp0 : ¬ (p : Int) < 0 := by omega
  have hp1 : ¬ (t.length : Int) < (p : Int) := by omega
  have hm1 : ¬ (60 : Int) ≤ (t.length : Int) := by omega
  have B0 := hide (Below.refl w.heap.size w)
  clear h hE1 hT1 hl hq hr hr0 hput
  go_enter Try.func25, Try.ntmps25
  go_wp2_with (first | (go_at_call 38; refine (unhide HL _ (by first | exact hb1 | exact unhide B0)).mono ?_; rintro e w' ⟨rfl, rfl⟩) | (go_at_call 39; refine (unhide HQ).mono ?_; rintro e w' ⟨rfl, rfl⟩) | (go_at_call 40; refine (unhide HR).mono ?_; rintro e w1 ⟨rfl, hb1, c01⟩) | (go_at_call 41; refine (unhide HC _ hb1).mono ?_; rintro e w2 ⟨rfl, hF⟩))
  go_ret
  exact ⟨rfl, hF⟩
end Go.Proofs.Ytemkgikncmhoaaa

/-
  weave: (*Room).Cut. Own work.
-/
namespace Go.Proofs.Ytemkgikncmhoaaa
open Go.RowKit

set_option maxRecDepth 100000 in
set_option maxHeartbeats 400000 in
theorem xcut_client (own : Nat → Tag) (rid b : Nat) (X : IRoom) (c p : Int) (w : World) (h : RoomX own rid w b X) (hc : I64 c) (hn : ¬ (0 ≤ c ∧ c < X.texts.length)) :
    Calls Try.prog 37 #[.pointer (some ⟨b, 0, none⟩), .int .i64 c, .int .i64 p] w fun e w' => e = .returned (.int .i64 2) ∧ w' = w := by
  obtain ⟨mb, c1, lk⟩ := h.no hc hn false
  clear h hn hc
  go_enter Try.func37, Try.ntmps37
  go_wp2
  go_ret
  exact ⟨rfl, rfl⟩

set_option maxRecDepth 100000 in
set_option maxHeartbeats 400000 in
theorem xcut_place (own : Nat → Tag) (rid b : Nat) (X : IRoom) (i : Nat) (p : Int) (t : List UInt8) (E S : IEnd) (w : World) (h : RoomX own rid w b X) (ht : X.texts[i]? = some t) (hE : X.ends[i]? = some E) (hS : X.sends[i]? = some S) (hp : p < 0 ∨ p ≥ t.length) :
    Calls Try.prog 37 #[.pointer (some ⟨b, 0, none⟩), .int .i64 i, .int .i64 p] w fun e w' => e = .returned (.int .i64 3) ∧ w' = w := by
  obtain ⟨mb, eb, sb, tbi, tb, c1, lk, _, hE1, hT1, _, _⟩ := h.yes ht hE hS
  have c0 := hE1.ptr
  have HL := hide (xlength own rid (2 * i) tbi t w hT1)
  clear h hE1 hT1
  by_cases hp0 : p < 0
  · clear hp
    go_enter Try.func37, Try.ntmps37
    go_wp2_with (first | (go_at_call 38; refine (unhide HL).mono ?_; rintro e w' ⟨rfl, rfl⟩))
    go_ret
    exact ⟨rfl, rfl⟩
  · have hp1 : (t.length : Int) ≤ p := by omega
    clear hp
    go_enter Try.func37, Try.ntmps37
    go_wp2_with (first | (go_at_call 38; refine (unhide HL).mono ?_; rintro e w' ⟨rfl, rfl⟩))
    go_ret
    exact ⟨rfl, rfl⟩

set_option maxRecDepth 100000 in
set_option maxHeartbeats 400000 in
theorem xcut_refused (own : Nat → Tag) (rid b : Nat) (X : IRoom) (i p : Nat) (t : List UInt8) (E S : IEnd) (w : World) (h : RoomX own rid w b X) (ht : X.texts[i]? = some t) (hE : X.ends[i]? = some E) (hS : X.sends[i]? = some S) (hp : p < t.length) (hok : E.Ok) (_hw : X.window ≤ 4)
    (hr : E.refusal X.window ≠ 0) :
    Calls Try.prog 37 #[.pointer (some ⟨b, 0, none⟩), .int .i64 i, .int .i64 p] w fun e w' => e = .returned (.int .i64 (E.refusal X.window)) ∧ Below w.heap.size w w' := by
  obtain ⟨mb, eb, sb, tbi, tb, c1, lk, _, hE1, hT1, _, _⟩ := h.yes ht hE hS
  have c0 := hE1.ptr
  have HL := hide (xlength own rid (2 * i) tbi t w hT1)
  have HR := hide (xrefusal own rid (2 * i) eb tbi X.window E w hE1 (by have := hok.made; omega))
  have hp0 : ¬ (p : Int) < 0 := by omega
  have hp1 : ¬ (t.length : Int) ≤ (p : Int) := by omega
  generalize E.refusal X.window = rf at *
  have hrf : (rf == 0) = false := by simpa using hr
  have hrf' : (rf != 0) = true := by simpa using hr
  clear h hE1 hT1 hr
  go_enter Try.func37, Try.ntmps37
  go_wp2_with (first | (go_at_call 38; refine (unhide HL).mono ?_; rintro e w' ⟨rfl, rfl⟩) | (go_at_call 40; refine (unhide HR).mono ?_; rintro e w1 ⟨rfl, hb1⟩))
  go_ret
  exact ⟨rfl, hb1⟩

set_option maxRecDepth 100000 in
set_option maxHeartbeats 400000 in
theorem xcut_ok (own : Nat → Tag) (rid b : Nat) (X : IRoom) (i p : Nat) (t : List UInt8) (E S : IEnd) (w : World) (h : RoomX own rid w b X) (ht : X.texts[i]? = some t) (hE : X.ends[i]? = some E) (hS : X.sends[i]? = some S) (hp : p < t.length) (hok : E.Ok) (_hw : X.window ≤ 4)
    (hr : E.refusal X.window = 0) (hm : t.length ≤ 240) (hi4 : i < 4) :
    Calls Try.prog 37 #[.pointer (some ⟨b, 0, none⟩), .int .i64 i, .int .i64 p] w fun e w' => e = .returned (.int .i64 0) ∧ ∃ own', RoomX own' rid w' b { X with texts := X.texts.set i (delB t p), ends := X.ends.set i (E.make ⟨i, 2, p, 0⟩ X.window) } ∧ Upd own own' (inRoom rid) w w' := by
  obtain ⟨mb, eb, sb, tbi, tb, c1, lk, _, hE1, hT1, _, hput⟩ := h.yes ht hE hS
  have c0 := hE1.ptr
  have HL := hide (xlength own rid (2 * i) tbi t w hT1)
  have hr0 := xrefusal own rid (2 * i) eb tbi X.window E w hE1 (by have := hok.made; omega)
  rw [hr] at hr0
  have HR := hide hr0
  have HC : Hid (∀ w1, Below w.heap.size w w1 → Calls Try.prog 41 #[.pointer (some ⟨eb, 0, none⟩), .agg #[.int .i64 i, .int .i64 2, .int .i64 p, .int .u8 0]] w1 fun e w' => e = .returned (.tuple #[]) ∧
      ∃ own', RoomX own' rid w' b { X with texts := X.texts.set i (delB t p), ends := X.ends.set i (E.make ⟨i, 2, p, 0⟩ X.window) } ∧ Upd own own' (inRoom rid) w w') := by
    apply hide
    intro w1 hb
    have U := Upd.of_below own (fun _ => False) hb
    have hs : ROp.Small ⟨i, 2, p, 0⟩ := ⟨⟨by simp, by simp; omega⟩, ⟨by simp, by simp⟩, ⟨by simp, by simp; omega⟩, ⟨by simp, by simp⟩⟩
    refine (xchange own rid (2 * i) eb tbi X.window E t (delB t p) ⟨i, 2, p, 0⟩ w1 (hE1.upd U (fun _ _ _ h => h)) (hT1.upd U (fun h => h) (fun h => h)) hs (by have := hok.made; omega) hok.taken hok.flying hok.opn (fun own1 w2 hT2 => xdo_cut own1 rid (2 * i) tbi t i p 0 w2 hT2 hp (by omega))).mono ?_
    rintro e w' ⟨rfl, own', a1, a2, a3⟩
    have U2 := (U.mono (may' := inClient rid (2 * i)) (fun _ h => h.elim)).trans a3
    exact ⟨rfl, own', hput own' w' _ _ U2 a1 a2, U2.mono (fun _ h => h.1)⟩
  have hp0 : ¬ (p : Int) < 0 := by omega
  have hp1 : ¬ (t.length : Int) ≤ (p : Int) := by omega
  clear h hE1 hT1 hr hr0 hput
  go_enter Try.func37, Try.ntmps37
  go_wp2_with (first | (go_at_call 38; refine (unhide HL).mono ?_; rintro e w' ⟨rfl, rfl⟩) | (go_at_call 40; refine (unhide HR).mono ?_; rintro e w1 ⟨rfl, hb1⟩) | (go_at_call 41; refine (unhide HC _ hb1).mono ?_; rintro e w2 ⟨rfl, hF⟩))
  go_ret
  exact ⟨rfl, hF⟩
end Go.Proofs.Ytemkgikncmhoaaa

/-
  weave: (*Room).Read, Waits, Flying, Peek. Own work.
-/
namespace Go.Proofs.Ytemkgikncmhoaaa
open Go.RowKit

set_option maxRecDepth 100000 in
set_option maxHeartbeats 400000 in
theorem xread_server (own : Nat → Tag) (rid b : Nat) (X : IRoom) (w : World) (h : RoomX own rid w b X) :
    Calls Try.prog 15 #[.pointer (some ⟨b, 0, none⟩), .int .i64 (-1)] w fun e w' => e = .returned (.tuple #[bstr X.server, .int .i64 0]) ∧ w' = w := by
  obtain ⟨tb, mb, ents, clock, es, ts, h⟩ := h
  have c0 : w.cell? ⟨b, 0, none⟩ = some (.pointer (some ⟨tb, 0, none⟩)) := by rw [h.cells.cell]; rfl
  have HT := hide (xtold own rid 100 tb X.server w h.text)
  clear h
  unfold bstr at HT ⊢
  go_enter Try.func15, Try.ntmps15
  go_wp2_with (first | (go_at_call 35; refine (unhide HT).mono ?_; rintro e w' ⟨rfl, rfl⟩))
  go_ret2
  exact ⟨rfl, rfl⟩
set_option maxRecDepth 100000 in
set_option maxHeartbeats 400000 in
theorem xread_no (own : Nat → Tag) (rid b : Nat) (X : IRoom) (c : Int) (w : World) (h : RoomX own rid w b X) (hc : I64 c) (hn : ¬ (0 ≤ c ∧ c < X.texts.length)) (hc1 : c ≠ -1) :
    Calls Try.prog 15 #[.pointer (some ⟨b, 0, none⟩), .int .i64 c] w fun e w' => e = .returned (.tuple #[.string ⟨#[]⟩, .int .i64 2]) ∧ w' = w := by
  obtain ⟨mb, c1, lk⟩ := h.no hc hn false
  have hq : (c == -1) = false := by simpa using hc1
  clear h hc hc1 hn
  go_enter Try.func15, Try.ntmps15
  go_wp2
  go_ret2
  exact ⟨rfl, rfl⟩
set_option maxRecDepth 100000 in
set_option maxHeartbeats 400000 in
theorem xread_yes (own : Nat → Tag) (rid b : Nat) (X : IRoom) (i : Nat) (t : List UInt8) (E S : IEnd) (w : World) (h : RoomX own rid w b X) (ht : X.texts[i]? = some t) (hE : X.ends[i]? = some E) (hS : X.sends[i]? = some S) :
    Calls Try.prog 15 #[.pointer (some ⟨b, 0, none⟩), .int .i64 i] w fun e w' => e = .returned (.tuple #[bstr t, .int .i64 0]) ∧ w' = w := by
  obtain ⟨mb, eb, sb, tbi, tb, c1, lk, _, hE1, hT1, _, _⟩ := h.yes ht hE hS
  have c0 : w.cell? ⟨eb, 0, none⟩ = some (.pointer (some ⟨tbi, 0, none⟩)) := hE1.c0
  have HT := hide (xtold own rid (2 * i) tbi t w hT1)
  have hq : ((i : Int) == -1) = false := by rw [beq_eq_false_iff_ne]; omega
  clear h hE1 hT1
  unfold bstr at HT ⊢
  go_enter Try.func15, Try.ntmps15
  go_wp2_with (first | (go_at_call 35; refine (unhide HT).mono ?_; rintro e w' ⟨rfl, rfl⟩))
  go_ret2
  exact ⟨rfl, rfl⟩
set_option maxRecDepth 100000 in
set_option maxHeartbeats 400000 in
theorem xwaits_no (own : Nat → Tag) (rid b : Nat) (X : IRoom) (c : Int) (w : World) (h : RoomX own rid w b X) (hc : I64 c) (hn : ¬ (0 ≤ c ∧ c < X.texts.length)) :
    Calls Try.prog 19 #[.pointer (some ⟨b, 0, none⟩), .int .i64 c] w fun e w' => e = .returned (.tuple #[.int .i64 0, .int .i64 2]) ∧ w' = w := by
  obtain ⟨mb, c1, lk⟩ := h.no hc hn false
  clear h hc hn
  go_enter Try.func19, Try.ntmps19
  go_wp2
  go_ret2
  exact ⟨rfl, rfl⟩
set_option maxRecDepth 100000 in
set_option maxHeartbeats 400000 in
theorem xwaits_yes (own : Nat → Tag) (rid b : Nat) (X : IRoom) (i : Nat) (t : List UInt8) (E S : IEnd) (w : World) (h : RoomX own rid w b X) (ht : X.texts[i]? = some t) (hE : X.ends[i]? = some E) (hS : X.sends[i]? = some S) :
    Calls Try.prog 19 #[.pointer (some ⟨b, 0, none⟩), .int .i64 i] w fun e w' => e = .returned (.tuple #[.int .i64 E.waiting.length, .int .i64 0]) ∧ w' = w := by
  obtain ⟨mb, eb, sb, tbi, tb, c1, lk, _, hE1, hT1, _, _⟩ := h.yes ht hE hS
  have HW := hide (xwaits own rid (2 * i) eb tbi X.window E w hE1)
  clear h hE1 hT1
  go_enter Try.func19, Try.ntmps19
  go_wp2_with (first | (go_at_call 36; refine (unhide HW).mono ?_; rintro e w' ⟨rfl, rfl⟩))
  go_ret2
  exact ⟨rfl, rfl⟩
set_option maxRecDepth 100000 in
set_option maxHeartbeats 400000 in
theorem xflying_no (own : Nat → Tag) (rid b : Nat) (X : IRoom) (c : Int) (d : Bool) (w : World) (h : RoomX own rid w b X) (hc : I64 c) (hn : ¬ (0 ≤ c ∧ c < X.texts.length)) :
    Calls Try.prog 26 #[.pointer (some ⟨b, 0, none⟩), .int .i64 c, .bool d] w fun e w' => e = .returned (.tuple #[.int .i64 0, .int .i64 2]) ∧ w' = w := by
  obtain ⟨mb, c1, lk⟩ := h.no hc hn d
  clear h hc hn
  go_enter Try.func26, Try.ntmps26
  go_wp2
  go_ret2
  exact ⟨rfl, rfl⟩
set_option maxRecDepth 100000 in
set_option maxHeartbeats 400000 in
theorem xpeek_no (own : Nat → Tag) (rid b : Nat) (X : IRoom) (c : Int) (d : Bool) (n : Int) (w : World) (h : RoomX own rid w b X) (hc : I64 c) (hn : ¬ (0 ≤ c ∧ c < X.texts.length)) :
    Calls Try.prog 48 #[.pointer (some ⟨b, 0, none⟩), .int .i64 c, .bool d, .int .i64 n] w fun e w' => e = .returned (.tuple #[.string ⟨#[]⟩, .int .i64 2]) ∧ w' = w := by
  obtain ⟨mb, c1, lk⟩ := h.no hc hn d
  clear h hc hn
  go_enter Try.func48, Try.ntmps48
  go_wp2
  go_ret2
  exact ⟨rfl, rfl⟩
set_option maxRecDepth 100000 in
set_option maxHeartbeats 400000 in
theorem xflying_0 (own : Nat → Tag) (rid b : Nat) (X : IRoom) (i : Nat) (t : List UInt8) (E S : IEnd) (w : World) (h : RoomX own rid w b X) (ht : X.texts[i]? = some t) (hE : X.ends[i]? = some E) (hS : X.sends[i]? = some S) :
    Calls Try.prog 26 #[.pointer (some ⟨b, 0, none⟩), .int .i64 i, .bool false] w fun e w' => e = .returned (.tuple #[.int .i64 E.flying.length, .int .i64 0]) ∧ w' = w := by
  obtain ⟨mb, eb, sb, tbi, tb, c1, lk0, lk1, hE0, hT1, hE1, _⟩ := h.yes ht hE hS
  obtain ⟨wv, ov, kb, fv, hc, hm, hop, hk, hf⟩ := hE0
  obtain ⟨fa, fc, rfl, _, _⟩ := hf.shape
  have c5 : w.cell? ⟨eb, 8, none⟩ = some (.slice fa E.flying.length fc) := by rw [hc.cell]; rfl
  clear h hc hm hop hk hf hT1
  go_enter Try.func26, Try.ntmps26
  go_wp2
  go_ret2
  exact ⟨rfl, rfl⟩
set_option maxRecDepth 100000 in
set_option maxHeartbeats 400000 in
theorem xpeek_0 (own : Nat → Tag) (rid b : Nat) (X : IRoom) (i : Nat) (q : Int) (t : List UInt8) (E S : IEnd) (w : World) (h : RoomX own rid w b X) (ht : X.texts[i]? = some t) (hE : X.ends[i]? = some E) (hS : X.sends[i]? = some S) (hq : q < 0 ∨ q ≥ E.flying.length) :
    Calls Try.prog 48 #[.pointer (some ⟨b, 0, none⟩), .int .i64 i, .bool false, .int .i64 q] w fun e w' => e = .returned (.tuple #[.string ⟨#[]⟩, .int .i64 7]) ∧ w' = w := by
  obtain ⟨mb, eb, sb, tbi, tb, c1, lk0, lk1, hE0, hT1, hE1, _⟩ := h.yes ht hE hS
  obtain ⟨wv, ov, kb, fv, hc, hm, hop, hk, hf⟩ := hE0
  obtain ⟨fa, fc, rfl, _, _⟩ := hf.shape
  have c5 : w.cell? ⟨eb, 8, none⟩ = some (.slice fa E.flying.length fc) := by rw [hc.cell]; rfl
  clear h hc hm hop hk hf hT1
  by_cases hq0 : q < 0
  · clear hq
    go_enter Try.func48, Try.ntmps48
    go_wp2
    go_ret2
    exact ⟨rfl, rfl⟩
  · have hq1 : (E.flying.length : Int) ≤ q := by omega
    clear hq
    go_enter Try.func48, Try.ntmps48
    go_wp2
    go_ret2
    exact ⟨rfl, rfl⟩
set_option maxRecDepth 100000 in
set_option maxHeartbeats 400000 in
theorem xpeek_0_yes (own : Nat → Tag) (rid b : Nat) (X : IRoom) (i q : Nat) (s : ByteArray) (t : List UInt8) (E S : IEnd) (w : World) (h : RoomX own rid w b X) (ht : X.texts[i]? = some t) (hE : X.ends[i]? = some E) (hS : X.sends[i]? = some S) (hq : E.flying[q]? = some s) :
    Calls Try.prog 48 #[.pointer (some ⟨b, 0, none⟩), .int .i64 i, .bool false, .int .i64 q] w fun e w' => e = .returned (.tuple #[.string s, .int .i64 0]) ∧ w' = w := by
  obtain ⟨mb, eb, sb, tbi, tb, c1, lk0, lk1, hE0, hT1, hE1, _⟩ := h.yes ht hE hS
  obtain ⟨wv, ov, kb, fv, hc, hm, hop, hk, hf⟩ := hE0
  obtain ⟨fg, fc, rfl, _, _, d1, _⟩ := hf.get (i := q) (u := .string s) (by simp [hq])
  have c5 : w.cell? ⟨eb, 8, none⟩ = some (.slice (some ⟨fg, 0, none⟩) E.flying.length fc) := by rw [hc.cell]; rfl
  have hq2 : (0 : Int) ≤ (q : Int) := by omega
  have hq3 : (q : Int) < (E.flying.length : Int) := by have := (List.getElem?_eq_some_iff.1 hq).1; omega
  have hq4 : ¬ (E.flying.length : Int) ≤ (q : Int) := by omega
  have hq5 : ¬ (q : Int) < 0 := by omega
  clear h hc hm hop hk hf hT1 hq
  go_enter Try.func48, Try.ntmps48
  go_wp2
  go_ret2
  exact ⟨rfl, rfl⟩
set_option maxRecDepth 100000 in
set_option maxHeartbeats 400000 in
theorem xflying_1 (own : Nat → Tag) (rid b : Nat) (X : IRoom) (i : Nat) (t : List UInt8) (E S : IEnd) (w : World) (h : RoomX own rid w b X) (ht : X.texts[i]? = some t) (hE : X.ends[i]? = some E) (hS : X.sends[i]? = some S) :
    Calls Try.prog 26 #[.pointer (some ⟨b, 0, none⟩), .int .i64 i, .bool true] w fun e w' => e = .returned (.tuple #[.int .i64 S.flying.length, .int .i64 0]) ∧ w' = w := by
  obtain ⟨mb, eb, sb, tbi, tb, c1, lk0, lk1, hE0, hT1, hE1, _⟩ := h.yes ht hE hS
  obtain ⟨wv, ov, kb, fv, hc, hm, hop, hk, hf⟩ := hE1
  obtain ⟨fa, fc, rfl, _, _⟩ := hf.shape
  have c5 : w.cell? ⟨sb, 8, none⟩ = some (.slice fa S.flying.length fc) := by rw [hc.cell]; rfl
  clear h hc hm hop hk hf hT1
  go_enter Try.func26, Try.ntmps26
  go_wp2
  go_ret2
  exact ⟨rfl, rfl⟩
set_option maxRecDepth 100000 in
set_option maxHeartbeats 400000 in
theorem xpeek_1 (own : Nat → Tag) (rid b : Nat) (X : IRoom) (i : Nat) (q : Int) (t : List UInt8) (E S : IEnd) (w : World) (h : RoomX own rid w b X) (ht : X.texts[i]? = some t) (hE : X.ends[i]? = some E) (hS : X.sends[i]? = some S) (hq : q < 0 ∨ q ≥ S.flying.length) :
    Calls Try.prog 48 #[.pointer (some ⟨b, 0, none⟩), .int .i64 i, .bool true, .int .i64 q] w fun e w' => e = .returned (.tuple #[.string ⟨#[]⟩, .int .i64 7]) ∧ w' = w := by
  obtain ⟨mb, eb, sb, tbi, tb, c1, lk0, lk1, hE0, hT1, hE1, _⟩ := h.yes ht hE hS
  obtain ⟨wv, ov, kb, fv, hc, hm, hop, hk, hf⟩ := hE1
  obtain ⟨fa, fc, rfl, _, _⟩ := hf.shape
  have c5 : w.cell? ⟨sb, 8, none⟩ = some (.slice fa S.flying.length fc) := by rw [hc.cell]; rfl
  clear h hc hm hop hk hf hT1
  by_cases hq0 : q < 0
  · clear hq
    go_enter Try.func48, Try.ntmps48
    go_wp2
    go_ret2
    exact ⟨rfl, rfl⟩
  · have hq1 : (S.flying.length : Int) ≤ q := by omega
    clear hq
    go_enter Try.func48, Try.ntmps48
    go_wp2
    go_ret2
    exact ⟨rfl, rfl⟩
set_option maxRecDepth 100000 in
set_option maxHeartbeats 400000 in
theorem xpeek_1_yes (own : Nat → Tag) (rid b : Nat) (X : IRoom) (i q : Nat) (s : ByteArray) (t : List UInt8) (E S : IEnd) (w : World) (h : RoomX own rid w b X) (ht : X.texts[i]? = some t) (hE : X.ends[i]? = some E) (hS : X.sends[i]? = some S) (hq : S.flying[q]? = some s) :
    Calls Try.prog 48 #[.pointer (some ⟨b, 0, none⟩), .int .i64 i, .bool true, .int .i64 q] w fun e w' => e = .returned (.tuple #[.string s, .int .i64 0]) ∧ w' = w := by
  obtain ⟨mb, eb, sb, tbi, tb, c1, lk0, lk1, hE0, hT1, hE1, _⟩ := h.yes ht hE hS
  obtain ⟨wv, ov, kb, fv, hc, hm, hop, hk, hf⟩ := hE1
  obtain ⟨fg, fc, rfl, _, _, d1, _⟩ := hf.get (i := q) (u := .string s) (by simp [hq])
  have c5 : w.cell? ⟨sb, 8, none⟩ = some (.slice (some ⟨fg, 0, none⟩) S.flying.length fc) := by rw [hc.cell]; rfl
  have hq2 : (0 : Int) ≤ (q : Int) := by omega
  have hq3 : (q : Int) < (S.flying.length : Int) := by have := (List.getElem?_eq_some_iff.1 hq).1; omega
  have hq4 : ¬ (S.flying.length : Int) ≤ (q : Int) := by omega
  have hq5 : ¬ (q : Int) < 0 := by omega
  clear h hc hm hop hk hf hT1 hq
  go_enter Try.func48, Try.ntmps48
  go_wp2
  go_ret2
  exact ⟨rfl, rfl⟩
end Go.Proofs.Ytemkgikncmhoaaa

