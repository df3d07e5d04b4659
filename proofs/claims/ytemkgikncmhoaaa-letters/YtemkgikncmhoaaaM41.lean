import Derived.Test.YtemkgikncmhoaaaM40
/-
  weavekeep: the document's examples, as plain data. Own work.
-/
namespace Go.Proofs.Ytemkgikncmhoaaa
open Go.RowKit

def aw0 : IRoom := IRoom.fresh 2 2
def aw1 : IRoom := aw0.made 0 ⟨(0 : Nat), 1, (0 : Nat), (97 : Nat)⟩
def aw2 : IRoom := aw1.up 0 0
def aw3 : IRoom := aw2.made 1 ⟨(1 : Nat), 1, (0 : Nat), (98 : Nat)⟩
def aw4 : IRoom := aw3.down 1 0
def aw5 : IRoom := aw4.up 1 0
def aw6 : IRoom := aw5.down 0 0
theorem aw_f1 : (aw1.e 0).flying = [⟨#[1, 1, 0, 0, 0, 1, 0, 97, 100, 32]⟩] := by kernel_rfl
theorem aw_r2 : aw2.server = [97] := by kernel_rfl
theorem aw_f2 : (aw2.s 0).flying = [⟨#[2, 1, 3, 4]⟩] ∧ (aw2.s 1).flying = [⟨#[1, 1, 0, 0, 0, 1, 0, 97, 100, 32]⟩] := ⟨by kernel_rfl, by kernel_rfl⟩
theorem aw_f3 : (aw3.s 1).flying = [⟨#[1, 1, 0, 0, 0, 1, 0, 97, 100, 32]⟩] := by kernel_rfl
theorem aw_t4 : aw4.tx 1 = [97, 98] := by kernel_rfl
theorem aw_f4 : 0 < (aw4.e 1).flying.length := of_decide_eq_true (by kernel_rfl)
theorem aw_r5 : aw5.server = [97, 98] := by kernel_rfl
theorem aw_f5 : 0 < (aw5.s 0).flying.length := of_decide_eq_true (by kernel_rfl)
theorem aw_w6 : (aw6.e 0).waiting.length = 0 := by kernel_rfl
theorem aw_may1 : aw0.may 0 := ⟨of_decide_eq_true (by kernel_rfl), of_decide_eq_true (by kernel_rfl)⟩
theorem aw_may3 : aw2.may 1 := ⟨of_decide_eq_true (by kernel_rfl), of_decide_eq_true (by kernel_rfl)⟩
theorem aw_n : aw0.texts.length = 2 ∧ aw1.texts.length = 2 ∧ aw2.texts.length = 2 ∧ aw3.texts.length = 2 ∧ aw4.texts.length = 2 ∧ aw5.texts.length = 2 ∧ aw6.texts.length = 2 := ⟨by kernel_rfl, by kernel_rfl, by kernel_rfl, by kernel_rfl, by kernel_rfl, by kernel_rfl, by kernel_rfl⟩
theorem aw_l : (aw0.tx 0).length < 60 ∧ (aw2.tx 1).length < 60 := ⟨of_decide_eq_true (by kernel_rfl), of_decide_eq_true (by kernel_rfl)⟩
end Go.Proofs.Ytemkgikncmhoaaa

/-
  weavekeep: awake, the document's examples. Own work.
-/
namespace Go.Proofs.Ytemkgikncmhoaaa
open Go.RowKit
attribute [local go_sem ↓] Go.wp_at_zero Go.wp_at_succ

/-- The examples' room. -/
def AwAt (own : Nat → Tag) (w : World) (b : Nat) (X : IRoom) (w' : World) : Prop := (∃ own', RoomX own' 0 w' b X ∧ Upd own own' (inRoom 0) w w')
theorem AwAt.after {own : Nat → Tag} {w w1 w2 : World} {b : Nat} {X : IRoom} {own1 : Nat → Tag} (hu : Upd own own1 (inRoom 0) w w1) (ha : After own1 0 b w1 X w2) : AwAt own w b X w2 := by
  obtain ⟨own', a1, a2⟩ := ha
  exact ⟨own', a1, hu.trans a2⟩
theorem aw_fit0 : Fit aw0 := Fit.fresh (by omega) (by omega) (by omega) (by omega)
theorem aw_fit1 : Fit aw1 := aw_fit0.put (i := 0) (by rw [aw_n.1]; omega) (Nat.zero_le _) ⟨by omega, by omega⟩ aw_may1
theorem aw_fit2 : Fit aw2 := aw_fit1.up (by rw [aw_n.2.1]; omega) 0
theorem aw_fit3 : Fit aw3 := aw_fit2.put (i := 1) (by rw [aw_n.2.2.1]; omega) (Nat.zero_le _) ⟨by omega, by omega⟩ aw_may3
theorem aw_fit4 : Fit aw4 := aw_fit3.down (by rw [aw_n.2.2.2.1]; omega) 0
theorem aw_fit5 : Fit aw5 := aw_fit4.up (by rw [aw_n.2.2.2.2.1]; omega) 0
theorem aw_fit6 : Fit aw6 := aw_fit5.down (by rw [aw_n.2.2.2.2.2.1]; omega) 0
section
variable {own : Nat → Tag} {w w1 : World} {b : Nat}
theorem aw_s1 (h : AwAt own w b aw0 w1) : Calls Try.prog 25 #[.pointer (some ⟨b, 0, none⟩), .int .i64 0, .int .i64 0, .int .u8 97] w1 fun e w' => e = .returned (.int .i64 0) ∧ AwAt own w b aw1 w' := by
  obtain ⟨own1, h1, hu⟩ := h
  refine (kPut (i := 0) h1 aw_fit0 (by rw [aw_n.1]; omega) 0 97 (Nat.zero_le _) ⟨by omega, by omega⟩).mono ?_
  rintro e w' (⟨rfl, _, _, a⟩ | ⟨r, _, _, n, _⟩)
  · exact ⟨rfl, .after hu a⟩
  · exact absurd ⟨aw_may1, aw_l.1⟩ n
theorem aw_s2 (h : AwAt own w b aw1 w1) : Calls Try.prog 48 #[.pointer (some ⟨b, 0, none⟩), .int .i64 0, .bool false, .int .i64 0] w1 fun e w' => e = .returned (.tuple #[.string ⟨#[1, 1, 0, 0, 0, 1, 0, 97, 100, 32]⟩, .int .i64 0]) ∧ w' = w1 := by
  obtain ⟨own1, h1, hu⟩ := h
  obtain ⟨g1, g2, g3⟩ := aw_fit1.get (i := 0) (by rw [aw_n.2.1]; omega)
  exact xpeek_0_yes own1 0 b aw1 0 0 _ _ _ _ w1 h1 g1 g2 g3 (by rw [aw_f1]; rfl)
theorem aw_s3 (h : AwAt own w b aw1 w1) : Calls Try.prog 27 #[.pointer (some ⟨b, 0, none⟩), .int .i64 0, .bool false, .int .i64 0, .int .i64 0] w1 fun e w' => e = .returned (.int .i64 0) ∧ AwAt own w b aw2 w' := by
  obtain ⟨own1, h1, hu⟩ := h
  refine (kUp (i := 0) (n := 0) h1 aw_fit1 (by rw [aw_n.2.1]; omega) (by rw [aw_f1]; simp)).mono ?_
  rintro e w' ⟨rfl, a⟩
  exact ⟨rfl, .after hu a⟩
theorem aw_s4 (h : AwAt own w b aw2 w1) : Calls Try.prog 15 #[.pointer (some ⟨b, 0, none⟩), .int .i64 (-1)] w1 fun e w' => e = .returned (.tuple #[.string ⟨#[97]⟩, .int .i64 0]) ∧ w' = w1 := by
  obtain ⟨own1, h1, hu⟩ := h
  have := xread_server own1 0 b aw2 w1 h1
  rw [aw_r2] at this
  exact this
theorem aw_s5 (h : AwAt own w b aw2 w1) : Calls Try.prog 48 #[.pointer (some ⟨b, 0, none⟩), .int .i64 0, .bool true, .int .i64 0] w1 fun e w' => e = .returned (.tuple #[.string ⟨#[2, 1, 3, 4]⟩, .int .i64 0]) ∧ w' = w1 := by
  obtain ⟨own1, h1, hu⟩ := h
  obtain ⟨g1, g2, g3⟩ := aw_fit2.get (i := 0) (by rw [aw_n.2.2.1]; omega)
  exact xpeek_1_yes own1 0 b aw2 0 0 _ _ _ _ w1 h1 g1 g2 g3 (by rw [aw_f2.1]; rfl)
theorem aw_s6 (h : AwAt own w b aw2 w1) : Calls Try.prog 48 #[.pointer (some ⟨b, 0, none⟩), .int .i64 1, .bool true, .int .i64 0] w1 fun e w' => e = .returned (.tuple #[.string ⟨#[1, 1, 0, 0, 0, 1, 0, 97, 100, 32]⟩, .int .i64 0]) ∧ w' = w1 := by
  obtain ⟨own1, h1, hu⟩ := h
  obtain ⟨g1, g2, g3⟩ := aw_fit2.get (i := 1) (by rw [aw_n.2.2.1]; omega)
  exact xpeek_1_yes own1 0 b aw2 1 0 _ _ _ _ w1 h1 g1 g2 g3 (by rw [aw_f2.2]; rfl)
theorem aw_s7 (h : AwAt own w b aw2 w1) : Calls Try.prog 25 #[.pointer (some ⟨b, 0, none⟩), .int .i64 1, .int .i64 0, .int .u8 98] w1 fun e w' => e = .returned (.int .i64 0) ∧ AwAt own w b aw3 w' := by
  obtain ⟨own1, h1, hu⟩ := h
  refine (kPut (i := 1) h1 aw_fit2 (by rw [aw_n.2.2.1]; omega) 0 98 (Nat.zero_le _) ⟨by omega, by omega⟩).mono ?_
  rintro e w' (⟨rfl, _, _, a⟩ | ⟨r, _, _, n, _⟩)
  · exact ⟨rfl, .after hu a⟩
  · exact absurd ⟨aw_may3, aw_l.2⟩ n
theorem aw_s8 (h : AwAt own w b aw3 w1) : Calls Try.prog 27 #[.pointer (some ⟨b, 0, none⟩), .int .i64 1, .bool true, .int .i64 0, .int .i64 0] w1 fun e w' => e = .returned (.int .i64 0) ∧ AwAt own w b aw4 w' := by
  obtain ⟨own1, h1, hu⟩ := h
  refine (kDown (i := 1) (n := 0) h1 aw_fit3 (by rw [aw_n.2.2.2.1]; omega) (by rw [aw_f3]; simp)).mono ?_
  rintro e w' ⟨rfl, a⟩
  exact ⟨rfl, .after hu a⟩
theorem aw_s9 (h : AwAt own w b aw4 w1) : Calls Try.prog 15 #[.pointer (some ⟨b, 0, none⟩), .int .i64 1] w1 fun e w' => e = .returned (.tuple #[.string ⟨#[97, 98]⟩, .int .i64 0]) ∧ w' = w1 := by
  obtain ⟨own1, h1, hu⟩ := h
  have := kRead (i := 1) h1 aw_fit4 (by rw [aw_n.2.2.2.2.1]; omega)
  rw [aw_t4] at this
  exact this
theorem aw_s10 (h : AwAt own w b aw4 w1) : Calls Try.prog 27 #[.pointer (some ⟨b, 0, none⟩), .int .i64 1, .bool false, .int .i64 0, .int .i64 0] w1 fun e w' => e = .returned (.int .i64 0) ∧ AwAt own w b aw5 w' := by
  obtain ⟨own1, h1, hu⟩ := h
  refine (kUp (i := 1) (n := 0) h1 aw_fit4 (by rw [aw_n.2.2.2.2.1]; omega) aw_f4).mono ?_
  rintro e w' ⟨rfl, a⟩
  exact ⟨rfl, .after hu a⟩
theorem aw_s11 (h : AwAt own w b aw5 w1) : Calls Try.prog 15 #[.pointer (some ⟨b, 0, none⟩), .int .i64 (-1)] w1 fun e w' => e = .returned (.tuple #[.string ⟨#[97, 98]⟩, .int .i64 0]) ∧ w' = w1 := by
  obtain ⟨own1, h1, hu⟩ := h
  have := xread_server own1 0 b aw5 w1 h1
  rw [aw_r5] at this
  exact this
theorem aw_s12 (h : AwAt own w b aw5 w1) : Calls Try.prog 27 #[.pointer (some ⟨b, 0, none⟩), .int .i64 0, .bool true, .int .i64 0, .int .i64 0] w1 fun e w' => e = .returned (.int .i64 0) ∧ AwAt own w b aw6 w' := by
  obtain ⟨own1, h1, hu⟩ := h
  refine (kDown (i := 0) (n := 0) h1 aw_fit5 (by rw [aw_n.2.2.2.2.2.1]; omega) aw_f5).mono ?_
  rintro e w' ⟨rfl, a⟩
  exact ⟨rfl, .after hu a⟩
theorem aw_s13 (h : AwAt own w b aw6 w1) : Calls Try.prog 19 #[.pointer (some ⟨b, 0, none⟩), .int .i64 0] w1 fun e w' => e = .returned (.tuple #[.int .i64 0, .int .i64 0]) ∧ w' = w1 := by
  obtain ⟨own1, h1, hu⟩ := h
  have := kWaits (i := 0) h1 aw_fit6 (by rw [aw_n.2.2.2.2.2.2]; omega)
  rw [aw_w6] at this
  exact this
end
set_option maxRecDepth 100000 in
set_option maxHeartbeats 1600000 in
theorem kawake (own : Nat → Tag) (w : World) :
    Calls Try.prog 32 #[] w fun e w' => e = .returned (.bool true) ∧ ∃ own', Upd own own' (inRoom 0) w w' := by
  have HN : Hid (Calls Try.prog 33 #[.int .i64 2, .int .i64 2] w fun e w' => ∃ b, e = .returned (.tuple #[.pointer (some ⟨b, 0, none⟩), .int .i64 0]) ∧ AwAt own w b aw0 w') := by
    apply hide
    refine (xnew_yes own 0 2 2 w (by omega) (by omega) (by omega) (by omega)).mono ?_
    rintro e w' ⟨b, own', rfl, a1, a2⟩
    exact ⟨b, rfl, own', a1, a2⟩
  go_enter Try.func32, Try.ntmps32
  go_wp2_with fail
  refine (unhide HN).mono ?_
  rintro e w1 ⟨b, rfl, h1⟩
  clear HN
  replace h1 := hide h1
  go_wp2_with fail
  refine (aw_s1 (unhide h1)).mono ?_
  rintro e w2 ⟨rfl, h2⟩
  replace h2 := hide h2
  clear h1
  go_wp2_with fail
  refine (aw_s2 (unhide h2)).mono ?_
  rintro e w' ⟨rfl, hw'⟩
  obtain rfl := hw'.symm
  go_wp2_with fail
  refine (aw_s3 (unhide h2)).mono ?_
  rintro e w3 ⟨rfl, h3⟩
  replace h3 := hide h3
  clear h2
  go_wp2_with fail
  refine (aw_s4 (unhide h3)).mono ?_
  rintro e w' ⟨rfl, hw'⟩
  obtain rfl := hw'.symm
  go_wp2_with fail
  refine (aw_s5 (unhide h3)).mono ?_
  rintro e w' ⟨rfl, hw'⟩
  obtain rfl := hw'.symm
  go_wp2_with fail
  refine (aw_s6 (unhide h3)).mono ?_
  rintro e w' ⟨rfl, hw'⟩
  obtain rfl := hw'.symm
  go_wp2_with fail
  refine (aw_s7 (unhide h3)).mono ?_
  rintro e w4 ⟨rfl, h4⟩
  replace h4 := hide h4
  clear h3
  go_wp2_with fail
  refine (aw_s8 (unhide h4)).mono ?_
  rintro e w5 ⟨rfl, h5⟩
  replace h5 := hide h5
  clear h4
  go_wp2_with fail
  refine (aw_s9 (unhide h5)).mono ?_
  rintro e w' ⟨rfl, hw'⟩
  obtain rfl := hw'.symm
  go_wp2_with fail
  refine (aw_s10 (unhide h5)).mono ?_
  rintro e w6 ⟨rfl, h6⟩
  replace h6 := hide h6
  clear h5
  go_wp2_with fail
  refine (aw_s11 (unhide h6)).mono ?_
  rintro e w' ⟨rfl, hw'⟩
  obtain rfl := hw'.symm
  go_wp2_with fail
  refine (aw_s12 (unhide h6)).mono ?_
  rintro e w7 ⟨rfl, h7⟩
  replace h7 := hide h7
  clear h6
  go_wp2_with fail
  refine (aw_s13 (unhide h7)).mono ?_
  rintro e w' ⟨rfl, hw'⟩
  obtain rfl := hw'.symm
  go_wp2_with fail
  go_ret
  obtain ⟨own', _, hu⟩ := unhide h7
  exact ⟨rfl, own', hu⟩
end Go.Proofs.Ytemkgikncmhoaaa

/-
  weavekeep: opened. Own work.
-/
namespace Go.Proofs.Ytemkgikncmhoaaa
open Go.RowKit
attribute [local go_sem ↓] Go.wp_at_zero Go.wp_at_succ

def base9 : Nat → Tag := fun _ => (9, 0, 0)
def may9 (t : Tag) : Prop := t.1 ≠ 9
theorem Upd.base {own' : Nat → Tag} {w w' : World} (h : Upd base9 own' may9 w w') : Below w.heap.size w w' := h.below (Nat.le_refl _) (fun k _ => by simp [may9, base9])
theorem Upd.to9 {own own' : Nat → Tag} {w w' : World} {r : Nat} (h : Upd own own' (inRoom r) w w') (hr : r ≠ 9) : Upd own own' may9 w w' := h.mono (fun t ht => by unfold inRoom at ht; unfold may9; omega)

set_option maxRecDepth 100000 in
set_option maxHeartbeats 1600000 in
theorem kopened (w : World) (cl wi : Int) (hcl : I64 cl) (hwi : I64 wi) :
    Calls Try.prog 13 #[.int .i64 cl, .int .i64 wi] w fun e w' => ∃ rb b own', e = .returned (.pointer (some ⟨rb, 0, none⟩)) ∧ KRoom own' w' rb b (IRoom.fresh (1 + pickN cl 4) (1 + pickN wi 4)) ∧ Upd base9 own' may9 w w' := by
  have HA : Hid (Calls Try.prog 32 #[] w fun e w' => e = .returned (.bool true) ∧ ∃ own', Upd base9 own' may9 w w') := by
    apply hide
    refine (kawake base9 w).mono ?_
    rintro e w' ⟨rfl, own', h⟩
    exact ⟨rfl, own', h.to9 (by omega)⟩
  have HP1 := hide (fun w => kpick cl 4 hcl (by omega) (by omega) w)
  have HP2 := hide (fun w => kpick wi 4 hwi (by omega) (by omega) w)
  have h1 := pickN_lt cl (n := 4) (by omega)
  have h2 := pickN_lt wi (n := 4) (by omega)
  generalize pickN cl 4 = q1 at *
  generalize pickN wi 4 = q2 at *
  have HN : Hid (∀ w1 own1, Upd base9 own1 may9 w w1 → Calls Try.prog 33 #[.int .i64 (1 + (q1 : Int)), .int .i64 (1 + (q2 : Int))] w1 fun e w' => ∃ b own', e = .returned (.tuple #[.pointer (some ⟨b, 0, none⟩), .int .i64 0]) ∧ RoomX own' 1 w' b (IRoom.fresh (1 + q1) (1 + q2)) ∧ Upd base9 own' may9 w w') := by
    apply hide
    intro w1 own1 hu
    have := xnew_yes own1 1 (1 + q1) (1 + q2) w1 (by omega) (by omega) (by omega) (by omega)
    rw [show ((1 + q1 : Nat) : Int) = 1 + (q1 : Int) by omega, show ((1 + q2 : Nat) : Int) = 1 + (q2 : Int) by omega] at this
    refine this.mono ?_
    rintro e w' ⟨b, own', rfl, a1, a2⟩
    exact ⟨b, own', rfl, a1, hu.trans (a2.to9 (by omega))⟩
  clear hcl hwi
  go_enter Try.func13, Try.ntmps13
  go_wp2_with fail
  refine (unhide HA).mono ?_
  rintro e w1 ⟨rfl, own1, hu1⟩
  replace hu1 := hide hu1
  go_wp2_with fail
  refine (unhide HP1 _).mono ?_
  rintro e w' ⟨rfl, hw'⟩
  obtain rfl := hw'.symm
  go_wp2_with fail
  refine (unhide HP2 _).mono ?_
  rintro e w' ⟨rfl, hw'⟩
  obtain rfl := hw'.symm
  go_wp2_with fail
  refine (unhide HN _ _ (unhide hu1)).mono ?_
  rintro e w2 ⟨b, own2, rfl, hr, hu2⟩
  replace hr := hide hr
  replace hu2 := hide hu2
  go_wp2_with fail
  go_ret
  have hU : Upd own2 (retag own2 w2.heap.size (2, 0, 0)) (fun _ => False) w2 (w2.alloc (Obj.cells #[Value.pointer (some { block := b, off := 0 }), Value.int IntKind.i64 (1 + (q1 : Int))] 36)) := Upd.retag ((Upd.refl _ _ w2).alloc _) _ _ (Nat.le_refl _)
  refine ⟨w2.heap.size, b, retag own2 w2.heap.size (2, 0, 0), rfl, ⟨?_, (unhide hr).upd hU (fun _ _ h => h), Fit.fresh (by omega) (by omega) (by omega) (by omega)⟩, (unhide hu2).trans (hU.mono fun _ h => h.elim)⟩
  have e : ((IRoom.fresh (1 + q1) (1 + q2)).texts.length : Int) = 1 + (q1 : Int) := by simp [IRoom.fresh]
  rw [e]
  exact CellsT.new w2 _ _ _ _
end Go.Proofs.Ytemkgikncmhoaaa

