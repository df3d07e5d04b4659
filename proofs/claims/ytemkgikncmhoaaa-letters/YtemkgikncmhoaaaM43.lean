import Derived.Test.YtemkgikncmhoaaaM38
import Derived.Test.YtemkgikncmhoaaaM42
/-
  weavekeep: play, fates. Own work.
-/
namespace Go.Proofs.Ytemkgikncmhoaaa
open Go.RowKit
attribute [local go_sem ↓] Go.wp_at_zero Go.wp_at_succ

theorem wrap_i64 {k : Int} (h : I64 k) : IntKind.i64.wrap k = k := by
  unfold I64 at h
  rw [IntKind.wrap_i64]
  omega
set_option maxRecDepth 100000 in
set_option maxHeartbeats 1600000 in
theorem kplay_fate_0 (own : Nat → Tag) (w : World) (rb b : Nat) (X : IRoom) (kd c n m : Int) (h : KRoom own w rb b X) (hkd : I64 kd) (hc : I64 c) (hn : I64 n) (hm : I64 m) (hk : 4 ≤ pickN kd 8) (hg : pickN m 2 = 0) :
    Calls Try.prog 14 #[.pointer (some ⟨rb, 0, none⟩), .agg (StepV kd c n m)] w fun e w' => e = .returned (.bool true) ∧ ∃ X', Played X kd c m X' ∧ EdAt own w rb b X' w' := by
  have c0 := h.c0
  have c1 := h.c1
  have hn4 := h.fit.num
  have HP1 := hide (fun w => kpick c X.texts.length hc hn4.1 (by omega) w)
  have HP2 := hide (fun w => kpick m 2 hm (by omega) (by omega) w)
  have HP3 := hide (fun w => kpick kd 8 hkd (by omega) (by omega) w)
  have hq := pickN_lt c hn4.1
  have hlen := (h.fit.lens hq).2.1
  have HFl : Hid (∀ own w1, KRoom own w1 rb b X → Calls Try.prog 26 #[.pointer (some ⟨b, 0, none⟩), .int .i64 (pickN c X.texts.length), .bool false] w1 fun e w' => e = .returned (.tuple #[.int .i64 (X.e (pickN c X.texts.length)).flying.length, .int .i64 0]) ∧ w' = w1) := hide fun own w1 h1 => kFlying_0 (i := pickN c X.texts.length) h1.room h1.fit hq
  have HP4 : Hid (0 < (X.e (pickN c X.texts.length)).flying.length → ∀ w, Calls Try.prog 20 #[.int .i64 n, .int .i64 (X.e (pickN c X.texts.length)).flying.length] w fun e w' => e = .returned (.int .i64 (pickN n (X.e (pickN c X.texts.length)).flying.length)) ∧ w' = w) := hide fun hl w => kpick n _ hn (by omega) (by omega) w
  have HP5 : Hid (∀ w, Calls Try.prog 20 #[.int .i64 (m.tdiv 2), .int .i64 6] w fun e w' => e = .returned (.int .i64 (pickN (m.tdiv 2) 6)) ∧ w' = w) := hide (fun w => kpick (m.tdiv 2) 6 (i64_div2 hm) (by omega) (by omega) w)
  have hk7 := pickN_lt kd (n := 8) (by omega)
  have HE : Hid (0 < (X.e (pickN c X.texts.length)).flying.length → ∀ w1, KRoom (retag own w.heap.size (3, 0, 0)) w1 rb b X → Upd own (retag own w.heap.size (3, 0, 0)) (inRoom 1) w w1 → w1.cell? ⟨w.heap.size, 2, none⟩ = some (.int .i64 n) → w1.cell? ⟨w.heap.size, 3, none⟩ = some (.int .i64 m) → Calls Try.prog 27 #[.pointer (some ⟨b, 0, none⟩), .int .i64 (pickN c X.texts.length), .bool false, .int .i64 (pickN n (X.e (pickN c X.texts.length)).flying.length), .int .i64 ((pickN (m.tdiv 2) 6 % 4 : Nat) : Int)] w1 fun e w' => ∃ r : Int, (r = 0 ∨ r = 8) ∧ e = .returned (.int .i64 r) ∧ (∃ X', Played X kd c m X' ∧ EdAt own w rb b X' w') ∧ w'.cell? ⟨w.heap.size, 2, none⟩ = some (.int .i64 n) ∧ w'.cell? ⟨w.heap.size, 3, none⟩ = some (.int .i64 m) ∧ w'.cell? ⟨rb, 0, none⟩ = some (.pointer (some ⟨b, 0, none⟩))) := by
    apply hide
    intro hl w1 h1 hu y2 y3
    refine (kFate_0 (i := pickN c X.texts.length) h1.room h1.fit hq (pickN_lt n (n := (X.e (pickN c X.texts.length)).flying.length) (by omega)) (pickN (m.tdiv 2) 6 % 4) (Nat.mod_lt _ (by omega))).mono ?_
    rintro e w' ⟨r, X', hr, rfl, hmv, a⟩
    obtain ⟨f1, f2, _⟩ := hmv.fit h.fit
    obtain ⟨own', a2, a3⟩ := h1.after a f1 f2
    have ht : ¬ inRoom 1 (retag own w.heap.size (3, 0, 0) w.heap.size) := by rw [retag_ge (Nat.le_refl _)]; simp [inRoom]
    exact ⟨r, hr, rfl, ⟨_, .move (by omega) hmv, own', a2, hu.trans a3⟩, a3.cell y2 ht, a3.cell y3 ht, a2.c0⟩
  have HS : Hid (Played X kd c m X) := hide (.move (by omega) (.air (.refl X)))
  have hq6 := pickN_lt (m.tdiv 2) (n := 6) (by omega)
  rw [hg] at HP2
  generalize pickN kd 8 = k at *
  generalize pickN n (X.e (pickN c X.texts.length)).flying.length = q4 at *
  generalize pickN (m.tdiv 2) 6 = q5 at *
  generalize (X.e (pickN c X.texts.length)).flying.length = L at *
  generalize pickN c X.texts.length = q at *
  have HX := hide h
  clear h
  generalize X.texts.length = N at *
  rw [show ((q5 % 4 : Nat) : Int) = (q5 : Int).tmod 4 by rw [Int.tmod_eq_emod_of_nonneg (by omega)]; omega] at HE
  have hU : Upd own (retag own w.heap.size (3, 0, 0)) (fun _ => False) w (w.alloc (Obj.cells (StepV kd c n m) 31)) := Upd.retag ((Upd.refl _ _ w).alloc _) _ _ (Nat.le_refl _)
  have HX1 := hide ((unhide HX).upd hU (fun _ _ h => h) (fun h => h))
  have HU1 := hide (hU.mono (may' := inRoom 1) fun _ h => h.elim)
  have z : CellsT (retag own w.heap.size (3, 0, 0)) (3, 0, 0) (w.alloc (Obj.cells (StepV kd c n m) 31)) w.heap.size (StepV kd c n m) 31 := CellsT.new w _ _ _ _
  have z0 : (w.alloc (Obj.cells (StepV kd c n m) 31)).cell? ⟨w.heap.size, 0, none⟩ = some (.int .i64 kd) := by rw [z.cell]; rfl
  have z1 : (w.alloc (Obj.cells (StepV kd c n m) 31)).cell? ⟨w.heap.size, 1, none⟩ = some (.int .i64 c) := by rw [z.cell]; rfl
  have z2 : (w.alloc (Obj.cells (StepV kd c n m) 31)).cell? ⟨w.heap.size, 2, none⟩ = some (.int .i64 n) := by rw [z.cell]; rfl
  have z3 : (w.alloc (Obj.cells (StepV kd c n m) 31)).cell? ⟨w.heap.size, 3, none⟩ = some (.int .i64 m) := by rw [z.cell]; rfl
  replace c0 := hU.cell c0 (fun h => h)
  replace c1 := hU.cell c1 (fun h => h)
  clear hU z hg
  unfold StepV at *
  have hwr : IntKind.i64.wrap (m.tdiv 2) = m.tdiv 2 := wrap_i64 (i64_div2 hm)
  unfold I64 at hm
  have hk0 : ¬ (k : Int) = 0 := by omega
  have hk1 : ¬ (k : Int) = 1 := by omega
  have hk2 : ¬ (k : Int) = 2 := by omega
  have hk3 : ¬ (k : Int) = 3 := by omega
  have hL0 : ¬ (L : Int) < 0 := by omega
  have hL12 : ¬ (12 : Int) < (L : Int) := by omega
  have hq50 : (0 : Int) ≤ (q5 : Int) := by omega
  by_cases hL : (L : Int) = 0
  · go_enter Try.func14, Try.ntmps14
    go_wp2_with fail
    generalize w.alloc (Obj.cells #[Value.int .i64 kd, Value.int .i64 c, Value.int .i64 n, Value.int .i64 m] 31) = W at *
    generalize w.heap.size = z at *
    go_region_held3 (fun w' => w'.cell? ⟨z, 0, none⟩ = some (.int .i64 kd) ∧ w'.cell? ⟨z, 1, none⟩ = some (.int .i64 c) ∧ w'.cell? ⟨z, 3, none⟩ = some (.int .i64 m) ∧ w'.cell? ⟨rb, 0, none⟩ = some (.pointer (some ⟨b, 0, none⟩)) ∧ w'.cell? ⟨rb, 1, none⟩ = some (.int .i64 N)) (go_keep) (first | (go_at_call 20; with_reducible refine (unhide HP1 _).mono ?_; rintro e w' ⟨rfl, hw'⟩; obtain rfl := hw'.symm))
    all_goals
      go_wp2_with fail
      refine (unhide HP2 _).mono ?_
      rintro e w' ⟨rfl, hw'⟩
      obtain rfl := hw'.symm
      go_wp2_with fail
      refine (unhide HP3 _).mono ?_
      rintro e w' ⟨rfl, hw'⟩
      obtain rfl := hw'.symm
      go_wp2_with fail
      refine (unhide HFl _ _ (unhide HX1).drew).mono ?_
      rintro e w' ⟨rfl, hw'⟩
      obtain rfl := hw'.symm
      go_wp2_with fail
      go_ret
      exact ⟨rfl, X, unhide HS, _, (unhide HX1).drew, (unhide HU1).drew⟩
  · have hLp : 0 < L := by omega
    have HP4' := hide (unhide HP4 hLp)
    have HE' := hide (unhide HE hLp)
    have HZ : Hid ((w.alloc (Obj.cells #[Value.int .i64 kd, Value.int .i64 c, Value.int .i64 n, Value.int .i64 m] 31)).drew.drew.cell? ⟨w.heap.size, 2, none⟩ = some (.int .i64 n) ∧ (w.alloc (Obj.cells #[Value.int .i64 kd, Value.int .i64 c, Value.int .i64 n, Value.int .i64 m] 31)).drew.drew.cell? ⟨w.heap.size, 3, none⟩ = some (.int .i64 m)) := hide ⟨z2, z3⟩
    clear HP4 HE
    go_enter Try.func14, Try.ntmps14
    go_wp2_with fail
    generalize w.alloc (Obj.cells #[Value.int .i64 kd, Value.int .i64 c, Value.int .i64 n, Value.int .i64 m] 31) = W at *
    generalize w.heap.size = z at *
    go_region_held3 (fun w' => w'.cell? ⟨z, 0, none⟩ = some (.int .i64 kd) ∧ w'.cell? ⟨z, 1, none⟩ = some (.int .i64 c) ∧ w'.cell? ⟨z, 2, none⟩ = some (.int .i64 n) ∧ w'.cell? ⟨z, 3, none⟩ = some (.int .i64 m) ∧ w'.cell? ⟨rb, 0, none⟩ = some (.pointer (some ⟨b, 0, none⟩)) ∧ w'.cell? ⟨rb, 1, none⟩ = some (.int .i64 N)) (go_keep) (first | (go_at_call 20; with_reducible refine (unhide HP1 _).mono ?_; rintro e w' ⟨rfl, hw'⟩; obtain rfl := hw'.symm))
    all_goals
      go_wp2_with fail
      refine (unhide HP2 _).mono ?_
      rintro e w' ⟨rfl, hw'⟩
      obtain rfl := hw'.symm
      go_wp2_with fail
      refine (unhide HP3 _).mono ?_
      rintro e w' ⟨rfl, hw'⟩
      obtain rfl := hw'.symm
      go_wp2_with fail
      refine (unhide HFl _ _ (unhide HX1).drew).mono ?_
      rintro e w' ⟨rfl, hw'⟩
      obtain rfl := hw'.symm
      go_wp2_with fail
      go_region_held3 (fun w' => w'.cell? ⟨z, 2, none⟩ = some (.int .i64 n) ∧ w'.cell? ⟨z, 3, none⟩ = some (.int .i64 m) ∧ w'.cell? ⟨rb, 0, none⟩ = some (.pointer (some ⟨b, 0, none⟩))) (go_keep) (first | (go_at_call 20; with_reducible refine (unhide HP4' _).mono ?_; rintro e w' ⟨rfl, hw'⟩; obtain rfl := hw'.symm) | (go_at_call 20; with_reducible refine (unhide HP5 _).mono ?_; rintro e w' ⟨rfl, hw'⟩; obtain rfl := hw'.symm) | (go_at_call 27; with_reducible refine (unhide HE' _ (unhide HX1).drew.drew (unhide HU1).drew.drew (unhide HZ).1 (unhide HZ).2).mono ?_; rintro e w5 ⟨r, hr, rfl, hw5, y2, y3, y0⟩; replace hw5 := hide hw5))
      all_goals
        rcases hr with rfl | rfl <;>
        · go_wp2_with fail
          go_ret
          exact ⟨rfl, unhide hw5⟩
set_option maxRecDepth 100000 in
set_option maxHeartbeats 1600000 in
theorem kplay_fate_1 (own : Nat → Tag) (w : World) (rb b : Nat) (X : IRoom) (kd c n m : Int) (h : KRoom own w rb b X) (hkd : I64 kd) (hc : I64 c) (hn : I64 n) (hm : I64 m) (hk : 4 ≤ pickN kd 8) (hg : pickN m 2 = 1) :
    Calls Try.prog 14 #[.pointer (some ⟨rb, 0, none⟩), .agg (StepV kd c n m)] w fun e w' => e = .returned (.bool true) ∧ ∃ X', Played X kd c m X' ∧ EdAt own w rb b X' w' := by
  have c0 := h.c0
  have c1 := h.c1
  have hn4 := h.fit.num
  have HP1 := hide (fun w => kpick c X.texts.length hc hn4.1 (by omega) w)
  have HP2 := hide (fun w => kpick m 2 hm (by omega) (by omega) w)
  have HP3 := hide (fun w => kpick kd 8 hkd (by omega) (by omega) w)
  have hq := pickN_lt c hn4.1
  have hlen := (h.fit.lens hq).2.2.1
  have HFl : Hid (∀ own w1, KRoom own w1 rb b X → Calls Try.prog 26 #[.pointer (some ⟨b, 0, none⟩), .int .i64 (pickN c X.texts.length), .bool true] w1 fun e w' => e = .returned (.tuple #[.int .i64 (X.s (pickN c X.texts.length)).flying.length, .int .i64 0]) ∧ w' = w1) := hide fun own w1 h1 => kFlying_1 (i := pickN c X.texts.length) h1.room h1.fit hq
  have HP4 : Hid (0 < (X.s (pickN c X.texts.length)).flying.length → ∀ w, Calls Try.prog 20 #[.int .i64 n, .int .i64 (X.s (pickN c X.texts.length)).flying.length] w fun e w' => e = .returned (.int .i64 (pickN n (X.s (pickN c X.texts.length)).flying.length)) ∧ w' = w) := hide fun hl w => kpick n _ hn (by omega) (by omega) w
  have HP5 : Hid (∀ w, Calls Try.prog 20 #[.int .i64 (m.tdiv 2), .int .i64 6] w fun e w' => e = .returned (.int .i64 (pickN (m.tdiv 2) 6)) ∧ w' = w) := hide (fun w => kpick (m.tdiv 2) 6 (i64_div2 hm) (by omega) (by omega) w)
  have hk7 := pickN_lt kd (n := 8) (by omega)
  have HE : Hid (0 < (X.s (pickN c X.texts.length)).flying.length → ∀ w1, KRoom (retag own w.heap.size (3, 0, 0)) w1 rb b X → Upd own (retag own w.heap.size (3, 0, 0)) (inRoom 1) w w1 → w1.cell? ⟨w.heap.size, 2, none⟩ = some (.int .i64 n) → w1.cell? ⟨w.heap.size, 3, none⟩ = some (.int .i64 m) → Calls Try.prog 27 #[.pointer (some ⟨b, 0, none⟩), .int .i64 (pickN c X.texts.length), .bool true, .int .i64 (pickN n (X.s (pickN c X.texts.length)).flying.length), .int .i64 ((pickN (m.tdiv 2) 6 % 4 : Nat) : Int)] w1 fun e w' => ∃ r : Int, (r = 0 ∨ r = 8) ∧ e = .returned (.int .i64 r) ∧ (∃ X', Played X kd c m X' ∧ EdAt own w rb b X' w') ∧ w'.cell? ⟨w.heap.size, 2, none⟩ = some (.int .i64 n) ∧ w'.cell? ⟨w.heap.size, 3, none⟩ = some (.int .i64 m) ∧ w'.cell? ⟨rb, 0, none⟩ = some (.pointer (some ⟨b, 0, none⟩))) := by
    apply hide
    intro hl w1 h1 hu y2 y3
    refine (kFate_1 (i := pickN c X.texts.length) h1.room h1.fit hq (pickN_lt n (n := (X.s (pickN c X.texts.length)).flying.length) (by omega)) (pickN (m.tdiv 2) 6 % 4) (Nat.mod_lt _ (by omega))).mono ?_
    rintro e w' ⟨r, X', hr, rfl, hmv, a⟩
    obtain ⟨f1, f2, _⟩ := hmv.fit h.fit
    obtain ⟨own', a2, a3⟩ := h1.after a f1 f2
    have ht : ¬ inRoom 1 (retag own w.heap.size (3, 0, 0) w.heap.size) := by rw [retag_ge (Nat.le_refl _)]; simp [inRoom]
    exact ⟨r, hr, rfl, ⟨_, .move (by omega) hmv, own', a2, hu.trans a3⟩, a3.cell y2 ht, a3.cell y3 ht, a2.c0⟩
  have HS : Hid (Played X kd c m X) := hide (.move (by omega) (.air (.refl X)))
  have hq6 := pickN_lt (m.tdiv 2) (n := 6) (by omega)
  rw [hg] at HP2
  generalize pickN kd 8 = k at *
  generalize pickN n (X.s (pickN c X.texts.length)).flying.length = q4 at *
  generalize pickN (m.tdiv 2) 6 = q5 at *
  generalize (X.s (pickN c X.texts.length)).flying.length = L at *
  generalize pickN c X.texts.length = q at *
  have HX := hide h
  clear h
  generalize X.texts.length = N at *
  rw [show ((q5 % 4 : Nat) : Int) = (q5 : Int).tmod 4 by rw [Int.tmod_eq_emod_of_nonneg (by omega)]; omega] at HE
  have hU : Upd own (retag own w.heap.size (3, 0, 0)) (fun _ => False) w (w.alloc (Obj.cells (StepV kd c n m) 31)) := Upd.retag ((Upd.refl _ _ w).alloc _) _ _ (Nat.le_refl _)
  have HX1 := hide ((unhide HX).upd hU (fun _ _ h => h) (fun h => h))
  have HU1 := hide (hU.mono (may' := inRoom 1) fun _ h => h.elim)
  have z : CellsT (retag own w.heap.size (3, 0, 0)) (3, 0, 0) (w.alloc (Obj.cells (StepV kd c n m) 31)) w.heap.size (StepV kd c n m) 31 := CellsT.new w _ _ _ _
  have z0 : (w.alloc (Obj.cells (StepV kd c n m) 31)).cell? ⟨w.heap.size, 0, none⟩ = some (.int .i64 kd) := by rw [z.cell]; rfl
  have z1 : (w.alloc (Obj.cells (StepV kd c n m) 31)).cell? ⟨w.heap.size, 1, none⟩ = some (.int .i64 c) := by rw [z.cell]; rfl
  have z2 : (w.alloc (Obj.cells (StepV kd c n m) 31)).cell? ⟨w.heap.size, 2, none⟩ = some (.int .i64 n) := by rw [z.cell]; rfl
  have z3 : (w.alloc (Obj.cells (StepV kd c n m) 31)).cell? ⟨w.heap.size, 3, none⟩ = some (.int .i64 m) := by rw [z.cell]; rfl
  replace c0 := hU.cell c0 (fun h => h)
  replace c1 := hU.cell c1 (fun h => h)
  clear hU z hg
  unfold StepV at *
  have hwr : IntKind.i64.wrap (m.tdiv 2) = m.tdiv 2 := wrap_i64 (i64_div2 hm)
  unfold I64 at hm
  have hk0 : ¬ (k : Int) = 0 := by omega
  have hk1 : ¬ (k : Int) = 1 := by omega
  have hk2 : ¬ (k : Int) = 2 := by omega
  have hk3 : ¬ (k : Int) = 3 := by omega
  have hL0 : ¬ (L : Int) < 0 := by omega
  have hL12 : ¬ (12 : Int) < (L : Int) := by omega
  have hq50 : (0 : Int) ≤ (q5 : Int) := by omega
  by_cases hL : (L : Int) = 0
  · go_enter Try.func14, Try.ntmps14
    go_wp2_with fail
    generalize w.alloc (Obj.cells #[Value.int .i64 kd, Value.int .i64 c, Value.int .i64 n, Value.int .i64 m] 31) = W at *
    generalize w.heap.size = z at *
    go_region_held3 (fun w' => w'.cell? ⟨z, 0, none⟩ = some (.int .i64 kd) ∧ w'.cell? ⟨z, 1, none⟩ = some (.int .i64 c) ∧ w'.cell? ⟨z, 3, none⟩ = some (.int .i64 m) ∧ w'.cell? ⟨rb, 0, none⟩ = some (.pointer (some ⟨b, 0, none⟩)) ∧ w'.cell? ⟨rb, 1, none⟩ = some (.int .i64 N)) (go_keep) (first | (go_at_call 20; with_reducible refine (unhide HP1 _).mono ?_; rintro e w' ⟨rfl, hw'⟩; obtain rfl := hw'.symm))
    all_goals
      go_wp2_with fail
      refine (unhide HP2 _).mono ?_
      rintro e w' ⟨rfl, hw'⟩
      obtain rfl := hw'.symm
      go_wp2_with fail
      refine (unhide HP3 _).mono ?_
      rintro e w' ⟨rfl, hw'⟩
      obtain rfl := hw'.symm
      go_wp2_with fail
      refine (unhide HFl _ _ (unhide HX1).drew).mono ?_
      rintro e w' ⟨rfl, hw'⟩
      obtain rfl := hw'.symm
      go_wp2_with fail
      go_ret
      exact ⟨rfl, X, unhide HS, _, (unhide HX1).drew, (unhide HU1).drew⟩
  · have hLp : 0 < L := by omega
    have HP4' := hide (unhide HP4 hLp)
    have HE' := hide (unhide HE hLp)
    have HZ : Hid ((w.alloc (Obj.cells #[Value.int .i64 kd, Value.int .i64 c, Value.int .i64 n, Value.int .i64 m] 31)).drew.drew.cell? ⟨w.heap.size, 2, none⟩ = some (.int .i64 n) ∧ (w.alloc (Obj.cells #[Value.int .i64 kd, Value.int .i64 c, Value.int .i64 n, Value.int .i64 m] 31)).drew.drew.cell? ⟨w.heap.size, 3, none⟩ = some (.int .i64 m)) := hide ⟨z2, z3⟩
    clear HP4 HE
    go_enter Try.func14, Try.ntmps14
    go_wp2_with fail
    generalize w.alloc (Obj.cells #[Value.int .i64 kd, Value.int .i64 c, Value.int .i64 n, Value.int .i64 m] 31) = W at *
    generalize w.heap.size = z at *
    go_region_held3 (fun w' => w'.cell? ⟨z, 0, none⟩ = some (.int .i64 kd) ∧ w'.cell? ⟨z, 1, none⟩ = some (.int .i64 c) ∧ w'.cell? ⟨z, 2, none⟩ = some (.int .i64 n) ∧ w'.cell? ⟨z, 3, none⟩ = some (.int .i64 m) ∧ w'.cell? ⟨rb, 0, none⟩ = some (.pointer (some ⟨b, 0, none⟩)) ∧ w'.cell? ⟨rb, 1, none⟩ = some (.int .i64 N)) (go_keep) (first | (go_at_call 20; with_reducible refine (unhide HP1 _).mono ?_; rintro e w' ⟨rfl, hw'⟩; obtain rfl := hw'.symm))
    all_goals
      go_wp2_with fail
      refine (unhide HP2 _).mono ?_
      rintro e w' ⟨rfl, hw'⟩
      obtain rfl := hw'.symm
      go_wp2_with fail
      refine (unhide HP3 _).mono ?_
      rintro e w' ⟨rfl, hw'⟩
      obtain rfl := hw'.symm
      go_wp2_with fail
      refine (unhide HFl _ _ (unhide HX1).drew).mono ?_
      rintro e w' ⟨rfl, hw'⟩
      obtain rfl := hw'.symm
      go_wp2_with fail
      go_region_held3 (fun w' => w'.cell? ⟨z, 2, none⟩ = some (.int .i64 n) ∧ w'.cell? ⟨z, 3, none⟩ = some (.int .i64 m) ∧ w'.cell? ⟨rb, 0, none⟩ = some (.pointer (some ⟨b, 0, none⟩))) (go_keep) (first | (go_at_call 20; with_reducible refine (unhide HP4' _).mono ?_; rintro e w' ⟨rfl, hw'⟩; obtain rfl := hw'.symm) | (go_at_call 20; with_reducible refine (unhide HP5 _).mono ?_; rintro e w' ⟨rfl, hw'⟩; obtain rfl := hw'.symm) | (go_at_call 27; with_reducible refine (unhide HE' _ (unhide HX1).drew.drew (unhide HU1).drew.drew (unhide HZ).1 (unhide HZ).2).mono ?_; rintro e w5 ⟨r, hr, rfl, hw5, y2, y3, y0⟩; replace hw5 := hide hw5))
      all_goals
        rcases hr with rfl | rfl <;>
        · go_wp2_with fail
          go_ret
          exact ⟨rfl, unhide hw5⟩
/-- A step. -/
theorem kplay (own : Nat → Tag) (w : World) (rb b : Nat) (X : IRoom) (kd c n m : Int) (h : KRoom own w rb b X) (hkd : I64 kd) (hc : I64 c) (hn : I64 n) (hm : I64 m) :
    Calls Try.prog 14 #[.pointer (some ⟨rb, 0, none⟩), .agg (StepV kd c n m)] w fun e w' => e = .returned (.bool true) ∧ ∃ X', Played X kd c m X' ∧ EdAt own w rb b X' w' := by
  have hg := pickN_lt m (n := 2) (by omega)
  have h01 : pickN m 2 = 0 ∨ pickN m 2 = 1 := by omega
  by_cases h1 : pickN kd 8 < 3
  · exact kplay_edit own w rb b X kd c n m h hkd hc hn hm h1
  · by_cases h2 : pickN kd 8 = 3
    · rcases h01 with h0 | h0
      · exact kplay_tick_0 own w rb b X kd c n m h hkd hc hm h2 h0
      · exact kplay_tick_1 own w rb b X kd c n m h hkd hc hm h2 h0
    · rcases h01 with h0 | h0
      · exact kplay_fate_0 own w rb b X kd c n m h hkd hc hn hm (by omega) h0
      · exact kplay_fate_1 own w rb b X kd c n m h hkd hc hn hm (by omega) h0
end Go.Proofs.Ytemkgikncmhoaaa

/-
  weavekeep: played. Own work.
-/
namespace Go.Proofs.Ytemkgikncmhoaaa
open Go.RowKit
attribute [local go_sem ↓] Go.wp_at_zero Go.wp_at_succ

/-- The steps of a script, where they lie. -/
def StepsAt (w : World) (B : Nat) (a : Option Addr) (L : Nat) : Prop :=
  ∀ i, i < L → ∃ (b o : Nat) (kd c n m : Int), a = some ⟨b, o, none⟩ ∧ b < B ∧ I64 kd ∧ I64 c ∧ I64 n ∧ I64 m ∧ ∀ k u, (StepV kd c n m)[k]? = some u → w.cell? ⟨b, o + i * 4 + k, none⟩ = some u
theorem StepsAt.below {w w' : World} {B : Nat} {a : Option Addr} {L : Nat} (h : StepsAt w B a L) (hb : Below B w w') : StepsAt w' B a L := by
  intro i hi
  obtain ⟨b, o, kd, c, n, m, h1, h2, h3, h4, h5, h6, h7⟩ := h i hi
  exact ⟨b, o, kd, c, n, m, h1, h2, h3, h4, h5, h6, fun k u hu => (hb.cell (p := ⟨b, o + i * 4 + k, none⟩) h2).trans (h7 k u hu)⟩
/-- Where a law is: its room, and what came in untouched. -/
structure LawAt (w : World) (rb b : Nat) (X : IRoom) (own1 : Nat → Tag) (wr : World) : Prop where
  room : KRoom own1 wr rb b X
  upd : Upd base9 own1 may9 w wr
theorem LawAt.of {w wr w' : World} {rb b : Nat} {X X' : IRoom} {own1 own' : Nat → Tag} (h : LawAt w rb b X own1 wr) (h1 : KRoom own' w' rb b X') (h2 : Upd own1 own' (inRoom 1) wr w') : LawAt w rb b X' own' w' := ⟨h1, h.upd.trans (h2.to9 (by omega))⟩
theorem LawAt.play {w wr : World} {rb b : Nat} {X : IRoom} {own1 : Nat → Tag} (h : LawAt w rb b X own1 wr) {kd c n m : Int} (hkd : I64 kd) (hc : I64 c) (hn : I64 n) (hm : I64 m) :
    Calls Try.prog 14 #[.pointer (some ⟨rb, 0, none⟩), .agg (StepV kd c n m)] wr fun e w' => e = .returned (.bool true) ∧ ∃ X' own', Played X kd c m X' ∧ LawAt w rb b X' own' w' := by
  refine (kplay own1 wr rb b X kd c n m h.room hkd hc hn hm).mono ?_
  rintro e w' ⟨rfl, X', a1, own', a2, a3⟩
  exact ⟨rfl, X', own', a1, h.of a2 a3⟩
theorem LawAt.settle {w wr : World} {rb b : Nat} {X : IRoom} {own1 : Nat → Tag} (h : LawAt w rb b X own1 wr) (R : Nat) (hR : R ≤ 1000) :
    Calls Try.prog 16 #[.pointer (some ⟨rb, 0, none⟩), .int .i64 R] wr fun e w' => e = .returned (.bool true) ∧ ∃ X' own', Settles X R X' ∧ LawAt w rb b X' own' w' := by
  refine (ksettle own1 wr rb b X R hR h.room).mono ?_
  rintro e w' ⟨rfl, own', Y, a1, a2, a3⟩
  exact ⟨rfl, Y, own', a3, h.of a1 a2⟩
theorem LawAt.flush {w wr : World} {rb b : Nat} {X : IRoom} {own1 : Nat → Tag} (h : LawAt w rb b X own1 wr) :
    Calls Try.prog 24 #[.pointer (some ⟨rb, 0, none⟩)] wr fun e w' => e = .returned (.bool true) ∧ ∃ X' own', Turns X X' ∧ X'.Still ∧ LawAt w rb b X' own' w' := by
  refine (kflush own1 wr rb b X h.room).mono ?_
  rintro e w' ⟨rfl, own', Y, a1, a2, a3, a4⟩
  exact ⟨rfl, Y, own', a3, a4, h.of a1 a2⟩
theorem LawAt.steps {w wr : World} {rb b : Nat} {X : IRoom} {own1 : Nat → Tag} (h : LawAt w rb b X own1 wr) {a : Option Addr} {L : Nat} (hs : StepsAt w w.heap.size a L) : StepsAt wr w.heap.size a L := hs.below h.upd.base

set_option maxRecDepth 100000 in
set_option maxHeartbeats 1600000 in
theorem kplayed (w : World) (cl wi : Int) (a : Option Addr) (L cap : Nat) (hcl : I64 cl) (hwi : I64 wi) (hs : StepsAt w w.heap.size a L) (hL : L ≤ 4611686018427387904) :
    Calls Try.prog 18 #[.int .i64 cl, .int .i64 wi, .slice a L cap] w fun e w' => ∃ rb b X own1, e = .returned (.tuple #[.pointer (some ⟨rb, 0, none⟩), .bool true]) ∧ LawAt w rb b X own1 w' := by
  have HO : Hid (Calls Try.prog 13 #[.int .i64 cl, .int .i64 wi] w fun e w' => ∃ rb b own', e = .returned (.pointer (some ⟨rb, 0, none⟩)) ∧ ∃ X, LawAt w rb b X own' w') := by
    apply hide
    refine (kopened w cl wi hcl hwi).mono ?_
    rintro e w' ⟨rb, b, own', rfl, a1, a2⟩
    exact ⟨rb, b, own', rfl, _, a1, a2⟩
  have HS := hide hs
  clear hs hcl hwi
  go_enter Try.func18, Try.ntmps18
  go_wp2_with fail
  refine (unhide HO).mono ?_
  rintro e w1 ⟨rb, b, own1, rfl, X1, h1⟩
  clear HO
  have H1 := hide h1
  clear h1
  go_wp2_with fail
  go_loopw [9] (fun v wr => ∃ (i : Nat) (own2 : Nat → Tag) (X : IRoom), i ≤ L ∧ v = .int .i64 i ∧ LawAt w rb b X own2 wr) (fun v _ => L - (intOf v).toNat)
  case atStart => exact ⟨0, own1, X1, by omega, rfl, unhide H1⟩
  case round =>
    obtain ⟨i, own2, X, hi, rfl, h2⟩ := hrel
    by_cases hlt : i < L
    · have hlt' : (i : Int) < (L : Int) := by omega
      obtain ⟨sb, so, kd, c, n, m, rfl, g2, g3, g4, g5, g6, g7⟩ := h2.steps (unhide HS) i hlt
      have z0 := g7 0 (Value.int .i64 kd) rfl
      have z1 := g7 1 (Value.int .i64 c) rfl
      have z2 := g7 2 (Value.int .i64 n) rfl
      have z3 := g7 3 (Value.int .i64 m) rfl
      rw [Nat.add_zero] at z0
      have HP := hide (h2.play g3 g4 g5 g6)
      unfold StepV at HP
      clear h2 g7
      go_wp2_with fail
      refine (unhide HP).mono ?_
      rintro e w3 ⟨rfl, X', own3, _, h3⟩
      have H3 := hide h3
      clear h3
      go_wp2_with fail
      go_roundw
      case rel => exact ⟨i + 1, own3, X', by omega, by go_num, unhide H3⟩
      case measure => simp [intOf]; omega
    · have hlt' : ¬ (i : Int) < (L : Int) := by omega
      have H2 := hide h2
      clear h2
      go_wp2_with fail
      go_ret2
      exact ⟨rb, rfl, b, X, own2, unhide H2⟩
end Go.Proofs.Ytemkgikncmhoaaa

/-
  weavekeep: Converges. Own work.
-/
namespace Go.Proofs.Ytemkgikncmhoaaa
open Go.RowKit
attribute [local go_sem ↓] Go.wp_at_zero Go.wp_at_succ

theorem LawAt.alike {w wr : World} {rb b : Nat} {X : IRoom} {own1 : Nat → Tag} (h : LawAt w rb b X own1 wr) (hq : X.Quiet) :
    Calls Try.prog 17 #[.pointer (some ⟨rb, 0, none⟩)] wr fun e w' => e = .returned (.tuple #[bstr X.server, .bool true]) ∧ w' = wr :=
  kalike own1 wr rb b X h.room (fun _ hi => h.room.fit.same hq hi)

set_option maxRecDepth 100000 in
set_option maxHeartbeats 1600000 in
theorem converges_any (w : World) (cl wi : Int) (a : Option Addr) (L cap : Nat) (hcl : I64 cl) (hwi : I64 wi) (hs : StepsAt w w.heap.size a L) (hL : L ≤ 4611686018427387904) :
    Calls Try.prog 5 #[.int .i64 cl, .int .i64 wi, .slice a L cap] w fun e w' => e = .returned (.bool true) ∧ Below w.heap.size w w' := by
  have HO := hide (kplayed w cl wi a L cap hcl hwi hs hL)
  clear hs hcl hwi
  go_enter Try.func5, Try.ntmps5
  go_wp2_with fail
  refine (unhide HO).mono ?_
  rintro e w1 ⟨rb, b, X1, own1, rfl, h1⟩
  clear HO
  have HS : Hid (Calls Try.prog 16 #[.pointer (some ⟨rb, 0, none⟩), .int .i64 6] w1 fun e w' => e = .returned (.bool true) ∧ ∃ X' own', (X'.Quiet ∧ X'.Still) ∧ LawAt w rb b X' own' w') := by
    apply hide
    refine (h1.settle 6 (by omega)).mono ?_
    rintro e w' ⟨rfl, X', own', a1, a2⟩
    exact ⟨rfl, X', own', ⟨a1.quiet h1.room.fit (by omega), (a1.fit h1.room.fit).2.1⟩, a2⟩
  clear h1
  go_wp2_with fail
  refine (unhide HS).mono ?_
  rintro e w2 ⟨rfl, X, own2, ⟨hq, _⟩, h2⟩
  clear HS
  have HA := hide (h2.alike hq)
  have c0 := h2.room.c0
  have c1 := h2.room.c1
  have HW : Hid (∀ i, i < X.texts.length → Calls Try.prog 19 #[.pointer (some ⟨b, 0, none⟩), .int .i64 i] w2 fun e w' => e = .returned (.tuple #[.int .i64 0, .int .i64 0]) ∧ w' = w2) := by
    apply hide
    intro i hi
    have := kWaits (i := i) h2.room.room h2.room.fit hi
    rw [(hq i hi).1] at this
    exact this
  have HS2 : Hid (Calls Try.prog 16 #[.pointer (some ⟨rb, 0, none⟩), .int .i64 2] w2 fun e w' => e = .returned (.bool true) ∧ ∃ X' own', (X'.Quiet ∧ X'.server = X.server) ∧ LawAt w rb b X' own' w') := by
    apply hide
    refine (h2.settle 2 (by omega)).mono ?_
    rintro e w' ⟨rfl, X', own', a1, a2⟩
    exact ⟨rfl, X', own', a1.same h2.room.fit hq, a2⟩
  have hn := h2.room.fit.num
  clear h2 hq
  generalize X.texts.length = N at *
  unfold bstr at HA
  go_wp2_with fail
  refine (unhide HA).mono ?_
  rintro e w' ⟨rfl, hw'⟩
  obtain rfl := hw'.symm
  clear HA
  go_wp2_with fail
  go_loopw [11] (fun v wr => ∃ c : Nat, c ≤ N ∧ v = .int .i64 c ∧ wr = w2) (fun v _ => N - (intOf v).toNat)
  case atStart => exact ⟨0, by omega, rfl, rfl⟩
  case round =>
    obtain ⟨c, hc, rfl, rfl⟩ := hrel
    by_cases hlt : c < N
    · have hlt' : (c : Int) < (N : Int) := by omega
      have H1 := hide (unhide HW c hlt)
      go_wp2_with (first | (go_at_call 19; with_reducible refine (unhide H1).mono ?_; rintro e w' ⟨rfl, hw'⟩; obtain rfl := hw'.symm))
      go_roundw
      case rel => exact ⟨c + 1, by omega, by go_num, by first | rfl | trivial⟩
      case measure => simp [intOf]; omega
    · have hlt' : ¬ (c : Int) < (N : Int) := by omega
      go_wp2_with fail
      refine (unhide HS2).mono ?_
      rintro e w3 ⟨rfl, X3, own3, ⟨hq3, hs3⟩, h3⟩
      have HA3 := hide (h3.alike hq3)
      rw [hs3] at HA3
      have H3 := hide h3.upd.base
      clear h3 hq3 hs3
      unfold bstr at HA3
      generalize (⟨X.server.toArray⟩ : ByteArray) = s at *
      go_wp2_with fail
      refine (unhide HA3).mono ?_
      rintro e w' ⟨rfl, hw'⟩
      obtain rfl := hw'.symm
      go_wp2_with fail
      go_ret
      exact ⟨by simp, unhide H3⟩
end Go.Proofs.Ytemkgikncmhoaaa

/-
  weavekeep: Lossless. Own work.
-/
namespace Go.Proofs.Ytemkgikncmhoaaa
open Go.RowKit
attribute [local go_sem ↓] Go.wp_at_zero Go.wp_at_succ

/-- Behind i steps, all delivered. -/
structure LsI (N i : Nat) (X : IRoom) : Prop where
  num : X.texts.length = N
  quiet : X.Quiet
  still : X.Still
  made : ∀ j, j < N → (X.e j).made ≤ i
  len : ∀ j, j < N → (X.tx j).length ≤ i
theorem LsI.start {n W : Nat} : LsI n 0 (IRoom.fresh n W) := by
  refine ⟨by simp [IRoom.fresh], Fit.still_fresh.2, Fit.still_fresh.1, fun j hj => ?_, fun j hj => ?_⟩
  · rw [fresh_e, if_pos hj]; exact Nat.le_refl _
  · rw [fresh_tx]; simp
theorem LsI.may {N i c : Nat} {X : IRoom} (h : LsI N i X) (f : Fit X) (hc : c < N) (hi : i < 40) : X.may c ∧ (X.tx c).length < 60 := by
  have hc' : c < X.texts.length := by rw [h.num]; exact hc
  refine ⟨⟨by rw [(h.quiet c hc').1]; exact f.win.1, by have := h.made c hc; omega⟩, by have := h.len c hc; omega⟩
/-- An edit that is not refused. -/
theorem LsI.edited {N i c : Nat} {X X' : IRoom} {m : Int} (h : LsI N i X) (f : Fit X) (hc : c < N) (hi : i < 40) (e : Edited X c m X') : ∃ o : ROp, X' = X.made c o ∧ Fit X' ∧ (o.does (X.tx c)).length ≠ (X.tx c).length ∧ (o.does (X.tx c)).length ≤ i + 1 := by
  have hc' : c < X.texts.length := by rw [h.num]; exact hc
  have hl := h.len c hc
  have hf := (e.fit f hc').1
  cases e with
  | no g => exact absurd (h.may f hc hi) g
  | put p hp hm hl2 =>
    refine ⟨_, rfl, hf, ?_, ?_⟩ <;> (rw [ROp.does_put, ins_len _ _ _ hp]; omega)
  | cut p hp hm =>
    refine ⟨_, rfl, hf, ?_, ?_⟩ <;> (rw [ROp.does_cut, del_len _ _ hp]; omega)
theorem LsI.next {N i c : Nat} {X Y : IRoom} {o : ROp} (h : LsI N i X) (f : Fit X) (hc : c < N) (hf : Fit (X.made c o)) (hl : (o.does (X.tx c)).length ≤ i + 1) (q : Turns (X.made c o) Y) (hY : Y.Still) : LsI N (i + 1) Y ∧ Y.server = o.does (X.tx c) := by
  have hc' : c < X.texts.length := by rw [h.num]; exact hc
  obtain ⟨a, b⟩ := f.edit_flush h.quiet h.still hc' o hf q hY
  have hn : Y.texts.length = N := by rw [(q.fit hf).2.1]; simpa [IRoom.made, IRoom.setA] using h.num
  refine ⟨⟨hn, a, hY, fun j hj => ?_, fun j hj => ?_⟩, b⟩
  · rw [q.made hf j, made_e f hc' o j]
    have := h.made j hj
    have := h.made c hc
    split <;> omega
  · rw [(q.fit hf).1.same a (by rw [hn]; exact hj), b]; exact hl
theorem LawAt.edit {w wr : World} {rb b : Nat} {X : IRoom} {own1 : Nat → Tag} {N i c : Nat} {kd n m : Int} (h : LawAt w rb b X own1 wr) (hI : LsI N i X) (hc : c < N) (hi : i < 40) (hkd : I64 kd) (hn : I64 n) (hm : I64 m) :
    Calls Try.prog 23 #[.pointer (some ⟨rb, 0, none⟩), .int .i64 c, .int .i64 kd, .int .i64 n, .int .i64 m] wr fun e w' => e = .returned (.bool true) ∧ ∃ (o : ROp) (own' : Nat → Tag), LawAt w rb b (X.made c o) own' w' ∧ (o.does (X.tx c)).length ≠ (X.tx c).length ∧ (o.does (X.tx c)).length ≤ i + 1 := by
  have hc' : c < X.texts.length := by rw [hI.num]; exact hc
  refine (kedit own1 wr rb b X c kd n m h.room hc' hkd hn hm).mono ?_
  rintro e w' ⟨rfl, X', a1, own', a2, a3⟩
  obtain ⟨o, rfl, _, b2, b3⟩ := hI.edited h.room.fit hc hi a1
  exact ⟨rfl, o, own', h.of a2 a3, b2, b3⟩
/-- Behind the edit: what is seen, and the flush. -/
theorem LawAt.edited {w wr : World} {rb b : Nat} {X : IRoom} {own1 : Nat → Tag} {N i c : Nat} {o : ROp} (h : LawAt w rb b (X.made c o) own1 wr) (hI : LsI N i X) (f : Fit X) (hc : c < N) (hl : (o.does (X.tx c)).length ≤ i + 1) :
    wr.cell? ⟨rb, 0, none⟩ = some (.pointer (some ⟨b, 0, none⟩)) ∧ (Calls Try.prog 15 #[.pointer (some ⟨b, 0, none⟩), .int .i64 c] wr fun e w' => e = .returned (.tuple #[bstr (o.does (X.tx c)), .int .i64 0]) ∧ w' = wr) ∧
    (Calls Try.prog 24 #[.pointer (some ⟨rb, 0, none⟩)] wr fun e w' => e = .returned (.bool true) ∧ ∃ Y own', LsI N (i + 1) Y ∧ LawAt w rb b Y own' w' ∧ (Calls Try.prog 17 #[.pointer (some ⟨rb, 0, none⟩)] w' fun e w'' => e = .returned (.tuple #[bstr (o.does (X.tx c)), .bool true]) ∧ w'' = w')) := by
  have hc' : c < X.texts.length := by rw [hI.num]; exact hc
  have e : (X.made c o).tx c = o.does (X.tx c) := by
    show (X.setA c _ _).tx c = _
    rw [tx_setA hc', if_pos rfl]
  have a := kRead (i := c) h.room.room h.room.fit (by simpa [IRoom.made, IRoom.setA] using hc')
  rw [e] at a
  refine ⟨h.room.c0, a, h.flush.mono ?_⟩
  rintro e w' ⟨rfl, Y, own', a1, a2, a3⟩
  obtain ⟨b1, b2⟩ := hI.next f hc h.room.fit hl a1 a2
  have := a3.alike b1.quiet
  rw [b2] at this
  exact ⟨rfl, Y, own', b1, a3, this⟩

theorem LawAt.drew {w wr : World} {rb b : Nat} {X : IRoom} {own1 : Nat → Tag} (h : LawAt w rb b X own1 wr) : LawAt w rb b X own1 wr.drew := ⟨h.room.drew, h.upd.drew⟩
theorem LawAt.old {w wr : World} {rb b : Nat} {X : IRoom} {own1 : Nat → Tag} (h : LawAt w rb b X own1 wr) {p : Addr} {v : Value} (hp : p.block < w.heap.size) (hc : w.cell? p = some v) : wr.cell? p = some v := (h.upd.base.cell hp).trans hc
set_option maxRecDepth 100000 in
set_option maxHeartbeats 1600000 in
theorem lossless_any (w : World) (cl wi : Int) (a : Option Addr) (L cap : Nat) (hcl : I64 cl) (hwi : I64 wi) (hs : StepsAt w w.heap.size a L) (hL : L ≤ 4611686018427387904) :
    Calls Try.prog 7 #[.int .i64 cl, .int .i64 wi, .slice a L cap] w fun e w' => e = .returned (.bool true) ∧ Below w.heap.size w w' := by
  have hq1 := pickN_lt cl (n := 4) (by omega)
  have HO : Hid (Calls Try.prog 13 #[.int .i64 cl, .int .i64 wi] w fun e w' => ∃ rb b own', e = .returned (.pointer (some ⟨rb, 0, none⟩)) ∧ ∃ X, LawAt w rb b X own' w' ∧ LsI (1 + pickN cl 4) 0 X) := by
    apply hide
    refine (kopened w cl wi hcl hwi).mono ?_
    rintro e w' ⟨rb, b, own', rfl, a1, a2⟩
    exact ⟨rb, b, own', rfl, _, ⟨a1, a2⟩, LsI.start⟩
  have HS := hide hs
  clear hs hcl hwi
  have hN : 1 ≤ 1 + pickN cl 4 ∧ 1 + pickN cl 4 ≤ 4 := by omega
  generalize 1 + pickN cl 4 = N at *
  clear hq1
  go_enter Try.func7, Try.ntmps7
  go_wp2_with fail
  refine (unhide HO).mono ?_
  rintro e w1 ⟨rb, b, own1, rfl, X1, h1, hI1⟩
  clear HO
  have H1 := hide (And.intro h1 hI1)
  clear h1 hI1
  go_wp2_with fail
  go_loopw [8] (fun v wr => ∃ (i : Nat) (own2 : Nat → Tag) (X : IRoom), i ≤ L ∧ i ≤ 40 ∧ v = .int .i64 i ∧ LawAt w rb b X own2 wr ∧ LsI N i X) (fun v _ => L - (intOf v).toNat)
  case atStart => exact ⟨0, own1, X1, by omega, by omega, rfl, (unhide H1).1, (unhide H1).2⟩
  case round =>
    clear H1
    obtain ⟨i, own2, X, hi, hi40, rfl, h2, hI2⟩ := hrel
    by_cases hlt : i < L ∧ i < 40
    · have hlt' : (i : Int) < (L : Int) := by omega
      have hlt2 : (i : Int) < 40 := by omega
      obtain ⟨sb, so, kd, c, n, m, rfl, g2, g3, g4, g5, g6, g7⟩ := unhide HS i hlt.1
      have zz : ∀ (X : IRoom) (own1 : Nat → Tag) (wr : World), LawAt w rb b X own1 wr → wr.cell? ⟨sb, so + i * 4, none⟩ = some (.int .i64 kd) ∧ wr.cell? ⟨sb, so + i * 4 + 1, none⟩ = some (.int .i64 c) ∧ wr.cell? ⟨sb, so + i * 4 + 2, none⟩ = some (.int .i64 n) ∧ wr.cell? ⟨sb, so + i * 4 + 3, none⟩ = some (.int .i64 m) := fun X own1 wr h => ⟨h.old g2 (g7 0 _ rfl), h.old g2 (g7 1 _ rfl), h.old g2 (g7 2 _ rfl), h.old g2 (g7 3 _ rfl)⟩
      obtain ⟨z0, z1, z2, z3⟩ := zz X own2 wr h2
      have c0 := h2.room.c0
      have c1 := h2.room.c1
      rw [hI2.num] at c1
      have hq := pickN_lt c hN.1
      have HP := hide (fun w => kpick c N g4 hN.1 (by omega) w)
      have HR := hide (kRead (i := pickN c N) h2.drew.room.room h2.room.fit (by rw [hI2.num]; exact hq))
      have HE : Hid (Calls Try.prog 23 #[.pointer (some ⟨rb, 0, none⟩), .int .i64 (pickN c N), .int .i64 kd, .int .i64 n, .int .i64 m] wr.drew.drew fun e w' => e = .returned (.bool true) ∧ (∃ (o : ROp) (own' : Nat → Tag), LawAt w rb b (X.made (pickN c N) o) own' w' ∧ (o.does (X.tx (pickN c N))).length ≠ (X.tx (pickN c N)).length ∧ (o.does (X.tx (pickN c N))).length ≤ i + 1) ∧ w'.cell? ⟨sb, so + i * 4, none⟩ = some (.int .i64 kd) ∧ w'.cell? ⟨sb, so + i * 4 + 2, none⟩ = some (.int .i64 n) ∧ w'.cell? ⟨sb, so + i * 4 + 3, none⟩ = some (.int .i64 m)) := by
        apply hide
        refine (h2.drew.drew.edit hI2 hq hlt.2 g3 g5 g6).mono ?_
        rintro e w' ⟨rfl, o, own', a1, a2, a3⟩
        obtain ⟨y0, _, y2, y3⟩ := zz _ _ _ a1
        exact ⟨rfl, ⟨o, own', a1, a2, a3⟩, y0, y2, y3⟩
      have H2 := hide (And.intro h2.room.fit hI2)
      clear h2 hI2 g7 zz
      generalize pickN c N = q at *
      unfold bstr at HR
      go_wp2_with fail
      go_region_held3 (fun w' => w'.cell? ⟨sb, so + i * 4, none⟩ = some (.int .i64 kd) ∧ w'.cell? ⟨sb, so + i * 4 + 1, none⟩ = some (.int .i64 c) ∧ w'.cell? ⟨sb, so + i * 4 + 2, none⟩ = some (.int .i64 n) ∧ w'.cell? ⟨sb, so + i * 4 + 3, none⟩ = some (.int .i64 m) ∧ w'.cell? ⟨rb, 0, none⟩ = some (.pointer (some ⟨b, 0, none⟩)) ∧ w'.cell? ⟨rb, 1, none⟩ = some (.int .i64 N)) (go_keep) (first | (go_at_call 20; with_reducible refine (unhide HP _).mono ?_; rintro e w' ⟨rfl, hw'⟩; obtain rfl := hw'.symm))
      all_goals
        go_wp2_with fail
        refine (unhide HR).mono ?_
        rintro e w' ⟨rfl, hw'⟩
        obtain rfl := hw'.symm
        go_wp2_with fail
        go_region_held3 (fun w' => w'.cell? ⟨sb, so + i * 4, none⟩ = some (.int .i64 kd) ∧ w'.cell? ⟨sb, so + i * 4 + 2, none⟩ = some (.int .i64 n) ∧ w'.cell? ⟨sb, so + i * 4 + 3, none⟩ = some (.int .i64 m)) (go_keep) (first | (go_at_call 23; with_reducible refine (unhide HE).mono ?_; rintro e w3 ⟨rfl, h3, y0, y2, y3⟩; replace h3 := hide h3))
        all_goals
          obtain ⟨o, own3, h4, hne, hle⟩ := unhide h3
          obtain ⟨d0, HR3, HF3⟩ := h4.edited (unhide H2).2 (unhide H2).1 hq hle
          replace HR3 := hide HR3
          replace HF3 := hide HF3
          have hne2 : ¬ X.tx q = o.does (X.tx q) := fun e => hne (congrArg List.length e).symm
          clear h3 h4 hne hle HE HR H2 y0 y2 y3
          unfold bstr at HR3 HF3
          generalize o.does (X.tx q) = t' at *
          generalize X.tx q = t at *
          have hne3 : (t == t') = false := by simp [hne2]
          clear hne2
          go_wp2_with fail
          refine (unhide HR3).mono ?_
          rintro e w' ⟨rfl, hw'⟩
          obtain rfl := hw'.symm
          go_wp2_with fail
          refine (unhide HF3).mono ?_
          rintro e w5 ⟨rfl, Y, own5, hI5, h5, HA⟩
          replace HA := hide HA
          have H5 := hide (And.intro h5 hI5)
          clear h5 hI5
          go_wp2_with fail
          refine (unhide HA).mono ?_
          rintro e w' ⟨rfl, hw'⟩
          obtain rfl := hw'.symm
          go_wp2_with fail
          go_roundw
          case rel => exact ⟨i + 1, own5, Y, by omega, by omega, by go_num, (unhide H5).1, (unhide H5).2⟩
          case measure => simp [intOf]; omega
    · have H2 := hide h2.upd.base
      clear h2 hI2
      have hlt' : ¬ (i : Int) < (L : Int) ∨ ((i : Int) < (L : Int) ∧ ¬ (i : Int) < 40) := by omega
      rcases hlt' with hlt' | ⟨hlt1, hlt'⟩ <;>
      · go_wp2_with fail
        go_ret
        exact ⟨rfl, unhide H2⟩
end Go.Proofs.Ytemkgikncmhoaaa

