import Derived.Test.YtemkgikncmhoaaaM37
import Derived.Test.YtemkgikncmhoaaaM41
/-
  weavekeep: play, fates. Own work.
-/
namespace Go.Proofs.Ytemkgikncmhoaaa
open Go.RowKit
attribute [local go_sem ↓] Go.wp_at_zero Go.wp_at_succ

theorem wrap_i64 {k : Int} (h : I64 k) : IntKind.i64.wrap k = k := by
  unfold I64 at h
  rw [IntKind.wrap_i64]
  omega
set_option maxRecDepth 100000 in
set_option maxHeartbeats 1600000 in
theorem kplay_fate_0 (own : Nat → Tag) (w : World) (rb b : Nat) (X : IRoom) (kd c n m : Int) (h : KRoom own w rb b X) (hkd : I64 kd) (hc : I64 c) (hn : I64 n) (hm : I64 m) (hk : 4 ≤ pickN kd 8) (hg : pickN m 2 = 0) :
    Calls Try.prog 14 #[.pointer (some ⟨rb, 0, none⟩), .agg (StepV kd c n m)] w fun e w' => e = .returned (.bool true) ∧ ∃ X', Played X kd c m X' ∧ EdAt own w rb b X' w' := by
  have c0 := h.c0
  have c1 := h.c1
  have hn4 := h.fit.num
  have HP1 := hide (fun w => kpick c X.texts.length hc hn4.1 (by omega) w)
  have HP2 := hide (fun w => kpick m 2 hm (by omega) (by omega) w)
  have HP3 := hide (fun w => kpick kd 8 hkd (by omega) (by omega) w)
  have hq := pickN_lt c hn4.1
  have hlen := (h.fit.lens hq).2.1
  have HFl : Hid (∀ own w1, KRoom own w1 rb b X → Calls Try.prog 26 #[.pointer (some ⟨b, 0, none⟩), .int .i64 (pickN c X.texts.length), .bool false] w1 fun e w' => e = .returned (.tuple #[.int .i64 (X.e (pickN c X.texts.length)).flying.length, .int .i64 0]) ∧ w' = w1) := hide fun own w1 h1 => kFlying_0 (i := pickN c X.texts.length) h1.room h1.fit hq
  have HP4 : Hid (0 < (X.e (pickN c X.texts.length)).flying.length → ∀ w, Calls Try.prog 20 #[.int .i64 n, .int .i64 (X.e (pickN c X.texts.length)).flying.length] w fun e w' => e = .returned (.int .i64 (pickN n (X.e (pickN c X.texts.length)).flying.length)) ∧ w' = w) := hide fun hl w => kpick n _ hn (by omega) (by omega) w
  have HP5 : Hid (∀ w, Calls Try.prog 20 #[.int .i64 (m.tdiv 2), .int .i64 6] w fun e w' => e = .returned (.int .i64 (pickN (m.tdiv 2) 6)) ∧ w' = w) := hide (fun w => kpick (m.tdiv 2) 6 (i64_div2 hm) (by omega) (by omega) w)
  have hk7 := pickN_lt kd (n := 8) (by omega)
  have HE : Hid (0 < (X.e (pickN c X.texts.length)).flying.length → ∀ w1, KRoom (retag own w.heap.size (3, 0, 0)) w1 rb b X → Upd own (retag own w.heap.size (3, 0, 0)) (inRoom 1) w w1 → w1.cell? ⟨w.heap.size, 2, none⟩ = some (.int .i64 n) → w1.cell? ⟨w.heap.size, 3, none⟩ = some (.int .i64 m) → Calls Try.prog 27 #[.pointer (some ⟨b, 0, none⟩), .int .i64 (pickN c X.texts.length), .bool false, .int .i64 (pickN n (X.e (pickN c X.texts.length)).flying.length), .int .i64 ((pickN (m.tdiv 2) 6 % 4 : Nat) : Int)] w1 fun e w' => ∃ r : Int, (r = 0 ∨ r = 8) ∧ e = .returned (.int .i64 r) ∧ (∃ X', Played X kd c m X' ∧ EdAt own w rb b X' w') ∧ w'.cell? ⟨w.heap.size, 2, none⟩ = some (.int .i64 n) ∧ w'.cell? ⟨w.heap.size, 3, none⟩ = some (.int .i64 m) ∧ w'.cell? ⟨rb, 0, none⟩ = some (.pointer (some ⟨b, 0, none⟩))) := by
    apply hide
    intro hl w1 h1 hu y2 y3
    refine (kFate_0 (i := pickN c X.texts.length) h1.room h1.fit hq (pickN_lt n (n := (X.e (pickN c X.texts.length)).flying.length) (by omega)) (pickN (m.tdiv 2) 6 % 4) (Nat.mod_lt _ (by omega))).mono ?_
    rintro e w' ⟨r, X', hr, rfl, hmv, a⟩
    obtain ⟨f1, f2, _⟩ := hmv.fit h.fit
    obtain ⟨own', a2, a3⟩ := h1.after a f1 f2
    have ht : ¬ inRoom 1 (retag own w.heap.size (3, 0, 0) w.heap.size) := by rw [retag_ge (Nat.le_refl _)]; simp [inRoom]
    exact ⟨r, hr, rfl, ⟨_, .move (by omega) hmv, own', a2, hu.trans a3⟩, a3.cell y2 ht, a3.cell y3 ht, a2.c0⟩
  have HS : Hid (Played X kd c m X) := hide (.move (by omega) (.air (.refl X)))
  have hq6 := pickN_lt (m.tdiv 2) (n := 6) (by omega)
  rw [hg] at HP2
  generalize pickN kd 8 = k at *
  generalize pickN n (X.e (pickN c X.texts.length)).flying.length = q4 at *
  generalize pickN (m.tdiv 2) 6 = q5 at *
  generalize (X.e (pickN c X.texts.length)).flying.length = L at *
  generalize pickN c X.texts.length = q at *
  have HX := hide h
  clear h
  generalize X.texts.length = N at *
  rw [show ((q5 % 4 : Nat) : Int) = (q5 : Int).tmod 4 by rw [Int.tmod_eq_emod_of_nonneg (by omega)]; omega] at HE
  have hU : Upd own (retag own w.heap.size (3, 0, 0)) (fun _ => False) w (w.alloc (Obj.cells (StepV kd c n m) 31)) := Upd.retag ((Upd.refl _ _ w).alloc _) _ _ (Nat.le_refl _)
  have HX1 := hide ((unhide HX).upd hU (fun _ _ h => h) (fun h => h))
  have HU1 := hide (hU.mono (may' := inRoom 1) fun _ h => h.elim)
  have z : CellsT (retag own w.heap.size (3, 0, 0)) (3, 0, 0) (w.alloc (Obj.cells (StepV kd c n m) 31)) w.heap.size (StepV kd c n m) 31 := CellsT.new w _ _ _ _
  have z0 : (w.alloc (Obj.cells (StepV kd c n m) 31)).cell? ⟨w.heap.size, 0, none⟩ = some (.int .i64 kd) := by rw [z.cell]; rfl
  have z1 : (w.alloc (Obj.cells (StepV kd c n m) 31)).cell? ⟨w.heap.size, 1, none⟩ = some (.int .i64 c) := by rw [z.cell]; rfl
  have z2 : (w.alloc (Obj.cells (StepV kd c n m) 31)).cell? ⟨w.heap.size, 2, none⟩ = some (.int .i64 n) := by rw [z.cell]; rfl
  have z3 : (w.alloc (Obj.cells (StepV kd c n m) 31)).cell? ⟨w.heap.size, 3, none⟩ = some (.int .i64 m) := by rw [z.cell]; rfl
  replace c0 := hU.cell c0 (fun h => h)
  replace c1 := hU.cell c1 (fun h => h)
  clear hU z hg
  unfold StepV at *
  have hwr : IntKind.i64.wrap (m.tdiv 2) = m.tdiv 2 := wrap_i64 (i64_div2 hm)
  unfold I64 at hm
  have hk0 : ¬ (k : Int) = 0 := by omega
  have hk1 : ¬ (k : Int) = 1 := by omega
  have hk2 : ¬ (k : Int) = 2 := by omega
  have hk3 : ¬ (k : Int) = 3 := by omega
  have hL0 : ¬ (L : Int) < 0 := by omega
  have hL12 : ¬ (12 : Int) < (L : Int) := by omega
  have hq50 : (0 : Int) ≤ (q5 : Int) := by omega
  by_cases hL : (L : Int) = 0
  · go_enter Try.func14, Try.ntmps14
    go_wp2_with fail
    generalize w.alloc (Obj.cells #[Value.int .i64 kd, Value.int .i64 c, Value.int .i64 n, Value.int .i64 m] 31) = W at *
    generalize w.heap.size = z at *
    go_region_held3 (fun w' => w'.cell? ⟨z, 0, none⟩ = some (.int .i64 kd) ∧ w'.cell? ⟨z, 1, none⟩ = some (.int .i64 c) ∧ w'.cell? ⟨z, 3, none⟩ = some (.int .i64 m) ∧ w'.cell? ⟨rb, 0, none⟩ = some (.pointer (some ⟨b, 0, none⟩)) ∧ w'.cell? ⟨rb, 1, none⟩ = some (.int .i64 N)) (go_keep) (first | (go_at_call 20; with_reducible refine (unhide HP1 _).mono ?_; rintro e w' ⟨rfl, hw'⟩; obtain rfl := hw'.symm))
    all_goals
      go_wp2_with fail
      refine (unhide HP2 _).mono ?_
      rintro e w' ⟨rfl, hw'⟩
      obtain rfl := hw'.symm
      go_wp2_with fail
      refine (unhide HP3 _).mono ?_
      rintro e w' ⟨rfl, hw'⟩
      obtain rfl := hw'.symm
      go_wp2_with fail
      refine (unhide HFl _ _ (unhide HX1).drew).mono ?_
      rintro e w' ⟨rfl, hw'⟩
      obtain rfl := hw'.symm
      go_wp2_with fail
      go_ret
      exact ⟨rfl, X, unhide HS, _, (unhide HX1).drew, (unhide HU1).drew⟩
  · have hLp : 0 < L := by omega
    have HP4' := hide (unhide HP4 hLp)
    have HE' := hide (unhide HE hLp)
    have HZ : Hid ((w.alloc (Obj.cells #[Value.int .i64 kd, Value.int .i64 c, Value.int .i64 n, Value.int .i64 m] 31)).drew.drew.cell? ⟨w.heap.size, 2, none⟩ = some (.int .i64 n) ∧ (w.alloc (Obj.cells #[Value.int .i64 kd, Value.int .i64 c, Value.int .i64 n, Value.int .i64 m] 31)).drew.drew.cell? ⟨w.heap.size, 3, none⟩ = some (.int .i64 m)) := hide ⟨z2, z3⟩
    clear HP4 HE
    go_enter Try.func14, Try.ntmps14
    go_wp2_with fail
    generalize w.alloc (Obj.cells #[Value.int .i64 kd, Value.int .i64 c, Value.int .i64 n, Value.int .i64 m] 31) = W at *
    generalize w.heap.size = z at *
    go_region_held3 (fun w' => w'.cell? ⟨z, 0, none⟩ = some (.int .i64 kd) ∧ w'.cell? ⟨z, 1, none⟩ = some (.int .i64 c) ∧ w'.cell? ⟨z, 2, none⟩ = some (.int .i64 n) ∧ w'.cell? ⟨z, 3, none⟩ = some (.int .i64 m) ∧ w'.cell? ⟨rb, 0, none⟩ = some (.pointer (some ⟨b, 0, none⟩)) ∧ w'.cell? ⟨rb, 1, none⟩ = some (.int .i64 N)) (go_keep) (first | (go_at_call 20; with_reducible refine (unhide HP1 _).mono ?_; rintro e w' ⟨rfl, hw'⟩; obtain rfl := hw'.symm))
    all_goals
      go_wp2_with fail
      refine (unhide HP2 _).mono ?_
      rintro e w' ⟨rfl, hw'⟩
      obtain rfl := hw'.symm
      go_wp2_with fail
      refine (unhide HP3 _).mono ?_
      rintro e w' ⟨rfl, hw'⟩
      obtain rfl := hw'.symm
      go_wp2_with fail
      refine (unhide HFl _ _ (unhide HX1).drew).mono ?_
      rintro e w' ⟨rfl, hw'⟩
      obtain rfl := hw'.symm
      go_wp2_with fail
      go_region_held3 (fun w' => w'.cell? ⟨z, 2, none⟩ = some (.int .i64 n) ∧ w'.cell? ⟨z, 3, none⟩ = some (.int .i64 m) ∧ w'.cell? ⟨rb, 0, none⟩ = some (.pointer (some ⟨b, 0, none⟩))) (go_keep) (first | (go_at_call 20; with_reducible refine (unhide HP4' _).mono ?_; rintro e w' ⟨rfl, hw'⟩; obtain rfl := hw'.symm) | (go_at_call 20; with_reducible refine (unhide HP5 _).mono ?_; rintro e w' ⟨rfl, hw'⟩; obtain rfl := hw'.symm) | (go_at_call 27; with_reducible refine (unhide HE' _ (unhide HX1).drew.drew (unhide HU1).drew.drew (unhide HZ).1 (unhide HZ).2).mono ?_; rintro e w5 ⟨r, hr, rfl, hw5, y2, y3, y0⟩; replace hw5 := hide hw5))
      all_goals
        rcases hr with rfl | rfl <;>
        · go_wp2_with fail
          go_ret
          exact ⟨rfl, unhide hw5⟩
set_option maxRecDepth 100000 in
set_option maxHeartbeats 1600000 in
theorem kplay_fate_1 (own : Nat → Tag) (w : World) (rb b : Nat) (X : IRoom) (kd c n m : Int) (h : KRoom own w rb b X) (hkd : I64 kd) (hc : I64 c) (hn : I64 n) (hm : I64 m) (hk : 4 ≤ pickN kd 8) (hg : pickN m 2 = 1) :
    Calls Try.prog 14 #[.pointer (some ⟨rb, 0, none⟩), .agg (StepV kd c n m)] w fun e w' => e = .returned (.bool true) ∧ ∃ X', Played X kd c m X' ∧ EdAt own w rb b X' w' := by
  have c0 := h.c0
  have c1 := h.c1
  have hn4 := h.fit.num
  have HP1 := hide (fun w => kpick c X.texts.length hc hn4.1 (by omega) w)
  have HP2 := hide (fun w => kpick m 2 hm (by omega) (by omega) w)
  have HP3 := hide (fun w => kpick kd 8 hkd (by omega) (by omega) w)
  have hq := pickN_lt c hn4.1
  have hlen := (h.fit.lens hq).2.2.1
  have HFl : Hid (∀ own w1, KRoom own w1 rb b X → Calls Try.prog 26 #[.pointer (some ⟨b, 0, none⟩), .int .i64 (pickN c X.texts.length), .bool true] w1 fun e w' => e = .returned (.tuple #[.int .i64 (X.s (pickN c X.texts.length)).flying.length, .int .i64 0]) ∧ w' = w1) := hide fun own w1 h1 => kFlying_1 (i := pickN c X.texts.length) h1.room h1.fit hq
  have HP4 : Hid (0 < (X.s (pickN c X.texts.length)).flying.length → ∀ w, Calls Try.prog 20 #[.int .i64 n, .int .i64 (X.s (pickN c X.texts.length)).flying.length] w fun e w' => e = .returned (.int .i64 (pickN n (X.s (pickN c X.texts.length)).flying.length)) ∧ w' = w) := hide fun hl w => kpick n _ hn (by omega) (by omega) w
  have HP5 : Hid (∀ w, Calls Try.prog 20 #[.int .i64 (m.tdiv 2), .int .i64 6] w fun e w' => e = .returned (.int .i64 (pickN (m.tdiv 2) 6)) ∧ w' = w) := hide (fun w => kpick (m.tdiv 2) 6 (i64_div2 hm) (by omega) (by omega) w)
  have hk7 := pickN_lt kd (n := 8) (by omega)
  have HE : Hid (0 < (X.s (pickN c X.texts.length)).flying.length → ∀ w1, KRoom (retag own w.heap.size (3, 0, 0)) w1 rb b X → Upd own (retag own w.heap.size (3, 0, 0)) (inRoom 1) w w1 → w1.cell? ⟨w.heap.size, 2, none⟩ = some (.int .i64 n) → w1.cell? ⟨w.heap.size, 3, none⟩ = some (.int .i64 m) → Calls Try.prog 27 #[.pointer (some ⟨b, 0, none⟩), .int .i64 (pickN c X.texts.length), .bool true, .int .i64 (pickN n (X.s (pickN c X.texts.length)).flying.length), .int .i64 ((pickN (m.tdiv 2) 6 % 4 : Nat) : Int)] w1 fun e w' => ∃ r : Int, (r = 0 ∨ r = 8) ∧ e = .returned (.int .i64 r) ∧ (∃ X', Played X kd c m X' ∧ EdAt own w rb b X' w') ∧ w'.cell? ⟨w.heap.size, 2, none⟩ = some (.int .i64 n) ∧ w'.cell? ⟨w.heap.size, 3, none⟩ = some (.int .i64 m) ∧ w'.cell? ⟨rb, 0, none⟩ = some (.pointer (some ⟨b, 0, none⟩))) := by
    apply hide
    intro hl w1 h1 hu y2 y3
    refine (kFate_1 (i := pickN c X.texts.length) h1.room h1.fit hq (pickN_lt n (n := (X.s (pickN c X.texts.length)).flying.length) (by omega)) (pickN (m.tdiv 2) 6 % 4) (Nat.mod_lt _ (by omega))).mono ?_
    rintro e w' ⟨r, X', hr, rfl, hmv, a⟩
    obtain ⟨f1, f2, _⟩ := hmv.fit h.fit
    obtain ⟨own', a2, a3⟩ := h1.after a f1 f2
    have ht : ¬ inRoom 1 (retag own w.heap.size (3, 0, 0) w.heap.size) := by rw [retag_ge (Nat.le_refl _)]; simp [inRoom]
    exact ⟨r, hr, rfl, ⟨_, .move (by omega) hmv, own', a2, hu.trans a3⟩, a3.cell y2 ht, a3.cell y3 ht, a2.c0⟩
  have HS : Hid (Played X kd c m X) := hide (.move (by omega) (.air (.refl X)))
  have hq6 := pickN_lt (m.tdiv 2) (n := 6) (by omega)
  rw [hg] at HP2
  generalize pickN kd 8 = k at *
  generalize pickN n (X.s (pickN c X.texts.length)).flying.length = q4 at *
  generalize pickN (m.tdiv 2) 6 = q5 at *
  generalize (X.s (pickN c X.texts.length)).flying.length = L at *
  generalize pickN c X.texts.length = q at *
  have HX := hide h
  clear h
  generalize X.texts.length = N at *
  rw [show ((q5 % 4 : Nat) : Int) = (q5 : Int).tmod 4 by rw [Int.tmod_eq_emod_of_nonneg (by omega)]; omega] at HE
  have hU : Upd own (retag own w.heap.size (3, 0, 0)) (fun _ => False) w (w.alloc (Obj.cells (StepV kd c n m) 31)) := Upd.retag ((Upd.refl _ _ w).alloc _) _ _ (Nat.le_refl _)
  have HX1 := hide ((unhide HX).upd hU (fun _ _ h => h) (fun h => h))
  have HU1 := hide (hU.mono (may' := inRoom 1) fun _ h => h.elim)
  have z : CellsT (retag own w.heap.size (3, 0, 0)) (3, 0, 0) (w.alloc (Obj.cells (StepV kd c n m) 31)) w.heap.size (StepV kd c n m) 31 := CellsT.new w _ _ _ _
  have z0 : (w.alloc (Obj.cells (StepV kd c n m) 31)).cell? ⟨w.heap.size, 0, none⟩ = some (.int .i64 kd) := by rw [z.cell]; rfl
  have z1 : (w.alloc (Obj.cells (StepV kd c n m) 31)).cell? ⟨w.heap.size, 1, none⟩ = some (.int .i64 c) := by rw [z.cell]; rfl
  have z2 : (w.alloc (Obj.cells (StepV kd c n m) 31)).cell? ⟨w.heap.size, 2, none⟩ = some (.int .i64 n) := by rw [z.cell]; rfl
  have z3 : (w.alloc (Obj.cells (StepV kd c n m) 31)).cell? ⟨w.heap.size, 3, none⟩ = some (.int .i64 m) := by rw [z.cell]; rfl
  replace c0 := hU.cell c0 (fun h => h)
  replace c1 := hU.cell c1 (fun h => h)
  clear hU z hg
  unfold StepV at *
  have hwr : IntKind.i64.wrap (m.tdiv 2) = m.tdiv 2 := wrap_i64 (i64_div2 hm)
  unfold I64 at hm
  have hk0 : ¬ (k : Int) = 0 := by omega
  have hk1 : ¬ (k : Int) = 1 := by omega
  have hk2 : ¬ (k : Int) = 2 := by omega
  have hk3 : ¬ (k : Int) = 3 := by omega
  have hL0 : ¬ (L : Int) < 0 := by omega
  have hL12 : ¬ (12 : Int) < (L : Int) := by omega
  have hq50 : (0 : Int) ≤ (q5 : Int) := by omega
  by_cases hL : (L : Int) = 0
  · go_enter Try.func14, Try.ntmps14
    go_wp2_with fail
    generalize w.alloc (Obj.cells #[Value.int .i64 kd, Value.int .i64 c, Value.int .i64 n, Value.int .i64 m] 31) = W at *
    generalize w.heap.size = z at *
    go_region_held3 (fun w' => w'.cell? ⟨z, 0, none⟩ = some (.int .i64 kd) ∧ w'.cell? ⟨z, 1, none⟩ = some (.int .i64 c) ∧ w'.cell? ⟨z, 3, none⟩ = some (.int .i64 m) ∧ w'.cell? ⟨rb, 0, none⟩ = some (.pointer (some ⟨b, 0, none⟩)) ∧ w'.cell? ⟨rb, 1, none⟩ = some (.int .i64 N)) (go_keep) (first | (go_at_call 20; with_reducible refine (unhide HP1 _).mono ?_; rintro e w' ⟨rfl, hw'⟩; obtain rfl := hw'.symm))
    all_goals
      go_wp2_with fail
      refine (unhide HP2 _).mono ?_
      rintro e w' ⟨rfl, hw'⟩
      obtain rfl := hw'.symm
      go_wp2_with fail
      refine (unhide HP3 _).mono ?_
      rintro e w' ⟨rfl, hw'⟩
      obtain rfl := hw'.symm
      go_wp2_with fail
      refine (unhide HFl _ _ (unhide HX1).drew).mono ?_
      rintro e w' ⟨rfl, hw'⟩
      obtain rfl := hw'.symm
      go_wp2_with fail
      go_ret
      exact ⟨rfl, X, unhide HS, _, (unhide HX1).drew, (unhide HU1).drew⟩
  · have hLp : 0 < L := by omega
    have HP4' := hide (unhide HP4 hLp)
    have HE' := hide (unhide HE hLp)
    have HZ : Hid ((w.alloc (Obj.cells #[Value.int .i64 kd, Value.int .i64 c, Value.int .i64 n, Value.int .i64 m] 31)).drew.drew.cell? ⟨w.heap.size, 2, none⟩ = some (.int .i64 n) ∧ (w.alloc (Obj.cells #[Value.int .i64 kd, Value.int .i64 c, Value.int .i64 n, Value.int .i64 m] 31)).drew.drew.cell? ⟨w.heap.size, 3, none⟩ = some (.int .i64 m)) := hide ⟨z2, z3⟩
    clear HP4 HE
    go_enter Try.func14, Try.ntmps14
    go_wp2_with fail
    generalize w.alloc (Obj.cells #[Value.int .i64 kd, Value.int .i64 c, Value.int .i64 n, Value.int .i64 m] 31) = W at *
    generalize w.heap.size = z at *
    go_region_held3 (fun w' => w'.cell? ⟨z, 0, none⟩ = some (.int .i64 kd) ∧ w'.cell? ⟨z, 1, none⟩ = some (.int .i64 c) ∧ w'.cell? ⟨z, 2, none⟩ = some (.int .i64 n) ∧ w'.cell? ⟨z, 3, none⟩ = some (.int .i64 m) ∧ w'.cell? ⟨rb, 0, none⟩ = some (.pointer (some ⟨b, 0, none⟩)) ∧ w'.cell? ⟨rb, 1, none⟩ = some (.int .i64 N)) (go_keep) (first | (go_at_call 20; with_reducible refine (unhide HP1 _).mono ?_; rintro e w' ⟨rfl, hw'⟩; obtain rfl := hw'.symm))
    all_goals
      go_wp2_with fail
      refine (unhide HP2 _).mono ?_
      rintro e w' ⟨rfl, hw'⟩
      obtain rfl := hw'.symm
      go_wp2_with fail
      refine (unhide HP3 _).mono ?_
      rintro e w' ⟨rfl, hw'⟩
      obtain rfl := hw'.symm
      go_wp2_with fail
      refine (unhide HFl _ _ (unhide HX1).drew).mono ?_
      rintro e w' ⟨rfl, hw'⟩
      obtain rfl := hw'.symm
      go_wp2_with fail
      go_region_held3 (fun w' => w'.cell? ⟨z, 2, none⟩ = some (.int .i64 n) ∧ w'.cell? ⟨z, 3, none⟩ = some (.int .i64 m) ∧ w'.cell? ⟨rb, 0, none⟩ = some (.pointer (some ⟨b, 0, none⟩))) (go_keep) (first | (go_at_call 20; with_reducible refine (unhide HP4' _).mono ?_; rintro e w' ⟨rfl, hw'⟩; obtain rfl := hw'.symm) | (go_at_call 20; with_reducible refine (unhide HP5 _).mono ?_; rintro e w' ⟨rfl, hw'⟩; obtain rfl := hw'.symm) | (go_at_call 27; with_reducible refine (unhide HE' _ (unhide HX1).drew.drew (unhide HU1).drew.drew (unhide HZ).1 (unhide HZ).2).mono ?_; rintro e w5 ⟨r, hr, rfl, hw5, y2, y3, y0⟩; replace hw5 := hide hw5))
      all_goals
        rcases hr with rfl | rfl <;>
        · go_wp2_with fail
          go_ret
          exact ⟨rfl, unhide hw5⟩
/-- A step. -/
theorem kplay (own : Nat → Tag) (w : World) (rb b : Nat) (X : IRoom) (kd c n m : Int) (h : KRoom own w rb b X) (hkd : I64 kd) (hc : I64 c) (hn : I64 n) (hm : I64 m) :
    Calls Try.prog 14 #[.pointer (some ⟨rb, 0, none⟩), .agg (StepV kd c n m)] w fun e w' => e = .returned (.bool true) ∧ ∃ X', Played X kd c m X' ∧ EdAt own w rb b X' w' := by
  have hg := pickN_lt m (n := 2) (by omega)
  have h01 : pickN m 2 = 0 ∨ pickN m 2 = 1 := by omega
  by_cases h1 : pickN kd 8 < 3
  · exact kplay_edit own w rb b X kd c n m h hkd hc hn hm h1
  · by_cases h2 : pickN kd 8 = 3
    · rcases h01 with h0 | h0
      · exact kplay_tick_0 own w rb b X kd c n m h hkd hc hm h2 h0
      · exact kplay_tick_1 own w rb b X kd c n m h hkd hc hm h2 h0
    · rcases h01 with h0 | h0
      · exact kplay_fate_0 own w rb b X kd c n m h hkd hc hn hm (by omega) h0
      · exact kplay_fate_1 own w rb b X kd c n m h hkd hc hn hm (by omega) h0
end Go.Proofs.Ytemkgikncmhoaaa

/-
  weavekeep: played. Own work.
-/
namespace Go.Proofs.Ytemkgikncmhoaaa
open Go.RowKit
attribute [local go_sem ↓] Go.wp_at_zero Go.wp_at_succ

/-- The steps of a script, where they lie. -/
def StepsAt (w : World) (B : Nat) (a : Option Addr) (L : Nat) : Prop :=
  ∀ i, i < L → ∃ (b o : Nat) (kd c n m : Int), a = some ⟨b, o, none⟩ ∧ b < B ∧ I64 kd ∧ I64 c ∧ I64 n ∧ I64 m ∧ ∀ k u, (StepV kd c n m)[k]? = some u → w.cell? ⟨b, o + i * 4 + k, none⟩ = some u
theorem StepsAt.below {w w' : World} {B : Nat} {a : Option Addr} {L : Nat} (h : StepsAt w B a L) (hb : Below B w w') : StepsAt w' B a L := by
  intro i hi
  obtain ⟨b, o, kd, c, n, m, h1, h2, h3, h4, h5, h6, h7⟩ := h i hi
  exact ⟨b, o, kd, c, n, m, h1, h2, h3, h4, h5, h6, fun k u hu => (hb.cell (p := ⟨b, o + i * 4 + k, none⟩) h2).trans (h7 k u hu)⟩
/-- Where a law is: its room, and what came in untouched. -/
structure LawAt (w : World) (rb b : Nat) (X : IRoom) (own1 : Nat → Tag) (wr : World) : Prop where
  room : KRoom own1 wr rb b X
  upd : Upd base9 own1 may9 w wr
theorem LawAt.of {w wr w' : World} {rb b : Nat} {X X' : IRoom} {own1 own' : Nat → Tag} (h : LawAt w rb b X own1 wr) (h1 : KRoom own' w' rb b X') (h2 : Upd own1 own' (inRoom 1) wr w') : LawAt w rb b X' own' w' := ⟨h1, h.upd.trans (h2.to9 (by omega))⟩
theorem LawAt.play {w wr : World} {rb b : Nat} {X : IRoom} {own1 : Nat → Tag} (h : LawAt w rb b X own1 wr) {kd c n m : Int} (hkd : I64 kd) (hc : I64 c) (hn : I64 n) (hm : I64 m) :
    Calls Try.prog 14 #[.pointer (some ⟨rb, 0, none⟩), .agg (StepV kd c n m)] wr fun e w' => e = .returned (.bool true) ∧ ∃ X' own', Played X kd c m X' ∧ LawAt w rb b X' own' w' := by
  refine (kplay own1 wr rb b X kd c n m h.room hkd hc hn hm).mono ?_
  rintro e w' ⟨rfl, X', a1, own', a2, a3⟩
  exact ⟨rfl, X', own', a1, h.of a2 a3⟩
theorem LawAt.settle {w wr : World} {rb b : Nat} {X : IRoom} {own1 : Nat → Tag} (h : LawAt w rb b X own1 wr) (R : Nat) (hR : R ≤ 1000) :
    Calls Try.prog 16 #[.pointer (some ⟨rb, 0, none⟩), .int .i64 R] wr fun e w' => e = .returned (.bool true) ∧ ∃ X' own', Settles X R X' ∧ LawAt w rb b X' own' w' := by
  refine (ksettle own1 wr rb b X R hR h.room).mono ?_
  rintro e w' ⟨rfl, own', Y, a1, a2, a3⟩
  exact ⟨rfl, Y, own', a3, h.of a1 a2⟩
theorem LawAt.flush {w wr : World} {rb b : Nat} {X : IRoom} {own1 : Nat → Tag} (h : LawAt w rb b X own1 wr) :
    Calls Try.prog 24 #[.pointer (some ⟨rb, 0, none⟩)] wr fun e w' => e = .returned (.bool true) ∧ ∃ X' own', Turns X X' ∧ X'.Still ∧ LawAt w rb b X' own' w' := by
  refine (kflush own1 wr rb b X h.room).mono ?_
  rintro e w' ⟨rfl, own', Y, a1, a2, a3, a4⟩
  exact ⟨rfl, Y, own', a3, a4, h.of a1 a2⟩
theorem LawAt.steps {w wr : World} {rb b : Nat} {X : IRoom} {own1 : Nat → Tag} (h : LawAt w rb b X own1 wr) {a : Option Addr} {L : Nat} (hs : StepsAt w w.heap.size a L) : StepsAt wr w.heap.size a L := hs.below h.upd.base

set_option maxRecDepth 100000 in
set_option maxHeartbeats 1600000 in
theorem kplayed (w : World) (cl wi : Int) (a : Option Addr) (L cap : Nat) (hcl : I64 cl) (hwi : I64 wi) (hs : StepsAt w w.heap.size a L) (hL : L ≤ 4611686018427387904) :
    Calls Try.prog 18 #[.int .i64 cl, .int .i64 wi, .slice a L cap] w fun e w' => ∃ rb b X own1, e = .returned (.tuple #[.pointer (some ⟨rb, 0, none⟩), .bool true]) ∧ LawAt w rb b X own1 w' := by
  have HO : Hid (Calls Try.prog 13 #[.int .i64 cl, .int .i64 wi] w fun e w' => ∃ rb b own', e = .returned (.pointer (some ⟨rb, 0, none⟩)) ∧ ∃ X, LawAt w rb b X own' w') := by
    apply hide
    refine (kopened w cl wi hcl hwi).mono ?_
    rintro e w' ⟨rb, b, own', rfl, a1, a2⟩
    exact ⟨rb, b, own', rfl, _, a1, a2⟩
  have HS := hide hs
  clear hs hcl hwi
  go_enter Try.func18, Try.ntmps18
  go_wp2_with fail
  refine (unhide HO).mono ?_
  rintro e w1 ⟨rb, b, own1, rfl, X1, h1⟩
  clear HO
  have H1 := hide h1
  clear h1
  go_wp2_with fail
  go_loopw [9] (fun v wr => ∃ (i : Nat) (own2 : Nat → Tag) (X : IRoom), i ≤ L ∧ v = .int .i64 i ∧ LawAt w rb b X own2 wr) (fun v _ => L - (intOf v).toNat)
  case atStart => exact ⟨0, own1, X1, by omega, rfl, unhide H1⟩
  case round =>
    obtain ⟨i, own2, X, hi, rfl, h2⟩ := hrel
    by_cases hlt : i < L
    · have hlt' : (i : Int) < (L : Int) := by omega
      obtain ⟨sb, so, kd, c, n, m, rfl, g2, g3, g4, g5, g6, g7⟩ := h2.steps (unhide HS) i hlt
      have z0 := g7 0 (Value.int .i64 kd) rfl
      have z1 := g7 1 (Value.int .i64 c) rfl
      have z2 := g7 2 (Value.int .i64 n) rfl
      have z3 := g7 3 (Value.int .i64 m) rfl
      rw [Nat.add_zero] at z0
      have HP := hide (h2.play g3 g4 g5 g6)
      unfold StepV at HP
      clear h2 g7
      go_wp2_with fail
      refine (unhide HP).mono ?_
      rintro e w3 ⟨rfl, X', own3, _, h3⟩
      have H3 := hide h3
      clear h3
      go_wp2_with fail
      go_roundw
      case rel => exact ⟨i + 1, own3, X', by omega, by go_num, unhide H3⟩
      case measure => simp [intOf]; omega
    · have hlt' : ¬ (i : Int) < (L : Int) := by omega
      have H2 := hide h2
      clear h2
      go_wp2_with fail
      go_ret2
      exact ⟨rb, rfl, b, X, own2, unhide H2⟩
end Go.Proofs.Ytemkgikncmhoaaa

/-
  weavekeep: Converges. Own work.
-/
namespace Go.Proofs.Ytemkgikncmhoaaa
open Go.RowKit
attribute [local go_sem ↓] Go.wp_at_zero Go.wp_at_succ

theorem LawAt.alike {w wr : World} {rb b : Nat} {X : IRoom} {own1 : Nat → Tag} (h : LawAt w rb b X own1 wr) (hq : X.Quiet) :
    Calls Try.prog 17 #[.pointer (some ⟨rb, 0, none⟩)] wr fun e w' => e = .returned (.tuple #[bstr X.server, .bool true]) ∧ w' = wr :=
  kalike own1 wr rb b X h.room (fun _ hi => h.room.fit.same hq hi)

set_option maxRecDepth 100000 in
set_option maxHeartbeats 1600000 in
theorem converges_any (w : World) (cl wi : Int) (a : Option Addr) (L cap : Nat) (hcl : I64 cl) (hwi : I64 wi) (hs : StepsAt w w.heap.size a L) (hL : L ≤ 4611686018427387904) :
    Calls Try.prog 5 #[.int .i64 cl, .int .i64 wi, .slice a L cap] w fun e w' => e = .returned (.bool true) ∧ Below w.heap.size w w' := by
  have HO := hide (kplayed w cl wi a L cap hcl hwi hs hL)
  clear hs hcl hwi
  go_enter Try.func5, Try.ntmps5
  go_wp2_with fail
  refine (unhide HO).mono ?_
  rintro e w1 ⟨rb, b, X1, own1, rfl, h1⟩
  clear HO
  have HS : Hid (Calls Try.prog 16 #[.pointer (some ⟨rb, 0, none⟩), .int .i64 6] w1 fun e w' => e = .returned (.bool true) ∧ ∃ X' own', (X'.Quiet ∧ X'.Still) ∧ LawAt w rb b X' own' w') := by
    apply hide
    refine (h1.settle 6 (by omega)).mono ?_
    rintro e w' ⟨rfl, X', own', a1, a2⟩
    exact ⟨rfl, X', own', ⟨a1.quiet h1.room.fit (by omega), (a1.fit h1.room.fit).2.1⟩, a2⟩
  clear h1
  go_wp2_with fail
  refine (unhide HS).mono ?_
  rintro e w2 ⟨rfl, X, own2, ⟨hq, _⟩, h2⟩
  clear HS
  have HA := hide (h2.alike hq)
  have c0 := h2.room.c0
  have c1 := h2.room.c1
  have HW : Hid (∀ i, i < X.texts.length → Calls Try.prog 19 #[.pointer (some ⟨b, 0, none⟩), .int .i64 i] w2 fun e w' => e = .returned (.tuple #[.int .i64 0, .int .i64 0]) ∧ w' = w2) := by
    apply hide
    intro i hi
    have := kWaits (i := i) h2.room.room h2.room.fit hi
    rw [(hq i hi).1] at this
    exact this
  have HS2 : Hid (Calls Try.prog 16 #[.pointer (some ⟨rb, 0, none⟩), .int .i64 2] w2 fun e w' => e = .returned (.bool true) ∧ ∃ X' own', (X'.Quiet ∧ X'.server = X.server) ∧ LawAt w rb b X' own' w') := by
    apply hide
    refine (h2.settle 2 (by omega)).mono ?_
    rintro e w' ⟨rfl, X', own', a1, a2⟩
    exact ⟨rfl, X', own', a1.same h2.room.fit hq, a2⟩
  have hn := h2.room.fit.num
  clear h2 hq
  generalize X.texts.length = N at *
  unfold bstr at HA
  go_wp2_with fail
  refine (unhide HA).mono ?_
  rintro e w' ⟨rfl, hw'⟩
  obtain rfl := hw'.symm
  clear HA
  go_wp2_with fail
  go_loopw [11] (fun v wr => ∃ c : Nat, c ≤ N ∧ v = .int .i64 c ∧ wr = w2) (fun v _ => N - (intOf v).toNat)
  case atStart => exact ⟨0, by omega, rfl, rfl⟩
  case round =>
    obtain ⟨c, hc, rfl, rfl⟩ := hrel
    by_cases hlt : c < N
    · have hlt' : (c : Int) < (N : Int) := by omega
      have H1 := hide (unhide HW c hlt)
      go_wp2_with (first | (go_at_call 19; with_reducible refine (unhide H1).mono ?_; rintro e w' ⟨rfl, hw'⟩; obtain rfl := hw'.symm))
      go_roundw
      case rel => exact ⟨c + 1, by omega, by go_num, by first | rfl | trivial⟩
      case measure => simp [intOf]; omega
    · have hlt' : ¬ (c : Int) < (N : Int) := by omega
      go_wp2_with fail
      refine (unhide HS2).mono ?_
      rintro e w3 ⟨rfl, X3, own3, ⟨hq3, hs3⟩, h3⟩
      have HA3 := hide (h3.alike hq3)
      rw [hs3] at HA3
      have H3 := hide h3.upd.base
      clear h3 hq3 hs3
      unfold bstr at HA3
      generalize (⟨X.server.toArray⟩ : ByteArray) = s at *
      go_wp2_with fail
      refine (unhide HA3).mono ?_
      rintro e w' ⟨rfl, hw'⟩
      obtain rfl := hw'.symm
      go_wp2_with fail
      go_ret
      exact ⟨by simp, unhide H3⟩
end Go.Proofs.Ytemkgikncmhoaaa

/-
  weave: where one alone has something to say. Plain mathematics. Own work.
-/
namespace Go.Proofs.Ytemkgikncmhoaaa

section
variable {X Y : IRoom} {i c : Nat} {t : List UInt8}
theorem lose_made (E : IEnd) (n : Nat) : (E.lose n).made = E.made := rfl
theorem up_made (h : Fit X) (hi : i < X.texts.length) (n j : Nat) : ((X.up i n).e j).made = (X.e j).made := by
  cases hd : (X.e i).flying[n]? with
  | none => rw [up_none hd]
  | some d =>
    obtain ⟨us, ds, T, hr⟩ := h.rows
    obtain ⟨os, u, _⟩ := hr.upped' hi hd
    rw [u.e]
    split
    · rename_i hj; rw [hj, lose_made]
    · rfl
theorem down_made (h : Fit X) (hi : i < X.texts.length) (n j : Nat) : ((X.down i n).e j).made = (X.e j).made := by
  cases hd : (X.s i).flying[n]? with
  | none => rw [down_none hd]
  | some d =>
    obtain ⟨us, ds, T, hr⟩ := h.rows
    obtain ⟨k, u, _⟩ := hr.downed' hi hd
    by_cases hj : j = i
    · subst hj; exact (u.came.load (hr.pair hi).a).2.2
    · rw [u.e j hj]
theorem Turns.made (q : Turns X Y) (h : Fit X) (j : Nat) : (Y.e j).made = (X.e j).made := by
  induction q with
  | refl => rfl
  | step i t hi ih =>
    have hF := (t.fit h).1
    have hi' := hi
    rw [← (up_len hF hi 0).1] at hi'
    exact (down_made (hF.up hi 0) hi' 0 j).trans ((up_made hF hi 0 j).trans ih)
theorem Fit.ticked_made (h : Fit X) {j k : Nat} (hk : k ≤ X.texts.length) (hj : j < X.texts.length) : ((X.ticked k).e j).made = (X.e j).made := by
  rw [(h.ticked k hk).e j hj]
  split
  · exact (tick_sentTo (X.e j) X.window).2
  · rfl
theorem Settles.made {k : Nat} (q : Settles X k Y) (h : Fit X) {j : Nat} (hj : j < X.texts.length) : (Y.e j).made = (X.e j).made := by
  induction q with
  | start t _ => exact t.made h j
  | round s t hs ih =>
    obtain ⟨a, _, c, _⟩ := s.fit h
    rw [t.made (a.ticked _ (Nat.le_refl _)).fit j, a.ticked_made (Nat.le_refl _) (by rw [c]; exact hj), ih]
/-- Client c alone has something that is not taken. -/
structure Solo (c : Nat) (t : List UInt8) (X : IRoom) : Prop where
  tx : X.tx c = t
  oth : ∀ j, j < X.texts.length → j ≠ c → (X.e j).made ≤ (X.s j).taken
  srv : (X.s c).made ≤ (X.e c).taken
theorem Solo.up (s : Solo c t X) (h : Fit X) (hc : c < X.texts.length) (hi : i < X.texts.length) (n : Nat) : Solo c t (X.up i n) := by
  cases hd : (X.e i).flying[n]? with
  | none => rw [up_none hd]; exact s
  | some d =>
    obtain ⟨us, ds, T, hr⟩ := h.rows
    obtain ⟨os, u, ⟨ds', T', hr'⟩, _⟩ := hr.upped' hi hd
    have hi' : i < (X.up i n).texts.length := by rw [u.texts]; exact hi
    obtain ⟨_, c2, c3⟩ := u.came.load (hr.pair hi).b
    have e1 := (hr.pair hi).a.made
    have e2 := (hr'.pair hi').b.tk
    refine ⟨by unfold IRoom.tx; rw [u.texts]; exact s.tx, fun j hj hjc => ?_, ?_⟩
    · rw [u.texts] at hj
      rw [u.e]
      by_cases hji : j = i
      · subst hji
        rw [if_pos rfl, lose_made]
        have := s.oth j hj hjc
        omega
      · rw [if_neg hji, u.s j hji, if_pos hj, (makes_fields X.window os (X.s j)).1]
        exact s.oth j hj hjc
    · rw [u.e]
      by_cases hci : c = i
      · subst hci
        rw [if_pos rfl]
        show _ ≤ (X.e c).taken
        rw [c3]
        exact s.srv
      · have := s.oth i hi (fun h => hci h.symm)
        have hos : os = [] := List.eq_nil_of_length_eq_zero (by omega)
        rw [if_neg hci, u.s c hci, if_pos hc, hos]
        exact s.srv
theorem Solo.down (s : Solo c t X) (h : Fit X) (hi : i < X.texts.length) (n : Nat) : Solo c t (X.down i n) := by
  cases hd : (X.s i).flying[n]? with
  | none => rw [down_none hd]; exact s
  | some d =>
    obtain ⟨us, ds, T, hr⟩ := h.rows
    obtain ⟨k, u, hr', _⟩ := hr.downed' hi hd
    have hi' : i < (X.down i n).texts.length := by rw [u.len]; exact hi
    obtain ⟨_, c2, c3⟩ := u.came.load (hr.pair hi).a
    have e1 := (hr.pair hi).b.made
    have e2 := (hr'.pair hi').a.tk
    refine ⟨?_, fun j hj hjc => ?_, ?_⟩
    · by_cases hci : c = i
      · subst hci
        have := s.srv
        rw [u.tx c (.inr (by omega))]; exact s.tx
      · rw [u.tx c (.inl hci)]; exact s.tx
    · rw [u.len] at hj
      rw [u.s]
      by_cases hji : j = i
      · subst hji
        rw [if_pos rfl, c3]
        exact s.oth j hj hjc
      · rw [if_neg hji, u.e j hji]
        exact s.oth j hj hjc
    · rw [u.s]
      by_cases hci : c = i
      · subst hci
        rw [if_pos rfl, lose_made, c2]
        have := s.srv
        omega
      · rw [if_neg hci, u.e c hci]; exact s.srv
theorem Turns.solo (q : Turns X Y) (s : Solo c t X) (h : Fit X) (hc : c < X.texts.length) : Solo c t Y := by
  induction q with
  | refl => exact s
  | step i q hi ih =>
    obtain ⟨hF, hl, _⟩ := q.fit h
    have hi' := hi
    rw [← (up_len hF hi 0).1] at hi'
    exact (ih.up hF (by rw [hl]; exact hc) hi 0).down (hF.up hi 0) hi' 0
theorem Solo.ticked (s : Solo c t X) (h : Fit X) (hc : c < X.texts.length) : Solo c t (X.ticked X.texts.length) := by
  have q := h.ticked X.texts.length (Nat.le_refl _)
  refine ⟨by unfold IRoom.tx; rw [q.texts]; exact s.tx, fun j hj hjc => ?_, ?_⟩
  · rw [q.texts] at hj
    rw [q.e j hj, q.s j hj, if_pos hj, if_pos hj, (tick_sentTo (X.e j) X.window).2, ((X.s j).tick_fields X.window).2.1]
    exact s.oth j hj hjc
  · rw [q.e c hc, q.s c hc, if_pos hc, if_pos hc, (tick_sentTo (X.s c) X.window).2, ((X.e c).tick_fields X.window).2.1]
    exact s.srv
theorem Settles.solo {k : Nat} (q : Settles X k Y) (s : Solo c t X) (h : Fit X) (hc : c < X.texts.length) : Solo c t Y := by
  induction q with
  | start q _ => exact q.solo s h hc
  | round q r hs ih =>
    obtain ⟨a, _, l, _⟩ := q.fit h
    have hc' := hc
    rw [← l] at hc'
    have tk := a.ticked _ (Nat.le_refl _)
    exact r.solo (ih.ticked a hc') tk.fit (by rw [tk.texts]; exact hc')
theorem Quiet.solo (h : Fit X) (hq : X.Quiet) (hc : c < X.texts.length) : Solo c (X.tx c) X := by
  obtain ⟨us, ds, T, hr⟩ := h.rows
  refine ⟨rfl, fun j hj _ => ?_, ?_⟩
  · have := (hr.pair hj).ka
    unfold IEnd.made
    rw [(hq j hj).1]
    simpa using this
  · have := (hr.pair hc).kb
    unfold IEnd.made
    rw [(hq c hc).2]
    simpa using this
/-- A client makes one more. -/
theorem Solo.make (s : Solo c t X) (h : Fit X) (hc : c < X.texts.length) (o : ROp) : Solo c (o.does t) (X.made c o) := by
  have gg := h.get hc
  have he : c < X.ends.length := (List.getElem?_eq_some_iff.1 gg.2.1).1
  have ee : ∀ j, (X.made c o).e j = if j = c then (X.e c).make o X.window else X.e j := fun j => e_setA he j
  refine ⟨?_, fun j hj hjc => ?_, ?_⟩
  · show (X.setA c _ _).tx c = _
    rw [tx_setA hc, if_pos rfl, s.tx]
  · have hj : j < X.texts.length := by simpa [IRoom.made, IRoom.setA] using hj
    rw [ee, if_neg hjc]
    exact s.oth j hj hjc
  · rw [ee, if_pos rfl, (make_fields (X.e c) o X.window).1]
    exact s.srv
theorem made_e (h : Fit X) (hc : c < X.texts.length) (o : ROp) (j : Nat) : ((X.made c o).e j).made = if j = c then (X.e c).made + 1 else (X.e j).made := by
  have gg := h.get hc
  have he : c < X.ends.length := (List.getElem?_eq_some_iff.1 gg.2.1).1
  show ((X.setA c _ _).e j).made = _
  rw [e_setA he]
  split
  · obtain ⟨_, a2, _, a4⟩ := make_fields (X.e c) o X.window
    unfold IEnd.made
    rw [a2, a4, List.length_append]
    simp; omega
  · rfl
/-- One edit where nobody waits and nothing flies: nothing is lost. -/
theorem Fit.flow_make (h : Fit X) (hq : X.Quiet) (hs : X.Still) (hc : c < X.texts.length) (o : ROp) (hf : Fit (X.made c o)) : (X.made c o).Flow (fun j => (X.s j).sentTo X.window) fun _ => 4 := by
  obtain ⟨us, ds, T, hr⟩ := h.rows
  obtain ⟨us', ds', T', hr'⟩ := hf.rows
  have gg := h.get hc
  have he : c < X.ends.length := (List.getElem?_eq_some_iff.1 gg.2.1).1
  have ee : ∀ j, (X.made c o).e j = if j = c then (X.e c).make o X.window else X.e j := fun j => e_setA he j
  intro j hj
  have hj2 : j < X.texts.length := by simpa [IRoom.made, IRoom.setA] using hj
  have hsane := hf.sane j hj
  have p := hr.pair hj2
  have p' := hr'.pair hj
  have q1 := hq j hj2
  have f1 := hs j hj2
  have m1 : (X.e j).made = (X.e j).known := by unfold IEnd.made; rw [q1.1]; rfl
  have m2 : (X.s j).made = (X.s j).known := by unfold IEnd.made; rw [q1.2]; rfl
  have st : (X.s j).sentTo X.window = (X.s j).known := by unfold IEnd.sentTo; rw [q1.2]; simp
  have a1 := p.a.made
  have a2 := p.b.made
  have t1 := p.a.tk
  have t2 := p.b.tk
  have ka := p.ka
  have kb := p.kb
  have sj : (X.made c o).s j = X.s j := rfl
  have wj : (X.made c o).window = X.window := rfl
  rw [sj, wj] at hsane p' ⊢
  have rest : ∀ E' : IEnd, Go.Proofs.Ytemkgikncmhoaaa.Sane X.window E' (X.s j) → E'.flying.length ≤ 4 → (nums E'.flying).length ≤ 4 → E'.taken = (X.e j).taken → E'.known = (X.e j).known → (∀ n, (X.s j).taken < n → n ≤ E'.made → n ∈ nums E'.flying) → Go.Proofs.Ytemkgikncmhoaaa.Flow ((X.s j).sentTo X.window) 4 X.window E' (X.s j) := fun E' b1 b2 b3 b4 b5 b6 => by
    refine ⟨b1, b2, by rw [f1.2]; simp; omega, by rw [f1.2]; simp [newer, nums], by rw [f1.2]; simp [newer, nums], Nat.le_refl _, fun n x y => .inl (b6 n x y), fun n x y => ?_, fun x => ?_, fun x => ?_⟩
    · rw [b4] at x; omega
    · rw [b5] at x; omega
    · rw [b4] at x; omega
  by_cases hjc : j = c
  · subst hjc
    rw [ee, if_pos rfl] at hsane p' ⊢
    have hw : (X.e j).waiting.length + 1 ≤ X.window := by rw [q1.1]; exact p.w1
    have hfl : ((X.e j).make o X.window).flying = [ckd (((X.e j).next o).bytes (X.e j).taken)] := by
      rw [make_flying, if_pos hw, f1.1]; rfl
    obtain ⟨b1, b2, _, b4⟩ := make_fields (X.e j) o X.window
    have hrd : readD (ckd (((X.e j).next o).bytes (X.e j).taken)) = some ((X.e j).taken, some ((X.e j).next o)) := by
      have := p'.ra ((X.e j).next o) (by rw [b4]; simp)
      rwa [b1] at this
    have hnm : nums ((X.e j).make o X.window).flying = [(X.e j).made + 1] := by
      rw [hfl]
      simp only [nums, List.filterMap_cons, numD_msg hrd, List.filterMap_nil]
      rfl
    refine rest _ hsane (by rw [hfl]; simp) (by rw [hnm]; simp) b1 b2 fun n x y => ?_
    rw [hnm]
    have : ((X.e j).make o X.window).made = (X.e j).made + 1 := by
      unfold IEnd.made; rw [b2, b4, List.length_append]; simp; omega
    have : n = (X.e j).made + 1 := by omega
    simp [this]
  · rw [ee, if_neg hjc] at hsane ⊢
    refine rest _ hsane (by rw [f1.1]; simp) (by rw [f1.1]; simp [nums]) rfl rfl fun n x y => ?_
    omega
/-- One edit, all delivered: nobody waits, and all have the editor's text. -/
theorem Fit.edit_flush (h : Fit X) (hq : X.Quiet) (hs : X.Still) (hc : c < X.texts.length) (o : ROp) (hf : Fit (X.made c o)) (q : Turns (X.made c o) Y) (hY : Y.Still) : Y.Quiet ∧ Y.server = o.does (X.tx c) := by
  have hY1 := (q.fit hf).1.rest (q.flow hf (h.flow_make hq hs hc o hf)) hY
  have hc' : c < (X.made c o).texts.length := by simpa [IRoom.made, IRoom.setA] using hc
  have sl := q.solo ((Quiet.solo h hq hc).make h hc o) hf hc'
  refine ⟨hY1, ?_⟩
  rw [← (q.fit hf).1.same hY1 (by rw [(q.fit hf).2.1]; exact hc'), sl.tx]
end
end Go.Proofs.Ytemkgikncmhoaaa

