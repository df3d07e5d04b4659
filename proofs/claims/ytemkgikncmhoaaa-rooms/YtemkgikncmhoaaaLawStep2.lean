/-
  weavelaw: (*World).step: Put, Cut, Read, Waits, Flying, Peek. Own work.
-/
import Derived.Test.YtemkgikncmhoaaaLawStep
import Derived.Deep.DeepCutAuto
namespace Go.Proofs.Ytemkgikncmhoaaa
open Go.RowKit
attribute [local go_sem ↓] Go.wp_at_zero Go.wp_at_succ

/-- What a step hands on to edits or lines. -/
theorem WorldAt.step {own : Nat → Tag} {w : World} {wb : Nat} {ps : List (Nat × Nat)} (h : WorldAt own w wb ps) (f : FuncId) (o : Array Value)
    (hE : ∀ own w (rx ry xb yb : Nat) X R, PairAt own w rx ry xb yb X R → rx ≠ ry → rx ≠ 0 → Calls Try.prog f #[.agg (PairV xb yb), .agg o] w (EditsPost own w rx ry xb yb X))
    (own0 : Nat → Tag) (w0 : World) (hU : Upd own0 own mayW w0 w) {i : Nat} {p : Nat × Nat} (hi : ps[i]? = some p) : Calls Try.prog f #[.agg (PairV p.1 p.2), .agg o] w (StepPost own0 w0 wb ps) := by
  obtain ⟨X, R, hP, hF⟩ := h.one hi
  refine (hE _ _ _ _ _ _ _ _ hP (by omega) (by omega)).mono ?_
  intro e w' he
  obtain ⟨rfl, own', hW', hU'⟩ := hF _ _ he
  exact ⟨rfl, own', ps, hW', hU.trans hU', by omega, by omega⟩

theorem WorldAt.gets {own : Nat → Tag} {w : World} {wb : Nat} {ps : List (Nat × Nat)} (h : WorldAt own w wb ps) (hps : 1 ≤ ps.length) :
    ∃ g c, w.cell? ⟨wb, 0, none⟩ = some (.slice (some ⟨g, 0, none⟩) ps.length c) ∧ g < w.heap.size ∧ wb < w.heap.size ∧ ∀ (q : Nat) (p : Nat × Nat), ps[q]? = some p → w.cell? ⟨g, q * 2, none⟩ = some (.pointer (some ⟨p.1, 0, none⟩)) ∧ w.cell? ⟨g, q * 2 + 1, none⟩ = some (.pointer (some ⟨p.2, 0, none⟩)) := by
  obtain ⟨g, c, a1, _, _, a4, a5⟩ := h.get (List.getElem?_eq_getElem (show 0 < ps.length by omega))
  refine ⟨g, c, a1, a4, a5, fun q p hq => ?_⟩
  obtain ⟨g', c', b1, b2, b3, _, _⟩ := h.get hq
  rw [a1] at b1
  simp only [Option.some.injEq, Value.slice.injEq, Addr.mk.injEq, and_true, true_and] at b1
  obtain ⟨rfl, rfl⟩ := b1
  exact ⟨b2, b3⟩

set_option maxRecDepth 100000 in
set_option maxHeartbeats 400000 in
theorem pick_is (c : Int) (n : Nat) (hc : I64 c) (hn : 1 ≤ n) (hn2 : n ≤ 4611686018427387904) :
    ∃ q : Nat, q < n ∧ ∀ w, Calls Try.prog 29 #[.int .i64 c, .int .i64 n] w fun e w' => e = .returned (.int .i64 q) ∧ w' = w := by
  unfold I64 at hc
  have hn0 : ¬ ((n : Int) = 0) := by omega
  have hnp : (0 : Int) < (n : Int) := by omega
  have key : ∀ d : Int, 0 ≤ d → ∃ q : Nat, q < n ∧ d % (n : Int) = q := fun d hd => by
    have h1 := Int.emod_nonneg d hn0
    have h2 := Int.emod_lt_of_pos d hnp
    obtain ⟨q, hq⟩ := Int.eq_ofNat_of_zero_le h1
    exact ⟨q, by omega, hq⟩
  by_cases h : c < 0
  · obtain ⟨q, hq, e⟩ := key (-(c + 1)) (by omega)
    have HK := hide e
    clear key e
    refine ⟨q, hq, fun w => ?_⟩
    go_enter Try.func29, Try.ntmps29
    go_wp2
    go_ret
    refine ⟨?_, rfl⟩
    exact ret_int (show -(c + 1).tmod (n : Int) = q from by rw [← Int.neg_tmod, Int.tmod_eq_emod_of_nonneg (by omega)]; exact unhide HK)
  · obtain ⟨q, hq, e⟩ := key c (by omega)
    have HK := hide e
    clear key e
    refine ⟨q, hq, fun w => ?_⟩
    go_enter Try.func29, Try.ntmps29
    go_wp2
    go_ret
    refine ⟨?_, rfl⟩
    have e := unhide HK
    exact ret_int (by first | (rw [← e]; done) | (rw [← e]; go_arith) | (rw [← e]; simp))

set_option maxRecDepth 100000 in
set_option maxHeartbeats 1600000 in
theorem step_edits (own : Nat → Tag) (w : World) (wb : Nat) (ps : List (Nat × Nat)) (kd wn c n m l : Int) (bb : Bool) (h : WorldAt own w wb ps) (hk : 2 ≤ kd ∧ kd ≤ 5) (hwn : I64 wn) (hps : 1 ≤ ps.length) (hb1 : ps.length ≤ 4611686018427387904)
    (hE : ∀ own w (rx ry xb yb : Nat) X R, PairAt own w rx ry xb yb X R → rx ≠ ry → rx ≠ 0 → Calls Try.prog 46 #[.agg (PairV xb yb), .agg (OpV kd wn c n m l bb)] w (EditsPost own w rx ry xb yb X)) :
    Calls Try.prog 30 #[.pointer (some ⟨wb, 0, none⟩), .agg (OpV kd wn c n m l bb)] w (StepPost own w wb ps) := by
  have V : Upd own (retag own w.heap.size (0, 0, 0)) (fun _ => False) w (w.alloc (.cells (OpV kd wn c n m l bb) 64)) := Upd.retag ((Upd.refl own (fun _ => False) w).alloc _) _ _ (Nat.le_refl _)
  have hF := h.upd V
  have hC := CellsT.new w (OpV kd wn c n m l bb) 64 own (0, 0, 0)
  have hCl := hC.lt
  have z := hC.cell
  obtain ⟨g, cc, a1, a2, a3, a4⟩ := hF.gets hps
  obtain ⟨q, hq, hpk⟩ := pick_is wn ps.length hwn hps hb1
  have HPK := hide hpk
  clear hpk
  obtain ⟨p, hp⟩ : ∃ p, ps[q]? = some p := ⟨_, List.getElem?_eq_getElem hq⟩
  obtain ⟨b1, b2⟩ := a4 q p hp
  have HS : Hid (∀ u, Hid (Calls Try.prog 46 #[.agg (PairV p.1 p.2), .agg (OpV kd wn c n m l bb)] ((w.alloc (.cells (OpV kd wn c n m l bb) 64)).alloc u).drew (StepPost own w wb ps))) := by
    apply hide
    intro u
    have hU : Upd (retag own w.heap.size (0, 0, 0)) (retag own w.heap.size (0, 0, 0)) (fun _ => False) (w.alloc (.cells (OpV kd wn c n m l bb) 64)) ((w.alloc (.cells (OpV kd wn c n m l bb) 64)).alloc u).drew := ((Upd.refl _ _ _).alloc u).drew
    exact (hF.upd hU).step _ _ hE own w ((V.trans hU).mono (fun _ h => h.elim)) hp
  have hq' : (q : Int) < (ps.length : Int) := by omega
  clear hp
  clear hE V hF a4
  obtain ⟨a, cc0, e0⟩ := h.len
  have wbl : wb < w.heap.size := World.block_lt_of_cell? _ _ e0
  have nb : ¬ (wb = w.heap.size) := by omega
  have hq1 : (kd == 1) = false := by rw [beq_eq_false_iff_ne]; omega
  have hq6 : (kd == 6) = false := by rw [beq_eq_false_iff_ne]; omega
  have hq7 : (kd == 7) = false := by rw [beq_eq_false_iff_ne]; omega
  have hq8 : (kd == 8) = false := by rw [beq_eq_false_iff_ne]; omega
  have hq9 : (kd == 9) = false := by rw [beq_eq_false_iff_ne]; omega
  have hl0 : ((ps.length : Int) == 0) = false := by rw [beq_eq_false_iff_ne]; omega
  have hk1 : ¬ (kd < 2) := by omega
  have hk2 : ¬ (9 < kd) := by omega
  have z0 := z 0
  have z1 := z 1
  have z2 := z 2
  have z3 := z 3
  have z4 := z 4
  have z5 := z 5
  have z6 := z 6
  clear h hC z
  unfold OpV PairV at *
  simp only [List.getElem?_toArray, List.getElem?_cons_zero, List.getElem?_cons_succ] at z0 z1 z2 z3 z4 z5 z6
  go_enter Try.func30, Try.ntmps30
  go_wp2
  clear e0 nb wbl
  generalize w.alloc (.cells #[.int .i64 kd, .int .i64 wn, .int .i64 c, .int .i64 n, .int .i64 m, .int .u8 l, .bool bb] 64) = W at *
  generalize w.heap.size = N at *
  have n1 : ¬ (wb = W.heap.size) := by omega
  have n2 : ¬ (N = W.heap.size) := by omega
  have n3 : ¬ (g = W.heap.size) := by omega
  go_cut [5] (fun v5 wc => v5 = .pointer (some ⟨W.heap.size, 0, none⟩) ∧ wc = (W.alloc (.cells #[.pointer (some ⟨p.1, 0, none⟩), .pointer (some ⟨p.2, 0, none⟩)] 69)).drew)
  case first =>
    go_region_held3 (fun w' => w'.cell? ⟨wb, 0, none⟩ = some (.slice (some ⟨g, 0, none⟩) ps.length cc) ∧ w'.cell? ⟨N, 1, none⟩ = some (.int .i64 wn) ∧ w'.cell? ⟨g, q * 2, none⟩ = some (.pointer (some ⟨p.1, 0, none⟩)) ∧ w'.cell? ⟨g, q * 2 + 1, none⟩ = some (.pointer (some ⟨p.2, 0, none⟩))) (go_keep) (first | (go_at_call 29; refine (unhide HPK _).mono ?_; rintro e w' ⟨rfl, hw'⟩; obtain rfl := hw'.symm))
    all_goals
      go_wp2
      go_meet
      case rel => exact ⟨rfl, rfl⟩
  case rest =>
    obtain ⟨rfl, rfl⟩ := hcut
    go_wp2_with fail
    refine (unhide (unhide HS _)).mono ?_
    rintro e w' ⟨rfl, hF⟩
    have HF := hide hF
    clear hF HS
    go_wp2
    go_ret
    exact ⟨rfl, unhide HF⟩
end Go.Proofs.Ytemkgikncmhoaaa
