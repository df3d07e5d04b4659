/-
  weavelaw: (*World).step: Flying, Peek. Own work.
-/
import Derived.Test.YtemkgikncmhoaaaLawStep2
namespace Go.Proofs.Ytemkgikncmhoaaa
open Go.RowKit
attribute [local go_sem ↓] Go.wp_at_zero Go.wp_at_succ
set_option maxRecDepth 100000 in
set_option maxHeartbeats 1600000 in
theorem step_lines_6 (own : Nat → Tag) (w : World) (wb : Nat) (ps : List (Nat × Nat)) (wn c n m l : Int) (bb : Bool) (h : WorldAt own w wb ps) (hwn : I64 wn) (hps : 1 ≤ ps.length) (hb1 : ps.length ≤ 4611686018427387904)
    (hE : ∀ own w (rx ry xb yb : Nat) X R, PairAt own w rx ry xb yb X R → rx ≠ ry → rx ≠ 0 → Calls Try.prog 45 #[.agg (PairV xb yb), .agg (OpV 6 wn c n m l bb)] w (EditsPost own w rx ry xb yb X)) :
    Calls Try.prog 30 #[.pointer (some ⟨wb, 0, none⟩), .agg (OpV 6 wn c n m l bb)] w (StepPost own w wb ps) := by
  have V : Upd own (retag own w.heap.size (0, 0, 0)) (fun _ => False) w (w.alloc (.cells (OpV 6 wn c n m l bb) 64)) := Upd.retag ((Upd.refl own (fun _ => False) w).alloc _) _ _ (Nat.le_refl _)
  have hF := h.upd V
  have hC := CellsT.new w (OpV 6 wn c n m l bb) 64 own (0, 0, 0)
  have hCl := hC.lt
  have z := hC.cell
  obtain ⟨g, cc, a1, a2, a3, a4⟩ := hF.gets hps
  obtain ⟨q, hq, hpk⟩ := pick_is wn ps.length hwn hps hb1
  have HPK := hide hpk
  clear hpk
  obtain ⟨p, hp⟩ : ∃ p, ps[q]? = some p := ⟨_, List.getElem?_eq_getElem hq⟩
  obtain ⟨b1, b2⟩ := a4 q p hp
  have HS : Hid (∀ u, Hid (Calls Try.prog 45 #[.agg (PairV p.1 p.2), .agg (OpV 6 wn c n m l bb)] ((w.alloc (.cells (OpV 6 wn c n m l bb) 64)).alloc u).drew (StepPost own w wb ps))) := by
    apply hide
    intro u
    have hU : Upd (retag own w.heap.size (0, 0, 0)) (retag own w.heap.size (0, 0, 0)) (fun _ => False) (w.alloc (.cells (OpV 6 wn c n m l bb) 64)) ((w.alloc (.cells (OpV 6 wn c n m l bb) 64)).alloc u).drew := ((Upd.refl _ _ _).alloc u).drew
    exact (hF.upd hU).step _ _ hE own w ((V.trans hU).mono (fun _ h => h.elim)) hp
  have hq' : (q : Int) < (ps.length : Int) := by omega
  clear hp
  clear hE V hF a4
  obtain ⟨a, cc0, e0⟩ := h.len
  have wbl : wb < w.heap.size := World.block_lt_of_cell? _ _ e0
  have nb : ¬ (wb = w.heap.size) := by omega
  have hl0 : ((ps.length : Int) == 0) = false := by rw [beq_eq_false_iff_ne]; omega
  have z0 := z 0
  have z1 := z 1
  have z2 := z 2
  have z3 := z 3
  have z4 := z 4
  have z5 := z 5
  have z6 := z 6
  clear h hC z
  unfold OpV PairV at *
  simp only [List.getElem?_toArray, List.getElem?_cons_zero, List.getElem?_cons_succ] at z0 z1 z2 z3 z4 z5 z6
  go_enter Try.func30, Try.ntmps30
  go_wp2
  clear e0 nb wbl
  generalize w.alloc (.cells #[.int .i64 6, .int .i64 wn, .int .i64 c, .int .i64 n, .int .i64 m, .int .u8 l, .bool bb] 64) = W at *
  generalize w.heap.size = N at *
  have n1 : ¬ (wb = W.heap.size) := by omega
  have n2 : ¬ (N = W.heap.size) := by omega
  have n3 : ¬ (g = W.heap.size) := by omega
  go_cut [5] (fun v5 wc => v5 = .pointer (some ⟨W.heap.size, 0, none⟩) ∧ wc = (W.alloc (.cells #[.pointer (some ⟨p.1, 0, none⟩), .pointer (some ⟨p.2, 0, none⟩)] 69)).drew)
  case first =>
    go_region_held3 (fun w' => w'.cell? ⟨wb, 0, none⟩ = some (.slice (some ⟨g, 0, none⟩) ps.length cc) ∧ w'.cell? ⟨N, 1, none⟩ = some (.int .i64 wn) ∧ w'.cell? ⟨g, q * 2, none⟩ = some (.pointer (some ⟨p.1, 0, none⟩)) ∧ w'.cell? ⟨g, q * 2 + 1, none⟩ = some (.pointer (some ⟨p.2, 0, none⟩))) (go_keep) (first | (go_at_call 29; refine (unhide HPK _).mono ?_; rintro e w' ⟨rfl, hw'⟩; obtain rfl := hw'.symm))
    all_goals
      go_wp2
      go_meet
      case rel => exact ⟨rfl, rfl⟩
  case rest =>
    obtain ⟨rfl, rfl⟩ := hcut
    go_wp2_with fail
    refine (unhide (unhide HS _)).mono ?_
    rintro e w' ⟨rfl, hF⟩
    have HF := hide hF
    clear hF HS
    go_wp2
    go_ret
    exact ⟨rfl, unhide HF⟩
set_option maxRecDepth 100000 in
set_option maxHeartbeats 1600000 in
theorem step_lines_7 (own : Nat → Tag) (w : World) (wb : Nat) (ps : List (Nat × Nat)) (wn c n m l : Int) (bb : Bool) (h : WorldAt own w wb ps) (hwn : I64 wn) (hps : 1 ≤ ps.length) (hb1 : ps.length ≤ 4611686018427387904)
    (hE : ∀ own w (rx ry xb yb : Nat) X R, PairAt own w rx ry xb yb X R → rx ≠ ry → rx ≠ 0 → Calls Try.prog 45 #[.agg (PairV xb yb), .agg (OpV 7 wn c n m l bb)] w (EditsPost own w rx ry xb yb X)) :
    Calls Try.prog 30 #[.pointer (some ⟨wb, 0, none⟩), .agg (OpV 7 wn c n m l bb)] w (StepPost own w wb ps) := by
  have V : Upd own (retag own w.heap.size (0, 0, 0)) (fun _ => False) w (w.alloc (.cells (OpV 7 wn c n m l bb) 64)) := Upd.retag ((Upd.refl own (fun _ => False) w).alloc _) _ _ (Nat.le_refl _)
  have hF := h.upd V
  have hC := CellsT.new w (OpV 7 wn c n m l bb) 64 own (0, 0, 0)
  have hCl := hC.lt
  have z := hC.cell
  obtain ⟨g, cc, a1, a2, a3, a4⟩ := hF.gets hps
  obtain ⟨q, hq, hpk⟩ := pick_is wn ps.length hwn hps hb1
  have HPK := hide hpk
  clear hpk
  obtain ⟨p, hp⟩ : ∃ p, ps[q]? = some p := ⟨_, List.getElem?_eq_getElem hq⟩
  obtain ⟨b1, b2⟩ := a4 q p hp
  have HS : Hid (∀ u, Hid (Calls Try.prog 45 #[.agg (PairV p.1 p.2), .agg (OpV 7 wn c n m l bb)] ((w.alloc (.cells (OpV 7 wn c n m l bb) 64)).alloc u).drew (StepPost own w wb ps))) := by
    apply hide
    intro u
    have hU : Upd (retag own w.heap.size (0, 0, 0)) (retag own w.heap.size (0, 0, 0)) (fun _ => False) (w.alloc (.cells (OpV 7 wn c n m l bb) 64)) ((w.alloc (.cells (OpV 7 wn c n m l bb) 64)).alloc u).drew := ((Upd.refl _ _ _).alloc u).drew
    exact (hF.upd hU).step _ _ hE own w ((V.trans hU).mono (fun _ h => h.elim)) hp
  have hq' : (q : Int) < (ps.length : Int) := by omega
  clear hp
  clear hE V hF a4
  obtain ⟨a, cc0, e0⟩ := h.len
  have wbl : wb < w.heap.size := World.block_lt_of_cell? _ _ e0
  have nb : ¬ (wb = w.heap.size) := by omega
  have hl0 : ((ps.length : Int) == 0) = false := by rw [beq_eq_false_iff_ne]; omega
  have z0 := z 0
  have z1 := z 1
  have z2 := z 2
  have z3 := z 3
  have z4 := z 4
  have z5 := z 5
  have z6 := z 6
  clear h hC z
  unfold OpV PairV at *
  simp only [List.getElem?_toArray, List.getElem?_cons_zero, List.getElem?_cons_succ] at z0 z1 z2 z3 z4 z5 z6
  go_enter Try.func30, Try.ntmps30
  go_wp2
  clear e0 nb wbl
  generalize w.alloc (.cells #[.int .i64 7, .int .i64 wn, .int .i64 c, .int .i64 n, .int .i64 m, .int .u8 l, .bool bb] 64) = W at *
  generalize w.heap.size = N at *
  have n1 : ¬ (wb = W.heap.size) := by omega
  have n2 : ¬ (N = W.heap.size) := by omega
  have n3 : ¬ (g = W.heap.size) := by omega
  go_cut [5] (fun v5 wc => v5 = .pointer (some ⟨W.heap.size, 0, none⟩) ∧ wc = (W.alloc (.cells #[.pointer (some ⟨p.1, 0, none⟩), .pointer (some ⟨p.2, 0, none⟩)] 69)).drew)
  case first =>
    go_region_held3 (fun w' => w'.cell? ⟨wb, 0, none⟩ = some (.slice (some ⟨g, 0, none⟩) ps.length cc) ∧ w'.cell? ⟨N, 1, none⟩ = some (.int .i64 wn) ∧ w'.cell? ⟨g, q * 2, none⟩ = some (.pointer (some ⟨p.1, 0, none⟩)) ∧ w'.cell? ⟨g, q * 2 + 1, none⟩ = some (.pointer (some ⟨p.2, 0, none⟩))) (go_keep) (first | (go_at_call 29; refine (unhide HPK _).mono ?_; rintro e w' ⟨rfl, hw'⟩; obtain rfl := hw'.symm))
    all_goals
      go_wp2
      go_meet
      case rel => exact ⟨rfl, rfl⟩
  case rest =>
    obtain ⟨rfl, rfl⟩ := hcut
    go_wp2_with fail
    refine (unhide (unhide HS _)).mono ?_
    rintro e w' ⟨rfl, hF⟩
    have HF := hide hF
    clear hF HS
    go_wp2
    go_ret
    exact ⟨rfl, unhide HF⟩
end Go.Proofs.Ytemkgikncmhoaaa
