import Derived.Test.YtemkgikncmhoaaaM44
import Derived.Deep.DeepCutAuto
namespace Go.Proofs.Ytemkgikncmhoaaa
open Go.RowKit
attribute [local go_sem ↓] Go.wp_at_zero Go.wp_at_succ

/-- What a step hands on to edits or lines. -/
theorem WorldAt.step {K : Nat} {own : Nat → Tag} {w : World} {wb : Nat} {ps : List (Nat × Nat)} (h : WorldAt K own w wb ps) (f : FuncId) (o : Array Value)
  (hE : ∀ own w (rx ry xb yb : Nat) X R, PairAt K own w rx ry xb yb X R → rx ≠ ry → rx ≠ 0 → ry ≠ 0 → Calls Try.prog f #[.agg (PairV xb yb), .agg o] w (EditsPost (K + 1) own w rx ry xb yb X))
  (own0 : Nat → Tag) (w0 : World) (hU : Upd own0 own mayW w0 w) {i : Nat} {p : Nat × Nat} (hi : ps[i]? = some p) : Calls Try.prog f #[.agg (PairV p.1 p.2), .agg o] w (StepPost K own0 w0 wb ps) := by
 obtain ⟨X, R, hP, hF⟩ := h.one (Nat.le_succ K) hi
 refine (hE _ _ _ _ _ _ _ _ hP (by omega) (by omega) (by omega)).mono ?_
 intro e w' he
 obtain ⟨rfl, own', hW', hU'⟩ := hF _ _ he
 exact ⟨rfl, own', ps, hW', hU.trans hU', by omega, by omega⟩

theorem WorldAt.gets {K : Nat} {own : Nat → Tag} {w : World} {wb : Nat} {ps : List (Nat × Nat)} (h : WorldAt K own w wb ps) (hps : 1 ≤ ps.length) :
  ∃ g c, w.cell? ⟨wb, 0, none⟩ = some (.slice (some ⟨g, 0, none⟩) ps.length c) ∧ g < w.heap.size ∧ wb < w.heap.size ∧ ∀ (q : Nat) (p : Nat × Nat), ps[q]? = some p → w.cell? ⟨g, q * 2, none⟩ = some (.pointer (some ⟨p.1, 0, none⟩)) ∧ w.cell? ⟨g, q * 2 + 1, none⟩ = some (.pointer (some ⟨p.2, 0, none⟩)) := by
 obtain ⟨g, c, a1, _, _, a4, a5⟩ := h.get (List.getElem?_eq_getElem (show 0 < ps.length by omega))
 refine ⟨g, c, a1, a4, a5, fun q p hq => ?_⟩
 obtain ⟨g', c', b1, b2, b3, _, _⟩ := h.get hq
 rw [a1] at b1
 simp only [Option.some.injEq, Value.slice.injEq, Addr.mk.injEq, and_true, true_and] at b1
 obtain ⟨rfl, rfl⟩ := b1
 exact ⟨b2, b3⟩

set_option maxRecDepth 100000 in
set_option maxHeartbeats 400000 in
theorem pick_is (c : Int) (n : Nat) (hc : I64 c) (hn : 1 ≤ n) (hn2 : n ≤ 4611686018427387904) :
  ∃ q : Nat, q < n ∧ ∀ w, Calls Try.prog 29 #[.int .i64 c, .int .i64 n] w fun e w' => e = .returned (.int .i64 q) ∧ w' = w := by
 unfold I64 at hc
 have hn0 : ¬ ((n : Int) = 0) := by omega
 have hnp : (0 : Int) < (n : Int) := by omega
 have key : ∀ d : Int, 0 ≤ d → ∃ q : Nat, q < n ∧ d % (n : Int) = q := fun d hd => by
  have h1 := Int.emod_nonneg d hn0
  have h2 := Int.emod_lt_of_pos d hnp
  obtain ⟨q, hq⟩ := Int.eq_ofNat_of_zero_le h1
  exact ⟨q, by omega, hq⟩
 by_cases h : c < 0
 ·obtain ⟨q, hq, e⟩ := key (-(c + 1)) (by omega)
  have HK := hide e
  clear key e
  refine ⟨q, hq, fun w => ?_⟩
  go_enter Try.func29, Try.ntmps29
  go_wp2
  go_ret
  refine ⟨?_, rfl⟩
  exact ret_int (show -(c + 1).tmod (n : Int) = q from by rw [← Int.neg_tmod, Int.tmod_eq_emod_of_nonneg (by omega)]; exact unhide HK)
 ·obtain ⟨q, hq, e⟩ := key c (by omega)
  have HK := hide e
  clear key e
  refine ⟨q, hq, fun w => ?_⟩
  go_enter Try.func29, Try.ntmps29
  go_wp2
  go_ret
  refine ⟨?_, rfl⟩
  have e := unhide HK
  exact ret_int (by first | (rw [← e]; done) | (rw [← e]; go_arith) | (rw [← e]; simp))

set_option maxRecDepth 100000 in
set_option maxHeartbeats 1600000 in
theorem step_edits (K : Nat) (own : Nat → Tag) (w : World) (wb : Nat) (ps : List (Nat × Nat)) (kd wn c n m l : Int) (bb : Bool) (h : WorldAt K own w wb ps) (hk : 2 ≤ kd ∧ kd ≤ 5) (hwn : I64 wn) (hps : 1 ≤ ps.length) (hb1 : ps.length ≤ 4611686018427387904)
  (hE : ∀ own w (rx ry xb yb : Nat) X R, PairAt K own w rx ry xb yb X R → rx ≠ ry → rx ≠ 0 → ry ≠ 0 → Calls Try.prog 46 #[.agg (PairV xb yb), .agg (OpV kd wn c n m l bb)] w (EditsPost (K + 1) own w rx ry xb yb X)) :
  Calls Try.prog 30 #[.pointer (some ⟨wb, 0, none⟩), .agg (OpV kd wn c n m l bb)] w (StepPost K own w wb ps) := by
 have V : Upd own (retag own w.heap.size (0, 0, 0)) (fun _ => False) w (w.alloc (.cells (OpV kd wn c n m l bb) 64)) := Upd.retag ((Upd.refl own (fun _ => False) w).alloc _) _ _ (Nat.le_refl _)
 have hF := h.upd V
 have hC := CellsT.new w (OpV kd wn c n m l bb) 64 own (0, 0, 0)
 have hCl := hC.lt
 have z := hC.cell
 obtain ⟨g, cc, a1, a2, a3, a4⟩ := hF.gets hps
 obtain ⟨q, hq, hpk⟩ := pick_is wn ps.length hwn hps hb1
 have HPK := hide hpk
 clear hpk
 obtain ⟨p, hp⟩ : ∃ p, ps[q]? = some p := ⟨_, List.getElem?_eq_getElem hq⟩
 obtain ⟨b1, b2⟩ := a4 q p hp
 have HS : Hid (∀ u, Hid (Calls Try.prog 46 #[.agg (PairV p.1 p.2), .agg (OpV kd wn c n m l bb)] ((w.alloc (.cells (OpV kd wn c n m l bb) 64)).alloc u).drew (StepPost K own w wb ps))) := by
  apply hide
  intro u
  have hU : Upd (retag own w.heap.size (0, 0, 0)) (retag own w.heap.size (0, 0, 0)) (fun _ => False) (w.alloc (.cells (OpV kd wn c n m l bb) 64)) ((w.alloc (.cells (OpV kd wn c n m l bb) 64)).alloc u).drew := ((Upd.refl _ _ _).alloc u).drew
  exact (hF.upd hU).step _ _ hE own w ((V.trans hU).mono (fun _ h => h.elim)) hp
 have hq' : (q : Int) < (ps.length : Int) := by omega
 clear hp
 clear hE V hF a4
 obtain ⟨a, cc0, e0⟩ := h.len
 have wbl : wb < w.heap.size := World.block_lt_of_cell? _ _ e0
 have nb : ¬ (wb = w.heap.size) := by omega
 have hq1 : (kd == 1) = false := by rw [beq_eq_false_iff_ne]; omega
 have hq6 : (kd == 6) = false := by rw [beq_eq_false_iff_ne]; omega
 have hq7 : (kd == 7) = false := by rw [beq_eq_false_iff_ne]; omega
 have hq8 : (kd == 8) = false := by rw [beq_eq_false_iff_ne]; omega
 have hq9 : (kd == 9) = false := by rw [beq_eq_false_iff_ne]; omega
 have hl0 : ((ps.length : Int) == 0) = false := by rw [beq_eq_false_iff_ne]; omega
 have hk1 : ¬ (kd < 2) := by omega
 have hk2 : ¬ (9 < kd) := by omega
 have z0 := z 0
 have z1 := z 1
 have z2 := z 2
 have z3 := z 3
 have z4 := z 4
 have z5 := z 5
 have z6 := z 6
 clear h hC z
 unfold OpV PairV at *
 simp only [List.getElem?_toArray, List.getElem?_cons_zero, List.getElem?_cons_succ] at z0 z1 z2 z3 z4 z5 z6
 go_enter Try.func30, Try.ntmps30
 go_wp2
 clear e0 nb wbl
 generalize w.alloc (.cells #[.int .i64 kd, .int .i64 wn, .int .i64 c, .int .i64 n, .int .i64 m, .int .u8 l, .bool bb] 64) = W at *
 generalize w.heap.size = N at *
 have n1 : ¬ (wb = W.heap.size) := by omega
 have n2 : ¬ (N = W.heap.size) := by omega
 have n3 : ¬ (g = W.heap.size) := by omega
 go_cut [5] (fun v5 wc => v5 = .pointer (some ⟨W.heap.size, 0, none⟩) ∧ wc = (W.alloc (.cells #[.pointer (some ⟨p.1, 0, none⟩), .pointer (some ⟨p.2, 0, none⟩)] 69)).drew)
 case first =>
  go_region_held3 (fun w' => w'.cell? ⟨wb, 0, none⟩ = some (.slice (some ⟨g, 0, none⟩) ps.length cc) ∧ w'.cell? ⟨N, 1, none⟩ = some (.int .i64 wn) ∧ w'.cell? ⟨g, q * 2, none⟩ = some (.pointer (some ⟨p.1, 0, none⟩)) ∧ w'.cell? ⟨g, q * 2 + 1, none⟩ = some (.pointer (some ⟨p.2, 0, none⟩))) (go_keep) (first | (go_at_call 29; refine (unhide HPK _).mono ?_; rintro e w' ⟨rfl, hw'⟩; obtain rfl := hw'.symm))
  all_goals
   go_wp2
   go_meet
   case rel => exact ⟨rfl, rfl⟩
 case rest =>
  obtain ⟨rfl, rfl⟩ := hcut
  go_wp2_with fail
  refine (unhide (unhide HS _)).mono ?_
  rintro e w' ⟨rfl, hF⟩
  have HF := hide hF
  clear hF HS
  go_wp2
  go_ret
  exact ⟨rfl, unhide HF⟩
end Go.Proofs.Ytemkgikncmhoaaa

namespace Go.Proofs.Ytemkgikncmhoaaa
open Go.RowKit
attribute [local go_sem ↓] Go.wp_at_zero Go.wp_at_succ
set_option maxRecDepth 100000 in
set_option maxHeartbeats 1600000 in
theorem step_lines_6 (K : Nat) (own : Nat → Tag) (w : World) (wb : Nat) (ps : List (Nat × Nat)) (wn c n m l : Int) (bb : Bool) (h : WorldAt K own w wb ps) (hwn : I64 wn) (hps : 1 ≤ ps.length) (hb1 : ps.length ≤ 4611686018427387904)
  (hE : ∀ own w (rx ry xb yb : Nat) X R, PairAt K own w rx ry xb yb X R → rx ≠ ry → rx ≠ 0 → ry ≠ 0 → Calls Try.prog 45 #[.agg (PairV xb yb), .agg (OpV 6 wn c n m l bb)] w (EditsPost (K + 1) own w rx ry xb yb X)) :
  Calls Try.prog 30 #[.pointer (some ⟨wb, 0, none⟩), .agg (OpV 6 wn c n m l bb)] w (StepPost K own w wb ps) := by
 have V : Upd own (retag own w.heap.size (0, 0, 0)) (fun _ => False) w (w.alloc (.cells (OpV 6 wn c n m l bb) 64)) := Upd.retag ((Upd.refl own (fun _ => False) w).alloc _) _ _ (Nat.le_refl _)
 have hF := h.upd V
 have hC := CellsT.new w (OpV 6 wn c n m l bb) 64 own (0, 0, 0)
 have hCl := hC.lt
 have z := hC.cell
 obtain ⟨g, cc, a1, a2, a3, a4⟩ := hF.gets hps
 obtain ⟨q, hq, hpk⟩ := pick_is wn ps.length hwn hps hb1
 have HPK := hide hpk
 clear hpk
 obtain ⟨p, hp⟩ : ∃ p, ps[q]? = some p := ⟨_, List.getElem?_eq_getElem hq⟩
 obtain ⟨b1, b2⟩ := a4 q p hp
 have HS : Hid (∀ u, Hid (Calls Try.prog 45 #[.agg (PairV p.1 p.2), .agg (OpV 6 wn c n m l bb)] ((w.alloc (.cells (OpV 6 wn c n m l bb) 64)).alloc u).drew (StepPost K own w wb ps))) := by
  apply hide
  intro u
  have hU : Upd (retag own w.heap.size (0, 0, 0)) (retag own w.heap.size (0, 0, 0)) (fun _ => False) (w.alloc (.cells (OpV 6 wn c n m l bb) 64)) ((w.alloc (.cells (OpV 6 wn c n m l bb) 64)).alloc u).drew := ((Upd.refl _ _ _).alloc u).drew
  exact (hF.upd hU).step _ _ hE own w ((V.trans hU).mono (fun _ h => h.elim)) hp
 have hq' : (q : Int) < (ps.length : Int) := by omega
 clear hp
 clear hE V hF a4
 obtain ⟨a, cc0, e0⟩ := h.len
 have wbl : wb < w.heap.size := World.block_lt_of_cell? _ _ e0
 have nb : ¬ (wb = w.heap.size) := by omega
 have hl0 : ((ps.length : Int) == 0) = false := by rw [beq_eq_false_iff_ne]; omega
 have z0 := z 0
 have z1 := z 1
 have z2 := z 2
 have z3 := z 3
 have z4 := z 4
 have z5 := z 5
 have z6 := z 6
 clear h hC z
 unfold OpV PairV at *
 simp only [List.getElem?_toArray, List.getElem?_cons_zero, List.getElem?_cons_succ] at z0 z1 z2 z3 z4 z5 z6
 go_enter Try.func30, Try.ntmps30
 go_wp2
 clear e0 nb wbl
 generalize w.alloc (.cells #[.int .i64 6, .int .i64 wn, .int .i64 c, .int .i64 n, .int .i64 m, .int .u8 l, .bool bb] 64) = W at *
 generalize w.heap.size = N at *
 have n1 : ¬ (wb = W.heap.size) := by omega
 have n2 : ¬ (N = W.heap.size) := by omega
 have n3 : ¬ (g = W.heap.size) := by omega
 go_cut [5] (fun v5 wc => v5 = .pointer (some ⟨W.heap.size, 0, none⟩) ∧ wc = (W.alloc (.cells #[.pointer (some ⟨p.1, 0, none⟩), .pointer (some ⟨p.2, 0, none⟩)] 69)).drew)
 case first =>
  go_region_held3 (fun w' => w'.cell? ⟨wb, 0, none⟩ = some (.slice (some ⟨g, 0, none⟩) ps.length cc) ∧ w'.cell? ⟨N, 1, none⟩ = some (.int .i64 wn) ∧ w'.cell? ⟨g, q * 2, none⟩ = some (.pointer (some ⟨p.1, 0, none⟩)) ∧ w'.cell? ⟨g, q * 2 + 1, none⟩ = some (.pointer (some ⟨p.2, 0, none⟩))) (go_keep) (first | (go_at_call 29; refine (unhide HPK _).mono ?_; rintro e w' ⟨rfl, hw'⟩; obtain rfl := hw'.symm))
  all_goals
   go_wp2
   go_meet
   case rel => exact ⟨rfl, rfl⟩
 case rest =>
  obtain ⟨rfl, rfl⟩ := hcut
  go_wp2_with fail
  refine (unhide (unhide HS _)).mono ?_
  rintro e w' ⟨rfl, hF⟩
  have HF := hide hF
  clear hF HS
  go_wp2
  go_ret
  exact ⟨rfl, unhide HF⟩
set_option maxRecDepth 100000 in
set_option maxHeartbeats 1600000 in
theorem step_lines_7 (K : Nat) (own : Nat → Tag) (w : World) (wb : Nat) (ps : List (Nat × Nat)) (wn c n m l : Int) (bb : Bool) (h : WorldAt K own w wb ps) (hwn : I64 wn) (hps : 1 ≤ ps.length) (hb1 : ps.length ≤ 4611686018427387904)
  (hE : ∀ own w (rx ry xb yb : Nat) X R, PairAt K own w rx ry xb yb X R → rx ≠ ry → rx ≠ 0 → ry ≠ 0 → Calls Try.prog 45 #[.agg (PairV xb yb), .agg (OpV 7 wn c n m l bb)] w (EditsPost (K + 1) own w rx ry xb yb X)) :
  Calls Try.prog 30 #[.pointer (some ⟨wb, 0, none⟩), .agg (OpV 7 wn c n m l bb)] w (StepPost K own w wb ps) := by
 have V : Upd own (retag own w.heap.size (0, 0, 0)) (fun _ => False) w (w.alloc (.cells (OpV 7 wn c n m l bb) 64)) := Upd.retag ((Upd.refl own (fun _ => False) w).alloc _) _ _ (Nat.le_refl _)
 have hF := h.upd V
 have hC := CellsT.new w (OpV 7 wn c n m l bb) 64 own (0, 0, 0)
 have hCl := hC.lt
 have z := hC.cell
 obtain ⟨g, cc, a1, a2, a3, a4⟩ := hF.gets hps
 obtain ⟨q, hq, hpk⟩ := pick_is wn ps.length hwn hps hb1
 have HPK := hide hpk
 clear hpk
 obtain ⟨p, hp⟩ : ∃ p, ps[q]? = some p := ⟨_, List.getElem?_eq_getElem hq⟩
 obtain ⟨b1, b2⟩ := a4 q p hp
 have HS : Hid (∀ u, Hid (Calls Try.prog 45 #[.agg (PairV p.1 p.2), .agg (OpV 7 wn c n m l bb)] ((w.alloc (.cells (OpV 7 wn c n m l bb) 64)).alloc u).drew (StepPost K own w wb ps))) := by
  apply hide
  intro u
  have hU : Upd (retag own w.heap.size (0, 0, 0)) (retag own w.heap.size (0, 0, 0)) (fun _ => False) (w.alloc (.cells (OpV 7 wn c n m l bb) 64)) ((w.alloc (.cells (OpV 7 wn c n m l bb) 64)).alloc u).drew := ((Upd.refl _ _ _).alloc u).drew
  exact (hF.upd hU).step _ _ hE own w ((V.trans hU).mono (fun _ h => h.elim)) hp
 have hq' : (q : Int) < (ps.length : Int) := by omega
 clear hp
 clear hE V hF a4
 obtain ⟨a, cc0, e0⟩ := h.len
 have wbl : wb < w.heap.size := World.block_lt_of_cell? _ _ e0
 have nb : ¬ (wb = w.heap.size) := by omega
 have hl0 : ((ps.length : Int) == 0) = false := by rw [beq_eq_false_iff_ne]; omega
 have z0 := z 0
 have z1 := z 1
 have z2 := z 2
 have z3 := z 3
 have z4 := z 4
 have z5 := z 5
 have z6 := z 6
 clear h hC z
 unfold OpV PairV at *
 simp only [List.getElem?_toArray, List.getElem?_cons_zero, List.getElem?_cons_succ] at z0 z1 z2 z3 z4 z5 z6
 go_enter Try.func30, Try.ntmps30
 go_wp2
 clear e0 nb wbl
 generalize w.alloc (.cells #[.int .i64 7, .int .i64 wn, .int .i64 c, .int .i64 n, .int .i64 m, .int .u8 l, .bool bb] 64) = W at *
 generalize w.heap.size = N at *
 have n1 : ¬ (wb = W.heap.size) := by omega
 have n2 : ¬ (N = W.heap.size) := by omega
 have n3 : ¬ (g = W.heap.size) := by omega
 go_cut [5] (fun v5 wc => v5 = .pointer (some ⟨W.heap.size, 0, none⟩) ∧ wc = (W.alloc (.cells #[.pointer (some ⟨p.1, 0, none⟩), .pointer (some ⟨p.2, 0, none⟩)] 69)).drew)
 case first =>
  go_region_held3 (fun w' => w'.cell? ⟨wb, 0, none⟩ = some (.slice (some ⟨g, 0, none⟩) ps.length cc) ∧ w'.cell? ⟨N, 1, none⟩ = some (.int .i64 wn) ∧ w'.cell? ⟨g, q * 2, none⟩ = some (.pointer (some ⟨p.1, 0, none⟩)) ∧ w'.cell? ⟨g, q * 2 + 1, none⟩ = some (.pointer (some ⟨p.2, 0, none⟩))) (go_keep) (first | (go_at_call 29; refine (unhide HPK _).mono ?_; rintro e w' ⟨rfl, hw'⟩; obtain rfl := hw'.symm))
  all_goals
   go_wp2
   go_meet
   case rel => exact ⟨rfl, rfl⟩
 case rest =>
  obtain ⟨rfl, rfl⟩ := hcut
  go_wp2_with fail
  refine (unhide (unhide HS _)).mono ?_
  rintro e w' ⟨rfl, hF⟩
  have HF := hide hF
  clear hF HS
  go_wp2
  go_ret
  exact ⟨rfl, unhide HF⟩
set_option maxRecDepth 100000 in
set_option maxHeartbeats 1600000 in
theorem step_lines_8 (K : Nat) (own : Nat → Tag) (w : World) (wb : Nat) (ps : List (Nat × Nat)) (wn c n m l : Int) (bb : Bool) (h : WorldAt K own w wb ps) (hwn : I64 wn) (hps : 1 ≤ ps.length) (hb1 : ps.length ≤ 4611686018427387904)
  (hE : ∀ own w (rx ry xb yb : Nat) X R, PairAt K own w rx ry xb yb X R → rx ≠ ry → rx ≠ 0 → ry ≠ 0 → Calls Try.prog 45 #[.agg (PairV xb yb), .agg (OpV 8 wn c n m l bb)] w (EditsPost (K + 1) own w rx ry xb yb X)) :
  Calls Try.prog 30 #[.pointer (some ⟨wb, 0, none⟩), .agg (OpV 8 wn c n m l bb)] w (StepPost K own w wb ps) := by
 have V : Upd own (retag own w.heap.size (0, 0, 0)) (fun _ => False) w (w.alloc (.cells (OpV 8 wn c n m l bb) 64)) := Upd.retag ((Upd.refl own (fun _ => False) w).alloc _) _ _ (Nat.le_refl _)
 have hF := h.upd V
 have hC := CellsT.new w (OpV 8 wn c n m l bb) 64 own (0, 0, 0)
 have hCl := hC.lt
 have z := hC.cell
 obtain ⟨g, cc, a1, a2, a3, a4⟩ := hF.gets hps
 obtain ⟨q, hq, hpk⟩ := pick_is wn ps.length hwn hps hb1
 have HPK := hide hpk
 clear hpk
 obtain ⟨p, hp⟩ : ∃ p, ps[q]? = some p := ⟨_, List.getElem?_eq_getElem hq⟩
 obtain ⟨b1, b2⟩ := a4 q p hp
 have HS : Hid (∀ u, Hid (Calls Try.prog 45 #[.agg (PairV p.1 p.2), .agg (OpV 8 wn c n m l bb)] ((w.alloc (.cells (OpV 8 wn c n m l bb) 64)).alloc u).drew (StepPost K own w wb ps))) := by
  apply hide
  intro u
  have hU : Upd (retag own w.heap.size (0, 0, 0)) (retag own w.heap.size (0, 0, 0)) (fun _ => False) (w.alloc (.cells (OpV 8 wn c n m l bb) 64)) ((w.alloc (.cells (OpV 8 wn c n m l bb) 64)).alloc u).drew := ((Upd.refl _ _ _).alloc u).drew
  exact (hF.upd hU).step _ _ hE own w ((V.trans hU).mono (fun _ h => h.elim)) hp
 have hq' : (q : Int) < (ps.length : Int) := by omega
 clear hp
 clear hE V hF a4
 obtain ⟨a, cc0, e0⟩ := h.len
 have wbl : wb < w.heap.size := World.block_lt_of_cell? _ _ e0
 have nb : ¬ (wb = w.heap.size) := by omega
 have hl0 : ((ps.length : Int) == 0) = false := by rw [beq_eq_false_iff_ne]; omega
 have z0 := z 0
 have z1 := z 1
 have z2 := z 2
 have z3 := z 3
 have z4 := z 4
 have z5 := z 5
 have z6 := z 6
 clear h hC z
 unfold OpV PairV at *
 simp only [List.getElem?_toArray, List.getElem?_cons_zero, List.getElem?_cons_succ] at z0 z1 z2 z3 z4 z5 z6
 go_enter Try.func30, Try.ntmps30
 go_wp2
 clear e0 nb wbl
 generalize w.alloc (.cells #[.int .i64 8, .int .i64 wn, .int .i64 c, .int .i64 n, .int .i64 m, .int .u8 l, .bool bb] 64) = W at *
 generalize w.heap.size = N at *
 have n1 : ¬ (wb = W.heap.size) := by omega
 have n2 : ¬ (N = W.heap.size) := by omega
 have n3 : ¬ (g = W.heap.size) := by omega
 go_cut [5] (fun v5 wc => v5 = .pointer (some ⟨W.heap.size, 0, none⟩) ∧ wc = (W.alloc (.cells #[.pointer (some ⟨p.1, 0, none⟩), .pointer (some ⟨p.2, 0, none⟩)] 69)).drew)
 case first =>
  go_region_held3 (fun w' => w'.cell? ⟨wb, 0, none⟩ = some (.slice (some ⟨g, 0, none⟩) ps.length cc) ∧ w'.cell? ⟨N, 1, none⟩ = some (.int .i64 wn) ∧ w'.cell? ⟨g, q * 2, none⟩ = some (.pointer (some ⟨p.1, 0, none⟩)) ∧ w'.cell? ⟨g, q * 2 + 1, none⟩ = some (.pointer (some ⟨p.2, 0, none⟩))) (go_keep) (first | (go_at_call 29; refine (unhide HPK _).mono ?_; rintro e w' ⟨rfl, hw'⟩; obtain rfl := hw'.symm))
  all_goals
   go_wp2
   go_meet
   case rel => exact ⟨rfl, rfl⟩
 case rest =>
  obtain ⟨rfl, rfl⟩ := hcut
  go_wp2_with fail
  refine (unhide (unhide HS _)).mono ?_
  rintro e w' ⟨rfl, hF⟩
  have HF := hide hF
  clear hF HS
  go_wp2
  go_ret
  exact ⟨rfl, unhide HF⟩
set_option maxRecDepth 100000 in
set_option maxHeartbeats 1600000 in
theorem step_lines_9 (K : Nat) (own : Nat → Tag) (w : World) (wb : Nat) (ps : List (Nat × Nat)) (wn c n m l : Int) (bb : Bool) (h : WorldAt K own w wb ps) (hwn : I64 wn) (hps : 1 ≤ ps.length) (hb1 : ps.length ≤ 4611686018427387904)
  (hE : ∀ own w (rx ry xb yb : Nat) X R, PairAt K own w rx ry xb yb X R → rx ≠ ry → rx ≠ 0 → ry ≠ 0 → Calls Try.prog 45 #[.agg (PairV xb yb), .agg (OpV 9 wn c n m l bb)] w (EditsPost (K + 1) own w rx ry xb yb X)) :
  Calls Try.prog 30 #[.pointer (some ⟨wb, 0, none⟩), .agg (OpV 9 wn c n m l bb)] w (StepPost K own w wb ps) := by
 have V : Upd own (retag own w.heap.size (0, 0, 0)) (fun _ => False) w (w.alloc (.cells (OpV 9 wn c n m l bb) 64)) := Upd.retag ((Upd.refl own (fun _ => False) w).alloc _) _ _ (Nat.le_refl _)
 have hF := h.upd V
 have hC := CellsT.new w (OpV 9 wn c n m l bb) 64 own (0, 0, 0)
 have hCl := hC.lt
 have z := hC.cell
 obtain ⟨g, cc, a1, a2, a3, a4⟩ := hF.gets hps
 obtain ⟨q, hq, hpk⟩ := pick_is wn ps.length hwn hps hb1
 have HPK := hide hpk
 clear hpk
 obtain ⟨p, hp⟩ : ∃ p, ps[q]? = some p := ⟨_, List.getElem?_eq_getElem hq⟩
 obtain ⟨b1, b2⟩ := a4 q p hp
 have HS : Hid (∀ u, Hid (Calls Try.prog 45 #[.agg (PairV p.1 p.2), .agg (OpV 9 wn c n m l bb)] ((w.alloc (.cells (OpV 9 wn c n m l bb) 64)).alloc u).drew (StepPost K own w wb ps))) := by
  apply hide
  intro u
  have hU : Upd (retag own w.heap.size (0, 0, 0)) (retag own w.heap.size (0, 0, 0)) (fun _ => False) (w.alloc (.cells (OpV 9 wn c n m l bb) 64)) ((w.alloc (.cells (OpV 9 wn c n m l bb) 64)).alloc u).drew := ((Upd.refl _ _ _).alloc u).drew
  exact (hF.upd hU).step _ _ hE own w ((V.trans hU).mono (fun _ h => h.elim)) hp
 have hq' : (q : Int) < (ps.length : Int) := by omega
 clear hp
 clear hE V hF a4
 obtain ⟨a, cc0, e0⟩ := h.len
 have wbl : wb < w.heap.size := World.block_lt_of_cell? _ _ e0
 have nb : ¬ (wb = w.heap.size) := by omega
 have hl0 : ((ps.length : Int) == 0) = false := by rw [beq_eq_false_iff_ne]; omega
 have z0 := z 0
 have z1 := z 1
 have z2 := z 2
 have z3 := z 3
 have z4 := z 4
 have z5 := z 5
 have z6 := z 6
 clear h hC z
 unfold OpV PairV at *
 simp only [List.getElem?_toArray, List.getElem?_cons_zero, List.getElem?_cons_succ] at z0 z1 z2 z3 z4 z5 z6
 go_enter Try.func30, Try.ntmps30
 go_wp2
 clear e0 nb wbl
 generalize w.alloc (.cells #[.int .i64 9, .int .i64 wn, .int .i64 c, .int .i64 n, .int .i64 m, .int .u8 l, .bool bb] 64) = W at *
 generalize w.heap.size = N at *
 have n1 : ¬ (wb = W.heap.size) := by omega
 have n2 : ¬ (N = W.heap.size) := by omega
 have n3 : ¬ (g = W.heap.size) := by omega
 go_cut [5] (fun v5 wc => v5 = .pointer (some ⟨W.heap.size, 0, none⟩) ∧ wc = (W.alloc (.cells #[.pointer (some ⟨p.1, 0, none⟩), .pointer (some ⟨p.2, 0, none⟩)] 69)).drew)
 case first =>
  go_region_held3 (fun w' => w'.cell? ⟨wb, 0, none⟩ = some (.slice (some ⟨g, 0, none⟩) ps.length cc) ∧ w'.cell? ⟨N, 1, none⟩ = some (.int .i64 wn) ∧ w'.cell? ⟨g, q * 2, none⟩ = some (.pointer (some ⟨p.1, 0, none⟩)) ∧ w'.cell? ⟨g, q * 2 + 1, none⟩ = some (.pointer (some ⟨p.2, 0, none⟩))) (go_keep) (first | (go_at_call 29; refine (unhide HPK _).mono ?_; rintro e w' ⟨rfl, hw'⟩; obtain rfl := hw'.symm))
  all_goals
   go_wp2
   go_meet
   case rel => exact ⟨rfl, rfl⟩
 case rest =>
  obtain ⟨rfl, rfl⟩ := hcut
  go_wp2_with fail
  refine (unhide (unhide HS _)).mono ?_
  rintro e w' ⟨rfl, hF⟩
  have HF := hide hF
  clear hF HS
  go_wp2
  go_ret
  exact ⟨rfl, unhide HF⟩
end Go.Proofs.Ytemkgikncmhoaaa

namespace Go.Proofs.Ytemkgikncmhoaaa
open Go.RowKit
attribute [local go_sem ↓] Go.wp_at_zero Go.wp_at_succ

theorem EditsPost.more {K : Nat} {own : Nat → Tag} {w : World} {rx ry xb yb : Nat} {X : IRoom} {e : Ending} {w' : World} (h : EditsPost K own w rx ry xb yb X e w') : EditsPost (K + 1) own w rx ry xb yb X e w' := by
 obtain ⟨rfl, own', X', R', hP, hl, hU⟩ := h
 exact ⟨rfl, own', X', R', hP.mono (Nat.le_succ _), hl, hU⟩
theorem step_any (K : Nat) (hK : K < 10000000000000) (own : Nat → Tag) (w : World) (wb : Nat) (ps : List (Nat × Nat)) (kd wn c n m l : Int) (bb : Bool) (h : WorldAt K own w wb ps) (hk : kd ≤ 9) (hwn : I64 wn) (hc : I64 c) (hl : 0 ≤ l ∧ l ≤ 255) (hb1 : ps.length + 1 ≤ maxLen) (hb2 : (ps.length + 1) * 16 ≤ 140737488355328) :
  Calls Try.prog 30 #[.pointer (some ⟨wb, 0, none⟩), .agg (OpV kd wn c n m l bb)] w (StepPost K own w wb ps) := by
 by_cases h1 : kd = 1
 ·subst h1
  exact step_new K own w wb ps wn c n m l bb h hb1 hb2
 by_cases h2 : ps = [] ∨ kd < 2 ∨ kd > 9
 ·exact step_none K own w wb ps kd wn c n m l bb h h1 h2
 have hps : 1 ≤ ps.length := by
  cases ps with
  | nil => exact absurd (.inl rfl) h2
  | cons _ _ => simp
 have hk2 : 2 ≤ kd := by
  have : ¬ kd < 2 := fun h => h2 (.inr (.inl h))
  omega
 clear h2
 obtain rfl | rfl | rfl | rfl | rfl | rfl | rfl | rfl : kd = 2 ∨ kd = 3 ∨ kd = 4 ∨ kd = 5 ∨ kd = 6 ∨ kd = 7 ∨ kd = 8 ∨ kd = 9 := by omega
 ·exact step_edits K own w wb ps 2 wn c n m l bb h (by omega) hwn hps (by omega) fun own w rx ry xb yb X R hP hne h0 _ => (edits_put K own w rx ry xb yb X R hP hne h0 wn c n m l bb hc hl).mono fun e w' he => he.more
 ·exact step_edits K own w wb ps 3 wn c n m l bb h (by omega) hwn hps (by omega) fun own w rx ry xb yb X R hP hne h0 _ => (edits_cut K own w rx ry xb yb X R hP hne h0 wn c n m l bb hc).mono fun e w' he => he.more
 ·exact step_edits K own w wb ps 4 wn c n m l bb h (by omega) hwn hps (by omega) fun own w rx ry xb yb X R hP hne h0 _ => (edits_read K own w rx ry xb yb X R hP hne h0 wn c n m l bb hc).mono fun e w' he => he.more
 ·exact step_edits K own w wb ps 5 wn c n m l bb h (by omega) hwn hps (by omega) fun own w rx ry xb yb X R hP hne h0 _ => (edits_waits K own w rx ry xb yb X R hP hne h0 wn c n m l bb hc).mono fun e w' he => he.more
 ·exact step_lines_6 K own w wb ps wn c n m l bb h hwn hps (by omega) fun own w rx ry xb yb X R hP hne h0 _ => (lines_flying K own w rx ry xb yb X R hP hne h0 wn c n m l bb hc).mono fun e w' he => he.more
 ·exact step_lines_7 K own w wb ps wn c n m l bb h hwn hps (by omega) fun own w rx ry xb yb X R hP hne h0 _ => (lines_peek K own w rx ry xb yb X R hP hne h0 wn c n m l bb hc).mono fun e w' he => he.more
 ·exact step_lines_8 K own w wb ps wn c n m l bb h hwn hps (by omega) fun own w rx ry xb yb X R hP hne h0 hy => lines_fate K own w rx ry xb yb X R hP hne h0 wn c n m l bb hc hK hy
 ·exact step_lines_9 K own w wb ps wn c n m l bb h hwn hps (by omega) fun own w rx ry xb yb X R hP hne h0 _ => (lines_tick K own w rx ry xb yb X R hP hne h0 wn c n m l bb hc).mono fun e w' he => he.more

/-- The steps of a script, where they lie. -/
def ScriptAt (w : World) (B : Nat) (a : Option Addr) (L : Nat) : Prop :=
 ∀ i, i < L → ∃ (b o : Nat) (kd wn c n m l : Int) (bb : Bool), a = some ⟨b, o, none⟩ ∧ b < B ∧ I64 wn ∧ I64 c ∧ 0 ≤ l ∧ l ≤ 255 ∧ ∀ k u, (OpV kd wn c n m l bb)[k]? = some u → w.cell? ⟨b, o + i * 7 + k, none⟩ = some u
theorem ScriptAt.below {w w' : World} {B : Nat} {a : Option Addr} {L : Nat} (h : ScriptAt w B a L) (hb : Below B w w') : ScriptAt w' B a L := by
 intro i hi
 obtain ⟨b, o, kd, wn, c, n, m, l, bb, h1, h2, h3, h4, h5, h6, h7⟩ := h i hi
 exact ⟨b, o, kd, wn, c, n, m, l, bb, h1, h2, h3, h4, h5, h6, fun k u hu => (hb.cell (p := ⟨b, o + i * 7 + k, none⟩) h2).trans (h7 k u hu)⟩

/-- What holds between the steps of 'plays'. -/
structure PlayI (w : World) (wb : Nat) (a : Option Addr) (L i : Nat) (own1 : Nat → Tag) (ps : List (Nat × Nat)) (wr : World) : Prop where
 world : WorldAt i own1 wr wb ps
 upd : Upd (fun _ => (0, 2, 0)) own1 mayW w wr
 one : 1 ≤ ps.length
 most : ps.length ≤ i + 1
 script : ScriptAt wr w.heap.size a L

theorem Upd.play {own1 : Nat → Tag} {w wr : World} (h : Upd (fun _ => (0, 2, 0)) own1 mayW w wr) : Below w.heap.size w wr :=
 h.below (Nat.le_refl _) (fun k _ => by simp [mayW])

theorem PlayI.step {w wr : World} {wb : Nat} {a : Option Addr} {L i : Nat} {own1 : Nat → Tag} {ps : List (Nat × Nat)} (h : PlayI w wb a L i own1 ps wr) (hi : i < L) (hL : L * 48 ≤ 140737488351232) (kd wn c n m l : Int) (bb : Bool) (hk : kd ≤ 9) (hwn : I64 wn) (hc : I64 c) (hl : 0 ≤ l ∧ l ≤ 255) :
  Calls Try.prog 30 #[.pointer (some ⟨wb, 0, none⟩), .agg (OpV kd wn c n m l bb)] wr fun e w' => e = .returned (.bool true) ∧ ∃ own2 ps2, PlayI w wb a L (i + 1) own2 ps2 w' := by
 have hm := h.most
 refine (step_any i (by omega) own1 wr wb ps kd wn c n m l bb h.world hk hwn hc hl (by simp [maxLen]; omega) (by omega)).mono ?_
 rintro e w' ⟨rfl, own2, ps2, hW, hU, h1, h2⟩
 have hU2 := h.upd.trans hU
 have ho := h.one
 refine ⟨rfl, own2, ps2, hW, hU2, by omega, by omega, ?_⟩
 have B1 := h.upd.play
 have B2 := hU2.play
 intro j hj
 obtain ⟨b, o, kd, wn, c, n, m, l, bb, g1, g2, g3, g4, g5, g6, g7⟩ := h.script j hj
 exact ⟨b, o, kd, wn, c, n, m, l, bb, g1, g2, g3, g4, g5, g6, fun k u hu => ((B2.cell (p := ⟨b, o + j * 7 + k, none⟩) g2).trans (B1.cell (p := ⟨b, o + j * 7 + k, none⟩) g2).symm).trans (g7 k u hu)⟩

/-- Looking at a room. -/
theorem WorldAt.seen {K : Nat} {own : Nat → Tag} {w : World} {wb : Nat} {ps : List (Nat × Nat)} (h : WorldAt K own w wb ps) (own0 : Nat → Tag) (w0 : World) (hU : Upd own0 own mayW w0 w) {i : Nat} {p : Nat × Nat} (hi : ps[i]? = some p) :
  Calls Try.prog 31 #[.agg #[.pointer (some ⟨p.1, 0, none⟩), .pointer (some ⟨p.2, 0, none⟩)]] w fun e w' => e = .returned (.bool true) ∧ ∃ own', WorldAt K own' w' wb ps ∧ Upd own0 own' mayW w0 w' := by
 obtain ⟨X, R, hP, hF⟩ := h.one (Nat.le_refl K) hi
 refine (seen_any K own w (2 * i + 1) (2 * i + 2) p.1 p.2 X R hP (by omega) (by omega) (by omega)).mono ?_
 intro e w' he
 obtain ⟨rfl, own', hW', hU'⟩ := hF _ _ he
 exact ⟨rfl, own', hW', hU.trans hU'⟩

theorem play_start (w : World) (a : Option Addr) (L q1 q2 : Nat) (h1 : q1 < 4) (h2 : q2 < 4) (hs : ScriptAt w w.heap.size a L) :
  Calls Try.prog 28 #[.pointer (some ⟨w.heap.size, 0, none⟩), .int .i64 (1 + (q1 : Int)), .int .i64 (1 + (q2 : Int))] (w.alloc (.cells #[.slice none 0 0] 61)) fun e w' => e = .returned (.bool true) ∧ ∃ own1 ps, PlayI w w.heap.size a L 0 own1 ps w' ∧ ps.length = 1 := by
 have hU : Upd (fun _ => (0, 2, 0)) (retag (fun _ => (0, 2, 0)) w.heap.size (0, 1, 0)) mayW w (w.alloc (.cells #[.slice none 0 0] 61)) := Upd.retag ((Upd.refl _ mayW w).alloc _) _ _ (Nat.le_refl _)
 have hW : WorldAt 0 (retag (fun _ => (0, 2, 0)) w.heap.size (0, 1, 0)) (w.alloc (.cells #[.slice none 0 0] 61)) w.heap.size [] :=
  ⟨.slice none 0 0, CellsT.new w _ _ _ _, OwnsT.nil _ _ _ _ _, fun i p hi => by simp at hi⟩
 have key := made_yes 0 _ _ w.heap.size [] (1 + q1) (1 + q2) hW (by omega) (by omega) (by omega) (by omega) (by simp [maxLen]) (by simp)
 rw [show ((1 + q1 : Nat) : Int) = 1 + (q1 : Int) by omega, show ((1 + q2 : Nat) : Int) = 1 + (q2 : Int) by omega] at key
 refine key.mono ?_
 rintro e w' ⟨rfl, own1, p, hW', hU'⟩
 have hU2 := hU.trans hU'
 exact ⟨rfl, own1, [] ++ [p], ⟨hW', hU2, by simp, by simp, hs.below hU2.play⟩, by simp⟩

set_option maxRecDepth 100000 in
set_option maxHeartbeats 1600000 in
theorem plays_any (w : World) (a : Option Addr) (L cap : Nat) (cl wi : Int) (hcl : I64 cl) (hwi : I64 wi) (hs : ScriptAt w w.heap.size a L) (hL : L * 48 ≤ 140737488351232) :
  Calls Try.prog 12 #[.slice a L cap, .int .i64 cl, .int .i64 wi, .int .i64 9] w fun e w' => e = .returned (.bool true) ∧ Below w.heap.size w w' := by
 obtain ⟨q1, hq1, hp1⟩ := pick_is cl 4 hcl (by omega) (by omega)
 obtain ⟨q2, hq2, hp2⟩ := pick_is wi 4 hwi (by omega) (by omega)
 have HP1 := hide hp1
 have HP2 := hide hp2
 have HM := hide (play_start w a L q1 q2 hq1 hq2 hs)
 clear hp1 hp2 hs
 go_enter Try.func12, Try.ntmps12
 go_wp2_with fail
 generalize hW0 : w.alloc (.cells #[.slice none 0 0] 61) = W0 at *
 clear hW0
 refine (unhide HP1 _).mono ?_
 rintro e w' ⟨rfl, hw'⟩
 obtain rfl := hw'.symm
 clear HP1
 go_wp2_with fail
 refine (unhide HP2 _).mono ?_
 rintro e w' ⟨rfl, hw'⟩
 obtain rfl := hw'.symm
 clear HP2
 go_wp2_with fail
 refine (unhide HM).mono ?_
 rintro e w1 ⟨rfl, own1, ps, hI1, hps⟩
 obtain ⟨aa, ac, e0⟩ := hI1.world.len
 rw [hps] at e0
 have HI1 := hide hI1
 clear hI1 HM
 generalize w.heap.size = wb at *
 go_wp2_with fail
 clear e0 hps
 go_loopw [11] (fun v11 wr => ∃ i : Nat, i ≤ L ∧ v11 = .int .i64 i ∧ ∃ own1 ps, PlayI w wb a L i own1 ps wr) (fun v11 _ => L - (intOf v11).toNat)
 case atStart => exact ⟨0, by omega, rfl, own1, ps, unhide HI1⟩
 case round =>
  obtain ⟨i, hi, rfl, own2, ps2, hI2⟩ := hrel
  clear HI1
  by_cases hlt : i < L
  ·have hlt' : (i : Int) < (L : Int) := by omega
   obtain ⟨b, o, kd, wn, c, n, m, l, bb, rfl, g2, g3, g4, g5, g6, g7⟩ := hI2.script i hlt
   have z0 := g7 0 (Value.int .i64 kd) rfl
   have z1 := g7 1 (Value.int .i64 wn) rfl
   have z2 := g7 2 (Value.int .i64 c) rfl
   have z3 := g7 3 (Value.int .i64 n) rfl
   have z4 := g7 4 (Value.int .i64 m) rfl
   have z5 := g7 5 (Value.int .u8 l) rfl
   have z6 := g7 6 (Value.bool bb) rfl
   rw [Nat.add_zero] at z0
   by_cases hk : kd ≤ 9
   ·have HST := hide (hI2.step hlt hL kd wn c n m l bb hk g3 g4 ⟨g5, g6⟩)
    unfold OpV at HST
    clear hI2 g7
    go_wp2_with fail
    refine (unhide HST).mono ?_
    rintro e w3 ⟨rfl, own3, ps3, hI3⟩
    have HI3 := hide hI3
    clear hI3 HST z0 z1 z2 z3 z4 z5 z6
    go_wp2
    go_roundw
    case rel => exact ⟨i + 1, by omega, by go_num, own3, ps3, unhide HI3⟩
    case measure => simp [intOf]; omega
   ·have hI3 : PlayI w wb (some ⟨b, o, none⟩) L (i + 1) own2 ps2 wr := ⟨hI2.world.mono (Nat.le_succ _), hI2.upd, hI2.one, by have := hI2.most; omega, hI2.script⟩
    have HI3 := hide hI3
    clear hI2 hI3 g7
    go_wp2
    go_roundw
    case rel => exact ⟨i + 1, by omega, by go_num, own2, ps2, unhide HI3⟩
    case measure => simp [intOf]; omega
  ·have hlt' : ¬ (i : Int) < (L : Int) := by omega
   have hm := hI2.most
   have h48 : ps2.length ≤ 4611686018427387904 := by omega
   have h1 := hI2.one
   have HI2 := hide (show WorldAt i own2 _ wb ps2 ∧ Upd (fun _ => (0, 2, 0)) own2 mayW w _ from ⟨hI2.world, hI2.upd⟩)
   clear hI2 hm
   go_wp2_with fail
   go_loopw [13] (fun v13 wr => ∃ j : Nat, j ≤ ps2.length ∧ v13 = .int .i64 j ∧ ∃ own3, WorldAt i own3 wr wb ps2 ∧ Upd (fun _ => (0, 2, 0)) own3 mayW w wr) (fun v13 _ => ps2.length - (intOf v13).toNat)
   case atStart => exact ⟨0, by omega, rfl, own2, unhide HI2⟩
   case round =>
    obtain ⟨j, hj, rfl, own3, hW3, hU3⟩ := hrel
    clear HI2
    obtain ⟨g, cc, a1, a2, a3, a4⟩ := hW3.gets h1
    by_cases hjl : j < ps2.length
    ·have hjl' : (j : Int) < (ps2.length : Int) := by omega
     obtain ⟨p, hp⟩ : ∃ p, ps2[j]? = some p := ⟨_, List.getElem?_eq_getElem hjl⟩
     obtain ⟨b1, b2⟩ := a4 j p hp
     have HSE := hide (hW3.seen _ w hU3 hp)
     clear hW3 hU3 a4 hp
     go_wp2_with fail
     refine (unhide HSE).mono ?_
     rintro e w4 ⟨rfl, hF⟩
     have HF := hide hF
     clear hF HSE a1 b1 b2
     go_wp2
     go_roundw
     case rel => exact ⟨j + 1, by omega, by go_num, unhide HF⟩
     case measure => simp [intOf]; omega
    ·have hjl' : ¬ (j : Int) < (ps2.length : Int) := by omega
     have HU3 := hide hU3.play
     clear hW3 hU3 a4
     go_wp2
     go_ret
     exact ⟨rfl, unhide HU3⟩

set_option maxRecDepth 100000 in
theorem all_any (w : World) (a : Option Addr) (L cap : Nat) (cl wi : Int) (hcl : I64 cl) (hwi : I64 wi) (hs : ScriptAt w w.heap.size a L) (hL : L * 48 ≤ 140737488351232) :
  Calls Try.prog 11 #[.slice a L cap, .int .i64 cl, .int .i64 wi] w fun e w' => e = .returned (.bool true) ∧ Below w.heap.size w w' := by
 have H := hide (plays_any w a L cap cl wi hcl hwi hs hL)
 clear hs hL
 go_enter Try.func11, Try.ntmps11
 go_wp2_with fail
 refine (unhide H).mono ?_
 rintro e w1 ⟨rfl, hb⟩
 have HB := hide hb
 clear hb H
 go_wp2
 go_ret
 exact ⟨rfl, unhide HB⟩
end Go.Proofs.Ytemkgikncmhoaaa

