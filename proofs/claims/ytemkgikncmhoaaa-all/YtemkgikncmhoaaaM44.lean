import Derived.Test.YtemkgikncmhoaaaM43
import Derived.Deep.RegionHeld3
namespace Go.Proofs.Ytemkgikncmhoaaa
open Go.RowKit
attribute [local go_sem ↓] Go.wp_at_zero Go.wp_at_succ

/-- What holds behind a step: at most one room more. -/
def StepPost (K : Nat) (own : Nat → Tag) (w : World) (wb : Nat) (ps : List (Nat × Nat)) (e : Ending) (w' : World) : Prop :=
 e = .returned (.bool true) ∧ ∃ own' ps', WorldAt (K + 1) own' w' wb ps' ∧ Upd own own' mayW w w' ∧ ps.length ≤ ps'.length ∧ ps'.length ≤ ps.length + 1

theorem WorldAt.mono {K K' : Nat} {own : Nat → Tag} {w : World} {wb : Nat} {ps : List (Nat × Nat)} (h : WorldAt K own w wb ps) (hk : K ≤ K') : WorldAt K' own w wb ps := by
 obtain ⟨av, hc, ho, hp⟩ := h
 exact ⟨av, hc, ho, fun i p hi => by obtain ⟨X, R, hP⟩ := hp i p hi; exact ⟨X, R, hP.mono hk⟩⟩
theorem made_any (K : Nat) (own : Nat → Tag) (w : World) (wb : Nat) (ps : List (Nat × Nat)) (c d : Int) (h : WorldAt K own w wb ps) (hb1 : ps.length + 1 ≤ maxLen) (hb2 : (ps.length + 1) * 16 ≤ 140737488355328) :
  Calls Try.prog 28 #[.pointer (some ⟨wb, 0, none⟩), .int .i64 c, .int .i64 d] w (StepPost K own w wb ps) := by
 by_cases hcd : 1 ≤ c ∧ c ≤ 4 ∧ 1 ≤ d ∧ d ≤ 4
 ·obtain ⟨n, rfl⟩ := Int.eq_ofNat_of_zero_le (show 0 ≤ c by omega)
  obtain ⟨q, rfl⟩ := Int.eq_ofNat_of_zero_le (show 0 ≤ d by omega)
  refine (made_yes K own w wb ps n q h (by omega) (by omega) (by omega) (by omega) hb1 hb2).mono ?_
  rintro e w' ⟨rfl, own', p, hW, hU⟩
  exact ⟨rfl, own', _, hW.mono (Nat.le_succ _), hU, by simp, by simp⟩
 ·refine (made_no K own w wb ps c d h hcd).mono ?_
  rintro e w' ⟨rfl, rfl⟩
  exact ⟨rfl, own, ps, h.mono (Nat.le_succ _), Upd.refl _ _ _, by omega, by omega⟩

/-- One of the rooms, turned. -/
theorem WorldAt.one {K K' : Nat} (hk : K ≤ K') {own : Nat → Tag} {w : World} {wb : Nat} {ps : List (Nat × Nat)} (h : WorldAt K own w wb ps) {i : Nat} {p : Nat × Nat} (hi : ps[i]? = some p) :
  ∃ X R, PairAt K own w (2 * i + 1) (2 * i + 2) p.1 p.2 X R ∧ ∀ e w', EditsPost K' own w (2 * i + 1) (2 * i + 2) p.1 p.2 X e w' → e = .returned (.bool true) ∧ ∃ own', WorldAt K' own' w' wb ps ∧ Upd own own' mayW w w' := by
 obtain ⟨av, hc, ho, hp⟩ := h
 obtain ⟨X, R, hP⟩ := hp i p hi
 refine ⟨X, R, hP, ?_⟩
 rintro e w' ⟨rfl, own', X', R', hP', _, hU⟩
 refine ⟨rfl, own', ⟨av, hc.upd hU (by simp [inPair]), ho.upd hU (by simp [inPair]), fun j q hj => ?_⟩, hU.mono (fun t ht => .inl (by rcases ht with h | h <;> omega))⟩
 by_cases hji : j = i
 ·subst hji
  obtain rfl : p = q := by rw [hi] at hj; simpa using hj
  exact ⟨X', R', hP'⟩
 ·obtain ⟨Y, S, hQ⟩ := hp j q hj
  exact ⟨Y, S, (hQ.mono hk).upd hU (by simp [inPair]; omega) (by simp [inPair]; omega)⟩

theorem flatMap_get (ps : List (Nat × Nat)) : ∀ (i : Nat) (p : Nat × Nat), ps[i]? = some p → (ps.flatMap pairCells)[i * 2]? = some (.pointer (some ⟨p.1, 0, none⟩)) ∧ (ps.flatMap pairCells)[i * 2 + 1]? = some (.pointer (some ⟨p.2, 0, none⟩)) := by
 induction ps with
 | nil => intro i p h; simp at h
 | cons q ps ih =>
  intro i p h
  cases i with
  | zero => simp at h; subst h; simp [pairCells]
  | succ i =>
   have := ih i p (by simpa using h)
   simp only [List.flatMap_cons, pairCells]
   rw [show (i + 1) * 2 = i * 2 + 1 + 1 by omega]
   simpa using this

theorem WorldAt.get {K : Nat} {own : Nat → Tag} {w : World} {wb : Nat} {ps : List (Nat × Nat)} (h : WorldAt K own w wb ps) {i : Nat} {p : Nat × Nat} (hi : ps[i]? = some p) :
  ∃ g c, w.cell? ⟨wb, 0, none⟩ = some (.slice (some ⟨g, 0, none⟩) ps.length c) ∧ w.cell? ⟨g, i * 2, none⟩ = some (.pointer (some ⟨p.1, 0, none⟩)) ∧ w.cell? ⟨g, i * 2 + 1, none⟩ = some (.pointer (some ⟨p.2, 0, none⟩)) ∧ g < w.heap.size ∧ wb < w.heap.size := by
 obtain ⟨av, hc, ho, hp⟩ := h
 have hil := (List.getElem?_eq_some_iff.1 hi).1
 rcases ho.1.2 with ⟨_, h0⟩ | ⟨g, c, cur, rfl, _, hg, _⟩
 ·omega
 obtain ⟨f1, f2⟩ := flatMap_get ps i p hi
 have e1 := ho.1.cells (g := g) rfl _ _ f1
 have e2 := ho.1.cells (g := g) rfl _ _ f2
 rw [Addr.add_lit, Nat.zero_add] at e1 e2
 exact ⟨g, c, by rw [hc.cell]; rfl, e1, e2, (Array.getElem?_eq_some_iff.1 hg).1, hc.lt⟩
theorem WorldAt.len {K : Nat} {own : Nat → Tag} {w : World} {wb : Nat} {ps : List (Nat × Nat)} (h : WorldAt K own w wb ps) : ∃ a c, w.cell? ⟨wb, 0, none⟩ = some (.slice a ps.length c) := by
 obtain ⟨av, hc, ho, hp⟩ := h
 obtain ⟨a, c, rfl, _, _⟩ := ho.shape
 exact ⟨a, c, by rw [hc.cell]; rfl⟩
theorem WorldAt.upd {K : Nat} {own own' : Nat → Tag} {w w' : World} {wb : Nat} {ps : List (Nat × Nat)} (h : WorldAt K own w wb ps) (hu : Upd own own' (fun _ => False) w w') : WorldAt K own' w' wb ps := by
 obtain ⟨av, hc, ho, hp⟩ := h
 exact ⟨av, hc.upd hu (fun h => h), ho.upd hu (fun h => h), fun i p hi => by obtain ⟨X, R, hP⟩ := hp i p hi; exact ⟨X, R, hP.upd hu (fun _ _ h => h) (fun _ _ h => h)⟩⟩

set_option maxRecDepth 100000 in
set_option maxHeartbeats 800000 in
theorem step_new (K : Nat) (own : Nat → Tag) (w : World) (wb : Nat) (ps : List (Nat × Nat)) (wn c n m l : Int) (bb : Bool) (h : WorldAt K own w wb ps) (hb1 : ps.length + 1 ≤ maxLen) (hb2 : (ps.length + 1) * 16 ≤ 140737488355328) :
  Calls Try.prog 30 #[.pointer (some ⟨wb, 0, none⟩), .agg (OpV 1 wn c n m l bb)] w (StepPost K own w wb ps) := by
 have V : Upd own (retag own w.heap.size (0, 0, 0)) (fun _ => False) w (w.alloc (.cells (OpV 1 wn c n m l bb) 64)) := Upd.retag ((Upd.refl own (fun _ => False) w).alloc _) _ _ (Nat.le_refl _)
 have HM : Hid (Calls Try.prog 28 #[.pointer (some ⟨wb, 0, none⟩), .int .i64 c, .int .i64 n] (w.alloc (.cells (OpV 1 wn c n m l bb) 64)) (StepPost K own w wb ps)) :=
  hide ((made_any K _ _ wb ps c n (h.upd V) hb1 hb2).mono (by rintro e w' ⟨rfl, own', ps', a1, a2, a3, a4⟩; exact ⟨rfl, own', ps', a1, (V.mono (fun _ h => h.elim)).trans a2, a3, a4⟩))
 clear V h
 unfold OpV at *
 go_enter Try.func30, Try.ntmps30
 go_wp2_with fail
 refine (unhide HM).mono ?_
 rintro e w' ⟨rfl, hF⟩
 have HF := hide hF
 clear hF HM
 go_wp2
 go_ret
 exact ⟨rfl, unhide HF⟩

set_option maxRecDepth 100000 in
set_option maxHeartbeats 800000 in
theorem step_none (K : Nat) (own : Nat → Tag) (w : World) (wb : Nat) (ps : List (Nat × Nat)) (kd wn c n m l : Int) (bb : Bool) (h : WorldAt K own w wb ps) (h1 : kd ≠ 1) (hk : ps = [] ∨ kd < 2 ∨ kd > 9) :
  Calls Try.prog 30 #[.pointer (some ⟨wb, 0, none⟩), .agg (OpV kd wn c n m l bb)] w (StepPost K own w wb ps) := by
 have V : Upd own (retag own w.heap.size (0, 0, 0)) (fun _ => False) w (w.alloc (.cells (OpV kd wn c n m l bb) 64)) := Upd.retag ((Upd.refl own (fun _ => False) w).alloc _) _ _ (Nat.le_refl _)
 have hF := h.upd V
 obtain ⟨a, cc, e0⟩ := h.len
 have wbl : wb < w.heap.size := World.block_lt_of_cell? _ _ e0
 have HF : Hid (StepPost K own w wb ps (.returned (.bool true)) (w.alloc (.cells (OpV kd wn c n m l bb) 64))) := hide ⟨rfl, _, ps, hF.mono (Nat.le_succ _), V.mono (fun _ h => h.elim), by omega, by omega⟩
 have nb : ¬ (wb = w.heap.size) := by omega
 have hq1 : (kd == 1) = false := by simpa using h1
 clear V hF h
 unfold OpV at *
 by_cases hps : ps.length = 0
 ·rw [hps] at e0
  clear hk
  go_enter Try.func30, Try.ntmps30
  go_wp2
  go_ret
  exact unhide HF
 ·have hl0 : ((ps.length : Int) == 0) = false := by rw [beq_eq_false_iff_ne]; omega
  have hk' : kd < 2 ∨ kd > 9 := by
   rcases hk with rfl | hk
   ·simp at hps
   ·exact hk
  clear hk
  by_cases hk2 : kd < 2
  ·clear hk'
   go_enter Try.func30, Try.ntmps30
   go_wp2
   go_ret
   exact unhide HF
  ·have hk3 : 9 < kd := by omega
   clear hk'
   go_enter Try.func30, Try.ntmps30
   go_wp2
   go_ret
   exact unhide HF
end Go.Proofs.Ytemkgikncmhoaaa

