import Derived.Test.YtemkgikncmhoaaaM42
import Derived.Test.YtemkgikncmhoaaaRows
import Derived.ProofKit
import Derived.SizedLaws
import Derived.Deep.Slices
/-
  weavekeep: scripts that come in. Own work.
-/
namespace Go.Proofs.Ytemkgikncmhoaaa
open Go.ChangeShapes Go.WideShapes Go.ChangeAt Go.RowKit

theorem Try.own : ownKnob Try.prog.godebug = none := by kernel_rfl
theorem Try.cells3 : Try.prog.cellsOf 3 = 1 := by kernel_rfl
theorem Try.cells4 : Try.prog.cellsOf 4 = 1 := by kernel_rfl
theorem Try.cells31 : Try.prog.cellsOf 31 = 4 := by kernel_rfl
theorem Try.bytes31 : Try.prog.bytesOf 31 = 32 := by kernel_rfl
theorem i64_of_wf {n : Int} (h : (Lit.int .i64 n).wf = true) : I64 n := by
  have h1 : IntKind.i64.min = -9223372036854775808 := rfl
  have h2 : IntKind.i64.max = 9223372036854775807 := rfl
  simp only [Lit.wf, Bool.and_eq_true, decide_eq_true_eq] at h
  unfold I64
  omega

set_option maxRecDepth 100000 in
/-- A step, opened. -/
theorem open_step {H : Type} {enc : TypeId × Value → H} {w : World} {base : Nat} {spare : Nat → Bool} {held : Bool} {fuel : Nat} {cs : List Value} {x : DataW H × List MemPlace}
    (h : DataW.trod enc Try.prog w base spare held fuel 31 cs = some x) :
    ∃ (kd c n m : Int), cs = (StepV kd c n m).toList ∧ I64 kd ∧ I64 c ∧ I64 n ∧ I64 m := by
  obtain ⟨xs, f, _, rfl, hl, hlen, hf⟩ := DataW.trod_struct Try.underlying31 h
  rw [Try.cells31] at hl
  match cs, hl, xs, hlen with
  | [c0, c1, c2, c3], _, [x0, x1, x2, x3], _ =>
    have e0 := hf 0 _ rfl
    have e1 := hf 1 _ rfl
    have e2 := hf 2 _ rfl
    have e3 := hf 3 _ rfl
    simp only [List.getElem?_cons_zero, List.getElem?_cons_succ] at e0 e1 e2 e3
    obtain ⟨n0, h0, _, w0⟩ := DataW.trod_int Try.underlying3 e0
    obtain ⟨n1, h1, _, w1⟩ := DataW.trod_int Try.underlying3 e1
    obtain ⟨n2, h2, _, w2⟩ := DataW.trod_int Try.underlying3 e2
    obtain ⟨n3, h3, _, w3⟩ := DataW.trod_int Try.underlying3 e3
    cases h0
    cases h1
    cases h2
    cases h3
    exact ⟨n0, n1, n2, n3, rfl, i64_of_wf w0, i64_of_wf w1, i64_of_wf w2, i64_of_wf w3⟩

/-- The script, opened. -/
theorem open_steps {H : Type} {enc : TypeId × Value → H} {w : World} {spare : Nat → Bool} {held : Bool} {fuel : Nat} {cs : List Value} {x : DataW H × List MemPlace}
    (h : DataW.trod enc Try.prog w 0 spare held fuel 25 cs = some x) :
    ∃ (a : Option Addr) (L cap : Nat), cs = [.slice a L cap] ∧ StepsAt w w.heap.size a L ∧ (L = 0 ∨ ∃ es sp, x.1 = .slice es sp ∧ es.length = L) := by
  rcases Go.Deep.open_slice Try.underlying25 h with ⟨rfl, rfl⟩ | ⟨a, len, cap, m, n, D, Pl, rfl, hb, hl, hm, hmm, rfl, hx⟩
  · exact ⟨none, 0, 0, rfl, fun i hi => absurd hi (by omega), .inl rfl⟩
  refine ⟨some a, len, cap, rfl, ?_, .inr ⟨_, _, rfl, by simp⟩⟩
  have hlm : len ≤ m := by rw [hmm]; split <;> omega
  rw [Try.cells31] at hx
  intro i hi
  have spot : a.spot = none := by
    obtain ⟨cs0, h1, h2⟩ := hx 0 (by omega)
    obtain ⟨kd, c, n, m, rfl, _⟩ := open_step h2
    have := (World.cells?_some h1).2.2 0 (by omega)
    simp only [Nat.zero_mul, Addr.add, if_pos, StepV] at this
    unfold World.cell? at this
    split at this
    · split at this
      · simp at this
      · rename_i h9
        simpa using h9
    · simp at this
  obtain ⟨b, o, sp⟩ := a
  simp only at spot
  subst spot
  obtain ⟨cs0, h1, h2⟩ := hx i (by omega)
  obtain ⟨kd, c, n, m, rfl, g1, g2, g3, g4⟩ := open_step h2
  have hc := (World.cells?_some h1).2.2
  have hcell : ∀ k u, (StepV kd c n m)[k]? = some u → w.cell? ⟨b, o + i * 4 + k, none⟩ = some u := by
    intro k u hu
    have hk : k < 4 := (Array.getElem?_eq_some_iff.1 hu).1
    have := hc k hk
    rw [Addr.add_lit, Addr.add_lit] at this
    rw [this, ← hu, Array.getElem?_toList]
  exact ⟨b, o, kd, c, n, m, rfl, World.block_lt_of_cell? _ _ (hcell 0 _ rfl), g1, g2, g3, g4, hcell⟩
end Go.Proofs.Ytemkgikncmhoaaa

