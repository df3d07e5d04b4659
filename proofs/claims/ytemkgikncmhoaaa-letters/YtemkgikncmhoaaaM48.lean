import Derived.Test.YtemkgikncmhoaaaM43
import Derived.Test.YtemkgikncmhoaaaM46
import Derived.Test.YtemkgikncmhoaaaRows
import Derived.ProofKit
import Derived.SizedLaws
import Derived.Deep.Slices
/-
  weavekeep: scripts that come in. Own work.
-/
namespace Go.Proofs.Ytemkgikncmhoaaa
open Go.ChangeShapes Go.WideShapes Go.ChangeAt Go.RowKit

theorem Try.own : ownKnob Try.prog.godebug = none := by kernel_rfl
theorem Try.cells3 : Try.prog.cellsOf 3 = 1 := by kernel_rfl
theorem Try.cells4 : Try.prog.cellsOf 4 = 1 := by kernel_rfl
theorem Try.cells31 : Try.prog.cellsOf 31 = 4 := by kernel_rfl
theorem Try.bytes31 : Try.prog.bytesOf 31 = 32 := by kernel_rfl
theorem i64_of_wf {n : Int} (h : (Lit.int .i64 n).wf = true) : I64 n := by
  have h1 : IntKind.i64.min = -9223372036854775808 := rfl
  have h2 : IntKind.i64.max = 9223372036854775807 := rfl
  simp only [Lit.wf, Bool.and_eq_true, decide_eq_true_eq] at h
  unfold I64
  omega

set_option maxRecDepth 100000 in
/-- A step, opened. -/
theorem open_step {H : Type} {enc : TypeId × Value → H} {w : World} {base : Nat} {spare : Nat → Bool} {held : Bool} {fuel : Nat} {cs : List Value} {x : DataW H × List MemPlace}
    (h : DataW.trod enc Try.prog w base spare held fuel 31 cs = some x) :
    ∃ (kd c n m : Int), cs = (StepV kd c n m).toList ∧ I64 kd ∧ I64 c ∧ I64 n ∧ I64 m := by
  obtain ⟨xs, f, _, rfl, hl, hlen, hf⟩ := DataW.trod_struct Try.underlying31 h
  rw [Try.cells31] at hl
  match cs, hl, xs, hlen with
  | [c0, c1, c2, c3], _, [x0, x1, x2, x3], _ =>
    have e0 := hf 0 _ rfl
    have e1 := hf 1 _ rfl
    have e2 := hf 2 _ rfl
    have e3 := hf 3 _ rfl
    simp only [List.getElem?_cons_zero, List.getElem?_cons_succ] at e0 e1 e2 e3
    obtain ⟨n0, h0, _, w0⟩ := DataW.trod_int Try.underlying3 e0
    obtain ⟨n1, h1, _, w1⟩ := DataW.trod_int Try.underlying3 e1
    obtain ⟨n2, h2, _, w2⟩ := DataW.trod_int Try.underlying3 e2
    obtain ⟨n3, h3, _, w3⟩ := DataW.trod_int Try.underlying3 e3
    cases h0
    cases h1
    cases h2
    cases h3
    exact ⟨n0, n1, n2, n3, rfl, i64_of_wf w0, i64_of_wf w1, i64_of_wf w2, i64_of_wf w3⟩

/-- The script, opened. -/
theorem open_steps {H : Type} {enc : TypeId × Value → H} {w : World} {spare : Nat → Bool} {held : Bool} {fuel : Nat} {cs : List Value} {x : DataW H × List MemPlace}
    (h : DataW.trod enc Try.prog w 0 spare held fuel 25 cs = some x) :
    ∃ (a : Option Addr) (L cap : Nat), cs = [.slice a L cap] ∧ StepsAt w w.heap.size a L ∧ (L = 0 ∨ ∃ es sp, x.1 = .slice es sp ∧ es.length = L) := by
  rcases Go.Deep.open_slice Try.underlying25 h with ⟨rfl, rfl⟩ | ⟨a, len, cap, m, n, D, Pl, rfl, hb, hl, hm, hmm, rfl, hx⟩
  · exact ⟨none, 0, 0, rfl, fun i hi => absurd hi (by omega), .inl rfl⟩
  refine ⟨some a, len, cap, rfl, ?_, .inr ⟨_, _, rfl, by simp⟩⟩
  have hlm : len ≤ m := by rw [hmm]; split <;> omega
  rw [Try.cells31] at hx
  intro i hi
  have spot : a.spot = none := by
    obtain ⟨cs0, h1, h2⟩ := hx 0 (by omega)
    obtain ⟨kd, c, n, m, rfl, _⟩ := open_step h2
    have := (World.cells?_some h1).2.2 0 (by omega)
    simp only [Nat.zero_mul, Addr.add, if_pos, StepV] at this
    unfold World.cell? at this
    split at this
    · split at this
      · simp at this
      · rename_i h9
        simpa using h9
    · simp at this
  obtain ⟨b, o, sp⟩ := a
  simp only at spot
  subst spot
  obtain ⟨cs0, h1, h2⟩ := hx i (by omega)
  obtain ⟨kd, c, n, m, rfl, g1, g2, g3, g4⟩ := open_step h2
  have hc := (World.cells?_some h1).2.2
  have hcell : ∀ k u, (StepV kd c n m)[k]? = some u → w.cell? ⟨b, o + i * 4 + k, none⟩ = some u := by
    intro k u hu
    have hk : k < 4 := (Array.getElem?_eq_some_iff.1 hu).1
    have := hc k hk
    rw [Addr.add_lit, Addr.add_lit] at this
    rw [this, ← hu, Array.getElem?_toList]
  exact ⟨b, o, kd, c, n, m, rfl, World.block_lt_of_cell? _ _ (hcell 0 _ rfl), g1, g2, g3, g4, hcell⟩
end Go.Proofs.Ytemkgikncmhoaaa

/-
  THE ROW: weavekeep.Letters: whatever the script, true; the arguments read as they did. Own work.
-/
namespace Go.Proofs.Ytemkgikncmhoaaa
open Go.ChangeShapes Go.WideShapes Go.ChangeAt Go.RowKit

set_option maxRecDepth 100000 in
theorem letters_lifted (os : Os) (started : os.Started) (H : Type) (enc : TypeId × Value → H) :
    ReturnsInHanded {} Try.checked os 6 .any (Rows.lettersSpec.pre6 enc Try.prog Try.f6 Rows.lettersRow.domain false) (Rows.lettersSpec.post enc Try.prog Try.f6 false true false false) := by
  refine returnsInHanded_of_change_sized (C := Try.checked) Try.own started (by kernel_rfl) Try.func6
    (ChangeSpec.witness6 (enc := enc) (C := Try.checked) false ⟨#[], #[.int .i64 0, .int .i64 0, .slice none 0 0], []⟩ 8 (by kernel_rfl) (by kernel_rfl) (by kernel_rfl) (by kernel_rfl)) ?_
  intro W base args ds gs before hval0 hW _ hsz0 _
  have hsz : (DataW.weightsEach Try.prog (Try.f6.params.toList ++ Rows.lettersSpec.plain.varTypes Try.prog) (ds ++ gs)).all (· ≤ reachBytes) = true := hsz0
  clear hsz0
  have hval : ∀ (j : Nat) t v, Try.f6.params[j]? = some t → args[j]? = some v → Value.okWide Try.prog W .any base t v := hval0
  have hW' := hW
  obtain ⟨p, q, hA0, hV, rfl, _, _⟩ := hW
  have hA : DataW.TrodAll enc Try.prog W 0 (fun _ => true) true Try.f6.params.toList args.toList ds p := hA0
  rw [Try.params6] at hA hval hsz
  obtain ⟨v0, v1, v2, d0, d1, d2, p0, p1, p2, rfl, rfl, rfl, h0, h1, h2⟩ := trodAll_three hA
  obtain ⟨rfl, rfl⟩ := trodVars_none hV
  obtain ⟨cl, rfl, rfl, rfl, wcl⟩ := open_int Try.underlying3 (hval 0 3 v0 rfl rfl) h0
  obtain ⟨wi, rfl, rfl, rfl, wwi⟩ := open_int Try.underlying3 (hval 1 3 v1 rfl rfl) h1
  have h2k := h2
  obtain ⟨fuel, hf⟩ := h2
  obtain ⟨a, L, cap, hcs, hS, hx⟩ := open_steps hf
  obtain ⟨a0, len0, cap0, rfl⟩ := okWide_slice Try.underlying25 (hval 2 25 v2 rfl rfl)
  simp only [Value.cells] at hcs
  clear hA0 hval0
  simp only [List.append_nil] at hW'
  simp only [List.cons.injEq, Value.slice.injEq, and_true] at hcs
  obtain ⟨rfl, rfl, rfl⟩ := hcs
  have hL : len0 * 32 ≤ 140737488351232 := by
    rcases hx with rfl | ⟨es, sp, hd, hes⟩
    · omega
    · simp only at hd
      subst hd
      have := sized_slice hsz (j := 2) (t := 25) (e := 31) rfl rfl Try.underlying25
      rw [Try.bytes31, hes] at this
      simp only [reachBytes] at this
      have h3 : len0 * 32 ≤ (len0 + sp.length) * 32 := Nat.mul_le_mul_right _ (by omega)
      omega
  have hlt : ∀ x ∈ p2, x.block < W.heap.size := fun x hx => by simpa using hW'.lt x (by simp [hx])
  have hargs : ∀ (W' : World), Below W.heap.size W W' → DataW.Trod enc Try.prog W' 0 (fun b => decide (b < W.heap.size)) true 25 (.slice a0 len0 cap0) d2 p2 :=
    fun W' hn => Below.trod Try.laidOut (by kernel_rfl) (of_decide_eq_true (by kernel_rfl)) h2k hn hlt
  refine (letters_any W cl wi a0 len0 cap0 (i64_of_wf wcl) (i64_of_wf wwi) hS (by omega)).mono fun e W' ⟨he, hnx⟩ => ?_
  subst he
  refine ⟨_, rfl, _, _, _, [], [] ++ ([] ++ p2), [], hW', ?_, ?_, rfl, hnx.frame _, fun h => by cases h⟩
  · exact trodAll_mk1 (shut_bool Try.underlying4 true)
  · exact trodAll_mk3 (shut_int Try.underlying3 wcl) (shut_int Try.underlying3 wwi) (hargs W' hnx)

theorem letters_holds : Rows.LettersSaid :=
  OpenClaim.holds_of_wide 6 Try.f6 rfl rfl rfl rfl rfl rfl rfl ⟨rfl, rfl, rfl, rfl, rfl⟩ rfl rfl rfl rfl rfl (by kernel_rfl) Try.func6 (by kernel_rfl)
    (of_decide_eq_true (by kernel_rfl)) (by unfold Func.isWrapper; first | (rw [if_pos (by decide +kernel)]; kernel_rfl) | (rw [if_neg (by decide +kernel)]; exact ⟨rfl, rfl⟩))
    (fun os started H enc _ => letters_lifted os started H enc)
end Go.Proofs.Ytemkgikncmhoaaa

