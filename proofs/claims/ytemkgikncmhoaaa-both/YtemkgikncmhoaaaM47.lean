import Derived.Test.YtemkgikncmhoaaaM44
import Derived.Test.YtemkgikncmhoaaaM46
import Derived.Carry
/-
  THE ROW: weavekeep.Both: whatever the numbers, true; the arguments read as they did. Own work.
-/
namespace Go.Proofs.Ytemkgikncmhoaaa
open Go.ChangeShapes Go.WideShapes Go.ChangeAt Go.RowKit

theorem Try.bytes3 : Try.prog.bytesOf 3 = 8 := by kernel_rfl
/-- The numbers, opened. -/
theorem open_nums {H : Type} {enc : TypeId × Value → H} {w : World} {spare : Nat → Bool} {held : Bool} {fuel : Nat} {cs : List Value} {x : DataW H × List MemPlace}
    (h : DataW.trod enc Try.prog w 0 spare held fuel 53 cs = some x) :
    ∃ (a : Option Addr) (L cap : Nat), cs = [.slice a L cap] ∧ IntsAt w w.heap.size a L ∧ (L = 0 ∨ ∃ es sp, x.1 = .slice es sp ∧ es.length = L) := by
  rcases Go.Deep.open_slice Try.underlying53 h with ⟨rfl, rfl⟩ | ⟨a, len, cap, m, n, D, Pl, rfl, hb, hl, hm, hmm, rfl, hx⟩
  · exact ⟨none, 0, 0, rfl, fun i hi => absurd hi (by omega), .inl rfl⟩
  refine ⟨some a, len, cap, rfl, ?_, .inr ⟨_, _, rfl, by simp⟩⟩
  have hlm : len ≤ m := by rw [hmm]; split <;> omega
  rw [Try.cells3] at hx
  intro i hi
  have spot : a.spot = none := by
    obtain ⟨cs0, h1, h2⟩ := hx 0 (by omega)
    obtain ⟨n0, rfl, _, _⟩ := DataW.trod_int Try.underlying3 h2
    have := (World.cells?_some h1).2.2 0 (by omega)
    simp only [Nat.zero_mul, Addr.add, if_pos] at this
    unfold World.cell? at this
    split at this
    · split at this
      · simp at this
      · rename_i h9
        simpa using h9
    · simp at this
  obtain ⟨b, o, sp⟩ := a
  simp only at spot
  subst spot
  obtain ⟨cs0, h1, h2⟩ := hx i (by omega)
  obtain ⟨n0, rfl, _, w0⟩ := DataW.trod_int Try.underlying3 h2
  have hc := (World.cells?_some h1).2.2 0 (by omega)
  rw [Addr.add_lit, Addr.add_lit] at hc
  have hcell : w.cell? ⟨b, o + i, none⟩ = some (.int .i64 n0) := by simpa using hc
  exact ⟨b, o, n0, rfl, World.block_lt_of_cell? _ _ hcell, i64_of_wf w0, hcell⟩

set_option maxRecDepth 100000 in
theorem both_lifted (os : Os) (started : os.Started) (H : Type) (enc : TypeId × Value → H) :
    ReturnsInHanded {} Try.checked os 8 .any (Rows.bothSpec.pre6 enc Try.prog Try.f8 Rows.bothRow.domain false) (Rows.bothSpec.post enc Try.prog Try.f8 false true false false) := by
  refine returnsInHanded_of_change_sized (C := Try.checked) Try.own started (by kernel_rfl) Try.func8
    (ChangeSpec.witness6 (enc := enc) (C := Try.checked) false ⟨#[], #[.slice none 0 0, .int .i64 0, .int .i64 0, .bool false], []⟩ 8 (by kernel_rfl) (by kernel_rfl) (by kernel_rfl) (by kernel_rfl)) ?_
  intro W base args ds gs before hval0 hW _ hsz0 _
  have hsz : (DataW.weightsEach Try.prog (Try.f8.params.toList ++ Rows.bothSpec.plain.varTypes Try.prog) (ds ++ gs)).all (· ≤ reachBytes) = true := hsz0
  clear hsz0
  have hval : ∀ (j : Nat) t v, Try.f8.params[j]? = some t → args[j]? = some v → Value.okWide Try.prog W .any base t v := hval0
  have hW' := hW
  obtain ⟨p, q, hA0, hV, rfl, _, _⟩ := hW
  have hA : DataW.TrodAll enc Try.prog W 0 (fun _ => true) true Try.f8.params.toList args.toList ds p := hA0
  rw [Try.params8] at hA hval hsz
  obtain ⟨v0, v1, v2, v3, d0, d1, d2, d3, p0, p1, p2, p3, rfl, rfl, rfl, h0, h1, h2, h3⟩ := trodAll_four hA
  obtain ⟨rfl, rfl⟩ := trodVars_none hV
  obtain ⟨av, rfl, rfl, rfl, wav⟩ := open_int Try.underlying3 (hval 1 3 v1 rfl rfl) h1
  obtain ⟨bv, rfl, rfl, rfl, wbv⟩ := open_int Try.underlying3 (hval 2 3 v2 rfl rfl) h2
  obtain ⟨fb, rfl, rfl, rfl⟩ := open_bool Try.underlying4 (hval 3 4 v3 rfl rfl) h3
  have h0k := h0
  obtain ⟨fuel, hf⟩ := h0
  obtain ⟨a, L, cap, hcs, hS, hx⟩ := open_nums hf
  obtain ⟨a0, len0, cap0, rfl⟩ := okWide_slice Try.underlying53 (hval 0 53 v0 rfl rfl)
  simp only [Value.cells] at hcs
  clear hA0 hval0
  simp only [List.append_nil] at hW'
  simp only [List.cons.injEq, Value.slice.injEq, and_true] at hcs
  obtain ⟨rfl, rfl, rfl⟩ := hcs
  have hL : len0 * 8 ≤ 140737488351232 := by
    rcases hx with rfl | ⟨es, sp, hd, hes⟩
    · omega
    · simp only at hd
      subst hd
      have := sized_slice hsz (j := 0) (t := 53) (e := 3) rfl rfl Try.underlying53
      rw [Try.bytes3, hes] at this
      simp only [reachBytes] at this
      have h3 : len0 * 8 ≤ (len0 + sp.length) * 8 := Nat.mul_le_mul_right _ (by omega)
      omega
  have hlt : ∀ x ∈ p0, x.block < W.heap.size := fun x hx => by simpa using hW'.lt x (by simp [hx])
  have hargs : ∀ (W' : World), Below W.heap.size W W' → DataW.Trod enc Try.prog W' 0 (fun b => decide (b < W.heap.size)) true 53 (.slice a0 len0 cap0) d0 p0 :=
    fun W' hn => Below.trod Try.laidOut (by kernel_rfl) (of_decide_eq_true (by kernel_rfl)) h0k hn hlt
  refine (both_any W av bv fb a0 len0 cap0 (i64_of_wf wav) (i64_of_wf wbv) hS (by omega)).mono fun e W' ⟨he, hnx⟩ => ?_
  subst he
  refine ⟨_, rfl, _, _, _, [], p0 ++ ([] ++ ([] ++ [])), [], hW', ?_, ?_, rfl, hnx.frame _, fun h => by cases h⟩
  · exact trodAll_mk1 (shut_bool Try.underlying4 true)
  · exact trodAll_mk4 (hargs W' hnx) (shut_int Try.underlying3 wav) (shut_int Try.underlying3 wbv) (shut_bool Try.underlying4 fb)

theorem both_holds : Rows.BothSaid :=
  OpenClaim.holds_of_wide 8 Try.f8 rfl rfl rfl rfl rfl rfl rfl ⟨rfl, rfl, rfl, rfl, rfl⟩ rfl rfl rfl rfl rfl (by kernel_rfl) Try.func8 (by kernel_rfl)
    (of_decide_eq_true (by kernel_rfl)) (by unfold Func.isWrapper; first | (rw [if_pos (by decide +kernel)]; kernel_rfl) | (rw [if_neg (by decide +kernel)]; exact ⟨rfl, rfl⟩))
    (fun os started H enc _ => both_lifted os started H enc)
end Go.Proofs.Ytemkgikncmhoaaa

