import Derived.Test.YtemkgikncmhoaaaM45
import Derived.Test.YtemkgikncmhoaaaRows
import Derived.ProofKit
import Derived.SizedLaws
import Derived.Deep.Slices
namespace Go.Proofs.Ytemkgikncmhoaaa
open Go.ChangeShapes Go.WideShapes Go.ChangeAt Go.RowKit

theorem Try.own : ownKnob Try.prog.godebug = none := by kernel_rfl
theorem Try.cells64 : Try.prog.cellsOf 64 = 7 := by kernel_rfl
theorem Try.bytes64 : Try.prog.bytesOf 64 = 48 := by kernel_rfl

theorem i64_of_wf {n : Int} (h : (Lit.int .i64 n).wf = true) : I64 n := by
 have h1 : IntKind.i64.min = -9223372036854775808 := rfl
 have h2 : IntKind.i64.max = 9223372036854775807 := rfl
 simp only [Lit.wf, Bool.and_eq_true, decide_eq_true_eq] at h
 unfold I64
 omega
theorem u8_of_wf {n : Int} (h : (Lit.int .u8 n).wf = true) : 0 ≤ n ∧ n ≤ 255 := by
 have h1 : IntKind.u8.min = 0 := rfl
 have h2 : IntKind.u8.max = 255 := rfl
 simp only [Lit.wf, Bool.and_eq_true, decide_eq_true_eq] at h
 omega

set_option maxRecDepth 100000 in
/-- A step, opened. -/
theorem open_op {H : Type} {enc : TypeId × Value → H} {w : World} {base : Nat} {spare : Nat → Bool} {held : Bool} {fuel : Nat} {cs : List Value} {x : DataW H × List MemPlace}
  (h : DataW.trod enc Try.prog w base spare held fuel 64 cs = some x) :
  ∃ (kd wn c n m l : Int) (bb : Bool), cs = (OpV kd wn c n m l bb).toList ∧ I64 wn ∧ I64 c ∧ 0 ≤ l ∧ l ≤ 255 := by
 obtain ⟨xs, f, _, rfl, hl, hlen, hf⟩ := DataW.trod_struct Try.underlying64 h
 rw [Try.cells64] at hl
 match cs, hl, xs, hlen with
 | [c0, c1, c2, c3, c4, c5, c6], _, [x0, x1, x2, x3, x4, x5, x6], _ =>
  have e0 := hf 0 _ rfl
  have e1 := hf 1 _ rfl
  have e2 := hf 2 _ rfl
  have e3 := hf 3 _ rfl
  have e4 := hf 4 _ rfl
  have e5 := hf 5 _ rfl
  have e6 := hf 6 _ rfl
  simp only [List.getElem?_cons_zero, List.getElem?_cons_succ] at e0 e1 e2 e3 e4 e5 e6
  obtain ⟨n0, h0, _, _⟩ := DataW.trod_int Try.underlying3 e0
  obtain ⟨n1, h1, _, w1⟩ := DataW.trod_int Try.underlying3 e1
  obtain ⟨n2, h2, _, w2⟩ := DataW.trod_int Try.underlying3 e2
  obtain ⟨n3, h3, _, _⟩ := DataW.trod_int Try.underlying3 e3
  obtain ⟨n4, h4, _, _⟩ := DataW.trod_int Try.underlying3 e4
  obtain ⟨n5, h5, _, w5⟩ := DataW.trod_int Try.underlying5 e5
  obtain ⟨b6, h6, _⟩ := DataW.trod_bool Try.underlying4 e6
  cases h0
  cases h1
  cases h2
  cases h3
  cases h4
  cases h5
  cases h6
  exact ⟨n0, n1, n2, n3, n4, n5, b6, rfl, i64_of_wf w1, i64_of_wf w2, (u8_of_wf w5).1, (u8_of_wf w5).2⟩

/-- The script, opened. -/
theorem open_script {H : Type} {enc : TypeId × Value → H} {w : World} {spare : Nat → Bool} {held : Bool} {fuel : Nat} {cs : List Value} {x : DataW H × List MemPlace}
  (h : DataW.trod enc Try.prog w 0 spare held fuel 22 cs = some x) :
  ∃ (a : Option Addr) (L cap : Nat), cs = [.slice a L cap] ∧ ScriptAt w w.heap.size a L ∧ (L = 0 ∨ ∃ es sp, x.1 = .slice es sp ∧ es.length = L) := by
 rcases Go.Deep.open_slice Try.underlying22 h with ⟨rfl, rfl⟩ | ⟨a, len, cap, m, n, D, Pl, rfl, hb, hl, hm, hmm, rfl, hx⟩
 ·exact ⟨none, 0, 0, rfl, fun i hi => absurd hi (by omega), .inl rfl⟩
 refine ⟨some a, len, cap, rfl, ?_, .inr ⟨_, _, rfl, by simp⟩⟩
 have hlm : len ≤ m := by rw [hmm]; split <;> omega
 rw [Try.cells64] at hx
 intro i hi
 have spot : a.spot = none := by
  obtain ⟨cs0, h1, h2⟩ := hx 0 (by omega)
  obtain ⟨kd, wn, c, n, m, l, bb, rfl, _⟩ := open_op h2
  have := (World.cells?_some h1).2.2 0 (by omega)
  simp only [Nat.zero_mul, Addr.add, if_pos, OpV] at this
  unfold World.cell? at this
  split at this
  ·split at this
   ·simp at this
   ·rename_i h9
    simpa using h9
  ·simp at this
 obtain ⟨b, o, sp⟩ := a
 simp only at spot
 subst spot
 obtain ⟨cs0, h1, h2⟩ := hx i (by omega)
 obtain ⟨kd, wn, c, n, m, l, bb, rfl, g1, g2, g3, g4⟩ := open_op h2
 have hc := (World.cells?_some h1).2.2
 have hcell : ∀ k u, (OpV kd wn c n m l bb)[k]? = some u → w.cell? ⟨b, o + i * 7 + k, none⟩ = some u := by
  intro k u hu
  have hk : k < 7 := (Array.getElem?_eq_some_iff.1 hu).1
  have := hc k hk
  rw [Addr.add_lit, Addr.add_lit] at this
  rw [this, ← hu, Array.getElem?_toList]
 exact ⟨b, o, kd, wn, c, n, m, l, bb, rfl, World.block_lt_of_cell? _ _ (hcell 0 _ rfl), g1, g2, g3, g4, hcell⟩

set_option maxRecDepth 100000 in
theorem all_lifted (os : Os) (started : os.Started) (H : Type) (enc : TypeId × Value → H) :
  ReturnsInHanded {} Try.checked os 11 .any (Rows.allSpec.pre6 enc Try.prog Try.f11 Rows.allRow.domain false) (Rows.allSpec.post enc Try.prog Try.f11 false true false false) := by
 refine returnsInHanded_of_change_sized (C := Try.checked) Try.own started (by kernel_rfl) Try.func11
  (ChangeSpec.witness6 (enc := enc) (C := Try.checked) false ⟨#[], #[.slice none 0 0, .int .i64 0, .int .i64 0], []⟩ 8 (by kernel_rfl) (by kernel_rfl) (by kernel_rfl) (by kernel_rfl)) ?_
 intro W base args ds gs before hval0 hW _ hsz0 _
 have hsz : (DataW.weightsEach Try.prog (Try.f11.params.toList ++ Rows.allSpec.plain.varTypes Try.prog) (ds ++ gs)).all (· ≤ reachBytes) = true := hsz0
 clear hsz0
 have hval : ∀ (j : Nat) t v, Try.f11.params[j]? = some t → args[j]? = some v → Value.okWide Try.prog W .any base t v := hval0
 have hW' := hW
 obtain ⟨p, q, hA0, hV, rfl, _, _⟩ := hW
 have hA : DataW.TrodAll enc Try.prog W 0 (fun _ => true) true Try.f11.params.toList args.toList ds p := hA0
 rw [Try.params11] at hA hval hsz
 obtain ⟨v0, v1, v2, d0, d1, d2, p0, p1, p2, rfl, rfl, rfl, h0, h1, h2⟩ := trodAll_three hA
 obtain ⟨rfl, rfl⟩ := trodVars_none hV
 obtain ⟨cl, rfl, rfl, rfl, wcl⟩ := open_int Try.underlying3 (hval 1 3 v1 rfl rfl) h1
 obtain ⟨wi, rfl, rfl, rfl, wwi⟩ := open_int Try.underlying3 (hval 2 3 v2 rfl rfl) h2
 have h0k := h0
 obtain ⟨fuel, hf⟩ := h0
 obtain ⟨a, L, cap, hcs, hS, hx⟩ := open_script hf
 obtain ⟨a0, len0, cap0, rfl⟩ := okWide_slice Try.underlying22 (hval 0 22 v0 rfl rfl)
 simp only [Value.cells] at hcs
 clear hA0 hval0
 simp only [List.append_nil] at hW'
 simp only [List.cons.injEq, Value.slice.injEq, and_true] at hcs
 obtain ⟨rfl, rfl, rfl⟩ := hcs
 have hL : len0 * 48 ≤ 140737488351232 := by
  rcases hx with rfl | ⟨es, sp, hd, hes⟩
  ·omega
  ·simp only at hd
   subst hd
   have := sized_slice hsz (j := 0) (t := 22) (e := 64) rfl rfl Try.underlying22
   rw [Try.bytes64, hes] at this
   simp only [reachBytes] at this
   have h3 : len0 * 48 ≤ (len0 + sp.length) * 48 := Nat.mul_le_mul_right _ (by omega)
   omega
 have hlt : ∀ x ∈ p0, x.block < W.heap.size := fun x hx => by simpa using hW'.lt x hx
 have hargs : ∀ (W' : World), Below W.heap.size W W' → DataW.Trod enc Try.prog W' 0 (fun b => decide (b < W.heap.size)) true 22 (.slice a0 len0 cap0) d0 p0 :=
  fun W' hn => Below.trod Try.laidOut (by kernel_rfl) (of_decide_eq_true (by kernel_rfl)) h0k hn hlt
 refine (all_any W a0 len0 cap0 cl wi (i64_of_wf wcl) (i64_of_wf wwi) hS hL).mono fun e W' ⟨he, hnx⟩ => ?_
 subst he
 refine ⟨_, rfl, _, _, _, [], p0 ++ ([] ++ []), [], hW', ?_, ?_, rfl, hnx.frame _, fun h => by cases h⟩
 ·exact trodAll_mk1 (shut_bool Try.underlying4 true)
 ·exact trodAll_mk3 (hargs W' hnx) (shut_int Try.underlying3 wcl) (shut_int Try.underlying3 wwi)

theorem all_holds : Rows.AllSaid :=
 OpenClaim.holds_of_wide 11 Try.f11 rfl rfl rfl rfl rfl rfl rfl ⟨rfl, rfl, rfl, rfl, rfl⟩ rfl rfl rfl rfl rfl (by kernel_rfl) Try.func11 (by kernel_rfl)
  (of_decide_eq_true (by kernel_rfl)) (by unfold Func.isWrapper; first | (rw [if_pos (by decide +kernel)]; kernel_rfl) | (rw [if_neg (by decide +kernel)]; exact ⟨rfl, rfl⟩))
  (fun os started H enc _ => all_lifted os started H enc)
end Go.Proofs.Ytemkgikncmhoaaa

