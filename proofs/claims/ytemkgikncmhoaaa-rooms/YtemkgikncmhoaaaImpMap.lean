/-
  weave: the map of ends, keyed by a struct. Own work.
-/
import Derived.Test.YtemkgikncmhoaaaRefDefs
import Derived.ProofKit
namespace Go.Proofs.Ytemkgikncmhoaaa
open Go.RowKit Go.WideMaps

theorem Try.laidOut : laidOutB Try.prog = true := by kernel_rfl
theorem Try.rowSide : 80 < Try.prog.types.size := of_decide_eq_true (by kernel_rfl)
theorem Try.keySide : Try.prog.keyTypeAt 2 80 = true := by kernel_rfl
theorem Try.keySide' : Try.prog.keyType 80 = true := by kernel_rfl
theorem Try.cellsSide : Try.prog.cellsOf 80 = 2 := by kernel_rfl
theorem Try.cellsInt : Try.prog.cellsOf 3 = 1 := by kernel_rfl
theorem Try.cellsBool : Try.prog.cellsOf 4 = 1 := by kernel_rfl
theorem Try.types1 : (0 : Nat) < Try.prog.types.size := of_decide_eq_true (by kernel_rfl)
theorem Try.lawSide : KeyLaw Try.prog 80 := deep_law_laid Try.laidOut (m := 2) (by omega) Try.rowSide Try.keySide (by rw [Try.underlying80])

def sideKey (c : Int) (s : Bool) : Value := .agg #[.int .i64 c, .bool s]
theorem sideKey_inj {c d : Int} {s t : Bool} (h : sideKey c s = sideKey d t) : c = d ∧ s = t := by
  simpa [sideKey] using h
def I64 (c : Int) : Prop := -9223372036854775808 ≤ c ∧ c ≤ 9223372036854775807

theorem keyOf_side (c : Int) (s : Bool) (hc : I64 c) : ∃ l, keyOf Try.prog 80 (sideKey c s) = some l := by
  obtain ⟨m, hm⟩ : ∃ m, Try.prog.types.size = m + 1 := ⟨Try.prog.types.size - 1, by have := Try.types1; omega⟩
  have hf : (sideKey c s).formed Try.prog 80 = true := by simp [sideKey, Value.formed, Try.underlying80, Try.cellsSide]
  unfold keyOf
  rw [Try.underlying80]
  simp only [Try.keySide', hf, Bool.and_self, if_true, hm]
  simp [sideKey, Value.cells, Program.keyLits, Try.underlying80, Try.underlying3, Try.underlying4, Try.cellsSide, Try.cellsInt, Try.cellsBool]
  have hw : (Lit.int IntKind.i64 c).wf = true := by
    unfold I64 at hc
    simp [Lit.wf, IntKind.min, IntKind.max, IntKind.signed, IntKind.bits]
    omega
  simp [hw]

/-- What the map holds. -/
def Ends (ents : List MapEntry) (es : List (Nat × Nat)) : Prop :=
  (∀ e ∈ ents, ∃ (i : Nat) (s : Bool) (p : Nat × Nat), es[i]? = some p ∧ e.key = sideKey i s ∧ e.val = ptr (if s then p.2 else p.1)) ∧
  ∀ (i : Nat) (p : Nat × Nat) (s : Bool), es[i]? = some p → ∃ e ∈ ents, e.key = sideKey i s


theorem Try.zeroEnd (w : World) : (zeroValue 78).run Try.prog w = .ok (.pointer none) w := by kernel_rfl

theorem Ends.keys {ents : List MapEntry} {es : List (Nat × Nat)} (h : Ends ents es) (hl : es.length ≤ 1000) : ∀ e ∈ ents, ∃ l, keyOf Try.prog 80 e.key = some l := by
  intro e he
  obtain ⟨i, s, p, hi, hk, _⟩ := h.1 e he
  rw [hk]
  have := (List.getElem?_eq_some_iff.1 hi).1
  exact keyOf_side _ _ ⟨by omega, by omega⟩

/-- There is such an end. -/
theorem lookup_yes {w : World} {mb : Nat} {ents : Array MapEntry} {clock : Nat} {es : List (Nat × Nat)} (hm : w.heap[mb]? = some (.map ents clock)) (h : Ends ents.toList es) (hl : es.length ≤ 1000) {i : Nat} {p : Nat × Nat} (hi : es[i]? = some p) (s : Bool) :
    (Instr.lookup 74 (.map (some mb)) (.agg #[.int .i64 i, .bool s]) false).run Try.prog w = .ok (ptr (if s then p.2 else p.1)) w := by
  have hil := (List.getElem?_eq_some_iff.1 hi).1
  obtain ⟨l, hk⟩ := keyOf_side i s ⟨by omega, by omega⟩
  have hk' : keyOf Try.prog 80 (.agg #[.int .i64 i, .bool s]) = some l := hk
  rcases Try.lawSide.find w hk' ents.toList (h.keys hl) with ⟨_, h2⟩ | ⟨j, e, h1, h2, h3⟩
  · obtain ⟨e, he, hek⟩ := h.2 i p s hi
    exact absurd hek (h2 e he)
  · have he : e ∈ ents.toList := List.mem_of_getElem? h2
    obtain ⟨i', s', p', hi', hk2, hv⟩ := h.1 e he
    have := sideKey_inj ((hk2.symm.trans h3 : sideKey i' s' = sideKey i s))
    obtain ⟨e1, rfl⟩ := this
    obtain rfl : i' = i := by omega
    obtain rfl : p' = p := by rw [hi] at hi'; simpa using hi'.symm
    simp [Instr.lookup, run_underlying Try.underlying74, MapKept.run_getObj_map hm, Try.lawSide.check w _ hk', h1, Result.andThen, hv]

/-- There is none. -/
theorem lookup_no {w : World} {mb : Nat} {ents : Array MapEntry} {clock : Nat} {es : List (Nat × Nat)} (hm : w.heap[mb]? = some (.map ents clock)) (h : Ends ents.toList es) (hl : es.length ≤ 1000) {c : Int} (hc : I64 c) (hn : ¬ (0 ≤ c ∧ c < es.length)) (s : Bool) :
    (Instr.lookup 74 (.map (some mb)) (.agg #[.int .i64 c, .bool s]) false).run Try.prog w = .ok (.pointer none) w := by
  obtain ⟨l, hk⟩ := keyOf_side c s hc
  have hk' : keyOf Try.prog 80 (.agg #[.int .i64 c, .bool s]) = some l := hk
  rcases Try.lawSide.find w hk' ents.toList (h.keys hl) with ⟨h1, _⟩ | ⟨j, e, h1, h2, h3⟩
  · simp [Instr.lookup, run_underlying Try.underlying74, MapKept.run_getObj_map hm, Try.lawSide.check w _ hk', h1, Result.andThen]
  · have he : e ∈ ents.toList := List.mem_of_getElem? h2
    obtain ⟨i', s', p', hi', hk2, hv⟩ := h.1 e he
    have := sideKey_inj ((hk2.symm.trans h3 : sideKey i' s' = sideKey c s))
    have hil := (List.getElem?_eq_some_iff.1 hi').1
    exact absurd ⟨by omega, by omega⟩ hn

/-- A new end: the map's block holds one entry more. -/
theorem update_new {w : World} {mb : Nat} {ents : Array MapEntry} {clock : Nat} (hm : w.heap[mb]? = some (.map ents clock)) (hk : ∀ e ∈ ents.toList, ∃ l, keyOf Try.prog 80 e.key = some l) {c : Int} (hc : I64 c) (s : Bool) (v : Value)
    (hn : ∀ e ∈ ents.toList, e.key ≠ sideKey c s) :
    (Instr.mapUpdate 74 (.map (some mb)) (.agg #[.int .i64 c, .bool s]) v).run Try.prog w = .ok () (ChangeMaps.setBlock w mb (.map (ents.push ⟨sideKey c s, v, clock⟩) (clock + 1))) := by
  obtain ⟨l, hk1⟩ := keyOf_side c s hc
  have hk' : keyOf Try.prog 80 (.agg #[.int .i64 c, .bool s]) = some l := hk1
  rcases Try.lawSide.find w hk' ents.toList hk with ⟨h1, _⟩ | ⟨j, e, h1, h2, h3⟩
  · simp [Instr.mapUpdate, run_underlying Try.underlying74, MapKept.run_getObj_map hm, Try.lawSide.check w _ hk', h1, Result.andThen, sideKey, MapKept.run_setObj_map _ hm]
    rfl
  · exact absurd h3 (hn e (List.mem_of_getElem? h2))

end Go.Proofs.Ytemkgikncmhoaaa
