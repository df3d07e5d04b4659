/-
  weaveref.checked. Own work.
-/
import Derived.Test.YtemkgikncmhoaaaBase
namespace Go.Proofs.Ytemkgikncmhoaaa
open Go.RowKit

theorem take_snoc' (xs : List Int) (k : Nat) (h : k < xs.length) : xs.take (k + 1) = xs.take k ++ [xs.getD k 0] := by
  rw [List.take_succ_eq_append_getElem h]; simp [h]

set_option maxRecDepth 100000 in
set_option maxHeartbeats 400000 in
theorem checked_any (xs : List Int) (b c : Nat) (w : World) (hx : Bytes xs) (hn : xs.length ≤ 8) (hb : b < w.heap.size) (hc : ∀ j, j < xs.length → w.cell? ⟨b, j, none⟩ = some (.int .i64 (xs.getD j 0))) :
    Calls Try.prog 103 #[.slice (some ⟨b, 0, none⟩) xs.length c] w fun e w' => e = .returned (.string (ckd xs)) ∧ Below w.heap.size w w' := by
  obtain ⟨i, hi, hz0, hz1, hz2⟩ := info_parts Try.info5
  go_enter Try.func103, Try.ntmps103
  go_wp2
  go_loopw [3, 4, 5, 6] (fun s t v i wr => ∃ k : Nat, k ≤ xs.length ∧ i = .int .i64 k ∧ s = .int .i64 (sumTo xs k) ∧ t = .int .i64 (wsumTo xs k) ∧ Below w.heap.size w wr ∧ wr.ownsRow w.heap.size 5 1 v k ((xs.take k).map (Value.int .u8))) (fun _ _ _ i _ => xs.length - (intOf i).toNat)
  case atStart => exact ⟨0, Nat.zero_le _, rfl, rfl, rfl, Below.refl _ _, by simpa using World.ownsRow_nil _ _ _ _⟩
  case round =>
    obtain ⟨k, hk, rfl, rfl, rfl, hbel, hown⟩ := hrel
    by_cases hlt : k < xs.length
    · have hck := hc k hlt
      have hcr := (hbel.cell (p := ⟨b, k, none⟩) hb).trans hck
      clear hck hc
      have hs1 := sumTo_bd xs hx k
      have hw1 := wsumTo_bd xs hx _ hn k hk
      have hm1 := mul_bd xs hx k (by omega)
      have hx1 := hx k
      have HT : Hid (xs.take (k + 1) = xs.take k ++ [xs.getD k 0]) := take_snoc' xs k hlt
      have HS : Hid (sumTo xs (k + 1) = sumTo xs k + xs.getD k 0) := rfl
      have HW : Hid (wsumTo xs (k + 1) = wsumTo xs k + ((k : Int) + 1) * xs.getD k 0) := rfl
      have hnl : xs.length < 9 := by omega
      generalize xs.getD k 0 = x at *
      generalize sumTo xs k = s at *
      generalize wsumTo xs k = t at *
      have hnews : ∀ j u, [Value.int .u8 x][j]? = some u → (wr.alloc (Obj.cells #[Value.int .u8 x] 5)).cell? (Addr.add ⟨wr.heap.size, 0, none⟩ j) = some u := by
        intro j u hu
        rw [Addr.add_lit]; simpa [World.cell?_alloc_new] using hu
      go_wp2_with (at_builtin; go_must (refine wpList_append_own _ rfl (.tmp 28) (.tmp 34) 89 rfl w.heap.size 5 i (.int .u8 0) 1 1 Try.underlying89 hi hz0 hz1 hz2 rfl (by decide) _ k _ rfl (hown.alloc _) _ 1 1 _ rfl (by simp) hnews (by intro u hu; simp at hu; subst hu; rfl) (by simp [maxLen]; omega) (by omega) (by have := hbel.size; simp; omega) ?_))
      intro v' w' hown' hgr _
      go_wp2
      go_roundw
      case rel =>
        refine ⟨k + 1, by omega, by go_num, by rw [HS.out], by rw [HW.out], ?_, ?_⟩
        · exact (hbel.alloc hbel.size _).grown hgr (by have := hbel.size; simp; omega) (fun g hg => (hown.lt g hg).1)
        · rw [HT.out]; simpa using hown'
      case measure => simp [intOf]; omega
    · obtain rfl : k = xs.length := by omega
      have hs1 := sumTo_bd xs hx xs.length
      have hw1 := wsumTo_bd xs hx _ hn xs.length (Nat.le_refl _)
      have HF : Hid (ckd xs = ⟨(xs.map byteOf ++ [byteOf (sumTo xs xs.length % 251), byteOf (wsumTo xs xs.length % 251)]).toArray⟩) := rfl
      generalize sumTo xs xs.length = s at *
      generalize wsumTo xs xs.length = t at *
      rw [List.take_length] at hown
      have hnl : xs.length < 9 := by omega
      have hnews : ∀ j u, [Value.int .u8 (s % 251), Value.int .u8 (t % 251)][j]? = some u → (wr.alloc (Obj.cells #[Value.int .u8 (s % 251), Value.int .u8 (t % 251)] 5)).cell? (Addr.add ⟨wr.heap.size, 0, none⟩ j) = some u := by
        intro j u hu
        rw [Addr.add_lit]; simpa [World.cell?_alloc_new] using hu
      go_wp2_with (at_builtin; go_must (refine wpList_append_own _ rfl (.tmp 36) (.tmp 43) 89 rfl w.heap.size 5 i (.int .u8 0) 1 1 Try.underlying89 hi hz0 hz1 hz2 rfl (by decide) _ xs.length _ rfl (hown.alloc _) _ 2 2 _ rfl (by simp) hnews (by intro u hu; simp at hu; rcases hu with rfl | rfl <;> rfl) (by simp [maxLen]; omega) (by omega) (by have := hbel.size; simp; omega) ?_))
      intro v' w' hown' hgr _
      have hbel' : Below w.heap.size w w' := (hbel.alloc hbel.size _).grown hgr (by have := hbel.size; simp; omega) (fun g hg => (hown.lt g hg).1)
      clear hnews hgr hown hbel
      have hcv := run_string_own w' w.heap.size v' (xs.length + 2) (xs ++ [s % 251, t % 251]) (by simpa using hown')
      go_wp2
      go_ret
      refine ⟨?_, hbel'⟩
      rw [HF.out]; simp [strOf]

/-- .. of a list literal: its block is known whole. -/
theorem checked_lit (xs : List Int) (n b c : Nat) (w : World) (hl : xs.length = n) (hx : Bytes xs) (hn : n ≤ 8) (hb : w.heap[b]? = some (.cells (xs.map (Value.int .i64)).toArray 3 (0, 0))) :
    Calls Try.prog 103 #[.slice (some ⟨b, 0, none⟩) n c] w fun e w' => e = .returned (.string (ckd xs)) ∧ Below w.heap.size w w' := by
  subst hl
  refine checked_any xs b c w hx hn (Array.getElem?_eq_some_iff.1 hb).1 (fun j hj => ?_)
  simp [World.cell?, hb, hj]

end Go.Proofs.Ytemkgikncmhoaaa
