/-
  weave: write, message.datagram. Own work.
-/
import Derived.Test.YtibokhifcaodfaaRefDefs
namespace Go.Proofs.Ytibokhifcaodfaa
open Go.RowKit

theorem heap_alloc_two (w : World) (o o' : Obj) : ((w.alloc o).alloc o').heap[w.heap.size + 1]? = some o' := by
  have h := heap_alloc_new (w.alloc o) o'
  rw [World.size_alloc] at h
  exact h

set_option maxRecDepth 100000 in
set_option maxHeartbeats 800000 in
theorem write_any (xs : List Int) (n b c : Nat) (w : World) (hln : xs.length = n) (hx : Bytes xs) (hn : n ≤ 8) (hb : w.heap[b]? = some (.cells (xs.map (Value.int .u8)).toArray 5 (0, 0))) :
    Calls Try.prog 61 #[.slice (some ⟨b, 0, none⟩) n c] w fun e w' => e = .returned (.string (ckd xs)) ∧ Below w.heap.size w w' := by
  subst hln
  obtain ⟨i, hi, hz0, hz1, hz2⟩ := info_parts Try.info5
  have hbl : b < w.heap.size := (Array.getElem?_eq_some_iff.1 hb).1
  have hc : ∀ j, j < xs.length → w.cell? ⟨b, j, none⟩ = some (.int .u8 (xs.getD j 0)) := fun j hj => by simp [World.cell?, hb, hj]
  have HC := hide hc
  clear hc
  go_enter Try.func61, Try.ntmps61
  go_wp2
  go_loop [3, 4, 10] (fun s t i => ∃ k : Nat, k ≤ xs.length ∧ i = .int .i64 k ∧ s = .int .i64 (sumTo xs k) ∧ t = .int .i64 (wsumTo xs k)) (fun _ _ i => xs.length - (intOf i).toNat)
  case atStart => exact ⟨0, Nat.zero_le _, rfl, rfl, rfl⟩
  case round =>
    obtain ⟨k, hk, rfl, rfl, rfl⟩ := hrel
    by_cases hlt : k < xs.length
    · have hck := unhide HC k hlt
      have hs1 := sumTo_bd xs hx k
      have hw1 := wsumTo_bd xs hx _ hn k hk
      have hm1 := mul_bd xs hx k (by omega)
      have hx1 := hx k
      have HS : Hid (sumTo xs (k + 1) = sumTo xs k + xs.getD k 0) := rfl
      have HW : Hid (wsumTo xs (k + 1) = wsumTo xs k + ((k : Int) + 1) * xs.getD k 0) := rfl
      have hnl : xs.length < 9 := by omega
      generalize xs.getD k 0 = x at *
      generalize sumTo xs k = s at *
      generalize wsumTo xs k = t at *
      go_wp2
      go_round
      case rel => exact ⟨k + 1, by omega, by go_num, by rw [HS.out], by rw [HW.out]⟩
      case measure => simp [intOf]; omega
    · obtain rfl : k = xs.length := by omega
      have hs1 := sumTo_bd xs hx xs.length
      have hw1 := wsumTo_bd xs hx _ hn xs.length (Nat.le_refl _)
      have HF : Hid (ckd xs = ⟨(xs.map byteOf ++ [byteOf (sumTo xs xs.length % 251), byteOf (wsumTo xs xs.length % 251)]).toArray⟩) := rfl
      generalize sumTo xs xs.length = s at *
      generalize wsumTo xs xs.length = t at *
      have hnl : xs.length < 9 := by omega
      have h0 : (w.alloc (Obj.cells #[] 5)).ownsRow w.heap.size 5 1 (.slice (some ⟨w.heap.size, 0, none⟩) 0 0) 0 [] := World.ownsRow_made w #[] 0 (Nat.le_refl _) (by simp [maxLen]) rfl
      have hnews : ∀ j u, (xs.map (Value.int .u8))[j]? = some u → (w.alloc (Obj.cells #[] 5)).cell? (Addr.add ⟨b, 0, none⟩ j) = some u := by
        intro j u hu
        rw [Addr.add_lit, World.cell?_alloc_lt _ _ _ hbl, Nat.zero_add]
        simp [World.cell?, hb]
        simpa using hu
      go_wp2_with (at_builtin; go_must (refine wpList_append_own _ rfl (.tmp 27) (.tmp 28) 53 rfl w.heap.size 5 i (.int .u8 0) 1 1 Try.underlying53 hi hz0 hz1 hz2 rfl (by decide) _ 0 _ rfl h0 _ xs.length _ _ rfl (by simp) hnews (by intro u hu; simp at hu; obtain ⟨_, _, rfl⟩ := hu; rfl) (by simp [maxLen]; omega) (by omega) (by simp) ?_))
      intro v1 w1 ho1 hg1 _
      have hB1 : Below w.heap.size w w1 := ((Below.refl _ _).alloc (Nat.le_refl _) _).grown hg1 (by simp) (fun g hg => (h0.lt g hg).1)
      have hnews2 : ∀ j u, [Value.int .u8 (s % 251), Value.int .u8 (t % 251)][j]? = some u → (w1.alloc (Obj.cells #[Value.int .u8 (s % 251), Value.int .u8 (t % 251)] 5)).cell? (Addr.add ⟨w1.heap.size, 0, none⟩ j) = some u := by
        intro j u hu
        rw [Addr.add_lit]; simpa [World.cell?_alloc_new] using hu
      clear hnews hg1 h0
      go_wp2_with (at_builtin; go_must (refine wpList_append_own _ rfl (.tmp 30) (.tmp 37) 53 rfl w.heap.size 5 i (.int .u8 0) 1 1 Try.underlying53 hi hz0 hz1 hz2 rfl (by decide) _ xs.length _ rfl (ho1.alloc _) _ 2 2 _ rfl (by simp) hnews2 (by intro u hu; simp at hu; rcases hu with rfl | rfl <;> rfl) (by simp [maxLen]; omega) (by omega) (by have := hB1.size; simp; omega) ?_))
      intro v2 w2 ho2 hg2 _
      have hB2 : Below w.heap.size w w2 := (hB1.alloc hB1.size _).grown hg2 (by have := hB1.size; simp; omega) (fun g hg => (ho1.lt g hg).1)
      clear hnews2 hg2
      have hcv := run_string_own w2 w.heap.size v2 (xs.length + 2) (xs ++ [s % 251, t % 251]) (by simpa using ho2)
      go_wp2
      go_ret
      refine ⟨?_, hB2⟩
      rw [HF.out]; simp [strOf]

set_option maxRecDepth 100000 in
set_option maxHeartbeats 800000 in
theorem datagram_any (n ctx cl kd pl lt taken : Int) (w : World) (hx : Bytes [1, n, ctx, taken, cl, kd, pl, lt]) :
    Calls Try.prog 59 #[.agg #[.int .i64 n, .int .i64 ctx, .int .i64 cl, .int .i64 kd, .int .i64 pl, .int .u8 lt], .int .i64 taken] w fun e w' => e = .returned (.string (ckd [1, n, ctx, taken, cl, kd, pl, lt])) ∧ Below w.heap.size w w' := by
  have x1 := hx 1
  have x2 := hx 2
  have x3 := hx 3
  have x4 := hx 4
  have x5 := hx 5
  have x6 := hx 6
  have x7 := hx 7
  simp only [List.getD_cons_succ, List.getD_cons_zero] at x1 x2 x3 x4 x5 x6 x7
  go_enter Try.func59, Try.ntmps59
  go_wp2_with fail
  refine (write_any [1, n, ctx, taken, cl, kd, pl, lt] 8 _ _ _ rfl hx (by decide) ?_).mono ?_
  · exact heap_alloc_two _ _ _
  rintro e w3 ⟨rfl, hb3⟩
  go_wp2
  go_ret
  refine ⟨rfl, ((((Below.refl _ _).alloc (Nat.le_refl _) _).alloc (by simp) _).trans (hb3.mono (by simp; omega)))⟩
end Go.Proofs.Ytibokhifcaodfaa
