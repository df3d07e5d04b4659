import Derived.Test.YtemkgikncmhoaaaM02
/-
  weave: write, message.datagram. Own work.
-/
namespace Go.Proofs.Ytemkgikncmhoaaa
open Go.RowKit

theorem heap_alloc_two (w : World) (o o' : Obj) : ((w.alloc o).alloc o').heap[w.heap.size + 1]? = some o' := by
  have h := heap_alloc_new (w.alloc o) o'
  rw [World.size_alloc] at h
  exact h

/-- A row of bytes, as a string of any string type. -/
theorem run_string_at (w : World) (T : TypeId) (hT : Try.prog.underlying T = some .string) (a : Addr) (n cap : Nat) (ns : List Int) (hl : ns.length = n) (h : ∀ j u, (ns.map (Value.int .u8))[j]? = some u → w.cell? (a.add j) = some u) :
    (convert 89 T (.slice (some a) n cap)).run Try.prog w = .ok (.string (strOf ns)) w := by
  rw [run_convert_bytes_string w _ _ 5 _ n cap Try.underlying89 Try.underlying5 hT]
  rw [run_bytesToString w a n cap ns ?_, foldl_push]
  · simp [strOf]
  · have := run_firstCells_some (P := Try.prog) w 1 n a n cap (ns.map (Value.int .u8)) (by simp [hl]) h
    simpa [Builtin.firstCells] using this

set_option maxRecDepth 100000 in
set_option maxHeartbeats 800000 in
theorem checkOf_any (xs : List Int) (n b c : Nat) (w : World) (hln : xs.length = n) (hx : Bytes xs) (hn : n ≤ 8) (hc : ∀ j, j < xs.length → w.cell? ⟨b, j, none⟩ = some (.int .u8 (xs.getD j 0))) :
    Calls Try.prog 99 #[.slice (some ⟨b, 0, none⟩) n c] w fun e w' => e = .returned (.agg #[.int .u8 (sumTo xs xs.length % 251), .int .u8 (wsumTo xs xs.length % 251)]) ∧ Below w.heap.size w w' := by
  subst hln
  have HC := hide hc
  clear hc
  obtain ⟨r1, HR1⟩ : ∃ r, Hid (r = sumTo xs xs.length) := ⟨_, rfl⟩
  obtain ⟨r2, HR2⟩ : ∃ r, Hid (r = wsumTo xs xs.length) := ⟨_, rfl⟩
  rw [← HR1.out, ← HR2.out]
  go_enter Try.func99, Try.ntmps99
  go_wp2
  go_loop [3, 4, 9] (fun s t i => ∃ k : Nat, k ≤ xs.length ∧ i = .int .i64 k ∧ s = .int .i64 (sumTo xs k) ∧ t = .int .i64 (wsumTo xs k)) (fun _ _ i => xs.length - (intOf i).toNat)
  case atStart => exact ⟨0, Nat.zero_le _, rfl, rfl, rfl⟩
  case round =>
    obtain ⟨k, hk, rfl, rfl, rfl⟩ := hrel
    by_cases hlt : k < xs.length
    · have hck := unhide HC k hlt
      have hs1 := sumTo_bd xs hx k
      have hw1 := wsumTo_bd xs hx _ hn k hk
      have hm1 := mul_bd xs hx k (by omega)
      have hx1 := hx k
      have HS : Hid (sumTo xs (k + 1) = sumTo xs k + xs.getD k 0) := rfl
      have HW : Hid (wsumTo xs (k + 1) = wsumTo xs k + ((k : Int) + 1) * xs.getD k 0) := rfl
      have hnl : xs.length < 9 := by omega
      have hck2 : ∀ o, (w.alloc o).cell? ⟨b, k, none⟩ = some (.int .u8 (xs.getD k 0)) := fun o => by rw [World.cell?_alloc_lt _ _ _ (World.block_lt_of_cell? w _ hck)]; exact hck
      generalize xs.getD k 0 = x at *
      generalize sumTo xs k = s at *
      generalize wsumTo xs k = t at *
      go_wp2
      go_round
      case rel => exact ⟨k + 1, by omega, by go_num, by rw [HS.out], by rw [HW.out]⟩
      case measure => simp [intOf]; omega
    · obtain rfl : k = xs.length := by omega
      have hs1 := sumTo_bd xs hx xs.length
      have hw1 := wsumTo_bd xs hx _ hn xs.length (Nat.le_refl _)
      generalize sumTo xs xs.length = s at *
      generalize wsumTo xs xs.length = t at *
      have hnl : xs.length < 9 := by omega
      go_wp2
      go_returns
      rw [HR1.out, HR2.out]
      exact ⟨rfl, (Below.refl _ _).alloc (Nat.le_refl _) _⟩

set_option maxRecDepth 100000 in
set_option maxHeartbeats 800000 in
theorem write_any (xs : List Int) (n b c : Nat) (w : World) (hln : xs.length = n) (hx : Bytes xs) (hn : n ≤ 8) (hb : w.heap[b]? = some (.cells (xs.map (Value.int .u8)).toArray 5 (0, 0))) :
    Calls Try.prog 83 #[.slice (some ⟨b, 0, none⟩) n c] w fun e w' => e = .returned (.string (ckd xs)) ∧ Below w.heap.size w w' := by
  subst hln
  have hbl : b < w.heap.size := (Array.getElem?_eq_some_iff.1 hb).1
  have hc : ∀ j, j < xs.length → w.cell? ⟨b, j, none⟩ = some (.int .u8 (xs.getD j 0)) := fun j hj => by simp [World.cell?, hb, hj]
  have HCK := hide fun w' hc' => checkOf_any xs xs.length b c w' rfl hx hn hc'
  have HC := hide hc
  have HF : Hid (ckd xs = ⟨(xs.map byteOf ++ [byteOf (sumTo xs xs.length % 251), byteOf (wsumTo xs xs.length % 251)]).toArray⟩) := rfl
  have hs1 := sumTo_bd xs hx xs.length
  have hw1 := wsumTo_bd xs hx _ hn xs.length (Nat.le_refl _)
  clear hc
  go_enter Try.func83, Try.ntmps83
  go_wp2_with (first | (go_at_call 99; refine (unhide HCK _ (unhide HC)).mono ?_; rintro e w1 ⟨rfl, hb1⟩))
  generalize sumTo xs xs.length % 251 = s at *
  generalize wsumTo xs xs.length % 251 = t at *
  have hcw : ∀ j u, (xs.map (Value.int .u8))[j]? = some u → (w1.alloc (Obj.cells #[Value.int IntKind.u8 s, Value.int IntKind.u8 t] 161)).drew.cell? (Addr.add ⟨b, 0, none⟩ j) = some u := by
    intro j u hu
    have h1 : w.cell? ⟨b, j, none⟩ = some u := by simp [World.cell?, hb]; simpa using hu
    have h2 : w1.cell? ⟨b, j, none⟩ = some u := (hb1.cell hbl).trans h1
    rw [Addr.add_lit, Nat.zero_add]
    exact (World.cell?_alloc_lt _ _ _ (World.block_lt_of_cell? w1 _ h2)).trans h2
  have hcv1 := run_string_at _ 131 Try.underlying131 ⟨b, 0, none⟩ xs.length c xs rfl hcw
  have hcv2 := run_string_at (w1.alloc (Obj.cells #[Value.int IntKind.u8 s, Value.int IntKind.u8 t] 161)).drew 131 Try.underlying131 ⟨w1.heap.size, 0, none⟩ 2 2 [s, t] rfl (by
    intro j u hu
    rw [Addr.add_lit, Nat.zero_add]
    exact (World.cell?_alloc_new _ _ _ _).trans (by simpa using hu))
  have HB := hide ((hb1.alloc hb1.size (Obj.cells #[Value.int IntKind.u8 s, Value.int IntKind.u8 t] 161)))
  clear hcw hb1 hb
  simp only [strOf] at hcv1 hcv2
  go_region
  all_goals
    go_wp2
    go_ret
    refine ⟨?_, (unhide HB).drew⟩
    rw [HF.out]
    refine congrArg (fun s => Ending.returned (Value.string s)) ?_
    apply ByteArray.ext
    apply Array.ext'
    simp
set_option maxRecDepth 100000 in
set_option maxHeartbeats 800000 in
theorem datagram_any (n ctx cl kd pl lt taken : Int) (w : World) (hx : Bytes [1, n, ctx, taken, cl, kd, pl, lt]) :
    Calls Try.prog 82 #[.agg #[.int .i64 n, .int .i64 ctx, .int .i64 cl, .int .i64 kd, .int .i64 pl, .int .u8 lt], .int .i64 taken] w fun e w' => e = .returned (.string (ckd [1, n, ctx, taken, cl, kd, pl, lt])) ∧ Below w.heap.size w w' := by
  have x1 := hx 1
  have x2 := hx 2
  have x3 := hx 3
  have x4 := hx 4
  have x5 := hx 5
  have x6 := hx 6
  have x7 := hx 7
  simp only [List.getD_cons_succ, List.getD_cons_zero] at x1 x2 x3 x4 x5 x6 x7
  go_enter Try.func82, Try.ntmps82
  go_wp2_with fail
  refine (write_any [1, n, ctx, taken, cl, kd, pl, lt] 8 _ _ _ rfl hx (by decide) ?_).mono ?_
  · exact heap_alloc_two _ _ _
  rintro e w3 ⟨rfl, hb3⟩
  go_wp2
  go_ret
  refine ⟨rfl, ((((Below.refl _ _).alloc (Nat.le_refl _) _).alloc (by simp) _).trans (hb3.mono (by simp; omega)))⟩

set_option maxRecDepth 100000 in
set_option maxHeartbeats 800000 in
theorem word_any (taken : Nat) (w : World) (ht : taken ≤ 255) :
    Calls Try.prog 70 #[.int .i64 taken] w fun e w' => e = .returned (.string (ckd [2, (taken : Int)])) ∧ Below w.heap.size w w' := by
  have hx : Bytes [2, (taken : Int)] := by
    intro q
    match q with
    | 0 | 1 => refine ⟨?_, ?_⟩ <;> simp <;> omega
    | q + 2 => simp
  have x1 : (0 : Int) ≤ (taken : Int) ∧ (taken : Int) ≤ 255 := ⟨by omega, by omega⟩
  go_enter Try.func70, Try.ntmps70
  go_wp2_with fail
  refine (write_any [2, (taken : Int)] 2 _ _ _ rfl hx (by decide) ?_).mono ?_
  · exact heap_alloc_new _ _
  rintro e w3 ⟨rfl, hb3⟩
  go_wp2
  go_ret
  refine ⟨rfl, (((Below.refl _ _).alloc (Nat.le_refl _) _).trans (hb3.mono (by simp)))⟩
end Go.Proofs.Ytemkgikncmhoaaa

