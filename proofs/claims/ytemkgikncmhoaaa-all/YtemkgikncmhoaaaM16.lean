import Derived.Test.YtemkgikncmhoaaaM09
import Derived.Test.YtemkgikncmhoaaaM12
import Derived.Test.YtemkgikncmhoaaaM15
import Derived.Deep.RegionHeld3
namespace Go.Proofs.Ytemkgikncmhoaaa
open Go.RowKit
attribute [local go_sem] eqKinds eqOp

/-- Two boxes, in a world and behind. -/
theorem boxes4 {W : World} {N : Nat} {a0 a1 a2 a3 b0 b1 b2 b3 : Value} {t u : TypeId} (hA : W.heap[N]? = some (.cells #[a0, a1, a2, a3] t (0, 0))) (hB : W.heap[N + 1]? = some (.cells #[b0, b1, b2, b3] u (0, 0))) {W' : World} (hb : ∀ k, k < N + 2 → W'.heap[k]? = W.heap[k]?) :
  W'.cell? ⟨N, 0, none⟩ = some a0 ∧ W'.cell? ⟨N, 1, none⟩ = some a1 ∧ W'.cell? ⟨N, 2, none⟩ = some a2 ∧ W'.cell? ⟨N, 3, none⟩ = some a3 ∧ W'.cell? ⟨N + 1, 0, none⟩ = some b0 ∧ W'.cell? ⟨N + 1, 1, none⟩ = some b1 ∧ W'.cell? ⟨N + 1, 2, none⟩ = some b2 ∧ W'.cell? ⟨N + 1, 3, none⟩ = some b3 := by
 have h1 := (hb N (by omega)).trans hA
 have h2 := (hb (N + 1) (by omega)).trans hB
 refine ⟨?_, ?_, ?_, ?_, ?_, ?_, ?_, ?_⟩ <;> simp [World.cell?, h1, h2]

set_option maxRecDepth 100000 in
set_option maxHeartbeats 1600000 in
theorem xt_cc1 (c d p q l m : Int) (w : World) (h : p = q) (h2 : l = m) :
  Calls Try.prog 109 #[.agg #[.int .i64 c, .int .i64 2, .int .i64 p, .int .u8 l], .agg #[.int .i64 d, .int .i64 2, .int .i64 q, .int .u8 m]] w fun e w' => e = .returned (⟨c, 0, 0, 0⟩ : ROp).val ∧ Below w.heap.size w w' := by
 subst h
 subst h2
 have hA : (((w.alloc (Obj.cells #[Value.int IntKind.i64 c, Value.int IntKind.i64 2, Value.int IntKind.i64 p, Value.int IntKind.u8 l] 94)).alloc (Obj.cells #[Value.int IntKind.i64 d, Value.int IntKind.i64 2, Value.int IntKind.i64 p, Value.int IntKind.u8 l] 94)).alloc (Obj.cells #[Value.int IntKind.i64 0, Value.int IntKind.i64 0, Value.int IntKind.i64 0, Value.int IntKind.u8 0] 94)).heap[w.heap.size]? = some (.cells #[Value.int IntKind.i64 c, Value.int IntKind.i64 2, Value.int IntKind.i64 p, Value.int IntKind.u8 l] 94 (0, 0)) := (Below.heap_alloc _ _ _ (by simp; omega)).trans ((Below.heap_alloc _ _ _ (by simp)).trans (heap_alloc_new w _))
 have hB : (((w.alloc (Obj.cells #[Value.int IntKind.i64 c, Value.int IntKind.i64 2, Value.int IntKind.i64 p, Value.int IntKind.u8 l] 94)).alloc (Obj.cells #[Value.int IntKind.i64 d, Value.int IntKind.i64 2, Value.int IntKind.i64 p, Value.int IntKind.u8 l] 94)).alloc (Obj.cells #[Value.int IntKind.i64 0, Value.int IntKind.i64 0, Value.int IntKind.i64 0, Value.int IntKind.u8 0] 94)).heap[w.heap.size + 1]? = some (.cells #[Value.int IntKind.i64 d, Value.int IntKind.i64 2, Value.int IntKind.i64 p, Value.int IntKind.u8 l] 94 (0, 0)) := (Below.heap_alloc _ _ _ (by simp)).trans (by have := heap_alloc_new (w.alloc (Obj.cells #[Value.int IntKind.i64 c, Value.int IntKind.i64 2, Value.int IntKind.i64 p, Value.int IntKind.u8 l] 94)) (Obj.cells #[Value.int IntKind.i64 d, Value.int IntKind.i64 2, Value.int IntKind.i64 p, Value.int IntKind.u8 l] 94); rwa [World.size_alloc] at this)
 have hC : (((w.alloc (Obj.cells #[Value.int IntKind.i64 c, Value.int IntKind.i64 2, Value.int IntKind.i64 p, Value.int IntKind.u8 l] 94)).alloc (Obj.cells #[Value.int IntKind.i64 d, Value.int IntKind.i64 2, Value.int IntKind.i64 p, Value.int IntKind.u8 l] 94)).alloc (Obj.cells #[Value.int IntKind.i64 0, Value.int IntKind.i64 0, Value.int IntKind.i64 0, Value.int IntKind.u8 0] 94)).heap[w.heap.size + 1 + 1]? = some (.cells #[Value.int IntKind.i64 0, Value.int IntKind.i64 0, Value.int IntKind.i64 0, Value.int IntKind.u8 0] 94 (0, 0)) := by have := heap_alloc_new ((w.alloc (Obj.cells #[Value.int IntKind.i64 c, Value.int IntKind.i64 2, Value.int IntKind.i64 p, Value.int IntKind.u8 l] 94)).alloc (Obj.cells #[Value.int IntKind.i64 d, Value.int IntKind.i64 2, Value.int IntKind.i64 p, Value.int IntKind.u8 l] 94)) (Obj.cells #[Value.int IntKind.i64 0, Value.int IntKind.i64 0, Value.int IntKind.i64 0, Value.int IntKind.u8 0] 94); rwa [World.size_alloc, World.size_alloc] at this
 have hsz : (((w.alloc (Obj.cells #[Value.int IntKind.i64 c, Value.int IntKind.i64 2, Value.int IntKind.i64 p, Value.int IntKind.u8 l] 94)).alloc (Obj.cells #[Value.int IntKind.i64 d, Value.int IntKind.i64 2, Value.int IntKind.i64 p, Value.int IntKind.u8 l] 94)).alloc (Obj.cells #[Value.int IntKind.i64 0, Value.int IntKind.i64 0, Value.int IntKind.i64 0, Value.int IntKind.u8 0] 94)).heap.size > w.heap.size + 1 + 1 := by simp
 have HBW : Hid (Below w.heap.size w (((w.alloc (Obj.cells #[Value.int IntKind.i64 c, Value.int IntKind.i64 2, Value.int IntKind.i64 p, Value.int IntKind.u8 l] 94)).alloc (Obj.cells #[Value.int IntKind.i64 d, Value.int IntKind.i64 2, Value.int IntKind.i64 p, Value.int IntKind.u8 l] 94)).alloc (Obj.cells #[Value.int IntKind.i64 0, Value.int IntKind.i64 0, Value.int IntKind.i64 0, Value.int IntKind.u8 0] 94))) := hide (((Below.refl _ _).alloc (Nat.le_refl _) _).alloc (by simp) _ |>.alloc (by simp; omega) _)
 go_enter Try.func109, Try.ntmps109
 go_wp2_with fail
 have hsz' := hsz
 have K0 : Hid (∀ W' : World, (∀ k, k < w.heap.size + 2 → W'.heap[k]? = (((w.alloc (Obj.cells #[Value.int IntKind.i64 c, Value.int IntKind.i64 2, Value.int IntKind.i64 p, Value.int IntKind.u8 l] 94)).alloc (Obj.cells #[Value.int IntKind.i64 d, Value.int IntKind.i64 2, Value.int IntKind.i64 p, Value.int IntKind.u8 l] 94)).alloc (Obj.cells #[Value.int IntKind.i64 0, Value.int IntKind.i64 0, Value.int IntKind.i64 0, Value.int IntKind.u8 0] 94)).heap[k]?) → W'.cell? ⟨w.heap.size, 0, none⟩ = some (Value.int .i64 c) ∧ W'.cell? ⟨w.heap.size, 1, none⟩ = some (Value.int .i64 2) ∧ W'.cell? ⟨w.heap.size, 2, none⟩ = some (Value.int .i64 p) ∧ W'.cell? ⟨w.heap.size, 3, none⟩ = some (Value.int .u8 l) ∧ W'.cell? ⟨w.heap.size + 1, 0, none⟩ = some (Value.int .i64 d) ∧ W'.cell? ⟨w.heap.size + 1, 1, none⟩ = some (Value.int .i64 2) ∧ W'.cell? ⟨w.heap.size + 1, 2, none⟩ = some (Value.int .i64 p) ∧ W'.cell? ⟨w.heap.size + 1, 3, none⟩ = some (Value.int .u8 l)) := hide fun W' h => boxes4 hA hB h
 have K1 : Hid (∀ o o', ∀ k, k < w.heap.size + 2 → (((((w.alloc (Obj.cells #[Value.int IntKind.i64 c, Value.int IntKind.i64 2, Value.int IntKind.i64 p, Value.int IntKind.u8 l] 94)).alloc (Obj.cells #[Value.int IntKind.i64 d, Value.int IntKind.i64 2, Value.int IntKind.i64 p, Value.int IntKind.u8 l] 94)).alloc (Obj.cells #[Value.int IntKind.i64 0, Value.int IntKind.i64 0, Value.int IntKind.i64 0, Value.int IntKind.u8 0] 94)).alloc o).alloc o').heap[k]? = (((w.alloc (Obj.cells #[Value.int IntKind.i64 c, Value.int IntKind.i64 2, Value.int IntKind.i64 p, Value.int IntKind.u8 l] 94)).alloc (Obj.cells #[Value.int IntKind.i64 d, Value.int IntKind.i64 2, Value.int IntKind.i64 p, Value.int IntKind.u8 l] 94)).alloc (Obj.cells #[Value.int IntKind.i64 0, Value.int IntKind.i64 0, Value.int IntKind.i64 0, Value.int IntKind.u8 0] 94)).heap[k]?) := hide fun o o' k hk => (Below.heap_alloc _ _ _ (by rw [World.size_alloc]; omega)).trans (Below.heap_alloc _ _ _ (by omega))
 clear hA hB hC hsz hsz'
 go_region_held3 (fun w' => w'.cell? ⟨w.heap.size, 0, none⟩ = some (Value.int .i64 c) ∧ w'.cell? ⟨w.heap.size, 1, none⟩ = some (Value.int .i64 2) ∧ w'.cell? ⟨w.heap.size, 2, none⟩ = some (Value.int .i64 p) ∧ w'.cell? ⟨w.heap.size, 3, none⟩ = some (Value.int .u8 l) ∧ w'.cell? ⟨w.heap.size + 1, 0, none⟩ = some (Value.int .i64 d) ∧ w'.cell? ⟨w.heap.size + 1, 1, none⟩ = some (Value.int .i64 2) ∧ w'.cell? ⟨w.heap.size + 1, 2, none⟩ = some (Value.int .i64 p) ∧ w'.cell? ⟨w.heap.size + 1, 3, none⟩ = some (Value.int .u8 l)) (first | exact unhide K0 _ (fun _ _ => rfl) | exact unhide K0 _ (unhide K1 _ _)) (first | (go_at_call 110; refine (xof _ _ _ _ _ _).mono ?_; rintro e w2 ⟨rfl, hw2⟩; obtain rfl := hw2.symm))
 go_wp2
 go_returns
 exact ⟨rfl, by go_grown⟩

set_option maxRecDepth 100000 in
set_option maxHeartbeats 1600000 in
theorem xt_cc2 (c d p q l m : Int) (w : World) (hp : -1000000 ≤ p) (hp2 : p ≤ 1000000) (h : q < p) :
  Calls Try.prog 109 #[.agg #[.int .i64 c, .int .i64 2, .int .i64 p, .int .u8 l], .agg #[.int .i64 d, .int .i64 2, .int .i64 q, .int .u8 m]] w fun e w' => e = .returned (⟨c, 2, p - 1, l⟩ : ROp).val ∧ Below w.heap.size w w' := by
 have h2 : (p == q) = false := by rw [beq_eq_false_iff_ne]; omega
 have hA : (((w.alloc (Obj.cells #[Value.int IntKind.i64 c, Value.int IntKind.i64 2, Value.int IntKind.i64 p, Value.int IntKind.u8 l] 94)).alloc (Obj.cells #[Value.int IntKind.i64 d, Value.int IntKind.i64 2, Value.int IntKind.i64 q, Value.int IntKind.u8 m] 94)).alloc (Obj.cells #[Value.int IntKind.i64 0, Value.int IntKind.i64 0, Value.int IntKind.i64 0, Value.int IntKind.u8 0] 94)).heap[w.heap.size]? = some (.cells #[Value.int IntKind.i64 c, Value.int IntKind.i64 2, Value.int IntKind.i64 p, Value.int IntKind.u8 l] 94 (0, 0)) := (Below.heap_alloc _ _ _ (by simp; omega)).trans ((Below.heap_alloc _ _ _ (by simp)).trans (heap_alloc_new w _))
 have hB : (((w.alloc (Obj.cells #[Value.int IntKind.i64 c, Value.int IntKind.i64 2, Value.int IntKind.i64 p, Value.int IntKind.u8 l] 94)).alloc (Obj.cells #[Value.int IntKind.i64 d, Value.int IntKind.i64 2, Value.int IntKind.i64 q, Value.int IntKind.u8 m] 94)).alloc (Obj.cells #[Value.int IntKind.i64 0, Value.int IntKind.i64 0, Value.int IntKind.i64 0, Value.int IntKind.u8 0] 94)).heap[w.heap.size + 1]? = some (.cells #[Value.int IntKind.i64 d, Value.int IntKind.i64 2, Value.int IntKind.i64 q, Value.int IntKind.u8 m] 94 (0, 0)) := (Below.heap_alloc _ _ _ (by simp)).trans (by have := heap_alloc_new (w.alloc (Obj.cells #[Value.int IntKind.i64 c, Value.int IntKind.i64 2, Value.int IntKind.i64 p, Value.int IntKind.u8 l] 94)) (Obj.cells #[Value.int IntKind.i64 d, Value.int IntKind.i64 2, Value.int IntKind.i64 q, Value.int IntKind.u8 m] 94); rwa [World.size_alloc] at this)
 have hC : (((w.alloc (Obj.cells #[Value.int IntKind.i64 c, Value.int IntKind.i64 2, Value.int IntKind.i64 p, Value.int IntKind.u8 l] 94)).alloc (Obj.cells #[Value.int IntKind.i64 d, Value.int IntKind.i64 2, Value.int IntKind.i64 q, Value.int IntKind.u8 m] 94)).alloc (Obj.cells #[Value.int IntKind.i64 0, Value.int IntKind.i64 0, Value.int IntKind.i64 0, Value.int IntKind.u8 0] 94)).heap[w.heap.size + 1 + 1]? = some (.cells #[Value.int IntKind.i64 0, Value.int IntKind.i64 0, Value.int IntKind.i64 0, Value.int IntKind.u8 0] 94 (0, 0)) := by have := heap_alloc_new ((w.alloc (Obj.cells #[Value.int IntKind.i64 c, Value.int IntKind.i64 2, Value.int IntKind.i64 p, Value.int IntKind.u8 l] 94)).alloc (Obj.cells #[Value.int IntKind.i64 d, Value.int IntKind.i64 2, Value.int IntKind.i64 q, Value.int IntKind.u8 m] 94)) (Obj.cells #[Value.int IntKind.i64 0, Value.int IntKind.i64 0, Value.int IntKind.i64 0, Value.int IntKind.u8 0] 94); rwa [World.size_alloc, World.size_alloc] at this
 have hsz : (((w.alloc (Obj.cells #[Value.int IntKind.i64 c, Value.int IntKind.i64 2, Value.int IntKind.i64 p, Value.int IntKind.u8 l] 94)).alloc (Obj.cells #[Value.int IntKind.i64 d, Value.int IntKind.i64 2, Value.int IntKind.i64 q, Value.int IntKind.u8 m] 94)).alloc (Obj.cells #[Value.int IntKind.i64 0, Value.int IntKind.i64 0, Value.int IntKind.i64 0, Value.int IntKind.u8 0] 94)).heap.size > w.heap.size + 1 + 1 := by simp
 have HBW : Hid (Below w.heap.size w (((w.alloc (Obj.cells #[Value.int IntKind.i64 c, Value.int IntKind.i64 2, Value.int IntKind.i64 p, Value.int IntKind.u8 l] 94)).alloc (Obj.cells #[Value.int IntKind.i64 d, Value.int IntKind.i64 2, Value.int IntKind.i64 q, Value.int IntKind.u8 m] 94)).alloc (Obj.cells #[Value.int IntKind.i64 0, Value.int IntKind.i64 0, Value.int IntKind.i64 0, Value.int IntKind.u8 0] 94))) := hide (((Below.refl _ _).alloc (Nat.le_refl _) _).alloc (by simp) _ |>.alloc (by simp; omega) _)
 go_enter Try.func109, Try.ntmps109
 go_wp2_with fail
 have hsz' := hsz
 have K0 : Hid (∀ W' : World, (∀ k, k < w.heap.size + 2 → W'.heap[k]? = (((w.alloc (Obj.cells #[Value.int IntKind.i64 c, Value.int IntKind.i64 2, Value.int IntKind.i64 p, Value.int IntKind.u8 l] 94)).alloc (Obj.cells #[Value.int IntKind.i64 d, Value.int IntKind.i64 2, Value.int IntKind.i64 q, Value.int IntKind.u8 m] 94)).alloc (Obj.cells #[Value.int IntKind.i64 0, Value.int IntKind.i64 0, Value.int IntKind.i64 0, Value.int IntKind.u8 0] 94)).heap[k]?) → W'.cell? ⟨w.heap.size, 0, none⟩ = some (Value.int .i64 c) ∧ W'.cell? ⟨w.heap.size, 1, none⟩ = some (Value.int .i64 2) ∧ W'.cell? ⟨w.heap.size, 2, none⟩ = some (Value.int .i64 p) ∧ W'.cell? ⟨w.heap.size, 3, none⟩ = some (Value.int .u8 l) ∧ W'.cell? ⟨w.heap.size + 1, 0, none⟩ = some (Value.int .i64 d) ∧ W'.cell? ⟨w.heap.size + 1, 1, none⟩ = some (Value.int .i64 2) ∧ W'.cell? ⟨w.heap.size + 1, 2, none⟩ = some (Value.int .i64 q) ∧ W'.cell? ⟨w.heap.size + 1, 3, none⟩ = some (Value.int .u8 m)) := hide fun W' h => boxes4 hA hB h
 have K1 : Hid (∀ o o', ∀ k, k < w.heap.size + 2 → (((((w.alloc (Obj.cells #[Value.int IntKind.i64 c, Value.int IntKind.i64 2, Value.int IntKind.i64 p, Value.int IntKind.u8 l] 94)).alloc (Obj.cells #[Value.int IntKind.i64 d, Value.int IntKind.i64 2, Value.int IntKind.i64 q, Value.int IntKind.u8 m] 94)).alloc (Obj.cells #[Value.int IntKind.i64 0, Value.int IntKind.i64 0, Value.int IntKind.i64 0, Value.int IntKind.u8 0] 94)).alloc o).alloc o').heap[k]? = (((w.alloc (Obj.cells #[Value.int IntKind.i64 c, Value.int IntKind.i64 2, Value.int IntKind.i64 p, Value.int IntKind.u8 l] 94)).alloc (Obj.cells #[Value.int IntKind.i64 d, Value.int IntKind.i64 2, Value.int IntKind.i64 q, Value.int IntKind.u8 m] 94)).alloc (Obj.cells #[Value.int IntKind.i64 0, Value.int IntKind.i64 0, Value.int IntKind.i64 0, Value.int IntKind.u8 0] 94)).heap[k]?) := hide fun o o' k hk => (Below.heap_alloc _ _ _ (by rw [World.size_alloc]; omega)).trans (Below.heap_alloc _ _ _ (by omega))
 clear hA hB hC hsz hsz'
 go_region_held3 (fun w' => w'.cell? ⟨w.heap.size, 0, none⟩ = some (Value.int .i64 c) ∧ w'.cell? ⟨w.heap.size, 1, none⟩ = some (Value.int .i64 2) ∧ w'.cell? ⟨w.heap.size, 2, none⟩ = some (Value.int .i64 p) ∧ w'.cell? ⟨w.heap.size, 3, none⟩ = some (Value.int .u8 l) ∧ w'.cell? ⟨w.heap.size + 1, 0, none⟩ = some (Value.int .i64 d) ∧ w'.cell? ⟨w.heap.size + 1, 1, none⟩ = some (Value.int .i64 2) ∧ w'.cell? ⟨w.heap.size + 1, 2, none⟩ = some (Value.int .i64 q) ∧ w'.cell? ⟨w.heap.size + 1, 3, none⟩ = some (Value.int .u8 m)) (first | exact unhide K0 _ (fun _ _ => rfl) | exact unhide K0 _ (unhide K1 _ _)) (first | (go_at_call 110; refine (xof _ _ _ _ _ _).mono ?_; rintro e w2 ⟨rfl, hw2⟩; obtain rfl := hw2.symm))
 go_wp2
 go_returns
 exact ⟨rfl, by go_grown⟩

set_option maxRecDepth 100000 in
set_option maxHeartbeats 1600000 in
theorem xt_cc3 (c d p q l m : Int) (w : World) (h : p < q) :
  Calls Try.prog 109 #[.agg #[.int .i64 c, .int .i64 2, .int .i64 p, .int .u8 l], .agg #[.int .i64 d, .int .i64 2, .int .i64 q, .int .u8 m]] w fun e w' => e = .returned (⟨c, 2, p, l⟩ : ROp).val ∧ Below w.heap.size w w' := by
 have h2 : (p == q) = false := by rw [beq_eq_false_iff_ne]; omega
 have h3 : ¬ q < p := by omega
 have hA : (((w.alloc (Obj.cells #[Value.int IntKind.i64 c, Value.int IntKind.i64 2, Value.int IntKind.i64 p, Value.int IntKind.u8 l] 94)).alloc (Obj.cells #[Value.int IntKind.i64 d, Value.int IntKind.i64 2, Value.int IntKind.i64 q, Value.int IntKind.u8 m] 94)).alloc (Obj.cells #[Value.int IntKind.i64 0, Value.int IntKind.i64 0, Value.int IntKind.i64 0, Value.int IntKind.u8 0] 94)).heap[w.heap.size]? = some (.cells #[Value.int IntKind.i64 c, Value.int IntKind.i64 2, Value.int IntKind.i64 p, Value.int IntKind.u8 l] 94 (0, 0)) := (Below.heap_alloc _ _ _ (by simp; omega)).trans ((Below.heap_alloc _ _ _ (by simp)).trans (heap_alloc_new w _))
 have hB : (((w.alloc (Obj.cells #[Value.int IntKind.i64 c, Value.int IntKind.i64 2, Value.int IntKind.i64 p, Value.int IntKind.u8 l] 94)).alloc (Obj.cells #[Value.int IntKind.i64 d, Value.int IntKind.i64 2, Value.int IntKind.i64 q, Value.int IntKind.u8 m] 94)).alloc (Obj.cells #[Value.int IntKind.i64 0, Value.int IntKind.i64 0, Value.int IntKind.i64 0, Value.int IntKind.u8 0] 94)).heap[w.heap.size + 1]? = some (.cells #[Value.int IntKind.i64 d, Value.int IntKind.i64 2, Value.int IntKind.i64 q, Value.int IntKind.u8 m] 94 (0, 0)) := (Below.heap_alloc _ _ _ (by simp)).trans (by have := heap_alloc_new (w.alloc (Obj.cells #[Value.int IntKind.i64 c, Value.int IntKind.i64 2, Value.int IntKind.i64 p, Value.int IntKind.u8 l] 94)) (Obj.cells #[Value.int IntKind.i64 d, Value.int IntKind.i64 2, Value.int IntKind.i64 q, Value.int IntKind.u8 m] 94); rwa [World.size_alloc] at this)
 have hC : (((w.alloc (Obj.cells #[Value.int IntKind.i64 c, Value.int IntKind.i64 2, Value.int IntKind.i64 p, Value.int IntKind.u8 l] 94)).alloc (Obj.cells #[Value.int IntKind.i64 d, Value.int IntKind.i64 2, Value.int IntKind.i64 q, Value.int IntKind.u8 m] 94)).alloc (Obj.cells #[Value.int IntKind.i64 0, Value.int IntKind.i64 0, Value.int IntKind.i64 0, Value.int IntKind.u8 0] 94)).heap[w.heap.size + 1 + 1]? = some (.cells #[Value.int IntKind.i64 0, Value.int IntKind.i64 0, Value.int IntKind.i64 0, Value.int IntKind.u8 0] 94 (0, 0)) := by have := heap_alloc_new ((w.alloc (Obj.cells #[Value.int IntKind.i64 c, Value.int IntKind.i64 2, Value.int IntKind.i64 p, Value.int IntKind.u8 l] 94)).alloc (Obj.cells #[Value.int IntKind.i64 d, Value.int IntKind.i64 2, Value.int IntKind.i64 q, Value.int IntKind.u8 m] 94)) (Obj.cells #[Value.int IntKind.i64 0, Value.int IntKind.i64 0, Value.int IntKind.i64 0, Value.int IntKind.u8 0] 94); rwa [World.size_alloc, World.size_alloc] at this
 have hsz : (((w.alloc (Obj.cells #[Value.int IntKind.i64 c, Value.int IntKind.i64 2, Value.int IntKind.i64 p, Value.int IntKind.u8 l] 94)).alloc (Obj.cells #[Value.int IntKind.i64 d, Value.int IntKind.i64 2, Value.int IntKind.i64 q, Value.int IntKind.u8 m] 94)).alloc (Obj.cells #[Value.int IntKind.i64 0, Value.int IntKind.i64 0, Value.int IntKind.i64 0, Value.int IntKind.u8 0] 94)).heap.size > w.heap.size + 1 + 1 := by simp
 have HBW : Hid (Below w.heap.size w (((w.alloc (Obj.cells #[Value.int IntKind.i64 c, Value.int IntKind.i64 2, Value.int IntKind.i64 p, Value.int IntKind.u8 l] 94)).alloc (Obj.cells #[Value.int IntKind.i64 d, Value.int IntKind.i64 2, Value.int IntKind.i64 q, Value.int IntKind.u8 m] 94)).alloc (Obj.cells #[Value.int IntKind.i64 0, Value.int IntKind.i64 0, Value.int IntKind.i64 0, Value.int IntKind.u8 0] 94))) := hide (((Below.refl _ _).alloc (Nat.le_refl _) _).alloc (by simp) _ |>.alloc (by simp; omega) _)
 go_enter Try.func109, Try.ntmps109
 go_wp2_with fail
 have hsz' := hsz
 have K0 : Hid (∀ W' : World, (∀ k, k < w.heap.size + 2 → W'.heap[k]? = (((w.alloc (Obj.cells #[Value.int IntKind.i64 c, Value.int IntKind.i64 2, Value.int IntKind.i64 p, Value.int IntKind.u8 l] 94)).alloc (Obj.cells #[Value.int IntKind.i64 d, Value.int IntKind.i64 2, Value.int IntKind.i64 q, Value.int IntKind.u8 m] 94)).alloc (Obj.cells #[Value.int IntKind.i64 0, Value.int IntKind.i64 0, Value.int IntKind.i64 0, Value.int IntKind.u8 0] 94)).heap[k]?) → W'.cell? ⟨w.heap.size, 0, none⟩ = some (Value.int .i64 c) ∧ W'.cell? ⟨w.heap.size, 1, none⟩ = some (Value.int .i64 2) ∧ W'.cell? ⟨w.heap.size, 2, none⟩ = some (Value.int .i64 p) ∧ W'.cell? ⟨w.heap.size, 3, none⟩ = some (Value.int .u8 l) ∧ W'.cell? ⟨w.heap.size + 1, 0, none⟩ = some (Value.int .i64 d) ∧ W'.cell? ⟨w.heap.size + 1, 1, none⟩ = some (Value.int .i64 2) ∧ W'.cell? ⟨w.heap.size + 1, 2, none⟩ = some (Value.int .i64 q) ∧ W'.cell? ⟨w.heap.size + 1, 3, none⟩ = some (Value.int .u8 m)) := hide fun W' h => boxes4 hA hB h
 have K1 : Hid (∀ o o', ∀ k, k < w.heap.size + 2 → (((((w.alloc (Obj.cells #[Value.int IntKind.i64 c, Value.int IntKind.i64 2, Value.int IntKind.i64 p, Value.int IntKind.u8 l] 94)).alloc (Obj.cells #[Value.int IntKind.i64 d, Value.int IntKind.i64 2, Value.int IntKind.i64 q, Value.int IntKind.u8 m] 94)).alloc (Obj.cells #[Value.int IntKind.i64 0, Value.int IntKind.i64 0, Value.int IntKind.i64 0, Value.int IntKind.u8 0] 94)).alloc o).alloc o').heap[k]? = (((w.alloc (Obj.cells #[Value.int IntKind.i64 c, Value.int IntKind.i64 2, Value.int IntKind.i64 p, Value.int IntKind.u8 l] 94)).alloc (Obj.cells #[Value.int IntKind.i64 d, Value.int IntKind.i64 2, Value.int IntKind.i64 q, Value.int IntKind.u8 m] 94)).alloc (Obj.cells #[Value.int IntKind.i64 0, Value.int IntKind.i64 0, Value.int IntKind.i64 0, Value.int IntKind.u8 0] 94)).heap[k]?) := hide fun o o' k hk => (Below.heap_alloc _ _ _ (by rw [World.size_alloc]; omega)).trans (Below.heap_alloc _ _ _ (by omega))
 clear hA hB hC hsz hsz'
 go_region_held3 (fun w' => w'.cell? ⟨w.heap.size, 0, none⟩ = some (Value.int .i64 c) ∧ w'.cell? ⟨w.heap.size, 1, none⟩ = some (Value.int .i64 2) ∧ w'.cell? ⟨w.heap.size, 2, none⟩ = some (Value.int .i64 p) ∧ w'.cell? ⟨w.heap.size, 3, none⟩ = some (Value.int .u8 l) ∧ w'.cell? ⟨w.heap.size + 1, 0, none⟩ = some (Value.int .i64 d) ∧ w'.cell? ⟨w.heap.size + 1, 1, none⟩ = some (Value.int .i64 2) ∧ w'.cell? ⟨w.heap.size + 1, 2, none⟩ = some (Value.int .i64 q) ∧ w'.cell? ⟨w.heap.size + 1, 3, none⟩ = some (Value.int .u8 m)) (first | exact unhide K0 _ (fun _ _ => rfl) | exact unhide K0 _ (unhide K1 _ _)) (first | (go_at_call 110; refine (xof _ _ _ _ _ _).mono ?_; rintro e w2 ⟨rfl, hw2⟩; obtain rfl := hw2.symm))
 go_wp2
 go_returns
 exact ⟨rfl, by go_grown⟩

/-- TURNED. -/
theorem xturned (a b : ROp) (w : World) (ha : a.Norm) (hb : b.Norm) (hab : a.client ≠ b.client) (h3 : a.place ≤ 1000000) :
  Calls Try.prog 109 #[a.val, b.val] w fun e w' => e = .returned (a.turn b).val ∧ Below w.heap.size w w' := by
 obtain ⟨c, va, p, l⟩ := a
 obtain ⟨d, vb, q, m⟩ := b
 obtain ⟨_, h1⟩ := ha
 obtain ⟨_, g1⟩ := hb
 dsimp only at h1 h3 g1 hab
 have h2 : -1000000 ≤ p := by omega
 unfold ROp.val
 dsimp only
 by_cases h0 : va = 0
 ·subst h0
  rw [show (⟨c, 0, p, l⟩ : ROp).turn ⟨d, vb, q, m⟩ = ⟨c, 0, p, l⟩ from turn_nop _ _ _ _]
  exact xt_w0 c d p q l m vb w
 by_cases g0 : vb = 0
 ·subst g0
  rw [show (⟨c, va, p, l⟩ : ROp).turn ⟨d, 0, q, m⟩ = ⟨c, va, p, l⟩ from turn_by_nop _ _ _ _]
  exact xt_w1 c d p q l m va w
 obtain rfl | rfl : va = 1 ∨ va = 2 := by omega
 ·obtain rfl | rfl : vb = 1 ∨ vb = 2 := by omega
  ·by_cases k1 : q < p
   ·rw [show (⟨c, 1, p, l⟩ : ROp).turn ⟨d, 1, q, m⟩ = ⟨c, 1, p + 1, l⟩ from by simp [ROp.turn, k1]]
    exact xt_pp1 c d p q l m w h2 h3 k1
   ·by_cases k2 : p = q
    ·by_cases k3 : d < c
     ·rw [show (⟨c, 1, p, l⟩ : ROp).turn ⟨d, 1, q, m⟩ = ⟨c, 1, p + 1, l⟩ from by simp [ROp.turn, k2, k3]]
      exact xt_pp2 c d p q l m w h2 h3 k2 (by omega)
     ·rw [show (⟨c, 1, p, l⟩ : ROp).turn ⟨d, 1, q, m⟩ = ⟨c, 1, p, l⟩ from by simp [ROp.turn, k2, k3]]
      exact xt_pp3 c d p q l m w k2 (by omega)
    ·rw [show (⟨c, 1, p, l⟩ : ROp).turn ⟨d, 1, q, m⟩ = ⟨c, 1, p, l⟩ from by simp [ROp.turn, k1, k2]]
     exact xt_pp4 c d p q l m w (by omega)
  ·by_cases k1 : q < p
   ·rw [show (⟨c, 1, p, l⟩ : ROp).turn ⟨d, 2, q, m⟩ = ⟨c, 1, p - 1, l⟩ from by simp [ROp.turn, k1]]
    exact xt_pc1 c d p q l m w h2 h3 k1
   ·rw [show (⟨c, 1, p, l⟩ : ROp).turn ⟨d, 2, q, m⟩ = ⟨c, 1, p, l⟩ from by simp [ROp.turn, k1]]
    exact xt_pc2 c d p q l m w k1
 ·obtain rfl | rfl : vb = 1 ∨ vb = 2 := by omega
  ·by_cases k1 : q ≤ p
   ·rw [show (⟨c, 2, p, l⟩ : ROp).turn ⟨d, 1, q, m⟩ = ⟨c, 2, p + 1, l⟩ from by simp [ROp.turn, k1]]
    exact xt_cp1 c d p q l m w h2 h3 k1
   ·rw [show (⟨c, 2, p, l⟩ : ROp).turn ⟨d, 1, q, m⟩ = ⟨c, 2, p, l⟩ from by simp [ROp.turn, k1]]
    exact xt_cp2 c d p q l m w k1
  ·by_cases k2 : p = q
   ·rw [show (⟨c, 2, p, l⟩ : ROp).turn ⟨d, 2, q, m⟩ = ⟨c, 0, 0, 0⟩ from by simp [ROp.turn, k2]]
    exact xt_cc1 c d p q l m w k2 (by omega)
   ·by_cases k1 : q < p
    ·rw [show (⟨c, 2, p, l⟩ : ROp).turn ⟨d, 2, q, m⟩ = ⟨c, 2, p - 1, l⟩ from by simp [ROp.turn, k1, k2]]
     exact xt_cc2 c d p q l m w h2 h3 k1
    ·rw [show (⟨c, 2, p, l⟩ : ROp).turn ⟨d, 2, q, m⟩ = ⟨c, 2, p, l⟩ from by simp [ROp.turn, k1, k2]]
     exact xt_cc3 c d p q l m w (by omega)
end Go.Proofs.Ytemkgikncmhoaaa

namespace Go.Proofs.Ytemkgikncmhoaaa
open Go.RowKit
attribute [local go_sem ↓] Go.wp_at_zero Go.wp_at_succ

theorem ROp.turn_place (a b : ROp) (h : 0 ≤ a.place) : (a.turn b).place ≤ a.place + 1 := by
 unfold ROp.turn
 repeat' split
 all_goals first | (dsimp only; omega) | omega
theorem ROp.cells_at {bs : List ROp} {j : Nat} {m : ROp} (h : bs[j]? = some m) {i : Nat} (hi : i < 4) : (bs.flatMap ROp.cells)[j * 4 + i]? = m.cells[i]? := by
 induction bs generalizing j with
 | nil => simp at h
 | cons x xs ih =>
  rw [List.flatMap_cons]
  have hx : x.cells.length = 4 := rfl
  match j, h with
  | 0, h =>
   obtain rfl : x = m := by simpa using h
   rw [List.getElem?_append_left (by rw [hx]; omega)]; simp
  | j + 1, h =>
   rw [List.getElem?_append_right (by rw [hx]; omega), hx, show (j + 1) * 4 + i - 4 = j * 4 + i by omega]
   exact ih (by simpa using h)

theorem results_box_tmp {P : Program} {fn : Func} {p u : Tmp} {ty : TypeId} (h : fn.results = #[.cell p ty, .tmp u]) (tmps : Array Value) (w : World) (g : Nat) (t : TypeId) (cs : Array Value) (fr : Nat × Nat) (d : TypeDesc)
  (hp : tmps.getD p undef = .pointer (some ⟨g, 0, none⟩)) (hg : w.heap[g]? = some (.cells cs t fr))
  (hu : P.underlying ty = some d) (hd : (match d with | .struct _ | .array _ _ => true | _ => false) = true) (hi : (P.info? ty).map (·.size) = some cs.size) :
  (results fn tmps).run P w = .ok (.tuple #[.agg cs, tmps.getD u undef]) w := by
 have hp' : tmps[p]?.getD undef = .pointer (some ⟨g, 0, none⟩) := by simpa using hp
 simp [results, h, hp', asAddr, run_loadVar_row w g t ty cs fr d hg hu hd hi]
theorem Try.size94 : (Try.prog.info? 94).map (·.size) = some 4 := by kernel_rfl
theorem Try.results108 : Try.f108.results = #[.cell 4 94, .tmp 5] := by kernel_rfl

set_option maxRecDepth 100000 in
set_option maxHeartbeats 1600000 in
theorem xagainst (o : ROp) (bs : List ROp) (sa : Option Addr) (g off cap : Nat) (w : World) (hn : bs.length ≤ 1000) (hsa : bs ≠ [] → sa = some ⟨g, off, none⟩) (ho : o.Norm) (hop : o.place ≤ 1000) (hb : ∀ b ∈ bs, b.Norm ∧ b.place ≤ 1000 ∧ o.client ≠ b.client) (hm : ∀ j u, (bs.flatMap ROp.cells)[j]? = some u → w.cell? ⟨g, off + j, none⟩ = some u) :
  Calls Try.prog 108 #[o.val, .slice sa bs.length cap] w fun e w' => ∃ v, e = .returned (.tuple #[(turnAll o bs).1.val, v]) ∧ w'.ownsRow w.heap.size 94 4 v bs.length ((turnAll o bs).2.flatMap ROp.cells) ∧ Below w.heap.size w w' := by
 obtain ⟨own, HOW⟩ : ∃ own : Nat → Tag, Hid (∀ k, own k = (0, 0, 0)) := ⟨fun _ => (0, 0, 0), hide fun _ => rfl⟩
 obtain ⟨i2, hj, hy0, hy1, hy2⟩ := info_parts Try.info94
 have HM := hide hm
 have HSA := hide hsa
 clear hsa
 have HB := hide hb
 have HO := hide ho
 clear hm hb ho
 have U0 : Upd own (retag (retag own w.heap.size (1, 0, 8)) (w.heap.size + 1) (1, 0, 9)) (fun _ => False) w ((w.alloc (Obj.cells #[Value.int IntKind.i64 o.client, Value.int IntKind.i64 o.verb, Value.int IntKind.i64 o.place, Value.int IntKind.u8 o.letter] 94)).alloc (Obj.cells #[Value.int IntKind.i64 0, Value.int IntKind.i64 0, Value.int IntKind.i64 0, Value.int IntKind.u8 0] 94)) := Upd.retag (Upd.retag (((Upd.refl own (fun _ => False) w).alloc _).alloc _) _ _ (Nat.le_refl _)) _ _ (by omega)
 have C1 : CellsT (retag (retag own w.heap.size (1, 0, 8)) (w.heap.size + 1) (1, 0, 9)) (1, 0, 8) ((w.alloc (Obj.cells #[Value.int IntKind.i64 o.client, Value.int IntKind.i64 o.verb, Value.int IntKind.i64 o.place, Value.int IntKind.u8 o.letter] 94)).alloc (Obj.cells #[Value.int IntKind.i64 0, Value.int IntKind.i64 0, Value.int IntKind.i64 0, Value.int IntKind.u8 0] 94)) w.heap.size #[Value.int IntKind.i64 o.client, Value.int IntKind.i64 o.verb, Value.int IntKind.i64 o.place, Value.int IntKind.u8 o.letter] 94 :=
  ⟨(Below.heap_alloc _ _ _ (by simp)).trans (heap_alloc_new w _), by rw [retag_lt (by omega)]; exact retag_ge (Nat.le_refl _)⟩
 have C2 : CellsT (retag (retag own w.heap.size (1, 0, 8)) (w.heap.size + 1) (1, 0, 9)) (1, 0, 9) ((w.alloc (Obj.cells #[Value.int IntKind.i64 o.client, Value.int IntKind.i64 o.verb, Value.int IntKind.i64 o.place, Value.int IntKind.u8 o.letter] 94)).alloc (Obj.cells #[Value.int IntKind.i64 0, Value.int IntKind.i64 0, Value.int IntKind.i64 0, Value.int IntKind.u8 0] 94)) (w.heap.size + 1) #[Value.int IntKind.i64 0, Value.int IntKind.i64 0, Value.int IntKind.i64 0, Value.int IntKind.u8 0] 94 :=
  ⟨by have := heap_alloc_new (w.alloc (Obj.cells #[Value.int IntKind.i64 o.client, Value.int IntKind.i64 o.verb, Value.int IntKind.i64 o.place, Value.int IntKind.u8 o.letter] 94)) (Obj.cells #[Value.int IntKind.i64 0, Value.int IntKind.i64 0, Value.int IntKind.i64 0, Value.int IntKind.u8 0] 94); rwa [World.size_alloc] at this, retag_ge (Nat.le_refl _)⟩
 unfold ROp.val
 go_enter Try.func108, Try.ntmps108
 go_wp2_with fail
 go_loopw [6, 11] (fun v6 v11 wr => ∃ (j : Nat) (oj : ROp) (bj : List ROp) (own' : Nat → Tag) (ba : Option Addr) (bc : Nat), j ≤ bs.length ∧ v6 = .slice ba j bc ∧ v11 = .int .i64 j ∧ (turnAll o bs).1 = (turnAll oj (bs.drop j)).1 ∧ (turnAll o bs).2 = bj ++ (turnAll oj (bs.drop j)).2 ∧ bj.length = j ∧ oj.Norm ∧ oj.place ≤ 1000 + j ∧ oj.client = o.client ∧
   OwnsT own' (1, 0, 7) wr 94 4 (.slice ba j bc) j (bj.flatMap ROp.cells) ∧ CellsT own' (1, 0, 8) wr w.heap.size #[Value.int IntKind.i64 oj.client, Value.int IntKind.i64 oj.verb, Value.int IntKind.i64 oj.place, Value.int IntKind.u8 oj.letter] 94 ∧ CellsT own' (1, 0, 9) wr (w.heap.size + 1) #[Value.int IntKind.i64 0, Value.int IntKind.i64 0, Value.int IntKind.i64 0, Value.int IntKind.u8 0] 94 ∧ Upd own own' (fun t => t.1 = 1 ∧ t.2.1 = 0 ∧ 7 ≤ t.2.2 ∧ t.2.2 ≤ 9) w wr ∧ (∀ k, k < w.heap.size → wr.heap[k]? = w.heap[k]?)) (fun _ v11 _ => bs.length - (intOf v11).toNat)
 case atStart => exact ⟨0, o, [], _, none, 0, Nat.zero_le _, rfl, rfl, rfl, rfl, rfl, unhide HO, by omega, rfl, OwnsT.nil _ _ _ _ _, C1, C2, U0.mono (fun _ h => h.elim), fun k hk => U0.block k hk (fun h => h)⟩
 case round =>
  obtain ⟨j, oj, bj, own', ba, bc, hjl, rfl, rfl, e1, e2, e3, k1, k2, k3, o1, c1, c2, hU, hBl⟩ := hrel
  clear U0 C1 C2
  by_cases hlt : j < bs.length
  ·have hlt' : (j : Int) < (bs.length : Int) := by omega
   obtain rfl := unhide HSA (by rintro rfl; simp at hlt)
   clear HSA
   obtain ⟨b, hbj⟩ : ∃ b, bs[j]? = some b := ⟨bs[j], by simp [hlt]⟩
   have zz : ∀ i, i < 4 → ∀ u, b.cells[i]? = some u → wr.cell? ⟨g, off + j * 4 + i, none⟩ = some u := fun i hi u hu => by
    rw [Nat.add_assoc]
    have h1 := unhide HM _ _ ((ROp.cells_at hbj hi).trans hu)
    exact (World.cell?_of_block (hBl g (World.block_lt_of_cell? w _ h1))).trans h1
   have m0 : wr.cell? ⟨g, off + j * 4, none⟩ = _ := zz 0 (by decide) _ rfl
   have m1 := zz 1 (by decide) _ rfl
   have m2 := zz 2 (by decide) _ rfl
   have m3 := zz 3 (by decide) _ rfl
   obtain ⟨nb, pb, cb⟩ := unhide HB b (List.mem_of_getElem? hbj)
   have HT1 : Hid (∀ w, Calls Try.prog 109 #[.agg #[Value.int IntKind.i64 b.client, Value.int IntKind.i64 b.verb, Value.int IntKind.i64 b.place, Value.int IntKind.u8 b.letter], .agg #[Value.int IntKind.i64 oj.client, Value.int IntKind.i64 oj.verb, Value.int IntKind.i64 oj.place, Value.int IntKind.u8 oj.letter]] w fun e w' => e = .returned (.agg #[.int .i64 (b.turn oj).client, .int .i64 (b.turn oj).verb, .int .i64 (b.turn oj).place, .int .u8 (b.turn oj).letter]) ∧ Below w.heap.size w w') := hide fun w => xturned b oj w nb k1 (by rw [k3]; exact fun e => cb e.symm) (by omega)
   have HT2 : Hid (∀ w, Calls Try.prog 109 #[.agg #[Value.int IntKind.i64 oj.client, Value.int IntKind.i64 oj.verb, Value.int IntKind.i64 oj.place, Value.int IntKind.u8 oj.letter], .agg #[Value.int IntKind.i64 b.client, Value.int IntKind.i64 b.verb, Value.int IntKind.i64 b.place, Value.int IntKind.u8 b.letter]] w fun e w' => e = .returned (.agg #[.int .i64 (oj.turn b).client, .int .i64 (oj.turn b).verb, .int .i64 (oj.turn b).place, .int .u8 (oj.turn b).letter]) ∧ Below w.heap.size w w') := hide fun w => xturned oj b w k1 nb (by rw [k3]; exact cb) (by omega)
   have y0 := c1.cell 0
   have y1 := c1.cell 1
   have y2 := c1.cell 2
   have y3 := c1.cell 3
   simp only [List.getElem?_toArray, List.getElem?_cons_zero, List.getElem?_cons_succ] at y0 y1 y2 y3
   have hN := c1.lt
   have gl := World.block_lt_of_cell? wr _ m0
   have nn : ¬ (w.heap.size = wr.heap.size) := by omega
   have hnb := nb
   have V : Upd own' (retag own' wr.heap.size (1, 0, 10)) (fun _ => False) wr (wr.alloc (Obj.cells #[Value.int IntKind.i64 b.client, Value.int IntKind.i64 b.verb, Value.int IntKind.i64 b.place, Value.int IntKind.u8 b.letter] 94)) := Upd.retag ((Upd.refl own' (fun _ => False) wr).alloc _) _ _ (Nat.le_refl _)
   have CM := CellsT.new wr #[Value.int IntKind.i64 b.client, Value.int IntKind.i64 b.verb, Value.int IntKind.i64 b.place, Value.int IntKind.u8 b.letter] 94 own' (1, 0, 10)
   have HAP : Hid (∀ w1 x, Below (wr.heap.size + 1) (wr.alloc (Obj.cells #[Value.int IntKind.i64 b.client, Value.int IntKind.i64 b.verb, Value.int IntKind.i64 b.place, Value.int IntKind.u8 b.letter] 94)) w1 → OwnsT (retag own' wr.heap.size (1, 0, 10)) (1, 0, 7) (w1.alloc x) 94 4 (.slice ba j bc) j (bj.flatMap ROp.cells)) := by
    apply hide
    intro w1 x hb1
    exact ((o1.upd V (fun h => h)).upd (Upd.of_below _ (fun _ => False) (by rw [World.size_alloc]; exact hb1)) (fun h => h)).alloc x
   have HX : Hid (∀ w1 w2 own2 x, Below (wr.heap.size + 1) (wr.alloc (Obj.cells #[Value.int IntKind.i64 b.client, Value.int IntKind.i64 b.verb, Value.int IntKind.i64 b.place, Value.int IntKind.u8 b.letter] 94)) w1 → Upd (retag own' wr.heap.size (1, 0, 10)) own2 (fun t => t = (1, 0, 7)) (w1.alloc x) w2 →
     CellsT own2 (1, 0, 8) w2 w.heap.size #[Value.int IntKind.i64 oj.client, Value.int IntKind.i64 oj.verb, Value.int IntKind.i64 oj.place, Value.int IntKind.u8 oj.letter] 94 ∧ CellsT own2 (1, 0, 9) w2 (w.heap.size + 1) #[Value.int IntKind.i64 0, Value.int IntKind.i64 0, Value.int IntKind.i64 0, Value.int IntKind.u8 0] 94 ∧ CellsT own2 (1, 0, 10) w2 wr.heap.size #[Value.int IntKind.i64 b.client, Value.int IntKind.i64 b.verb, Value.int IntKind.i64 b.place, Value.int IntKind.u8 b.letter] 94 ∧ Upd own own2 (fun t => t.1 = 1 ∧ t.2.1 = 0 ∧ 7 ≤ t.2.2 ∧ t.2.2 ≤ 9) w w2 ∧ (∀ k, k < w.heap.size → w2.heap[k]? = w.heap[k]?)) := by
    apply hide
    intro w1 w2 own2 x hb1 hu2
    have U1 := (Upd.of_below (retag own' wr.heap.size (1, 0, 10)) (fun _ => False) (by rw [World.size_alloc]; exact hb1)).alloc x
    have U2 := V.trans U1
    have U3 := (U2.mono (may' := fun t => t = (1, 0, 7)) (fun _ h => h.elim)).trans hu2
    refine ⟨c1.upd U3 (by simp), c2.upd U3 (by simp), (CM.upd U1 (fun h => h)).upd hu2 (by simp), hU.trans (U3.mono (by rintro t rfl; simp)), fun k hk => ?_⟩
    have hk1 : k < wr.heap.size := by have := hU.size; omega
    exact (U3.block k hk1 (by rw [hU.tags k hk, unhide HOW k]; simp)).trans (hBl k hk)
   have HFIN : Hid (∀ w2 w3 own2 ba' bc', OwnsT own2 (1, 0, 7) w2 94 4 (.slice ba' (j + 1) bc') (j + 1) (bj.flatMap ROp.cells ++ #[Value.int IntKind.i64 (b.turn oj).client, Value.int IntKind.i64 (b.turn oj).verb, Value.int IntKind.i64 (b.turn oj).place, Value.int IntKind.u8 (b.turn oj).letter].toList) → CellsT own2 (1, 0, 8) w2 w.heap.size #[Value.int IntKind.i64 oj.client, Value.int IntKind.i64 oj.verb, Value.int IntKind.i64 oj.place, Value.int IntKind.u8 oj.letter] 94 → CellsT own2 (1, 0, 9) w2 (w.heap.size + 1) #[Value.int IntKind.i64 0, Value.int IntKind.i64 0, Value.int IntKind.i64 0, Value.int IntKind.u8 0] 94 → Upd own own2 (fun t => t.1 = 1 ∧ t.2.1 = 0 ∧ 7 ≤ t.2.2 ∧ t.2.2 ≤ 9) w w2 → (∀ k, k < w.heap.size → w2.heap[k]? = w.heap[k]?) → Below w2.heap.size w2 w3 →
     ∃ (j' : Nat) (oj' : ROp) (bj' : List ROp) (own' : Nat → Tag) (ba : Option Addr) (bc : Nat), j' ≤ bs.length ∧ Value.slice ba' (j + 1) bc' = .slice ba j' bc ∧ Value.int .i64 ((j : Int) + 1) = .int .i64 j' ∧ (turnAll o bs).1 = (turnAll oj' (bs.drop j')).1 ∧ (turnAll o bs).2 = bj' ++ (turnAll oj' (bs.drop j')).2 ∧ bj'.length = j' ∧ oj'.Norm ∧ oj'.place ≤ 1000 + j' ∧ oj'.client = o.client ∧
     OwnsT own' (1, 0, 7) ((((w3.setCell ⟨w.heap.size, 0, none⟩ (.int .i64 (oj.turn b).client)).setCell ⟨w.heap.size, 1, none⟩ (.int .i64 (oj.turn b).verb)).setCell ⟨w.heap.size, 2, none⟩ (.int .i64 (oj.turn b).place)).setCell ⟨w.heap.size, 3, none⟩ (.int .u8 (oj.turn b).letter)) 94 4 (.slice ba j' bc) j' (bj'.flatMap ROp.cells) ∧
     CellsT own' (1, 0, 8) ((((w3.setCell ⟨w.heap.size, 0, none⟩ (.int .i64 (oj.turn b).client)).setCell ⟨w.heap.size, 1, none⟩ (.int .i64 (oj.turn b).verb)).setCell ⟨w.heap.size, 2, none⟩ (.int .i64 (oj.turn b).place)).setCell ⟨w.heap.size, 3, none⟩ (.int .u8 (oj.turn b).letter)) w.heap.size #[Value.int IntKind.i64 oj'.client, Value.int IntKind.i64 oj'.verb, Value.int IntKind.i64 oj'.place, Value.int IntKind.u8 oj'.letter] 94 ∧
     CellsT own' (1, 0, 9) ((((w3.setCell ⟨w.heap.size, 0, none⟩ (.int .i64 (oj.turn b).client)).setCell ⟨w.heap.size, 1, none⟩ (.int .i64 (oj.turn b).verb)).setCell ⟨w.heap.size, 2, none⟩ (.int .i64 (oj.turn b).place)).setCell ⟨w.heap.size, 3, none⟩ (.int .u8 (oj.turn b).letter)) (w.heap.size + 1) #[Value.int IntKind.i64 0, Value.int IntKind.i64 0, Value.int IntKind.i64 0, Value.int IntKind.u8 0] 94 ∧
     Upd own own' (fun t => t.1 = 1 ∧ t.2.1 = 0 ∧ 7 ≤ t.2.2 ∧ t.2.2 ≤ 9) w ((((w3.setCell ⟨w.heap.size, 0, none⟩ (.int .i64 (oj.turn b).client)).setCell ⟨w.heap.size, 1, none⟩ (.int .i64 (oj.turn b).verb)).setCell ⟨w.heap.size, 2, none⟩ (.int .i64 (oj.turn b).place)).setCell ⟨w.heap.size, 3, none⟩ (.int .u8 (oj.turn b).letter)) ∧
     (∀ k, k < w.heap.size → ((((w3.setCell ⟨w.heap.size, 0, none⟩ (.int .i64 (oj.turn b).client)).setCell ⟨w.heap.size, 1, none⟩ (.int .i64 (oj.turn b).verb)).setCell ⟨w.heap.size, 2, none⟩ (.int .i64 (oj.turn b).place)).setCell ⟨w.heap.size, 3, none⟩ (.int .u8 (oj.turn b).letter)).heap[k]? = w.heap[k]?)) := by
    apply hide
    intro w2 w3 own2 ba' bc' p1 p2 p3 p4 p5 p6
    have hdrop : bs.drop j = b :: bs.drop (j + 1) := by
     rw [List.drop_eq_getElem_cons hlt]
     congr 1
     rw [List.getElem?_eq_getElem hlt] at hbj; simpa using hbj
    rw [hdrop, turnAll] at e1 e2
    have U : Upd own2 own2 (fun _ => False) w2 w3 := Upd.of_below own2 _ p6
    have q2 := p2.upd U (fun h => h)
    have U4 : Upd own2 own2 (fun t => t = (1, 0, 8)) w3 ((((w3.setCell ⟨w.heap.size, 0, none⟩ (.int .i64 (oj.turn b).client)).setCell ⟨w.heap.size, 1, none⟩ (.int .i64 (oj.turn b).verb)).setCell ⟨w.heap.size, 2, none⟩ (.int .i64 (oj.turn b).place)).setCell ⟨w.heap.size, 3, none⟩ (.int .u8 (oj.turn b).letter)) :=
     Upd.setCell (p := ⟨w.heap.size, 3, none⟩) (Upd.setCell (p := ⟨w.heap.size, 2, none⟩) (Upd.setCell (p := ⟨w.heap.size, 1, none⟩) (Upd.setCell (p := ⟨w.heap.size, 0, none⟩) (Upd.refl own2 _ w3) q2.2 _) q2.2 _) q2.2 _) q2.2 _
    refine ⟨j + 1, oj.turn b, bj ++ [b.turn oj], own2, ba', bc', by omega, rfl, by simp, e1, by rw [e2]; simp, by simp [e3], k1.turn hnb, ?_, by rw [ROp.turn_client]; exact k3, ?_, ?_, ?_, ?_, ?_⟩
    ·have := ROp.turn_place oj b (by obtain ⟨_, h⟩ := k1; omega)
     omega
    ·have := (p1.upd U (fun h => h)).upd U4 (by simp)
     rw [List.flatMap_append]; simpa [ROp.cells] using this
    ·exact (((q2.set 0 _).set 1 _).set 2 _).set 3 _
    ·exact (p3.upd U (fun h => h)).upd U4 (by simp)
    ·exact p4.trans ((U.mono (fun _ h => h.elim)).trans (U4.mono (by rintro t rfl; simp)))
    ·intro k hk
     have hk2 : k < w2.heap.size := by have := p4.size; omega
     have hk3 : k < w3.heap.size := by have := p6.size; omega
     have t2 : own2 k = (0, 0, 0) := by rw [p4.tags k hk]; exact unhide HOW k
     exact (U4.block k hk3 (by rw [t2]; simp)).trans ((p6.block k hk2).trans (p5 k hk))
   clear hBl hU e1 e2 e3 k1 k3 nb hnb cb c1 c2 o1 hbj HM HB HO V CM HOW zz
   have hfit1 : j + 1 ≤ maxLen := by simp [maxLen]; omega
   have hfit2 : (j + 1) * 32 ≤ 140737488355328 := by omega
   generalize hNN : w.heap.size = N at *
   clear hNN
   go_wp2_with (first
    | (go_at_call 109; with_reducible refine (unhide HT1 _).mono ?_; rintro e w1 ⟨rfl, hb1⟩)
    | (at_builtin; go_must (refine wpList_append_T _ rfl (.tmp 15) (.tmp 19) 82 rfl 94 i2 _ 4 32 Try.underlying82 hj hy0 hy1 hy2 rfl (by omega) _ j _ (retag own' wr.heap.size (1, 0, 10)) (1, 0, 7) rfl (unhide HAP _ _ (by simpa using hb1)) ⟨w1.heap.size, 0, none⟩ 1 1 #[Value.int IntKind.i64 (b.turn oj).client, Value.int IntKind.i64 (b.turn oj).verb, Value.int IntKind.i64 (b.turn oj).place, Value.int IntKind.u8 (b.turn oj).letter].toList rfl rfl (World.news_of_block (cs := #[Value.int IntKind.i64 (b.turn oj).client, Value.int IntKind.i64 (b.turn oj).verb, Value.int IntKind.i64 (b.turn oj).place, Value.int IntKind.u8 (b.turn oj).letter]) (t := 94) (fr := (0, 0)) (heap_alloc_new w1 _)) (by simp [Value.oneCell']) hfit1 hfit2 ?_); intro v2 w2 hown2 hu2; obtain ⟨ba2, bc2, rfl, _, _⟩ := hown2.shape; obtain ⟨D1, D2, D3, D4, D5⟩ := unhide HX _ _ _ _ (by simpa using hb1) hu2; have x0 := D1.cell 0; have x1 := D1.cell 1; have x2 := D1.cell 2; have x3 := D1.cell 3; have s0 := D3.cell 0; have s1 := D3.cell 1; have s2 := D3.cell 2; have s3 := D3.cell 3; simp only [List.getElem?_toArray, List.getElem?_cons_zero, List.getElem?_cons_succ] at x0 x1 x2 x3 s0 s1 s2 s3; have HFN := hide (fun w3 hb3 => unhide HFIN w2 w3 _ _ _ hown2 D1 D2 D4 D5 hb3); have HD1 := hide D1; clear D1 D2 D3 D4 D5 hown2 hu2)
    | (go_at_call 109; with_reducible refine (unhide HT2 _).mono ?_; rintro e w3 ⟨rfl, hb3⟩; have G1 := (unhide HD1).upd (Upd.of_below _ (fun _ => False) hb3) (fun h => h); have r0 := G1.cell 0; have r1 := G1.cell 1; have r2 := G1.cell 2; have r3 := G1.cell 3; simp only [List.getElem?_toArray, List.getElem?_cons_zero, List.getElem?_cons_succ] at r0 r1 r2 r3; have f0 := G1.frozen 0; have f1 := G1.frozen 1; have f2 := G1.frozen 2; have f3 := G1.frozen 3; clear G1))
   go_roundw
   case rel => exact unhide HFN w3 hb3
   case measure => simp [intOf]; omega
  ·have hlt' : ¬ (j : Int) < (bs.length : Int) := by omega
   obtain rfl : j = bs.length := by omega
   have hk3 := hide k3
   clear k3
   rw [List.drop_length, turnAll] at e1 e2
   simp only [List.append_nil] at e2
   have HBL := hide hBl
   have HU := hide hU
   have y0 := c1.cell 0
   have y1 := c1.cell 1
   have y2 := c1.cell 2
   have y3 := c1.cell 3
   have y4 := c2.cell 0
   have y5 := c2.cell 1
   have y6 := c2.cell 2
   have y7 := c2.cell 3
   simp only [List.getElem?_toArray, List.getElem?_cons_zero, List.getElem?_cons_succ] at y0 y1 y2 y3 y4 y5 y6 y7
   have f0 := c2.frozen 0
   have f1 := c2.frozen 1
   have f2 := c2.frozen 2
   have f3 := c2.frozen 3
   have hN := c2.lt
   have E1 := hide e1
   have E2 := hide e2
   have HO1 := hide o1
   have HC2 := hide c2
   clear hBl hU e1 e2 o1 c1 c2 HM HB HO
   go_wp2_with fail
   have G := ((((unhide HC2).set 0 (.int .i64 oj.client)).set 1 (.int .i64 oj.verb)).set 2 (.int .i64 oj.place)).set 3 (.int .u8 oj.letter)
   refine bodyPost_ret (results_box_tmp (P := Try.prog) Try.results108 _ _ (w.heap.size + 1) 94 _ (0, 0) _ rfl G.1 Try.underlying94 rfl Try.size94) rfl ?_
   have q2 := (unhide HC2).2
   have U4 : Upd own' own' (fun t => t = (1, 0, 9)) wr ((((wr.setCell ⟨w.heap.size + 1, 0, none⟩ (.int .i64 oj.client)).setCell ⟨w.heap.size + 1, 1, none⟩ (.int .i64 oj.verb)).setCell ⟨w.heap.size + 1, 2, none⟩ (.int .i64 oj.place)).setCell ⟨w.heap.size + 1, 3, none⟩ (.int .u8 oj.letter)) :=
    Upd.setCell (p := ⟨w.heap.size + 1, 3, none⟩) (Upd.setCell (p := ⟨w.heap.size + 1, 2, none⟩) (Upd.setCell (p := ⟨w.heap.size + 1, 1, none⟩) (Upd.setCell (p := ⟨w.heap.size + 1, 0, none⟩) (Upd.refl own' _ wr) q2 _) q2 _) q2 _) q2 _
   have O4 := (unhide HO1).upd U4 (by simp)
   have hUU := unhide HU
   have hge : ∀ g, (Value.slice ba bs.length bc).ownBlock = some g → w.heap.size ≤ g := by
    intro g hv
    by_cases hgl : w.heap.size ≤ g
    ·exact hgl
    ·have h1 := O4.2 g hv
     have h2 := hUU.tags g (by omega)
     rw [unhide HOW g, h1] at h2
     simp at h2
   refine ⟨.slice ba bs.length bc, by rw [E1.out]; rfl, ⟨by rw [E2.out]; exact O4.1.1, O4.1.2.imp id fun ⟨g, cap, cur, hv, _, rest⟩ => ⟨g, cap, cur, hv, hge g (by rw [hv]; rfl), by rw [E2.out]; exact rest⟩⟩, ?_⟩
   ·refine ⟨U4.os.trans hUU.os, U4.tape.trans hUU.tape, U4.output.trans hUU.output, Nat.le_trans hUU.size U4.size, fun k hk => ?_⟩
    have hk2 : k < wr.heap.size := Nat.lt_of_lt_of_le hk hUU.size
    exact (U4.block k hk2 (by rw [hUU.tags k hk, unhide HOW k]; simp)).trans (unhide HBL k hk)
end Go.Proofs.Ytemkgikncmhoaaa

