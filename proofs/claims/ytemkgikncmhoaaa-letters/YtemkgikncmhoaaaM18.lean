import Derived.Test.YtemkgikncmhoaaaM15
import Derived.Test.YtemkgikncmhoaaaM17
import Derived.Deep.RegionHeld3
/-
  weave: operation.turned of two cuts; turned of any two. Own work.
-/
namespace Go.Proofs.Ytemkgikncmhoaaa
open Go.RowKit
attribute [local go_sem] eqKinds eqOp

/-- Two boxes, in a world and behind. -/
theorem boxes4 {W : World} {N : Nat} {a0 a1 a2 a3 b0 b1 b2 b3 : Value} {t u : TypeId} (hA : W.heap[N]? = some (.cells #[a0, a1, a2, a3] t (0, 0))) (hB : W.heap[N + 1]? = some (.cells #[b0, b1, b2, b3] u (0, 0))) {W' : World} (hb : ∀ k, k < N + 2 → W'.heap[k]? = W.heap[k]?) :
    W'.cell? ⟨N, 0, none⟩ = some a0 ∧ W'.cell? ⟨N, 1, none⟩ = some a1 ∧ W'.cell? ⟨N, 2, none⟩ = some a2 ∧ W'.cell? ⟨N, 3, none⟩ = some a3 ∧ W'.cell? ⟨N + 1, 0, none⟩ = some b0 ∧ W'.cell? ⟨N + 1, 1, none⟩ = some b1 ∧ W'.cell? ⟨N + 1, 2, none⟩ = some b2 ∧ W'.cell? ⟨N + 1, 3, none⟩ = some b3 := by
  have h1 := (hb N (by omega)).trans hA
  have h2 := (hb (N + 1) (by omega)).trans hB
  refine ⟨?_, ?_, ?_, ?_, ?_, ?_, ?_, ?_⟩ <;> simp [World.cell?, h1, h2]

set_option maxRecDepth 100000 in
set_option maxHeartbeats 1600000 in
theorem xt_cc1 (c d p q l m : Int) (w : World) (h : p = q) (h2 : l = m) :
    Calls Try.prog 109 #[.agg #[.int .i64 c, .int .i64 2, .int .i64 p, .int .u8 l], .agg #[.int .i64 d, .int .i64 2, .int .i64 q, .int .u8 m]] w fun e w' => e = .returned (⟨c, 0, 0, 0⟩ : ROp).val ∧ Below w.heap.size w w' := by
  subst h
  subst h2
  have hA : (((w.alloc (Obj.cells #[Value.int IntKind.i64 c, Value.int IntKind.i64 2, Value.int IntKind.i64 p, Value.int IntKind.u8 l] 94)).alloc (Obj.cells #[Value.int IntKind.i64 d, Value.int IntKind.i64 2, Value.int IntKind.i64 p, Value.int IntKind.u8 l] 94)).alloc (Obj.cells #[Value.int IntKind.i64 0, Value.int IntKind.i64 0, Value.int IntKind.i64 0, Value.int IntKind.u8 0] 94)).heap[w.heap.size]? = some (.cells #[Value.int IntKind.i64 c, Value.int IntKind.i64 2, Value.int IntKind.i64 p, Value.int IntKind.u8 l] 94 (0, 0)) := (Below.heap_alloc _ _ _ (by simp; omega)).trans ((Below.heap_alloc _ _ _ (by simp)).trans (heap_alloc_new w _))
  have hB : (((w.alloc (Obj.cells #[Value.int IntKind.i64 c, Value.int IntKind.i64 2, Value.int IntKind.i64 p, Value.int IntKind.u8 l] 94)).alloc (Obj.cells #[Value.int IntKind.i64 d, Value.int IntKind.i64 2, Value.int IntKind.i64 p, Value.int IntKind.u8 l] 94)).alloc (Obj.cells #[Value.int IntKind.i64 0, Value.int IntKind.i64 0, Value.int IntKind.i64 0, Value.int IntKind.u8 0] 94)).heap[w.heap.size + 1]? = some (.cells #[Value.int IntKind.i64 d, Value.int IntKind.i64 2, Value.int IntKind.i64 p, Value.int IntKind.u8 l] 94 (0, 0)) := (Below.heap_alloc _ _ _ (by simp)).trans (by have := heap_alloc_new (w.alloc (Obj.cells #[Value.int IntKind.i64 c, Value.int IntKind.i64 2, Value.int IntKind.i64 p, Value.int IntKind.u8 l] 94)) (Obj.cells #[Value.int IntKind.i64 d, Value.int IntKind.i64 2, Value.int IntKind.i64 p, Value.int IntKind.u8 l] 94); rwa [World.size_alloc] at this)
  have hC : (((w.alloc (Obj.cells #[Value.int IntKind.i64 c, Value.int IntKind.i64 2, Value.int IntKind.i64 p, Value.int IntKind.u8 l] 94)).alloc (Obj.cells #[Value.int IntKind.i64 d, Value.int IntKind.i64 2, Value.int IntKind.i64 p, Value.int IntKind.u8 l] 94)).alloc (Obj.cells #[Value.int IntKind.i64 0, Value.int IntKind.i64 0, Value.int IntKind.i64 0, Value.int IntKind.u8 0] 94)).heap[w.heap.size + 1 + 1]? = some (.cells #[Value.int IntKind.i64 0, Value.int IntKind.i64 0, Value.int IntKind.i64 0, Value.int IntKind.u8 0] 94 (0, 0)) := by have := heap_alloc_new ((w.alloc (Obj.cells #[Value.int IntKind.i64 c, Value.int IntKind.i64 2, Value.int IntKind.i64 p, Value.int IntKind.u8 l] 94)).alloc (Obj.cells #[Value.int IntKind.i64 d, Value.int IntKind.i64 2, Value.int IntKind.i64 p, Value.int IntKind.u8 l] 94)) (Obj.cells #[Value.int IntKind.i64 0, Value.int IntKind.i64 0, Value.int IntKind.i64 0, Value.int IntKind.u8 0] 94); rwa [World.size_alloc, World.size_alloc] at this
  have hsz : (((w.alloc (Obj.cells #[Value.int IntKind.i64 c, Value.int IntKind.i64 2, Value.int IntKind.i64 p, Value.int IntKind.u8 l] 94)).alloc (Obj.cells #[Value.int IntKind.i64 d, Value.int IntKind.i64 2, Value.int IntKind.i64 p, Value.int IntKind.u8 l] 94)).alloc (Obj.cells #[Value.int IntKind.i64 0, Value.int IntKind.i64 0, Value.int IntKind.i64 0, Value.int IntKind.u8 0] 94)).heap.size > w.heap.size + 1 + 1 := by simp
  have HBW : Hid (Below w.heap.size w (((w.alloc (Obj.cells #[Value.int IntKind.i64 c, Value.int IntKind.i64 2, Value.int IntKind.i64 p, Value.int IntKind.u8 l] 94)).alloc (Obj.cells #[Value.int IntKind.i64 d, Value.int IntKind.i64 2, Value.int IntKind.i64 p, Value.int IntKind.u8 l] 94)).alloc (Obj.cells #[Value.int IntKind.i64 0, Value.int IntKind.i64 0, Value.int IntKind.i64 0, Value.int IntKind.u8 0] 94))) := hide (((Below.refl _ _).alloc (Nat.le_refl _) _).alloc (by simp) _ |>.alloc (by simp; omega) _)
  go_enter Try.func109, Try.ntmps109
  go_wp2_with fail
  have hsz' := hsz
  have K0 : Hid (∀ W' : World, (∀ k, k < w.heap.size + 2 → W'.heap[k]? = (((w.alloc (Obj.cells #[Value.int IntKind.i64 c, Value.int IntKind.i64 2, Value.int IntKind.i64 p, Value.int IntKind.u8 l] 94)).alloc (Obj.cells #[Value.int IntKind.i64 d, Value.int IntKind.i64 2, Value.int IntKind.i64 p, Value.int IntKind.u8 l] 94)).alloc (Obj.cells #[Value.int IntKind.i64 0, Value.int IntKind.i64 0, Value.int IntKind.i64 0, Value.int IntKind.u8 0] 94)).heap[k]?) → W'.cell? ⟨w.heap.size, 0, none⟩ = some (Value.int .i64 c) ∧ W'.cell? ⟨w.heap.size, 1, none⟩ = some (Value.int .i64 2) ∧ W'.cell? ⟨w.heap.size, 2, none⟩ = some (Value.int .i64 p) ∧ W'.cell? ⟨w.heap.size, 3, none⟩ = some (Value.int .u8 l) ∧ W'.cell? ⟨w.heap.size + 1, 0, none⟩ = some (Value.int .i64 d) ∧ W'.cell? ⟨w.heap.size + 1, 1, none⟩ = some (Value.int .i64 2) ∧ W'.cell? ⟨w.heap.size + 1, 2, none⟩ = some (Value.int .i64 p) ∧ W'.cell? ⟨w.heap.size + 1, 3, none⟩ = some (Value.int .u8 l)) := hide fun W' h => boxes4 hA hB h
  have K1 : Hid (∀ o o', ∀ k, k < w.heap.size + 2 → (((((w.alloc (Obj.cells #[Value.int IntKind.i64 c, Value.int IntKind.i64 2, Value.int IntKind.i64 p, Value.int IntKind.u8 l] 94)).alloc (Obj.cells #[Value.int IntKind.i64 d, Value.int IntKind.i64 2, Value.int IntKind.i64 p, Value.int IntKind.u8 l] 94)).alloc (Obj.cells #[Value.int IntKind.i64 0, Value.int IntKind.i64 0, Value.int IntKind.i64 0, Value.int IntKind.u8 0] 94)).alloc o).alloc o').heap[k]? = (((w.alloc (Obj.cells #[Value.int IntKind.i64 c, Value.int IntKind.i64 2, Value.int IntKind.i64 p, Value.int IntKind.u8 l] 94)).alloc (Obj.cells #[Value.int IntKind.i64 d, Value.int IntKind.i64 2, Value.int IntKind.i64 p, Value.int IntKind.u8 l] 94)).alloc (Obj.cells #[Value.int IntKind.i64 0, Value.int IntKind.i64 0, Value.int IntKind.i64 0, Value.int IntKind.u8 0] 94)).heap[k]?) := hide fun o o' k hk => (Below.heap_alloc _ _ _ (by rw [World.size_alloc]; omega)).trans (Below.heap_alloc _ _ _ (by omega))
  clear hA hB hC hsz hsz'
  go_region_held3 (fun w' => w'.cell? ⟨w.heap.size, 0, none⟩ = some (Value.int .i64 c) ∧ w'.cell? ⟨w.heap.size, 1, none⟩ = some (Value.int .i64 2) ∧ w'.cell? ⟨w.heap.size, 2, none⟩ = some (Value.int .i64 p) ∧ w'.cell? ⟨w.heap.size, 3, none⟩ = some (Value.int .u8 l) ∧ w'.cell? ⟨w.heap.size + 1, 0, none⟩ = some (Value.int .i64 d) ∧ w'.cell? ⟨w.heap.size + 1, 1, none⟩ = some (Value.int .i64 2) ∧ w'.cell? ⟨w.heap.size + 1, 2, none⟩ = some (Value.int .i64 p) ∧ w'.cell? ⟨w.heap.size + 1, 3, none⟩ = some (Value.int .u8 l)) (first | exact unhide K0 _ (fun _ _ => rfl) | exact unhide K0 _ (unhide K1 _ _)) (first | (go_at_call 110; refine (xof _ _ _ _ _ _).mono ?_; rintro e w2 ⟨rfl, hw2⟩; obtain rfl := hw2.symm))
  go_wp2
  go_returns
  exact ⟨rfl, by go_grown⟩

set_option maxRecDepth 100000 in
set_option maxHeartbeats 1600000 in
theorem xt_cc2 (c d p q l m : Int) (w : World) (hp : -1000000 ≤ p) (hp2 : p ≤ 1000000) (h : q < p) :
    Calls Try.prog 109 #[.agg #[.int .i64 c, .int .i64 2, .int .i64 p, .int .u8 l], .agg #[.int .i64 d, .int .i64 2, .int .i64 q, .int .u8 m]] w fun e w' => e = .returned (⟨c, 2, p - 1, l⟩ : ROp).val ∧ Below w.heap.size w w' := by
  have h2 : (p == q) = false := by rw [beq_eq_false_iff_ne]; omega
  have hA : (((w.alloc (Obj.cells #[Value.int IntKind.i64 c, Value.int IntKind.i64 2, Value.int IntKind.i64 p, Value.int IntKind.u8 l] 94)).alloc (Obj.cells #[Value.int IntKind.i64 d, Value.int IntKind.i64 2, Value.int IntKind.i64 q, Value.int IntKind.u8 m] 94)).alloc (Obj.cells #[Value.int IntKind.i64 0, Value.int IntKind.i64 0, Value.int IntKind.i64 0, Value.int IntKind.u8 0] 94)).heap[w.heap.size]? = some (.cells #[Value.int IntKind.i64 c, Value.int IntKind.i64 2, Value.int IntKind.i64 p, Value.int IntKind.u8 l] 94 (0, 0)) := (Below.heap_alloc _ _ _ (by simp; omega)).trans ((Below.heap_alloc _ _ _ (by simp)).trans (heap_alloc_new w _))
  have hB : (((w.alloc (Obj.cells #[Value.int IntKind.i64 c, Value.int IntKind.i64 2, Value.int IntKind.i64 p, Value.int IntKind.u8 l] 94)).alloc (Obj.cells #[Value.int IntKind.i64 d, Value.int IntKind.i64 2, Value.int IntKind.i64 q, Value.int IntKind.u8 m] 94)).alloc (Obj.cells #[Value.int IntKind.i64 0, Value.int IntKind.i64 0, Value.int IntKind.i64 0, Value.int IntKind.u8 0] 94)).heap[w.heap.size + 1]? = some (.cells #[Value.int IntKind.i64 d, Value.int IntKind.i64 2, Value.int IntKind.i64 q, Value.int IntKind.u8 m] 94 (0, 0)) := (Below.heap_alloc _ _ _ (by simp)).trans (by have := heap_alloc_new (w.alloc (Obj.cells #[Value.int IntKind.i64 c, Value.int IntKind.i64 2, Value.int IntKind.i64 p, Value.int IntKind.u8 l] 94)) (Obj.cells #[Value.int IntKind.i64 d, Value.int IntKind.i64 2, Value.int IntKind.i64 q, Value.int IntKind.u8 m] 94); rwa [World.size_alloc] at this)
  have hC : (((w.alloc (Obj.cells #[Value.int IntKind.i64 c, Value.int IntKind.i64 2, Value.int IntKind.i64 p, Value.int IntKind.u8 l] 94)).alloc (Obj.cells #[Value.int IntKind.i64 d, Value.int IntKind.i64 2, Value.int IntKind.i64 q, Value.int IntKind.u8 m] 94)).alloc (Obj.cells #[Value.int IntKind.i64 0, Value.int IntKind.i64 0, Value.int IntKind.i64 0, Value.int IntKind.u8 0] 94)).heap[w.heap.size + 1 + 1]? = some (.cells #[Value.int IntKind.i64 0, Value.int IntKind.i64 0, Value.int IntKind.i64 0, Value.int IntKind.u8 0] 94 (0, 0)) := by have := heap_alloc_new ((w.alloc (Obj.cells #[Value.int IntKind.i64 c, Value.int IntKind.i64 2, Value.int IntKind.i64 p, Value.int IntKind.u8 l] 94)).alloc (Obj.cells #[Value.int IntKind.i64 d, Value.int IntKind.i64 2, Value.int IntKind.i64 q, Value.int IntKind.u8 m] 94)) (Obj.cells #[Value.int IntKind.i64 0, Value.int IntKind.i64 0, Value.int IntKind.i64 0, Value.int IntKind.u8 0] 94); rwa [World.size_alloc, World.size_alloc] at this
  have hsz : (((w.alloc (Obj.cells #[Value.int IntKind.i64 c, Value.int IntKind.i64 2, Value.int IntKind.i64 p, Value.int IntKind.u8 l] 94)).alloc (Obj.cells #[Value.int IntKind.i64 d, Value.int IntKind.i64 2, Value.int IntKind.i64 q, Value.int IntKind.u8 m] 94)).alloc (Obj.cells #[Value.int IntKind.i64 0, Value.int IntKind.i64 0, Value.int IntKind.i64 0, Value.int IntKind.u8 0] 94)).heap.size > w.heap.size + 1 + 1 := by simp
  have HBW : Hid (Below w.heap.size w (((w.alloc (Obj.cells #[Value.int IntKind.i64 c, Value.int IntKind.i64 2, Value.int IntKind.i64 p, Value.int IntKind.u8 l] 94)).alloc (Obj.cells #[Value.int IntKind.i64 d, Value.int IntKind.i64 2, Value.int IntKind.i64 q, Value.int IntKind.u8 m] 94)).alloc (Obj.cells #[Value.int IntKind.i64 0, Value.int IntKind.i64 0, Value.int IntKind.i64 0, Value.int IntKind.u8 0] 94))) := hide (((Below.refl _ _).alloc (Nat.le_refl _) _).alloc (by simp) _ |>.alloc (by simp; omega) _)
  go_enter Try.func109, Try.ntmps109
  go_wp2_with fail
  have hsz' := hsz
  have K0 : Hid (∀ W' : World, (∀ k, k < w.heap.size + 2 → W'.heap[k]? = (((w.alloc (Obj.cells #[Value.int IntKind.i64 c, Value.int IntKind.i64 2, Value.int IntKind.i64 p, Value.int IntKind.u8 l] 94)).alloc (Obj.cells #[Value.int IntKind.i64 d, Value.int IntKind.i64 2, Value.int IntKind.i64 q, Value.int IntKind.u8 m] 94)).alloc (Obj.cells #[Value.int IntKind.i64 0, Value.int IntKind.i64 0, Value.int IntKind.i64 0, Value.int IntKind.u8 0] 94)).heap[k]?) → W'.cell? ⟨w.heap.size, 0, none⟩ = some (Value.int .i64 c) ∧ W'.cell? ⟨w.heap.size, 1, none⟩ = some (Value.int .i64 2) ∧ W'.cell? ⟨w.heap.size, 2, none⟩ = some (Value.int .i64 p) ∧ W'.cell? ⟨w.heap.size, 3, none⟩ = some (Value.int .u8 l) ∧ W'.cell? ⟨w.heap.size + 1, 0, none⟩ = some (Value.int .i64 d) ∧ W'.cell? ⟨w.heap.size + 1, 1, none⟩ = some (Value.int .i64 2) ∧ W'.cell? ⟨w.heap.size + 1, 2, none⟩ = some (Value.int .i64 q) ∧ W'.cell? ⟨w.heap.size + 1, 3, none⟩ = some (Value.int .u8 m)) := hide fun W' h => boxes4 hA hB h
  have K1 : Hid (∀ o o', ∀ k, k < w.heap.size + 2 → (((((w.alloc (Obj.cells #[Value.int IntKind.i64 c, Value.int IntKind.i64 2, Value.int IntKind.i64 p, Value.int IntKind.u8 l] 94)).alloc (Obj.cells #[Value.int IntKind.i64 d, Value.int IntKind.i64 2, Value.int IntKind.i64 q, Value.int IntKind.u8 m] 94)).alloc (Obj.cells #[Value.int IntKind.i64 0, Value.int IntKind.i64 0, Value.int IntKind.i64 0, Value.int IntKind.u8 0] 94)).alloc o).alloc o').heap[k]? = (((w.alloc (Obj.cells #[Value.int IntKind.i64 c, Value.int IntKind.i64 2, Value.int IntKind.i64 p, Value.int IntKind.u8 l] 94)).alloc (Obj.cells #[Value.int IntKind.i64 d, Value.int IntKind.i64 2, Value.int IntKind.i64 q, Value.int IntKind.u8 m] 94)).alloc (Obj.cells #[Value.int IntKind.i64 0, Value.int IntKind.i64 0, Value.int IntKind.i64 0, Value.int IntKind.u8 0] 94)).heap[k]?) := hide fun o o' k hk => (Below.heap_alloc _ _ _ (by rw [World.size_alloc]; omega)).trans (Below.heap_alloc _ _ _ (by omega))
  clear hA hB hC hsz hsz'
  go_region_held3 (fun w' => w'.cell? ⟨w.heap.size, 0, none⟩ = some (Value.int .i64 c) ∧ w'.cell? ⟨w.heap.size, 1, none⟩ = some (Value.int .i64 2) ∧ w'.cell? ⟨w.heap.size, 2, none⟩ = some (Value.int .i64 p) ∧ w'.cell? ⟨w.heap.size, 3, none⟩ = some (Value.int .u8 l) ∧ w'.cell? ⟨w.heap.size + 1, 0, none⟩ = some (Value.int .i64 d) ∧ w'.cell? ⟨w.heap.size + 1, 1, none⟩ = some (Value.int .i64 2) ∧ w'.cell? ⟨w.heap.size + 1, 2, none⟩ = some (Value.int .i64 q) ∧ w'.cell? ⟨w.heap.size + 1, 3, none⟩ = some (Value.int .u8 m)) (first | exact unhide K0 _ (fun _ _ => rfl) | exact unhide K0 _ (unhide K1 _ _)) (first | (go_at_call 110; refine (xof _ _ _ _ _ _).mono ?_; rintro e w2 ⟨rfl, hw2⟩; obtain rfl := hw2.symm))
  go_wp2
  go_returns
  exact ⟨rfl, by go_grown⟩

set_option maxRecDepth 100000 in
set_option maxHeartbeats 1600000 in
theorem xt_cc3 (c d p q l m : Int) (w : World) (h : p < q) :
    Calls Try.prog 109 #[.agg #[.int .i64 c, .int .i64 2, .int .i64 p, .int .u8 l], .agg #[.int .i64 d, .int .i64 2, .int .i64 q, .int .u8 m]] w fun e w' => e = .returned (⟨c, 2, p, l⟩ : ROp).val ∧ Below w.heap.size w w' := by
  have h2 : (p == q) = false := by rw [beq_eq_false_iff_ne]; omega
  have h3 : ¬ q < p := by omega
  have hA : (((w.alloc (Obj.cells #[Value.int IntKind.i64 c, Value.int IntKind.i64 2, Value.int IntKind.i64 p, Value.int IntKind.u8 l] 94)).alloc (Obj.cells #[Value.int IntKind.i64 d, Value.int IntKind.i64 2, Value.int IntKind.i64 q, Value.int IntKind.u8 m] 94)).alloc (Obj.cells #[Value.int IntKind.i64 0, Value.int IntKind.i64 0, Value.int IntKind.i64 0, Value.int IntKind.u8 0] 94)).heap[w.heap.size]? = some (.cells #[Value.int IntKind.i64 c, Value.int IntKind.i64 2, Value.int IntKind.i64 p, Value.int IntKind.u8 l] 94 (0, 0)) := (Below.heap_alloc _ _ _ (by simp; omega)).trans ((Below.heap_alloc _ _ _ (by simp)).trans (heap_alloc_new w _))
  have hB : (((w.alloc (Obj.cells #[Value.int IntKind.i64 c, Value.int IntKind.i64 2, Value.int IntKind.i64 p, Value.int IntKind.u8 l] 94)).alloc (Obj.cells #[Value.int IntKind.i64 d, Value.int IntKind.i64 2, Value.int IntKind.i64 q, Value.int IntKind.u8 m] 94)).alloc (Obj.cells #[Value.int IntKind.i64 0, Value.int IntKind.i64 0, Value.int IntKind.i64 0, Value.int IntKind.u8 0] 94)).heap[w.heap.size + 1]? = some (.cells #[Value.int IntKind.i64 d, Value.int IntKind.i64 2, Value.int IntKind.i64 q, Value.int IntKind.u8 m] 94 (0, 0)) := (Below.heap_alloc _ _ _ (by simp)).trans (by have := heap_alloc_new (w.alloc (Obj.cells #[Value.int IntKind.i64 c, Value.int IntKind.i64 2, Value.int IntKind.i64 p, Value.int IntKind.u8 l] 94)) (Obj.cells #[Value.int IntKind.i64 d, Value.int IntKind.i64 2, Value.int IntKind.i64 q, Value.int IntKind.u8 m] 94); rwa [World.size_alloc] at this)
  have hC : (((w.alloc (Obj.cells #[Value.int IntKind.i64 c, Value.int IntKind.i64 2, Value.int IntKind.i64 p, Value.int IntKind.u8 l] 94)).alloc (Obj.cells #[Value.int IntKind.i64 d, Value.int IntKind.i64 2, Value.int IntKind.i64 q, Value.int IntKind.u8 m] 94)).alloc (Obj.cells #[Value.int IntKind.i64 0, Value.int IntKind.i64 0, Value.int IntKind.i64 0, Value.int IntKind.u8 0] 94)).heap[w.heap.size + 1 + 1]? = some (.cells #[Value.int IntKind.i64 0, Value.int IntKind.i64 0, Value.int IntKind.i64 0, Value.int IntKind.u8 0] 94 (0, 0)) := by have := heap_alloc_new ((w.alloc (Obj.cells #[Value.int IntKind.i64 c, Value.int IntKind.i64 2, Value.int IntKind.i64 p, Value.int IntKind.u8 l] 94)).alloc (Obj.cells #[Value.int IntKind.i64 d, Value.int IntKind.i64 2, Value.int IntKind.i64 q, Value.int IntKind.u8 m] 94)) (Obj.cells #[Value.int IntKind.i64 0, Value.int IntKind.i64 0, Value.int IntKind.i64 0, Value.int IntKind.u8 0] 94); rwa [World.size_alloc, World.size_alloc] at this
  have hsz : (((w.alloc (Obj.cells #[Value.int IntKind.i64 c, Value.int IntKind.i64 2, Value.int IntKind.i64 p, Value.int IntKind.u8 l] 94)).alloc (Obj.cells #[Value.int IntKind.i64 d, Value.int IntKind.i64 2, Value.int IntKind.i64 q, Value.int IntKind.u8 m] 94)).alloc (Obj.cells #[Value.int IntKind.i64 0, Value.int IntKind.i64 0, Value.int IntKind.i64 0, Value.int IntKind.u8 0] 94)).heap.size > w.heap.size + 1 + 1 := by simp
  have HBW : Hid (Below w.heap.size w (((w.alloc (Obj.cells #[Value.int IntKind.i64 c, Value.int IntKind.i64 2, Value.int IntKind.i64 p, Value.int IntKind.u8 l] 94)).alloc (Obj.cells #[Value.int IntKind.i64 d, Value.int IntKind.i64 2, Value.int IntKind.i64 q, Value.int IntKind.u8 m] 94)).alloc (Obj.cells #[Value.int IntKind.i64 0, Value.int IntKind.i64 0, Value.int IntKind.i64 0, Value.int IntKind.u8 0] 94))) := hide (((Below.refl _ _).alloc (Nat.le_refl _) _).alloc (by simp) _ |>.alloc (by simp; omega) _)
  go_enter Try.func109, Try.ntmps109
  go_wp2_with fail
  have hsz' := hsz
  have K0 : Hid (∀ W' : World, (∀ k, k < w.heap.size + 2 → W'.heap[k]? = (((w.alloc (Obj.cells #[Value.int IntKind.i64 c, Value.int IntKind.i64 2, Value.int IntKind.i64 p, Value.int IntKind.u8 l] 94)).alloc (Obj.cells #[Value.int IntKind.i64 d, Value.int IntKind.i64 2, Value.int IntKind.i64 q, Value.int IntKind.u8 m] 94)).alloc (Obj.cells #[Value.int IntKind.i64 0, Value.int IntKind.i64 0, Value.int IntKind.i64 0, Value.int IntKind.u8 0] 94)).heap[k]?) → W'.cell? ⟨w.heap.size, 0, none⟩ = some (Value.int .i64 c) ∧ W'.cell? ⟨w.heap.size, 1, none⟩ = some (Value.int .i64 2) ∧ W'.cell? ⟨w.heap.size, 2, none⟩ = some (Value.int .i64 p) ∧ W'.cell? ⟨w.heap.size, 3, none⟩ = some (Value.int .u8 l) ∧ W'.cell? ⟨w.heap.size + 1, 0, none⟩ = some (Value.int .i64 d) ∧ W'.cell? ⟨w.heap.size + 1, 1, none⟩ = some (Value.int .i64 2) ∧ W'.cell? ⟨w.heap.size + 1, 2, none⟩ = some (Value.int .i64 q) ∧ W'.cell? ⟨w.heap.size + 1, 3, none⟩ = some (Value.int .u8 m)) := hide fun W' h => boxes4 hA hB h
  have K1 : Hid (∀ o o', ∀ k, k < w.heap.size + 2 → (((((w.alloc (Obj.cells #[Value.int IntKind.i64 c, Value.int IntKind.i64 2, Value.int IntKind.i64 p, Value.int IntKind.u8 l] 94)).alloc (Obj.cells #[Value.int IntKind.i64 d, Value.int IntKind.i64 2, Value.int IntKind.i64 q, Value.int IntKind.u8 m] 94)).alloc (Obj.cells #[Value.int IntKind.i64 0, Value.int IntKind.i64 0, Value.int IntKind.i64 0, Value.int IntKind.u8 0] 94)).alloc o).alloc o').heap[k]? = (((w.alloc (Obj.cells #[Value.int IntKind.i64 c, Value.int IntKind.i64 2, Value.int IntKind.i64 p, Value.int IntKind.u8 l] 94)).alloc (Obj.cells #[Value.int IntKind.i64 d, Value.int IntKind.i64 2, Value.int IntKind.i64 q, Value.int IntKind.u8 m] 94)).alloc (Obj.cells #[Value.int IntKind.i64 0, Value.int IntKind.i64 0, Value.int IntKind.i64 0, Value.int IntKind.u8 0] 94)).heap[k]?) := hide fun o o' k hk => (Below.heap_alloc _ _ _ (by rw [World.size_alloc]; omega)).trans (Below.heap_alloc _ _ _ (by omega))
  clear hA hB hC hsz hsz'
  go_region_held3 (fun w' => w'.cell? ⟨w.heap.size, 0, none⟩ = some (Value.int .i64 c) ∧ w'.cell? ⟨w.heap.size, 1, none⟩ = some (Value.int .i64 2) ∧ w'.cell? ⟨w.heap.size, 2, none⟩ = some (Value.int .i64 p) ∧ w'.cell? ⟨w.heap.size, 3, none⟩ = some (Value.int .u8 l) ∧ w'.cell? ⟨w.heap.size + 1, 0, none⟩ = some (Value.int .i64 d) ∧ w'.cell? ⟨w.heap.size + 1, 1, none⟩ = some (Value.int .i64 2) ∧ w'.cell? ⟨w.heap.size + 1, 2, none⟩ = some (Value.int .i64 q) ∧ w'.cell? ⟨w.heap.size + 1, 3, none⟩ = some (Value.int .u8 m)) (first | exact unhide K0 _ (fun _ _ => rfl) | exact unhide K0 _ (unhide K1 _ _)) (first | (go_at_call 110; refine (xof _ _ _ _ _ _).mono ?_; rintro e w2 ⟨rfl, hw2⟩; obtain rfl := hw2.symm))
  go_wp2
  go_returns
  exact ⟨rfl, by go_grown⟩

/-- TURNED. -/
theorem xturned (a b : ROp) (w : World) (ha : a.Norm) (hb : b.Norm) (hab : a.client ≠ b.client) (h3 : a.place ≤ 1000000) :
    Calls Try.prog 109 #[a.val, b.val] w fun e w' => e = .returned (a.turn b).val ∧ Below w.heap.size w w' := by
  obtain ⟨c, va, p, l⟩ := a
  obtain ⟨d, vb, q, m⟩ := b
  obtain ⟨_, h1⟩ := ha
  obtain ⟨_, g1⟩ := hb
  dsimp only at h1 h3 g1 hab
  have h2 : -1000000 ≤ p := by omega
  unfold ROp.val
  dsimp only
  by_cases h0 : va = 0
  · subst h0
    rw [show (⟨c, 0, p, l⟩ : ROp).turn ⟨d, vb, q, m⟩ = ⟨c, 0, p, l⟩ from turn_nop _ _ _ _]
    exact xt_w0 c d p q l m vb w
  by_cases g0 : vb = 0
  · subst g0
    rw [show (⟨c, va, p, l⟩ : ROp).turn ⟨d, 0, q, m⟩ = ⟨c, va, p, l⟩ from turn_by_nop _ _ _ _]
    exact xt_w1 c d p q l m va w
  obtain rfl | rfl : va = 1 ∨ va = 2 := by omega
  · obtain rfl | rfl : vb = 1 ∨ vb = 2 := by omega
    · by_cases k1 : q < p
      · rw [show (⟨c, 1, p, l⟩ : ROp).turn ⟨d, 1, q, m⟩ = ⟨c, 1, p + 1, l⟩ from by simp [ROp.turn, k1]]
        exact xt_pp1 c d p q l m w h2 h3 k1
      · by_cases k2 : p = q
        · by_cases k3 : d < c
          · rw [show (⟨c, 1, p, l⟩ : ROp).turn ⟨d, 1, q, m⟩ = ⟨c, 1, p + 1, l⟩ from by simp [ROp.turn, k2, k3]]
            exact xt_pp2 c d p q l m w h2 h3 k2 (by omega)
          · rw [show (⟨c, 1, p, l⟩ : ROp).turn ⟨d, 1, q, m⟩ = ⟨c, 1, p, l⟩ from by simp [ROp.turn, k2, k3]]
            exact xt_pp3 c d p q l m w k2 (by omega)
        · rw [show (⟨c, 1, p, l⟩ : ROp).turn ⟨d, 1, q, m⟩ = ⟨c, 1, p, l⟩ from by simp [ROp.turn, k1, k2]]
          exact xt_pp4 c d p q l m w (by omega)
    · by_cases k1 : q < p
      · rw [show (⟨c, 1, p, l⟩ : ROp).turn ⟨d, 2, q, m⟩ = ⟨c, 1, p - 1, l⟩ from by simp [ROp.turn, k1]]
        exact xt_pc1 c d p q l m w h2 h3 k1
      · rw [show (⟨c, 1, p, l⟩ : ROp).turn ⟨d, 2, q, m⟩ = ⟨c, 1, p, l⟩ from by simp [ROp.turn, k1]]
        exact xt_pc2 c d p q l m w k1
  · obtain rfl | rfl : vb = 1 ∨ vb = 2 := by omega
    · by_cases k1 : q ≤ p
      · rw [show (⟨c, 2, p, l⟩ : ROp).turn ⟨d, 1, q, m⟩ = ⟨c, 2, p + 1, l⟩ from by simp [ROp.turn, k1]]
        exact xt_cp1 c d p q l m w h2 h3 k1
      · rw [show (⟨c, 2, p, l⟩ : ROp).turn ⟨d, 1, q, m⟩ = ⟨c, 2, p, l⟩ from by simp [ROp.turn, k1]]
        exact xt_cp2 c d p q l m w k1
    · by_cases k2 : p = q
      · rw [show (⟨c, 2, p, l⟩ : ROp).turn ⟨d, 2, q, m⟩ = ⟨c, 0, 0, 0⟩ from by simp [ROp.turn, k2]]
        exact xt_cc1 c d p q l m w k2 (by omega)
      · by_cases k1 : q < p
        · rw [show (⟨c, 2, p, l⟩ : ROp).turn ⟨d, 2, q, m⟩ = ⟨c, 2, p - 1, l⟩ from by simp [ROp.turn, k1, k2]]
          exact xt_cc2 c d p q l m w h2 h3 k1
        · rw [show (⟨c, 2, p, l⟩ : ROp).turn ⟨d, 2, q, m⟩ = ⟨c, 2, p, l⟩ from by simp [ROp.turn, k1, k2]]
          exact xt_cc3 c d p q l m w (by omega)
end Go.Proofs.Ytemkgikncmhoaaa

