/-
  weaveref: Do, and small functions. Own work.
-/
import Derived.Test.YtemkgikncmhoaaaRefFly
namespace Go.Proofs.Ytemkgikncmhoaaa
open Go.RowKit
attribute [local go_sem ↓] Go.wp_at_zero Go.wp_at_succ

theorem bytes_put (t : List UInt8) (p : Nat) (x : UInt8) (_hp : p ≤ t.length) : (⟨t.toArray⟩ : ByteArray).extract 0 p ++ ⟨#[x]⟩ ++ (⟨t.toArray⟩ : ByteArray).extract p t.length = ⟨(t.take p ++ [x] ++ t.drop p).toArray⟩ := by
  apply ByteArray.ext
  apply Array.ext'
  simp [List.take_of_length_le]
theorem bytes_cut (t : List UInt8) (p : Nat) (_hp : p < t.length) : (⟨t.toArray⟩ : ByteArray).extract 0 p ++ (⟨t.toArray⟩ : ByteArray).extract (p + 1) t.length = ⟨(t.take p ++ t.drop (p + 1)).toArray⟩ := by
  apply ByteArray.ext
  apply Array.ext'
  simp [List.take_of_length_le]

set_option maxRecDepth 100000 in
set_option maxHeartbeats 800000 in
theorem do_put (t : List UInt8) (cl : Int) (p l : Nat) (w : World) (ht : t.length ≤ 1000) (hp : p ≤ t.length) (_hl : l ≤ 255) :
    Calls Try.prog 97 #[.string ⟨t.toArray⟩, .agg #[.int .i64 cl, .int .i64 1, .int .i64 p, .int .u8 l]] w fun e w' => e = .returned (.string ⟨(t.take p ++ [UInt8.ofNat l] ++ t.drop p).toArray⟩) ∧ Below w.heap.size w w' := by
  have hp0 : (0 : Int) ≤ (p : Int) := by omega
  have hp1 : (p : Int) ≤ (t.length : Int) := by omega
  go_enter Try.func97, Try.ntmps97
  go_wp2_with fail
  have U0 : Below w.heap.size w (w.alloc (Obj.cells #[Value.int IntKind.i64 cl, Value.int IntKind.i64 1, Value.int IntKind.i64 p, Value.int IntKind.u8 l] 149)) := (Below.refl _ _).alloc (Nat.le_refl _) _
  have q2 : (w.alloc (Obj.cells #[Value.int IntKind.i64 cl, Value.int IntKind.i64 1, Value.int IntKind.i64 p, Value.int IntKind.u8 l] 149)).cell? ⟨w.heap.size, 2, none⟩ = some (.int .i64 p) := World.cell?_alloc_new _ _ _ _
  have q3 : (w.alloc (Obj.cells #[Value.int IntKind.i64 cl, Value.int IntKind.i64 1, Value.int IntKind.i64 p, Value.int IntKind.u8 l] 149)).cell? ⟨w.heap.size, 3, none⟩ = some (.int .u8 l) := World.cell?_alloc_new _ _ _ _
  have hsz1 : (w.alloc (Obj.cells #[Value.int IntKind.i64 cl, Value.int IntKind.i64 1, Value.int IntKind.i64 p, Value.int IntKind.u8 l] 149)).heap.size > w.heap.size := by simp
  generalize w.alloc (Obj.cells #[Value.int IntKind.i64 cl, Value.int IntKind.i64 1, Value.int IntKind.i64 p, Value.int IntKind.u8 l] 149) = W1 at *
  have U1 : Hid (∀ o, Below w.heap.size w ((W1.alloc o).drew)) := hide fun o => (U0.alloc (by omega) o).drew
  have q2' : ∀ o, (W1.alloc o).cell? ⟨w.heap.size, 2, none⟩ = some (.int .i64 p) := fun o => by rw [World.cell?_alloc_lt _ _ _ hsz1]; exact q2
  have q3' : ∀ o, (W1.alloc o).cell? ⟨w.heap.size, 3, none⟩ = some (.int .u8 l) := fun o => by rw [World.cell?_alloc_lt _ _ _ hsz1]; exact q3
  clear U0
  have hcv : (convert 89 9 (.slice (some ⟨W1.heap.size, 0, none⟩) 1 1)).run Try.prog (W1.alloc (Obj.cells #[Value.int IntKind.u8 l] 5)).drew = .ok (.string ⟨#[UInt8.ofNat l]⟩) (W1.alloc (Obj.cells #[Value.int IntKind.u8 l] 5)).drew :=
    run_string_own _ 0 _ 1 [(l : Int)] ⟨rfl, .inr ⟨W1.heap.size, 1, #[Value.int IntKind.u8 l], rfl, Nat.zero_le _, heap_alloc_new W1 _, Nat.le_refl _, by simp [maxLen], rfl, rfl⟩⟩
  go_region
  all_goals go_wp2
  all_goals go_ret
  all_goals refine ⟨?_, unhide U1 _⟩
  all_goals (rw [bytes_put t p _ hp]; rfl)

set_option maxRecDepth 100000 in
set_option maxHeartbeats 800000 in
theorem do_cut (t : List UInt8) (cl : Int) (p : Nat) (l : Int) (w : World) (ht : t.length ≤ 1000) (hp : p < t.length) :
    Calls Try.prog 97 #[.string ⟨t.toArray⟩, .agg #[.int .i64 cl, .int .i64 2, .int .i64 p, .int .u8 l]] w fun e w' => e = .returned (.string ⟨(t.take p ++ t.drop (p + 1)).toArray⟩) ∧ Below w.heap.size w w' := by
  have hp0 : (0 : Int) ≤ (p : Int) := by omega
  have hp1 : (p : Int) ≤ (t.length : Int) := by omega
  have hp2 : (p : Int) + 1 ≤ (t.length : Int) := by omega
  have hwp : IntKind.i64.wrap ((p : Int) + 1) = (p : Int) + 1 := by rw [IntKind.wrap_i64]; omega
  go_enter Try.func97, Try.ntmps97
  go_wp2_with fail
  have U0 : Below w.heap.size w (w.alloc (Obj.cells #[Value.int IntKind.i64 cl, Value.int IntKind.i64 2, Value.int IntKind.i64 p, Value.int IntKind.u8 l] 149)) := (Below.refl _ _).alloc (Nat.le_refl _) _
  have q2 : (w.alloc (Obj.cells #[Value.int IntKind.i64 cl, Value.int IntKind.i64 2, Value.int IntKind.i64 p, Value.int IntKind.u8 l] 149)).cell? ⟨w.heap.size, 2, none⟩ = some (.int .i64 p) := World.cell?_alloc_new _ _ _ _
  generalize w.alloc (Obj.cells #[Value.int IntKind.i64 cl, Value.int IntKind.i64 2, Value.int IntKind.i64 p, Value.int IntKind.u8 l] 149) = W1 at *
  have U1 := hide U0
  clear U0
  go_region
  all_goals go_wp2
  all_goals go_ret
  all_goals refine ⟨?_, (unhide U1).drew⟩
  all_goals (rw [bytes_cut t p hp]; rfl)
end Go.Proofs.Ytemkgikncmhoaaa
