import Derived.Test.YtemkgikncmhoaaaM03
import Derived.Test.YtemkgikncmhoaaaM11
import Derived.Laws.StructEq
namespace Go.Proofs.Ytemkgikncmhoaaa
open Go.RowKit

def ROp.val (o : ROp) : Value := .agg #[.int .i64 o.client, .int .i64 o.verb, .int .i64 o.place, .int .u8 o.letter]

/-- Arrays of two numbers, compared. -/
theorem eqKinds (a b c d : Int) (w : World) : (Op.equalIn 10000 177 (.agg #[.int .i64 a, .int .i64 b]) (.agg #[.int .i64 c, .int .i64 d])).run Try.prog w = .ok (a == c && b == d) w := by
 have u3 := Try.underlying3
 have a3 := Try.isAgg3
 have z3 := Try.sizeOf3
 rw [show (10000 : Nat) = 9999 + 1 from rfl, Op.equalIn]
 simp only [Sem.run_bind, run_underlying Try.underlying177, Result.andThen_ok]
 simp only [Std.Legacy.Range.forIn_eq_forIn_range', Std.Legacy.Range.size, Nat.sub_zero, Nat.add_sub_cancel, Nat.div_one, List.range'_succ, List.range'_zero, List.forIn_cons, List.forIn_nil]
 go_simp
 by_cases h1 : a = c <;> by_cases h2 : b = d <;> simp [h1, h2]
/-- Operations, compared. -/
theorem eqOp (c v p l d u q m : Int) (w : World) : (Op.equalIn 10000 94 (.agg #[.int .i64 c, .int .i64 v, .int .i64 p, .int .u8 l]) (.agg #[.int .i64 d, .int .i64 u, .int .i64 q, .int .u8 m])).run Try.prog w = .ok (c == d && v == u && p == q && l == m) w := by
 have u3 := Try.underlying3
 have a3 := Try.isAgg3
 have z3 := Try.sizeOf3
 have u5 := Try.underlying5
 have a5 := Try.isAgg5
 have z5 := Try.sizeOf5
 have hS : Try.prog.underlying 94 = some (.struct (Try.prog.fieldsOf 94)) := by kernel_rfl
 have hp : Try.prog.stoodInHeld 94 = false := by kernel_rfl
 rw [show (10000 : Nat) = 9999 + 1 from rfl, run_equalIn_agg w 9999 94 _ _ hS hp]
 simp only [Program.fieldsOf, Try.underlying94]
 go_simp
 by_cases h1 : c = d <;> by_cases h2 : v = u <;> by_cases h3 : p = q <;> by_cases h4 : l = m <;> simp [h1, h2, h3, h4]
attribute [local go_sem] eqKinds eqOp

set_option maxRecDepth 100000 in
set_option maxHeartbeats 800000 in
theorem xof (c v p l d : Int) (w : World) :
  Calls Try.prog 110 #[.agg #[.int .i64 c, .int .i64 v, .int .i64 p, .int .u8 l], .int .i64 d] w fun e w' => e = .returned (.agg #[.int .i64 d, .int .i64 v, .int .i64 p, .int .u8 l]) ∧ w' = (w.alloc (.cells #[.int .i64 d, .int .i64 v, .int .i64 p, .int .u8 l] 94)).alloc (.cells #[.int .i64 d, .int .i64 v, .int .i64 p, .int .u8 l] 94) := by
 go_enter Try.func110, Try.ntmps110
 go_wp2
 go_returns
 exact ⟨rfl, rfl⟩

set_option maxRecDepth 100000 in
set_option maxHeartbeats 800000 in
theorem xt_w0 (c d p q l m vb : Int) (w : World)  :
  Calls Try.prog 109 #[.agg #[.int .i64 c, .int .i64 0, .int .i64 p, .int .u8 l], .agg #[.int .i64 d, .int .i64 vb, .int .i64 q, .int .u8 m]] w fun e w' => e = .returned (⟨c, 0, p, l⟩ : ROp).val ∧ Below w.heap.size w w' := by
 go_enter Try.func109, Try.ntmps109
 go_wp2
 go_returns
 exact ⟨rfl, by go_grown⟩

set_option maxRecDepth 100000 in
set_option maxHeartbeats 800000 in
theorem xt_w1 (c d p q l m va : Int) (w : World)  :
  Calls Try.prog 109 #[.agg #[.int .i64 c, .int .i64 va, .int .i64 p, .int .u8 l], .agg #[.int .i64 d, .int .i64 0, .int .i64 q, .int .u8 m]] w fun e w' => e = .returned (⟨c, va, p, l⟩ : ROp).val ∧ Below w.heap.size w w' := by
 go_enter Try.func109, Try.ntmps109
 go_wp2
 go_returns
 exact ⟨rfl, by go_grown⟩

set_option maxRecDepth 100000 in
set_option maxHeartbeats 800000 in
theorem xt_pp1 (c d p q l m : Int) (w : World) (hp : -1000000 ≤ p) (hp2 : p ≤ 1000000) (h : q < p) :
  Calls Try.prog 109 #[.agg #[.int .i64 c, .int .i64 1, .int .i64 p, .int .u8 l], .agg #[.int .i64 d, .int .i64 1, .int .i64 q, .int .u8 m]] w fun e w' => e = .returned (⟨c, 1, p + 1, l⟩ : ROp).val ∧ Below w.heap.size w w' := by
 go_enter Try.func109, Try.ntmps109
 go_wp2
 go_returns
 exact ⟨rfl, by go_grown⟩

set_option maxRecDepth 100000 in
set_option maxHeartbeats 800000 in
theorem xt_pp2 (c d p q l m : Int) (w : World) (hp : -1000000 ≤ p) (hp2 : p ≤ 1000000) (h : p = q) (h2 : d ≤ c) :
  Calls Try.prog 109 #[.agg #[.int .i64 c, .int .i64 1, .int .i64 p, .int .u8 l], .agg #[.int .i64 d, .int .i64 1, .int .i64 q, .int .u8 m]] w fun e w' => e = .returned (⟨c, 1, p + 1, l⟩ : ROp).val ∧ Below w.heap.size w w' := by
 subst h
 go_enter Try.func109, Try.ntmps109
 go_wp2
 go_returns
 exact ⟨rfl, by go_grown⟩

set_option maxRecDepth 100000 in
set_option maxHeartbeats 800000 in
theorem xt_pp3 (c d p q l m : Int) (w : World) (h : p = q) (h2 : ¬ d ≤ c) :
  Calls Try.prog 109 #[.agg #[.int .i64 c, .int .i64 1, .int .i64 p, .int .u8 l], .agg #[.int .i64 d, .int .i64 1, .int .i64 q, .int .u8 m]] w fun e w' => e = .returned (⟨c, 1, p, l⟩ : ROp).val ∧ Below w.heap.size w w' := by
 subst h
 go_enter Try.func109, Try.ntmps109
 go_wp2
 go_returns
 exact ⟨rfl, by go_grown⟩

set_option maxRecDepth 100000 in
set_option maxHeartbeats 800000 in
theorem xt_pp4 (c d p q l m : Int) (w : World) (h : p < q) :
  Calls Try.prog 109 #[.agg #[.int .i64 c, .int .i64 1, .int .i64 p, .int .u8 l], .agg #[.int .i64 d, .int .i64 1, .int .i64 q, .int .u8 m]] w fun e w' => e = .returned (⟨c, 1, p, l⟩ : ROp).val ∧ Below w.heap.size w w' := by
 have h2 : (p == q) = false := by rw [beq_eq_false_iff_ne]; omega
 go_enter Try.func109, Try.ntmps109
 go_wp2
 go_returns
 exact ⟨rfl, by go_grown⟩

set_option maxRecDepth 100000 in
set_option maxHeartbeats 800000 in
theorem xt_pc1 (c d p q l m : Int) (w : World) (hp : -1000000 ≤ p) (hp2 : p ≤ 1000000) (h : q < p) :
  Calls Try.prog 109 #[.agg #[.int .i64 c, .int .i64 1, .int .i64 p, .int .u8 l], .agg #[.int .i64 d, .int .i64 2, .int .i64 q, .int .u8 m]] w fun e w' => e = .returned (⟨c, 1, p - 1, l⟩ : ROp).val ∧ Below w.heap.size w w' := by
 go_enter Try.func109, Try.ntmps109
 go_wp2
 go_returns
 exact ⟨rfl, by go_grown⟩

set_option maxRecDepth 100000 in
set_option maxHeartbeats 800000 in
theorem xt_pc2 (c d p q l m : Int) (w : World) (h : ¬ q < p) :
  Calls Try.prog 109 #[.agg #[.int .i64 c, .int .i64 1, .int .i64 p, .int .u8 l], .agg #[.int .i64 d, .int .i64 2, .int .i64 q, .int .u8 m]] w fun e w' => e = .returned (⟨c, 1, p, l⟩ : ROp).val ∧ Below w.heap.size w w' := by
 go_enter Try.func109, Try.ntmps109
 go_wp2
 go_returns
 exact ⟨rfl, by go_grown⟩

set_option maxRecDepth 100000 in
set_option maxHeartbeats 800000 in
theorem xt_cp1 (c d p q l m : Int) (w : World) (hp : -1000000 ≤ p) (hp2 : p ≤ 1000000) (h : q ≤ p) :
  Calls Try.prog 109 #[.agg #[.int .i64 c, .int .i64 2, .int .i64 p, .int .u8 l], .agg #[.int .i64 d, .int .i64 1, .int .i64 q, .int .u8 m]] w fun e w' => e = .returned (⟨c, 2, p + 1, l⟩ : ROp).val ∧ Below w.heap.size w w' := by
 go_enter Try.func109, Try.ntmps109
 go_wp2
 go_returns
 exact ⟨rfl, by go_grown⟩

set_option maxRecDepth 100000 in
set_option maxHeartbeats 800000 in
theorem xt_cp2 (c d p q l m : Int) (w : World) (h : ¬ q ≤ p) :
  Calls Try.prog 109 #[.agg #[.int .i64 c, .int .i64 2, .int .i64 p, .int .u8 l], .agg #[.int .i64 d, .int .i64 1, .int .i64 q, .int .u8 m]] w fun e w' => e = .returned (⟨c, 2, p, l⟩ : ROp).val ∧ Below w.heap.size w w' := by
 go_enter Try.func109, Try.ntmps109
 go_wp2
 go_returns
 exact ⟨rfl, by go_grown⟩
end Go.Proofs.Ytemkgikncmhoaaa

