import Derived.WalkKit
namespace Go.Proofs.Ytemkgikncmhoaaa
open Go.RowKit

theorem hide {p : Prop} (h : p) : Hid p := h
theorem unhide {p : Prop} (h : Hid p) : p := h

/-- The sum, and the weighed sum, of the first k numbers. -/
def sumTo (xs : List Int) : Nat → Int
 | 0 => 0
 | k + 1 => sumTo xs k + xs.getD k 0
def wsumTo (xs : List Int) : Nat → Int
 | 0 => 0
 | k + 1 => wsumTo xs k + ((k : Int) + 1) * xs.getD k 0

/-- A number as a byte. -/
def byteOf (x : Int) : UInt8 := UInt8.ofNat x.toNat
/-- The bytes, and their check behind them. -/
def ckd (xs : List Int) : ByteArray := ⟨(xs.map byteOf ++ [byteOf (sumTo xs xs.length % 251), byteOf (wsumTo xs xs.length % 251)]).toArray⟩

def Bytes (xs : List Int) : Prop := ∀ k, 0 ≤ xs.getD k 0 ∧ xs.getD k 0 ≤ 255

theorem sumTo_bd (xs : List Int) (h : Bytes xs) : ∀ k, 0 ≤ sumTo xs k ∧ sumTo xs k ≤ 255 * k
 | 0 => by simp [sumTo]
 | k + 1 => by
  have := sumTo_bd xs h k
  have := h k
  simp only [sumTo]
  omega
theorem wsumTo_bd (xs : List Int) (h : Bytes xs) (n : Nat) (hn : n ≤ 8) : ∀ k, k ≤ n → 0 ≤ wsumTo xs k ∧ wsumTo xs k ≤ 2040 * k
 | 0, _ => by simp [wsumTo]
 | k + 1, hk => by
  have h1 := wsumTo_bd xs h n hn k (by omega)
  have h2 := h k
  have h3 : 0 ≤ ((k : Int) + 1) * xs.getD k 0 := Int.mul_nonneg (by omega) h2.1
  have h4 : ((k : Int) + 1) * xs.getD k 0 ≤ 8 * 255 := Int.mul_le_mul (by omega) h2.2 h2.1 (by omega)
  simp only [wsumTo]
  omega
theorem mul_bd (xs : List Int) (h : Bytes xs) (k : Nat) (hk : k < 8) : 0 ≤ ((k : Int) + 1) * xs.getD k 0 ∧ ((k : Int) + 1) * xs.getD k 0 ≤ 2040 :=
 ⟨Int.mul_nonneg (by omega) (h k).1, Int.le_trans (Int.mul_le_mul (show ((k : Int) + 1) ≤ 8 by omega) (h k).2 (h k).1 (by omega)) (by omega)⟩

end Go.Proofs.Ytemkgikncmhoaaa

