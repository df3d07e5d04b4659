/-
  weaveref: the calls on a room. Own work.
-/
import Derived.Test.YtemkgikncmhoaaaRefMake
import Derived.Test.YtemkgikncmhoaaaRefDo
namespace Go.Proofs.Ytemkgikncmhoaaa
open Go.RowKit
attribute [local go_sem ↓] Go.wp_at_zero Go.wp_at_succ

set_option maxRecDepth 100000 in
set_option maxHeartbeats 400000 in
theorem there_yes (own : Nat → Tag) (rid b : Nat) (R : RRoom) (i : Nat) (w : World) (h : RoomY own rid w b R) (hi : i < R.texts.length) :
    Calls Try.prog 65 #[.pointer (some ⟨b, 0, none⟩), .int .i64 i] w fun e w' => e = .returned (.bool true) ∧ w' = w := by
  obtain ⟨tx, lx, bs, hc, ht, hl, h1, h2, h3, h4⟩ := h
  obtain ⟨ta, tc, rfl, _, _⟩ := ht.shape
  have c2 : w.cell? ⟨b, 2, none⟩ = some (.slice ta R.texts.length tc) := by rw [hc.cell]; rfl
  have hi1 : (i : Int) < (R.texts.length : Int) := by omega
  have hi2 : (0 : Int) ≤ (i : Int) := by omega
  clear hc ht hl h4
  go_enter Try.func65, Try.ntmps65
  go_wp2
  go_ret
  exact ⟨rfl, rfl⟩
set_option maxRecDepth 100000 in
set_option maxHeartbeats 400000 in
theorem there_no (own : Nat → Tag) (rid b : Nat) (R : RRoom) (c : Int) (w : World) (h : RoomY own rid w b R) (hi : ¬ (0 ≤ c ∧ c < R.texts.length)) :
    Calls Try.prog 65 #[.pointer (some ⟨b, 0, none⟩), .int .i64 c] w fun e w' => e = .returned (.bool false) ∧ w' = w := by
  obtain ⟨tx, lx, bs, hc, ht, hl, h1, h2, h3, h4⟩ := h
  obtain ⟨ta, tc, rfl, _, _⟩ := ht.shape
  have c2 : w.cell? ⟨b, 2, none⟩ = some (.slice ta R.texts.length tc) := by rw [hc.cell]; rfl
  clear hc ht hl h4
  by_cases h0 : 0 ≤ c
  · have hi1 : ¬ c < (R.texts.length : Int) := fun h => hi ⟨h0, h⟩
    clear hi
    go_enter Try.func65, Try.ntmps65
    go_wp2
    go_ret
    exact ⟨rfl, rfl⟩
  · clear hi
    go_enter Try.func65, Try.ntmps65
    go_wp2
    go_ret
    exact ⟨rfl, rfl⟩
theorem end_any (d : Bool) (w : World) : Calls Try.prog 66 #[.bool d] w fun e w' => e = .returned (.int .i64 (if d then 1 else 0)) ∧ w' = w := by
  cases d
  all_goals
    go_enter Try.func66, Try.ntmps66
    go_wp2
    go_ret
    exact ⟨rfl, rfl⟩

end Go.Proofs.Ytemkgikncmhoaaa
