/-
  weavelaw: seen. Own work.
-/
import Derived.Test.YtemkgikncmhoaaaLawEdits
namespace Go.Proofs.Ytemkgikncmhoaaa
open Go.RowKit

theorem rflying_all (own : Nat → Tag) (ry yb : Nat) (X : IRoom) (R : RRoom) (c : Int) (d : Bool) (w : World) (h : RoomY own ry w yb R) (hI : Inv X R) :
    Calls Try.prog 47 #[.pointer (some ⟨yb, 0, none⟩), .int .i64 c, .bool d] w fun e w' => ∃ q m : Int, e = .returned (.tuple #[.int .i64 q, .int .i64 m]) ∧ 0 ≤ q ∧ q ≤ 12 ∧ Below w.heap.size w w' := by
  by_cases h1 : 0 ≤ c ∧ c < R.texts.length
  · obtain ⟨i, t, E, S, L, rfl, hi4, hxt, hrt, hE, hS, hL⟩ := hI.client h1
    have hsim := hI.ends i E L hE hL
    have hs := (hI.sends i S L hS hL).2
    cases d
    · refine (rflying_0 own ry yb R i t L w h hrt hL).mono ?_
      rintro e w' ⟨rfl, hb⟩
      exact ⟨_, _, rfl, by omega, by have := hsim.ok.out; omega, hb⟩
    · refine (rflying_1 own ry yb R i t L w h hrt hL).mono ?_
      rintro e w' ⟨rfl, hb⟩
      exact ⟨_, _, rfl, by omega, by omega, hb⟩
  · refine (rflying_no own ry yb R c d w h h1).mono ?_
    rintro e w' ⟨rfl, rfl⟩
    exact ⟨_, _, rfl, by omega, by omega, Below.refl _ _⟩

/-- What holds between the steps of 'seen': the pair, and the box that holds its two pointers. -/
def SeenI (own : Nat → Tag) (w : World) (rx ry xb yb n N : Nat) (wr : World) : Prop :=
  ∃ own1 X1 R1, PairAt own1 wr rx ry xb yb X1 R1 ∧ X1.texts.length = n ∧ Upd own own1 (inPair rx ry) w wr ∧ CellsT own1 (0, 0, 0) wr N #[.pointer (some ⟨xb, 0, none⟩), .pointer (some ⟨yb, 0, none⟩)] 69

theorem seen_of_post {own : Nat → Tag} {w wr : World} {rx ry xb yb n N : Nat} {own1 : Nat → Tag} {X1 : IRoom} (hU : Upd own own1 (inPair rx ry) w wr) (hl : X1.texts.length = n) (hC : CellsT own1 (0, 0, 0) wr N #[.pointer (some ⟨xb, 0, none⟩), .pointer (some ⟨yb, 0, none⟩)] 69)
    {e : Ending} {w' : World} (hne : rx ≠ 0) (h0' : ry ≠ 0) (hp : EditsPost own1 wr rx ry xb yb X1 e w') : e = .returned (.bool true) ∧ SeenI own w rx ry xb yb n N w' := by
  obtain ⟨rfl, own2, X2, R2, hP, hl2, hU2⟩ := hp
  exact ⟨rfl, own2, X2, R2, hP, hl2.trans hl, hU.trans hU2, hC.upd hU2 (by rintro (h | h) <;> simp at h <;> omega)⟩
theorem seen_read {own : Nat → Tag} {w wr : World} {rx ry xb yb n N : Nat} (h : SeenI own w rx ry xb yb n N wr) (hne : rx ≠ ry) (h0 : rx ≠ 0) (h0' : ry ≠ 0) (c : Int) (hc : I64 c) : Calls Try.prog 46 #[.agg #[.pointer (some ⟨xb, 0, none⟩), .pointer (some ⟨yb, 0, none⟩)], .agg #[.int .i64 4, .int .i64 0, .int .i64 c, .int .i64 0, .int .i64 0, .int .u8 0, .bool false]] wr fun e w' => e = .returned (.bool true) ∧ SeenI own w rx ry xb yb n N w' := by
  obtain ⟨own1, X1, R1, hP, hl, hU, hC⟩ := h
  exact (edits_read own1 wr rx ry xb yb X1 R1 hP hne h0 0 c 0 0 0 false hc).mono fun e w' hp => seen_of_post hU hl hC h0 h0' hp
theorem seen_waits {own : Nat → Tag} {w wr : World} {rx ry xb yb n N : Nat} (h : SeenI own w rx ry xb yb n N wr) (hne : rx ≠ ry) (h0 : rx ≠ 0) (h0' : ry ≠ 0) (c : Int) (hc : I64 c) : Calls Try.prog 46 #[.agg #[.pointer (some ⟨xb, 0, none⟩), .pointer (some ⟨yb, 0, none⟩)], .agg #[.int .i64 5, .int .i64 0, .int .i64 c, .int .i64 0, .int .i64 0, .int .u8 0, .bool false]] wr fun e w' => e = .returned (.bool true) ∧ SeenI own w rx ry xb yb n N w' := by
  obtain ⟨own1, X1, R1, hP, hl, hU, hC⟩ := h
  exact (edits_waits own1 wr rx ry xb yb X1 R1 hP hne h0 0 c 0 0 0 false hc).mono fun e w' hp => seen_of_post hU hl hC h0 h0' hp
theorem seen_flying {own : Nat → Tag} {w wr : World} {rx ry xb yb n N : Nat} (h : SeenI own w rx ry xb yb n N wr) (hne : rx ≠ ry) (h0 : rx ≠ 0) (h0' : ry ≠ 0) (c : Int) (d : Bool) (hc : I64 c) : Calls Try.prog 45 #[.agg #[.pointer (some ⟨xb, 0, none⟩), .pointer (some ⟨yb, 0, none⟩)], .agg #[.int .i64 6, .int .i64 0, .int .i64 c, .int .i64 0, .int .i64 0, .int .u8 0, .bool d]] wr fun e w' => e = .returned (.bool true) ∧ SeenI own w rx ry xb yb n N w' := by
  obtain ⟨own1, X1, R1, hP, hl, hU, hC⟩ := h
  exact (lines_flying own1 wr rx ry xb yb X1 R1 hP hne h0 0 c 0 0 0 d hc).mono fun e w' hp => seen_of_post hU hl hC h0 h0' hp
theorem seen_peek {own : Nat → Tag} {w wr : World} {rx ry xb yb n N : Nat} (h : SeenI own w rx ry xb yb n N wr) (hne : rx ≠ ry) (h0 : rx ≠ 0) (h0' : ry ≠ 0) (c q : Int) (d : Bool) (hc : I64 c) : Calls Try.prog 45 #[.agg #[.pointer (some ⟨xb, 0, none⟩), .pointer (some ⟨yb, 0, none⟩)], .agg #[.int .i64 7, .int .i64 0, .int .i64 c, .int .i64 q, .int .i64 0, .int .u8 0, .bool d]] wr fun e w' => e = .returned (.bool true) ∧ SeenI own w rx ry xb yb n N w' := by
  obtain ⟨own1, X1, R1, hP, hl, hU, hC⟩ := h
  exact (lines_peek own1 wr rx ry xb yb X1 R1 hP hne h0 0 c q 0 0 d hc).mono fun e w' hp => seen_of_post hU hl hC h0 h0' hp
theorem seen_yflying {own : Nat → Tag} {w wr : World} {rx ry xb yb n N : Nat} (h : SeenI own w rx ry xb yb n N wr) (c : Int) (d : Bool) : Calls Try.prog 47 #[.pointer (some ⟨yb, 0, none⟩), .int .i64 c, .bool d] wr fun e w' => ∃ q m : Int, e = .returned (.tuple #[.int .i64 q, .int .i64 m]) ∧ 0 ≤ q ∧ q ≤ 12 ∧ SeenI own w rx ry xb yb n N w' := by
  obtain ⟨own1, X1, R1, hP, hl, hU, hC⟩ := h
  refine (rflying_all own1 ry yb X1 R1 c d wr hP.y hP.inv).mono ?_
  rintro e w' ⟨q, m, rfl, g1, g2, hb⟩
  have U := Upd.of_below own1 (fun _ => False) hb
  exact ⟨q, m, rfl, g1, g2, own1, X1, R1, hP.upd U (fun _ _ h => h) (fun _ _ h => h), hl, hU.trans (U.mono (fun _ h => h.elim)), hC.upd U (fun h => h)⟩
theorem seen_cells {own : Nat → Tag} {w wr : World} {rx ry xb yb n N : Nat} (h : SeenI own w rx ry xb yb n N wr) : wr.cell? ⟨N, 0, none⟩ = some (.pointer (some ⟨xb, 0, none⟩)) ∧ wr.cell? ⟨N, 1, none⟩ = some (.pointer (some ⟨yb, 0, none⟩)) ∧ ∃ ta tc, wr.cell? ⟨yb, 2, none⟩ = some (.slice ta n tc) ∧ n ≤ 4 := by
  obtain ⟨own1, X1, R1, hP, hl, hU, hC⟩ := h
  refine ⟨by rw [hC.cell]; rfl, by rw [hC.cell]; rfl, ?_⟩
  have hI := hP.inv
  obtain ⟨tx, lx, bs, hc, ht, _, _, _, h3, _⟩ := hP.y
  obtain ⟨ta, tc, rfl, _, _⟩ := ht.shape
  have e : R1.texts.length = n := by rw [← hl, hI.texts]
  rw [e] at hc h3
  exact ⟨ta, tc, by rw [hc.cell]; rfl, h3⟩

set_option maxRecDepth 100000 in
set_option maxHeartbeats 1600000 in
theorem seen_any (own : Nat → Tag) (w : World) (rx ry xb yb : Nat) (X : IRoom) (R : RRoom) (h : PairAt own w rx ry xb yb X R) (hne : rx ≠ ry) (h0 : rx ≠ 0) (h0' : ry ≠ 0) :
    Calls Try.prog 31 #[.agg (PairV xb yb)] w (EditsPost own w rx ry xb yb X) := by
  have V : Upd own (retag own w.heap.size (0, 0, 0)) (fun _ => False) w (w.alloc (.cells #[.pointer (some ⟨xb, 0, none⟩), .pointer (some ⟨yb, 0, none⟩)] 69)) := Upd.retag ((Upd.refl own (fun _ => False) w).alloc _) _ _ (Nat.le_refl _)
  have S0 : SeenI own w rx ry xb yb X.texts.length w.heap.size (w.alloc (.cells #[.pointer (some ⟨xb, 0, none⟩), .pointer (some ⟨yb, 0, none⟩)] 69)) :=
    ⟨_, X, R, h.upd V (fun _ _ h => h) (fun _ _ h => h), rfl, V.mono (fun _ h => h.elim), CellsT.new w _ _ own (0, 0, 0)⟩
  have FIN : Hid (∀ w', SeenI own w rx ry xb yb X.texts.length w.heap.size w' → EditsPost own w rx ry xb yb X (.returned (.bool true)) w') := hide fun w' ⟨own1, X1, R1, a1, a2, a3, _⟩ => ⟨rfl, own1, X1, R1, a1, a2, a3⟩
  have HS0 := hide S0
  have hn4 : X.texts.length ≤ 4 := (seen_cells S0).2.2.choose_spec.choose_spec.2
  clear V h S0
  unfold PairV
  generalize hW0 : w.alloc (.cells #[.pointer (some ⟨xb, 0, none⟩), .pointer (some ⟨yb, 0, none⟩)] 69) = W0 at *
  have HW0 := hide hW0
  clear hW0
  generalize X.texts.length = n at *
  go_enter Try.func31, Try.ntmps31
  go_wp2_with fail
  rw [unhide HW0]
  generalize w.heap.size = N at *
  go_loopw [3] (fun v3 wr => ∃ j : Nat, j ≤ n + 3 ∧ v3 = .int .i64 ((j : Int) - 2) ∧ SeenI own w rx ry xb yb n N wr) (fun v3 _ => n + 3 - (intOf v3 + 2).toNat)
  case atStart => exact ⟨0, by omega, rfl, unhide HS0⟩
  case round =>
    obtain ⟨j, hj, rfl, hS⟩ := hrel
    obtain ⟨c0, c1, ta, tc, c2, _⟩ := seen_cells hS
    by_cases hlt : j ≤ n + 2
    · have hlt' : (j : Int) - 2 ≤ (n : Int) := by omega
      have hc64 : I64 ((j : Int) - 2) := ⟨by omega, by omega⟩
      have HS := hide hS
      clear hS
      go_wp2_with fail
      refine (seen_read (unhide HS) hne h0 h0' _ hc64).mono ?_
      rintro e w1 ⟨rfl, hS1⟩
      obtain ⟨d0, d1, _⟩ := seen_cells hS1
      have HS1 := hide hS1
      clear hS1 c0 c1 c2 HS
      go_wp2_with fail
      refine (seen_waits (unhide HS1) hne h0 h0' _ hc64).mono ?_
      rintro e w2 ⟨rfl, hS2⟩
      have HS2 := hide hS2
      clear hS2 d0 d1 HS1
      go_wp2_with fail
      go_loopw [6] (fun v6 wr => ∃ k : Nat, k ≤ 2 ∧ v6 = .int .i64 k ∧ SeenI own w rx ry xb yb n N wr) (fun v6 _ => 2 - (intOf v6).toNat)
      case atStart => exact ⟨0, by omega, rfl, unhide HS2⟩
      case round =>
        obtain ⟨k, hk, rfl, hS⟩ := hrel
        by_cases hk2 : k < 2
        · have hk2' : (k : Int) < 2 := by omega
          obtain ⟨c0, c1, _⟩ := seen_cells hS
          have HS := hide hS
          clear hS HS2
          go_wp2_with fail
          refine (seen_flying (unhide HS) hne h0 h0' _ _ hc64).mono ?_
          rintro e w3 ⟨rfl, hS3⟩
          obtain ⟨d0, d1, _⟩ := seen_cells hS3
          have HS3 := hide hS3
          clear hS3 c0 c1 HS
          go_wp2_with fail
          refine (seen_yflying (unhide HS3) _ _).mono ?_
          rintro e w4 ⟨q, mm, rfl, hq0, hq12, hS4⟩
          have HS4 := hide hS4
          clear hS4 d0 d1 HS3
          go_wp2_with fail
          go_loopw [8, 11] (fun v8 v11 wr => ∃ i : Nat, (i : Int) ≤ q + 1 ∧ v8 = .bool true ∧ v11 = .int .i64 i ∧ SeenI own w rx ry xb yb n N wr) (fun _ v11 _ => 14 - (intOf v11).toNat)
          case atStart => exact ⟨0, by omega, rfl, rfl, unhide HS4⟩
          case round =>
            obtain ⟨i, hi, rfl, rfl, hS⟩ := hrel
            by_cases hiq : (i : Int) ≤ q
            · obtain ⟨c0, c1, _⟩ := seen_cells hS
              have HS := hide hS
              clear hS HS4
              go_wp2_with fail
              refine (seen_peek (unhide HS) hne h0 h0' _ _ _ hc64).mono ?_
              rintro e w5 ⟨rfl, hS5⟩
              have HS5 := hide hS5
              clear hS5 c0 c1 HS
              go_wp2
              go_roundw
              case rel => exact ⟨i + 1, by omega, rfl, by go_num, unhide HS5⟩
              case measure => simp [intOf]; omega
            · have HS := hide hS
              clear hS HS4
              go_wp2
              go_roundw
              case rel => exact ⟨k + 1, by omega, by go_num, unhide HS⟩
              case measure => simp [intOf]; omega
        · have HS := hide hS
          have hk2' : ¬ (k : Int) < 2 := by omega
          clear hS HS2
          go_wp2
          go_roundw
          case rel => exact ⟨j + 1, by omega, by rw [show ((j + 1 : Nat) : Int) - 2 = (j : Int) - 2 + 1 by omega], unhide HS⟩
          case measure => simp [intOf]; omega
    · have hlt' : ¬ (j : Int) - 2 ≤ (n : Int) := by omega
      have HS := hide hS
      clear hS
      go_wp2
      go_ret
      exact unhide FIN _ (unhide HS)
end Go.Proofs.Ytemkgikncmhoaaa
