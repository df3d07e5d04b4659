/-
  The two rooms side by side: Cut, Read, Waits, Flying, Peek, New. Own work.
-/
import Derived.Test.YtemkgikncmhoaaaPairs
namespace Go.Proofs.Ytemkgikncmhoaaa
open Go.RowKit

theorem two_cut (own : Nat → Tag) (w : World) (rx ry xb yb : Nat) (X : IRoom) (R : RRoom) (hX : RoomX own rx w xb X) (hI : Inv X R) (c p : Int) (hc : I64 c) :
    Two own w rx ry xb yb X R 37 62 [.int .i64 c, .int .i64 p] IsInt := by
  have el : (X.texts.length : Int) = R.texts.length := by rw [hI.texts]
  by_cases h1 : 0 ≤ c ∧ c < R.texts.length
  · obtain ⟨i, t, E, S, L, rfl, hi4, hxt, hrt, hE, hS, hL⟩ := hI.client h1
    have hsim := hI.ends i E L hE hL
    have htl := hI.text i t hrt
    by_cases h2 : p < 0 ∨ p ≥ t.length
    · exact ⟨_, X, R, ⟨3, rfl⟩, hI, rfl, both_same (xcut_place own rx xb X i p t E S w hX hxt hE hS h2) own rx xb X hX, fun own1 w1 hR => ref_same (rcut_place own1 ry yb R i p t L w1 hR hrt hL h2) own1 ry yb R hR⟩
    obtain ⟨q, rfl⟩ := Int.eq_ofNat_of_zero_le (show 0 ≤ p by omega)
    have hq : q < t.length := by omega
    have hEok := IEnd.Ok.of hsim
    have hw4 : X.window ≤ 4 := by rw [hI.win]; exact hI.win4
    have hle := hsim.le
    by_cases h4 : E.refusal X.window ≠ 0
    · refine ⟨_, X, R, ⟨_, rfl⟩, hI, rfl, both_below (xcut_refused own rx xb X i q t E S w hX hxt hE hS hq hEok hw4 h4) own rx xb X hX, fun own1 w1 hR => ?_⟩
      have hcond : L.a.rows.length - L.a.known ≥ R.window ∨ L.a.rows.length ≥ 60 ∨ (0 : Int) ≥ 60 := by
        rw [hI.win, hsim.refusal] at h4
        by_cases g1 : (R.window : Int) ≤ (L.a.rows.length : Int) - L.a.known
        · exact .inl (by omega)
        · rw [if_neg g1] at h4
          by_cases g2 : 60 ≤ L.a.rows.length
          · exact .inr (.inl g2)
          · rw [if_neg g2] at h4; exact absurd rfl h4
      have he := edit_refused own1 ry yb R i ⟨i, 2, q, 0⟩ 0 t L w1 hR hrt hL hsim.ok hI.win4 hle hcond
      have hv : (if L.a.rows.length - L.a.known ≥ R.window then (5 : Int) else 6) = E.refusal X.window := by
        rw [hI.win, hsim.refusal] at h4 ⊢
        by_cases g1 : (R.window : Int) ≤ (L.a.rows.length : Int) - L.a.known
        · rw [if_pos g1, if_pos (by omega)]
        · rw [if_neg g1] at h4 ⊢
          rw [if_neg (by omega)]
          by_cases g2 : 60 ≤ L.a.rows.length
          · rw [if_pos g2]
          · rw [if_neg g2] at h4; exact absurd rfl h4
      rw [hv] at he
      have hp := rcut_edit own1 ry yb R i q t L w1 hR hrt hL hq (fun v w' => v = .int .i64 (E.refusal X.window) ∧ Below w1.heap.size w1 w') (he.mono (by rintro e w' ⟨rfl, hb⟩; exact ⟨_, rfl, rfl, hb⟩))
      refine ref_below (hp.mono ?_) own1 ry yb R hR
      rintro e w' ⟨n, rfl, hn, hb⟩
      rw [hn]; exact ⟨rfl, hb⟩
    · have h4' : E.refusal X.window = 0 := by simpa using h4
      have hcond : L.a.rows.length - L.a.known < R.window ∧ L.a.rows.length < 60 := by
        rw [hI.win, hsim.refusal] at h4'
        by_cases g1 : (R.window : Int) ≤ (L.a.rows.length : Int) - L.a.known
        · rw [if_pos g1] at h4'; simp at h4'
        · rw [if_neg g1] at h4'
          by_cases g2 : 60 ≤ L.a.rows.length
          · rw [if_pos g2] at h4'; simp at h4'
          · exact ⟨by omega, by omega⟩
      have hsmall : ROp.Small ⟨i, 2, q, 0⟩ := ⟨⟨by simp, by simp; omega⟩, ⟨by simp, by simp⟩, ⟨by simp, by simp; omega⟩, ⟨by simp, by simp⟩⟩
      have hmk := hsim.make ⟨i, 2, q, 0⟩ hsmall hcond.2
      refine ⟨_, _, R.put i (delB t q) { L with a := L.a.make ⟨i, 2, q, 0⟩ R.window }, ⟨0, rfl⟩, ?_, ?_, xcut_ok own rx xb X i q t E S w hX hxt hE hS hq hEok hw4 h4' (by omega) hi4, fun own1 w1 hR => ?_⟩
      · exact hI.set hE hL _ _ _ (by simp [delB]; omega) (by rw [hI.win]; exact hmk)
      · simp
      have he := edit_ok own1 ry yb R i ⟨i, 2, q, 0⟩ 0 t (delB t q) L w1 hR hrt hL hI.win4 hle hcond.1 hcond.2 (by omega) (hsim.ok.more _ (by omega) hsmall.1 hsmall.2.1 hsmall.2.2.1 hsmall.2.2.2) (by have := hsim.sent; omega) (fun w2 => do_cut t i q 0 w2 (by omega) hq)
      have hp := rcut_edit own1 ry yb R i q t L w1 hR hrt hL hq (fun v w' => v = .int .i64 0 ∧ ∃ own', RoomY own' ry w' yb (R.put i (delB t q) { L with a := L.a.make ⟨i, 2, q, 0⟩ R.window }) ∧ Upd own1 own' (inRoom ry) w1 w') (he.mono (by rintro e w' ⟨rfl, hb⟩; exact ⟨_, rfl, rfl, hb⟩))
      refine hp.mono ?_
      rintro e w' ⟨n, rfl, hn, hb⟩
      rw [hn]; exact ⟨rfl, hb⟩
  · exact ⟨_, X, R, ⟨2, rfl⟩, hI, rfl, both_same (xcut_client own rx xb X c p w hX hc (by rw [el]; exact h1)) own rx xb X hX, fun own1 w1 hR => ref_same (rcut_client own1 ry yb R c p w1 hR h1) own1 ry yb R hR⟩

theorem two_read (own : Nat → Tag) (w : World) (rx ry xb yb : Nat) (X : IRoom) (R : RRoom) (hX : RoomX own rx w xb X) (hI : Inv X R) (c : Int) (hc : I64 c) :
    Two own w rx ry xb yb X R 15 63 [.int .i64 c] IsStr := by
  have el : (X.texts.length : Int) = R.texts.length := by rw [hI.texts]
  by_cases h0 : c = -1
  · subst h0
    exact ⟨_, X, R, ⟨⟨X.server.toArray⟩, 0, rfl⟩, hI, rfl, both_same (xread_server own rx xb X w hX) own rx xb X hX, fun own1 w1 hR => ref_same (by rw [hI.server]; exact rread_server own1 ry yb R w1 hR) own1 ry yb R hR⟩
  by_cases h1 : 0 ≤ c ∧ c < R.texts.length
  · obtain ⟨i, t, E, S, L, rfl, hi4, hxt, hrt, hE, hS, hL⟩ := hI.client h1
    exact ⟨_, X, R, ⟨⟨t.toArray⟩, 0, rfl⟩, hI, rfl, both_same (xread_yes own rx xb X i t E S w hX hxt hE hS) own rx xb X hX, fun own1 w1 hR => ref_same (rread_yes own1 ry yb R i t L w1 hR hrt hL) own1 ry yb R hR⟩
  · exact ⟨_, X, R, ⟨⟨#[]⟩, 2, rfl⟩, hI, rfl, both_same (xread_no own rx xb X c w hX hc (by rw [el]; exact h1) h0) own rx xb X hX, fun own1 w1 hR => ref_same (rread_no own1 ry yb R c w1 hR h1 h0) own1 ry yb R hR⟩

theorem two_waits (own : Nat → Tag) (w : World) (rx ry xb yb : Nat) (X : IRoom) (R : RRoom) (hX : RoomX own rx w xb X) (hI : Inv X R) (c : Int) (hc : I64 c) :
    Two own w rx ry xb yb X R 19 64 [.int .i64 c] IsInts := by
  have el : (X.texts.length : Int) = R.texts.length := by rw [hI.texts]
  by_cases h1 : 0 ≤ c ∧ c < R.texts.length
  · obtain ⟨i, t, E, S, L, rfl, hi4, hxt, hrt, hE, hS, hL⟩ := hI.client h1
    have hsim := hI.ends i E L hE hL
    have hEok := IEnd.Ok.of hsim
    refine ⟨_, X, R, ⟨_, 0, rfl⟩, hI, rfl, both_same (xwaits_yes own rx xb X i t E S w hX hxt hE hS) own rx xb X hX, fun own1 w1 hR => ?_⟩
    rw [show (E.waiting.length : Int) = (L.a.rows.length : Int) - L.a.known from by have := hsim.made; have := hsim.known; unfold IEnd.made at *; omega]
    exact ref_below (rwaits_yes own1 ry yb R i t L w1 hR hrt hL hsim.ok) own1 ry yb R hR
  · exact ⟨_, X, R, ⟨0, 2, rfl⟩, hI, rfl, both_same (xwaits_no own rx xb X c w hX hc (by rw [el]; exact h1)) own rx xb X hX, fun own1 w1 hR => ref_same (rwaits_no own1 ry yb R c w1 hR h1) own1 ry yb R hR⟩

/-- How many fly, and which: on both sides. -/
def RRoom.flying (R : RRoom) (c : Int) (d : Bool) : Int := if 0 ≤ c ∧ c < R.texts.length then (match R.lines[c.toNat]? with | some L => ((if d then L.b.out else L.a.out).length : Int) | none => 0) else 0

theorem two_flying (own : Nat → Tag) (w : World) (rx ry xb yb : Nat) (X : IRoom) (R : RRoom) (hX : RoomX own rx w xb X) (hI : Inv X R) (c : Int) (d : Bool) (hc : I64 c) :
    Two own w rx ry xb yb X R 26 47 [.int .i64 c, .bool d] (fun v => ∃ m : Int, v = .tuple #[.int .i64 (R.flying c d), .int .i64 m]) := by
  have el : (X.texts.length : Int) = R.texts.length := by rw [hI.texts]
  by_cases h1 : 0 ≤ c ∧ c < R.texts.length
  · obtain ⟨i, t, E, S, L, rfl, hi4, hxt, hrt, hE, hS, hL⟩ := hI.client h1
    have hsim := hI.ends i E L hE hL
    have hs := (hI.sends i S L hS hL).1
    have hfl : R.flying i d = ((if d then L.b.out else L.a.out).length : Int) := by unfold RRoom.flying; rw [if_pos h1]; simp [hL]
    cases d
    · refine ⟨_, X, R, ⟨0, rfl⟩, hI, rfl, ?_, fun own1 w1 hR => ?_⟩
      · rw [hfl]
        have := both_same (xflying_0 own rx xb X i t E S w hX hxt hE hS) own rx xb X hX
        rw [hsim.flying] at this
        exact this
      · rw [hfl]; exact ref_below (rflying_0 own1 ry yb R i t L w1 hR hrt hL) own1 ry yb R hR
    · refine ⟨_, X, R, ⟨0, rfl⟩, hI, rfl, ?_, fun own1 w1 hR => ?_⟩
      · rw [hfl]
        have := both_same (xflying_1 own rx xb X i t E S w hX hxt hE hS) own rx xb X hX
        rw [hs] at this
        exact this
      · rw [hfl]; exact ref_below (rflying_1 own1 ry yb R i t L w1 hR hrt hL) own1 ry yb R hR
  · have hfl : R.flying c d = 0 := by unfold RRoom.flying; rw [if_neg h1]
    refine ⟨_, X, R, ⟨2, rfl⟩, hI, rfl, ?_, fun own1 w1 hR => ?_⟩
    · rw [hfl]; exact both_same (xflying_no own rx xb X c d w hX hc (by rw [el]; exact h1)) own rx xb X hX
    · rw [hfl]; exact ref_same (rflying_no own1 ry yb R c d w1 hR h1) own1 ry yb R hR

theorem two_peek (own : Nat → Tag) (w : World) (rx ry xb yb : Nat) (X : IRoom) (R : RRoom) (hX : RoomX own rx w xb X) (hI : Inv X R) (c : Int) (d : Bool) (n : Int) (hc : I64 c) :
    Two own w rx ry xb yb X R 48 58 [.int .i64 c, .bool d, .int .i64 n] IsStr := by
  have el : (X.texts.length : Int) = R.texts.length := by rw [hI.texts]
  by_cases h1 : 0 ≤ c ∧ c < R.texts.length
  · obtain ⟨i, t, E, S, L, rfl, hi4, hxt, hrt, hE, hS, hL⟩ := hI.client h1
    have hsim := hI.ends i E L hE hL
    have hs := (hI.sends i S L hS hL).1
    cases d
    · by_cases h2 : n < 0 ∨ n ≥ L.a.out.length
      · exact ⟨_, X, R, ⟨⟨#[]⟩, 7, rfl⟩, hI, rfl, both_same (xpeek_0 own rx xb X i n t E S w hX hxt hE hS (by rw [hsim.flying]; exact h2)) own rx xb X hX, fun own1 w1 hR => ref_below (rpeek_0 own1 ry yb R i n t L w1 hR hrt hL h2) own1 ry yb R hR⟩
      · obtain ⟨q, rfl⟩ := Int.eq_ofNat_of_zero_le (show 0 ≤ n by omega)
        have hq : L.a.out[q]? = some (L.a.out[q]'(by omega)) := by simp
        exact ⟨_, X, R, ⟨_, 0, rfl⟩, hI, rfl, both_same (xpeek_0_yes own rx xb X i q _ t E S w hX hxt hE hS (by rw [hsim.flying]; exact hq)) own rx xb X hX, fun own1 w1 hR => ref_below (rpeek_0_yes own1 ry yb R i q _ t L w1 hR hrt hL hq) own1 ry yb R hR⟩
    · by_cases h2 : n < 0 ∨ n ≥ L.b.out.length
      · exact ⟨_, X, R, ⟨⟨#[]⟩, 7, rfl⟩, hI, rfl, both_same (xpeek_1 own rx xb X i n t E S w hX hxt hE hS (by rw [hs]; exact h2)) own rx xb X hX, fun own1 w1 hR => ref_below (rpeek_1 own1 ry yb R i n t L w1 hR hrt hL h2) own1 ry yb R hR⟩
      · obtain ⟨q, rfl⟩ := Int.eq_ofNat_of_zero_le (show 0 ≤ n by omega)
        have hq : L.b.out[q]? = some (L.b.out[q]'(by omega)) := by simp
        exact ⟨_, X, R, ⟨_, 0, rfl⟩, hI, rfl, both_same (xpeek_1_yes own rx xb X i q _ t E S w hX hxt hE hS (by rw [hs]; exact hq)) own rx xb X hX, fun own1 w1 hR => ref_below (rpeek_1_yes own1 ry yb R i q _ t L w1 hR hrt hL hq) own1 ry yb R hR⟩
  · exact ⟨_, X, R, ⟨⟨#[]⟩, 2, rfl⟩, hI, rfl, both_same (xpeek_no own rx xb X c d n w hX hc (by rw [el]; exact h1)) own rx xb X hX, fun own1 w1 hR => ref_same (rpeek_no own1 ry yb R c d n w1 hR h1) own1 ry yb R hR⟩

theorem inv_fresh (n d : Nat) (hn : n ≤ 4) (h1 : 1 ≤ d) (h4 : d ≤ 4) : Inv (IRoom.fresh n d) (RRoom.fresh n d) := by
  refine ⟨rfl, h1, h4, rfl, rfl, by simp [RRoom.fresh], by simp [IRoom.fresh, RRoom.fresh], by simp [IRoom.fresh, RRoom.fresh], by simpa [RRoom.fresh] using hn, fun i t ht => ?_, fun i E L hE hL => ?_, fun i S L hS hL => ?_⟩
  · simp [RRoom.fresh, List.getElem?_replicate] at ht
    obtain ⟨_, rfl⟩ := ht; simp
  · simp [RRoom.fresh, IRoom.fresh, List.getElem?_replicate] at hE hL
    obtain ⟨_, rfl⟩ := hE
    obtain ⟨_, rfl⟩ := hL
    exact ⟨rfl, Nat.le_refl _, rfl, rfl, rfl, REnd.empty_ok, by simp [RLine.empty, REnd.empty], by simp [RLine.empty, REnd.empty], by simp [RLine.empty, REnd.empty]⟩
  · simp [RRoom.fresh, IRoom.fresh, List.getElem?_replicate] at hS hL
    obtain ⟨_, rfl⟩ := hS
    obtain ⟨_, rfl⟩ := hL
    exact ⟨rfl, by simp [RLine.empty, REnd.empty]⟩
end Go.Proofs.Ytemkgikncmhoaaa
