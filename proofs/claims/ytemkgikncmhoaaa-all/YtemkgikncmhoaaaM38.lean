import Derived.Test.YtemkgikncmhoaaaM32
import Derived.Test.YtemkgikncmhoaaaM33
import Derived.Deep.DeepCutAuto
namespace Go.Proofs.Ytemkgikncmhoaaa
open Go.RowKit
attribute [local go_sem ↓] Go.wp_at_zero Go.wp_at_succ

set_option maxRecDepth 100000 in
set_option maxHeartbeats 1600000 in
theorem rcomes4_0 (A : List Nat) (own : Nat → Tag) (rid b : Nat) (R : RRoom) (i : Nat) (t : List UInt8) (L : RLine) (b0 b1 b2 b3 : UInt8) (w : World) (h : RoomB A own rid w b R) (ht : R.texts[i]? = some t) (hL : R.lines[i]? = some L) (hb : b0.toNat = 2) (htk : b1.toNat ≤ 240) (hwin : R.window ≤ 4)
  (hok : L.a.Ok) (hs : L.a.sent ≤ (L.a.know b1.toNat).may R.window) :
  Calls Try.prog 79 #[.pointer (some ⟨b, 0, none⟩), .int .i64 i, .int .i64 0, .string ⟨#[b0, b1, b2, b3]⟩] w fun e w' => e = .returned (.tuple #[]) ∧ ∃ own', RoomB A own' rid w' b (R.setLine i { L with a := L.a.heard R.window b1.toNat }) ∧ Upd own own' (inRoom rid) w w' := by
 have hn4 : R.texts.length ≤ 4 := h.lens.1
 obtain ⟨tg, tc, lg, lc, lb, c0, c2, c3, c4, c5, f4, hLA, t1, t2, t3, l1, l2, l3, hi⟩ := h.room.get ht hL
 obtain ⟨ra, rc, d0⟩ : ∃ ra rc, w.cell? ⟨lb, 0, none⟩ = some (.slice ra L.a.rows.length rc) := by
  obtain ⟨r0, r1, k0, k1, o0, o1, s0, s1, hc, ⟨⟨fs, hfl, hro, hfs⟩, _⟩, ⟨⟨fs', hfl', hro', hfs'⟩, _⟩⟩ := hLA
  obtain ⟨ra, rc, rfl, _, _⟩ := hro.shape
  exact ⟨ra, rc, by rw [hc.cell]; rfl⟩
 have d4 : w.cell? ⟨lb, 4, none⟩ = some (.int .i64 L.a.known) := hLA.cells.2.2.1
 have d6 : w.cell? ⟨lb, 6, none⟩ = some (.int .i64 L.a.sent) := hLA.cells.2.2.2.2.1
 have z4 := hLA.cells.2.2.2.2.2.2 4
 have hi1 : (i : Int) < (R.texts.length : Int) := by omega
 have hi2 : (0 : Int) ≤ (i : Int) := by omega
 have hb0 : ((((⟨#[b0, b1, b2, b3]⟩ : ByteArray)[0]'(by show 0 < 4; omega)).toNat : Int) == 1) = false := by
  show ((b0.toNat : Int) == 1) = false
  rw [beq_eq_false_iff_ne]; omega
 have hb1 : ¬ ((((⟨#[b0, b1, b2, b3]⟩ : ByteArray)[0]'(by show 0 < 4; omega)).toNat : Int) = 1) := by
  show ¬ ((b0.toNat : Int) = 1)
  omega
 have hy1 : wrap64 (((⟨#[b0, b1, b2, b3]⟩ : ByteArray)[1]'(by show 1 < 4; omega)).toNat : Int) = (b1.toNat : Int) := wrapB b1
 have hws : IntKind.i64.wrap ((L.a.sent : Int) + 1) = (L.a.sent : Int) + 1 := by rw [IntKind.wrap_i64]; have := hok.sent; omega
 have HMAY : Hid (∀ own1 W, LineAt own1 rid i W lb { L with a := L.a.know b1.toNat } → Calls Try.prog 94 #[.pointer (some ⟨lb, 0, none⟩), .int .i64 0, .int .i64 R.window] W fun e w' => e = .returned (.int .i64 ((L.a.know b1.toNat).may R.window : Nat)) ∧ w' = W) :=
  hide fun own1 W hW => may_0 own1 rid i lb _ R.window W hW (hok.know b1.toNat htk) hwin
 have HSD : Hid (∀ own1 W, LineAt own1 rid i W lb { L with a := L.a.know b1.toNat } → Upd own own1 (inLine rid i) w W → Calls Try.prog 93 #[.pointer (some ⟨lb, 0, none⟩), .int .i64 0, .int .i64 ((L.a.sent : Int) + 1), .int .i64 ((L.a.know b1.toNat).may R.window : Nat)] W fun e w' => e = .returned (.tuple #[]) ∧ ∃ own', RoomB A own' rid w' b (R.setLine i { L with a := L.a.heard R.window b1.toNat }) ∧ Upd own own' (inRoom rid) w w') := by
  apply hide
  intro own1 W hW hU
  refine (heard_0 own1 rid i lb L R.window b1.toNat W hok htk hs _ _ rfl rfl hW).mono ?_
  rintro e w' ⟨rfl, own', x1, x2⟩
  exact ⟨rfl, own', RoomB.line h (by omega) hi c3 c5 (hU.trans x2) x1, (hU.trans x2).mono (fun t h => h.1)⟩
 have HKN : Hid (L.a.know b1.toNat = if L.a.known < b1.toNat ∧ b1.toNat ≤ L.a.rows.length then { L.a with known := b1.toNat } else L.a) := rfl
 have HST := hide (hLA.set4 b1.toNat)
 have HLA := hide hLA
 clear hLA h hs hok
 generalize (L.a.know b1.toNat).may R.window = mw at *
 generalize L.a.know b1.toNat = EK at *
 have n0 : ∀ k, ¬ inLine rid i (rid, 100, k) := fun k hk => by have := hk.2; simp at this; omega
 by_cases hc : L.a.known < b1.toNat ∧ b1.toNat ≤ L.a.rows.length
 ·have hc1 : (L.a.known : Int) < (b1.toNat : Int) := by omega
  have hc2 : (b1.toNat : Int) ≤ (L.a.rows.length : Int) := by omega
  rw [if_pos hc] at HKN
  obtain rfl := unhide HKN
  obtain ⟨x1, x2⟩ := unhide HST
  have d6' := x1.cells.2.2.2.2.1
  have c0' := x2.cell c0 (by rw [t2]; exact n0 _)
  dsimp only at d6'
  have HM2 : Hid (∀ W, W = w.setCell ⟨lb, 4, none⟩ (.int .i64 b1.toNat) ∨ W = (w.setCell ⟨lb, 4, none⟩ (.int .i64 b1.toNat)).drew → Calls Try.prog 94 #[.pointer (some ⟨lb, 0, none⟩), .int .i64 0, .int .i64 R.window] W fun e w' => e = .returned (.int .i64 mw) ∧ w' = W) := by
   apply hide
   rintro W (rfl | rfl)
   ·exact (unhide HMAY) own _ x1
   ·exact (unhide HMAY) own _ (x1.upd ((Upd.refl own (fun _ => False) _).drew) (fun _ h => h))
  have HS2 : Hid (∀ W, W = w.setCell ⟨lb, 4, none⟩ (.int .i64 b1.toNat) ∨ W = (w.setCell ⟨lb, 4, none⟩ (.int .i64 b1.toNat)).drew → Calls Try.prog 93 #[.pointer (some ⟨lb, 0, none⟩), .int .i64 0, .int .i64 ((L.a.sent : Int) + 1), .int .i64 mw] W fun e w' => e = .returned (.tuple #[]) ∧ ∃ own', RoomB A own' rid w' b (R.setLine i { L with a := L.a.heard R.window b1.toNat }) ∧ Upd own own' (inRoom rid) w w') := by
   apply hide
   rintro W (rfl | rfl)
   ·exact (unhide HSD) own _ x1 x2
   ·exact (unhide HSD) own _ (x1.upd ((Upd.refl own (fun _ => False) _).drew) (fun _ h => h)) (x2.drew)
  clear x1 x2 HST HMAY HSD HLA HKN
  go_enter Try.func79, Try.ntmps79
  go_wp2_with fail
  generalize w.setCell ⟨lb, 4, none⟩ (.int .i64 b1.toNat) = W1 at *
  go_region_with (first | (go_at_call 94; with_reducible refine (unhide HM2 _ (by first | exact .inl rfl | exact .inr rfl)).mono ?_; rintro e w2 ⟨rfl, hw2⟩; obtain rfl := hw2.symm) | (go_at_call 93; with_reducible refine (unhide HS2 _ (by first | exact .inl rfl | exact .inr rfl)).mono ?_; rintro e w2 ⟨rfl, hF⟩; have HF := hide hF; clear hF))
  all_goals
   go_wp2
   go_returns
   exact ⟨rfl, unhide HF⟩
 ·have HKN2 := hide (unhide HKN)
  rw [if_neg hc] at HKN2
  obtain rfl := unhide HKN2
  have HM2 : Hid (∀ W, W = w ∨ W = w.drew → Calls Try.prog 94 #[.pointer (some ⟨lb, 0, none⟩), .int .i64 0, .int .i64 R.window] W fun e w' => e = .returned (.int .i64 mw) ∧ w' = W) := by
   apply hide
   rintro W (rfl | rfl)
   ·exact (unhide HMAY) own _ (unhide HLA)
   ·exact (unhide HMAY) own _ ((unhide HLA).upd ((Upd.refl own (fun _ => False) _).drew) (fun _ h => h))
  have HS2 : Hid (∀ W, W = w ∨ W = w.drew → Calls Try.prog 93 #[.pointer (some ⟨lb, 0, none⟩), .int .i64 0, .int .i64 ((L.a.sent : Int) + 1), .int .i64 mw] W fun e w' => e = .returned (.tuple #[]) ∧ ∃ own', RoomB A own' rid w' b (R.setLine i { L with a := L.a.heard R.window b1.toNat }) ∧ Upd own own' (inRoom rid) w w') := by
   apply hide
   rintro W (rfl | rfl)
   ·exact (unhide HSD) own _ (unhide HLA) (Upd.refl _ _ _)
   ·exact (unhide HSD) own _ ((unhide HLA).upd ((Upd.refl own (fun _ => False) _).drew) (fun _ h => h)) ((Upd.refl _ _ _).drew)
  clear HST HMAY HSD HLA HKN HKN2
  by_cases hk1 : L.a.known < b1.toNat
  ·have hc1 : (L.a.known : Int) < (b1.toNat : Int) := by omega
   have hc2 : ¬ ((b1.toNat : Int) ≤ (L.a.rows.length : Int)) := by omega
   go_enter Try.func79, Try.ntmps79
   go_wp2_with fail
   go_region_with (first | (go_at_call 94; with_reducible refine (unhide HM2 _ (by first | exact .inl rfl | exact .inr rfl)).mono ?_; rintro e w2 ⟨rfl, hw2⟩; obtain rfl := hw2.symm) | (go_at_call 93; with_reducible refine (unhide HS2 _ (by first | exact .inl rfl | exact .inr rfl)).mono ?_; rintro e w2 ⟨rfl, hF⟩; have HF := hide hF; clear hF))
   all_goals
    go_wp2
    go_returns
    exact ⟨rfl, unhide HF⟩
  ·have hc1 : ¬ ((L.a.known : Int) < (b1.toNat : Int)) := by omega
   go_enter Try.func79, Try.ntmps79
   go_wp2_with fail
   go_region_with (first | (go_at_call 94; with_reducible refine (unhide HM2 _ (by first | exact .inl rfl | exact .inr rfl)).mono ?_; rintro e w2 ⟨rfl, hw2⟩; obtain rfl := hw2.symm) | (go_at_call 93; with_reducible refine (unhide HS2 _ (by first | exact .inl rfl | exact .inr rfl)).mono ?_; rintro e w2 ⟨rfl, hF⟩; have HF := hide hF; clear hF))
   all_goals
    go_wp2
    go_returns
    exact ⟨rfl, unhide HF⟩
set_option maxRecDepth 100000 in
set_option maxHeartbeats 1600000 in
theorem rcomes4_1 (A : List Nat) (own : Nat → Tag) (rid b : Nat) (R : RRoom) (i : Nat) (t : List UInt8) (L : RLine) (b0 b1 b2 b3 : UInt8) (w : World) (h : RoomB A own rid w b R) (ht : R.texts[i]? = some t) (hL : R.lines[i]? = some L) (hb : b0.toNat = 2) (htk : b1.toNat ≤ 240) (hwin : R.window ≤ 4)
  (hok : L.b.Ok) (hs : L.b.sent ≤ (L.b.know b1.toNat).may R.window) :
  Calls Try.prog 79 #[.pointer (some ⟨b, 0, none⟩), .int .i64 i, .int .i64 1, .string ⟨#[b0, b1, b2, b3]⟩] w fun e w' => e = .returned (.tuple #[]) ∧ ∃ own', RoomB A own' rid w' b (R.setLine i { L with b := L.b.heard R.window b1.toNat }) ∧ Upd own own' (inRoom rid) w w' := by
 have hn4 : R.texts.length ≤ 4 := h.lens.1
 obtain ⟨tg, tc, lg, lc, lb, c0, c2, c3, c4, c5, f4, hLA, t1, t2, t3, l1, l2, l3, hi⟩ := h.room.get ht hL
 obtain ⟨ra, rc, d0⟩ : ∃ ra rc, w.cell? ⟨lb, 1, none⟩ = some (.slice ra L.b.rows.length rc) := by
  obtain ⟨r0, r1, k0, k1, o0, o1, s0, s1, hc, ⟨⟨fs, hfl, hro, hfs⟩, _⟩, ⟨⟨fs', hfl', hro', hfs'⟩, _⟩⟩ := hLA
  obtain ⟨ra, rc, rfl, _, _⟩ := hro'.shape
  exact ⟨ra, rc, by rw [hc.cell]; rfl⟩
 have d4 : w.cell? ⟨lb, 5, none⟩ = some (.int .i64 L.b.known) := hLA.cells.2.2.2.1
 have d6 : w.cell? ⟨lb, 7, none⟩ = some (.int .i64 L.b.sent) := hLA.cells.2.2.2.2.2.1
 have z4 := hLA.cells.2.2.2.2.2.2 5
 have hi1 : (i : Int) < (R.texts.length : Int) := by omega
 have hi2 : (0 : Int) ≤ (i : Int) := by omega
 have hb0 : ((((⟨#[b0, b1, b2, b3]⟩ : ByteArray)[0]'(by show 0 < 4; omega)).toNat : Int) == 1) = false := by
  show ((b0.toNat : Int) == 1) = false
  rw [beq_eq_false_iff_ne]; omega
 have hb1 : ¬ ((((⟨#[b0, b1, b2, b3]⟩ : ByteArray)[0]'(by show 0 < 4; omega)).toNat : Int) = 1) := by
  show ¬ ((b0.toNat : Int) = 1)
  omega
 have hy1 : wrap64 (((⟨#[b0, b1, b2, b3]⟩ : ByteArray)[1]'(by show 1 < 4; omega)).toNat : Int) = (b1.toNat : Int) := wrapB b1
 have hws : IntKind.i64.wrap ((L.b.sent : Int) + 1) = (L.b.sent : Int) + 1 := by rw [IntKind.wrap_i64]; have := hok.sent; omega
 have HMAY : Hid (∀ own1 W, LineAt own1 rid i W lb { L with b := L.b.know b1.toNat } → Calls Try.prog 94 #[.pointer (some ⟨lb, 0, none⟩), .int .i64 1, .int .i64 R.window] W fun e w' => e = .returned (.int .i64 ((L.b.know b1.toNat).may R.window : Nat)) ∧ w' = W) :=
  hide fun own1 W hW => may_1 own1 rid i lb _ R.window W hW (hok.know b1.toNat htk) hwin
 have HSD : Hid (∀ own1 W, LineAt own1 rid i W lb { L with b := L.b.know b1.toNat } → Upd own own1 (inLine rid i) w W → Calls Try.prog 93 #[.pointer (some ⟨lb, 0, none⟩), .int .i64 1, .int .i64 ((L.b.sent : Int) + 1), .int .i64 ((L.b.know b1.toNat).may R.window : Nat)] W fun e w' => e = .returned (.tuple #[]) ∧ ∃ own', RoomB A own' rid w' b (R.setLine i { L with b := L.b.heard R.window b1.toNat }) ∧ Upd own own' (inRoom rid) w w') := by
  apply hide
  intro own1 W hW hU
  refine (heard_1 own1 rid i lb L R.window b1.toNat W hok htk hs _ _ rfl rfl hW).mono ?_
  rintro e w' ⟨rfl, own', x1, x2⟩
  exact ⟨rfl, own', RoomB.line h (by omega) hi c3 c5 (hU.trans x2) x1, (hU.trans x2).mono (fun t h => h.1)⟩
 have HKN : Hid (L.b.know b1.toNat = if L.b.known < b1.toNat ∧ b1.toNat ≤ L.b.rows.length then { L.b with known := b1.toNat } else L.b) := rfl
 have HST := hide (hLA.set5 b1.toNat)
 have HLA := hide hLA
 clear hLA h hs hok
 generalize (L.b.know b1.toNat).may R.window = mw at *
 generalize L.b.know b1.toNat = EK at *
 have n0 : ∀ k, ¬ inLine rid i (rid, 100, k) := fun k hk => by have := hk.2; simp at this; omega
 by_cases hc : L.b.known < b1.toNat ∧ b1.toNat ≤ L.b.rows.length
 ·have hc1 : (L.b.known : Int) < (b1.toNat : Int) := by omega
  have hc2 : (b1.toNat : Int) ≤ (L.b.rows.length : Int) := by omega
  rw [if_pos hc] at HKN
  obtain rfl := unhide HKN
  obtain ⟨x1, x2⟩ := unhide HST
  have d6' := x1.cells.2.2.2.2.2.1
  have c0' := x2.cell c0 (by rw [t2]; exact n0 _)
  dsimp only at d6'
  have HM2 : Hid (∀ W, W = w.setCell ⟨lb, 5, none⟩ (.int .i64 b1.toNat) ∨ W = (w.setCell ⟨lb, 5, none⟩ (.int .i64 b1.toNat)).drew → Calls Try.prog 94 #[.pointer (some ⟨lb, 0, none⟩), .int .i64 1, .int .i64 R.window] W fun e w' => e = .returned (.int .i64 mw) ∧ w' = W) := by
   apply hide
   rintro W (rfl | rfl)
   ·exact (unhide HMAY) own _ x1
   ·exact (unhide HMAY) own _ (x1.upd ((Upd.refl own (fun _ => False) _).drew) (fun _ h => h))
  have HS2 : Hid (∀ W, W = w.setCell ⟨lb, 5, none⟩ (.int .i64 b1.toNat) ∨ W = (w.setCell ⟨lb, 5, none⟩ (.int .i64 b1.toNat)).drew → Calls Try.prog 93 #[.pointer (some ⟨lb, 0, none⟩), .int .i64 1, .int .i64 ((L.b.sent : Int) + 1), .int .i64 mw] W fun e w' => e = .returned (.tuple #[]) ∧ ∃ own', RoomB A own' rid w' b (R.setLine i { L with b := L.b.heard R.window b1.toNat }) ∧ Upd own own' (inRoom rid) w w') := by
   apply hide
   rintro W (rfl | rfl)
   ·exact (unhide HSD) own _ x1 x2
   ·exact (unhide HSD) own _ (x1.upd ((Upd.refl own (fun _ => False) _).drew) (fun _ h => h)) (x2.drew)
  clear x1 x2 HST HMAY HSD HLA HKN
  go_enter Try.func79, Try.ntmps79
  go_wp2_with fail
  generalize w.setCell ⟨lb, 5, none⟩ (.int .i64 b1.toNat) = W1 at *
  go_region_with (first | (go_at_call 94; with_reducible refine (unhide HM2 _ (by first | exact .inl rfl | exact .inr rfl)).mono ?_; rintro e w2 ⟨rfl, hw2⟩; obtain rfl := hw2.symm) | (go_at_call 93; with_reducible refine (unhide HS2 _ (by first | exact .inl rfl | exact .inr rfl)).mono ?_; rintro e w2 ⟨rfl, hF⟩; have HF := hide hF; clear hF))
  all_goals
   go_wp2
   go_returns
   exact ⟨rfl, unhide HF⟩
 ·have HKN2 := hide (unhide HKN)
  rw [if_neg hc] at HKN2
  obtain rfl := unhide HKN2
  have HM2 : Hid (∀ W, W = w ∨ W = w.drew → Calls Try.prog 94 #[.pointer (some ⟨lb, 0, none⟩), .int .i64 1, .int .i64 R.window] W fun e w' => e = .returned (.int .i64 mw) ∧ w' = W) := by
   apply hide
   rintro W (rfl | rfl)
   ·exact (unhide HMAY) own _ (unhide HLA)
   ·exact (unhide HMAY) own _ ((unhide HLA).upd ((Upd.refl own (fun _ => False) _).drew) (fun _ h => h))
  have HS2 : Hid (∀ W, W = w ∨ W = w.drew → Calls Try.prog 93 #[.pointer (some ⟨lb, 0, none⟩), .int .i64 1, .int .i64 ((L.b.sent : Int) + 1), .int .i64 mw] W fun e w' => e = .returned (.tuple #[]) ∧ ∃ own', RoomB A own' rid w' b (R.setLine i { L with b := L.b.heard R.window b1.toNat }) ∧ Upd own own' (inRoom rid) w w') := by
   apply hide
   rintro W (rfl | rfl)
   ·exact (unhide HSD) own _ (unhide HLA) (Upd.refl _ _ _)
   ·exact (unhide HSD) own _ ((unhide HLA).upd ((Upd.refl own (fun _ => False) _).drew) (fun _ h => h)) ((Upd.refl _ _ _).drew)
  clear HST HMAY HSD HLA HKN HKN2
  by_cases hk1 : L.b.known < b1.toNat
  ·have hc1 : (L.b.known : Int) < (b1.toNat : Int) := by omega
   have hc2 : ¬ ((b1.toNat : Int) ≤ (L.b.rows.length : Int)) := by omega
   go_enter Try.func79, Try.ntmps79
   go_wp2_with fail
   go_region_with (first | (go_at_call 94; with_reducible refine (unhide HM2 _ (by first | exact .inl rfl | exact .inr rfl)).mono ?_; rintro e w2 ⟨rfl, hw2⟩; obtain rfl := hw2.symm) | (go_at_call 93; with_reducible refine (unhide HS2 _ (by first | exact .inl rfl | exact .inr rfl)).mono ?_; rintro e w2 ⟨rfl, hF⟩; have HF := hide hF; clear hF))
   all_goals
    go_wp2
    go_returns
    exact ⟨rfl, unhide HF⟩
  ·have hc1 : ¬ ((L.b.known : Int) < (b1.toNat : Int)) := by omega
   go_enter Try.func79, Try.ntmps79
   go_wp2_with fail
   go_region_with (first | (go_at_call 94; with_reducible refine (unhide HM2 _ (by first | exact .inl rfl | exact .inr rfl)).mono ?_; rintro e w2 ⟨rfl, hw2⟩; obtain rfl := hw2.symm) | (go_at_call 93; with_reducible refine (unhide HS2 _ (by first | exact .inl rfl | exact .inr rfl)).mono ?_; rintro e w2 ⟨rfl, hF⟩; have HF := hide hF; clear hF))
   all_goals
    go_wp2
    go_returns
    exact ⟨rfl, unhide HF⟩
end Go.Proofs.Ytemkgikncmhoaaa

