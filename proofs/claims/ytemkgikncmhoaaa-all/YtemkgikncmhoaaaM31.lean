import Derived.Test.YtemkgikncmhoaaaM07
import Derived.Test.YtemkgikncmhoaaaM08
import Derived.Test.YtemkgikncmhoaaaM11
namespace Go.Proofs.Ytemkgikncmhoaaa
open Go.RowKit
attribute [local go_sem ↓] Go.wp_at_zero Go.wp_at_succ

def REnd.word (E : REnd) : REnd := E.fly (ckd [2, (E.taken : Int)])
def REnd.tick (E : REnd) (window : Nat) : REnd := (if E.may window ≤ E.known ∧ 0 < E.taken then E.word else E).sendN (E.known + 1) (E.may window - E.known)
theorem REnd.Ok.word {E : REnd} (h : E.Ok) : E.word.Ok := h.fly _
theorem bytes_word (n : Nat) (h : n ≤ 255) : Bytes [2, (n : Int)] := by
 intro q
 match q with
 | 0 | 1 => refine ⟨?_, ?_⟩ <;> simp <;> omega
 | q + 2 => simp

set_option maxRecDepth 100000 in
set_option maxHeartbeats 400000 in
theorem word_0 (own : Nat → Tag) (rid c b : Nat) (L : RLine) (w : World) (h : LineAt own rid c w b L) (hok : L.a.Ok) :
  Calls Try.prog 96 #[.pointer (some ⟨b, 0, none⟩), .int .i64 0] w fun e w' => e = .returned (.tuple #[]) ∧ ∃ own', LineAt own' rid c w' b { L with a := L.a.word } ∧ Upd own own' (inLine rid c) w w' := by
 have h2 : w.cell? ⟨b, 2, none⟩ = some (.int .i64 L.a.taken) := h.cells.1
 have hsp1 : L.a.spoilt.length < 13 := by have := hok.out; have := hok.spoilt; omega
 have htk := hok.taken
 have hbl := h.lt.1
 have n1 : ¬ (b = w.heap.size) := by omega
 have h2a : ∀ u, (w.alloc u).cell? ⟨b, 2, none⟩ = some (.int .i64 L.a.taken) := fun u => by rw [World.cell?_alloc_lt _ _ _ hbl]; exact h2
 have HCK : Hid (∀ u W, u = .cells #[.int .i64 2, .int .i64 L.a.taken] 3 → W = w.alloc u → Calls Try.prog 103 #[.slice (some ⟨w.heap.size, 0, none⟩) 2 2] W fun e w' => e = .returned (.string (ckd [2, (L.a.taken : Int)])) ∧ Below W.heap.size W w') := by
  apply hide
  rintro u W rfl rfl
  exact checked_lit [2, (L.a.taken : Int)] 2 _ _ _ rfl (bytes_word _ (by omega)) (by decide) (heap_alloc_new w _)
 have HFL : Hid (∀ W, Below w.heap.size w W → Calls Try.prog 102 #[.pointer (some ⟨b, 0, none⟩), .int .i64 0, .string (ckd [2, (L.a.taken : Int)])] W fun e w' => e = .returned (.tuple #[]) ∧ ∃ own', LineAt own' rid c w' b { L with a := L.a.word } ∧ Upd own own' (inLine rid c) w w') := by
  apply hide
  intro W hB
  refine (fly_0 own rid c b L _ W (h.upd (Upd.of_below own (fun _ => False) hB) (fun _ h => h)) hsp1).mono ?_
  rintro e w' ⟨rfl, own', hL, hU⟩
  exact ⟨rfl, own', hL, (Upd.of_below own _ hB).trans hU⟩
 clear h
 go_enter Try.func96, Try.ntmps96
 go_wp2_with fail
 refine (unhide HCK _ _ rfl rfl).mono ?_
 rintro e w3 ⟨rfl, hb3⟩
 have HB3 := hide (((Below.refl w.heap.size w).alloc (Nat.le_refl _) (.cells #[.int .i64 2, .int .i64 L.a.taken] 3)).trans (hb3.mono (Nat.le_of_lt (by simp))))
 clear hb3 HCK
 go_wp2_with fail
 refine (unhide HFL _ (unhide HB3)).mono ?_
 rintro e w4 ⟨rfl, hF⟩
 have HF := hide hF
 clear hF
 go_wp2
 go_end0
 exact ⟨rfl, unhide HF⟩

set_option maxRecDepth 100000 in
set_option maxHeartbeats 800000 in
theorem tick_0 (own : Nat → Tag) (rid c b : Nat) (L : RLine) (window : Nat) (w : World) (h : LineAt own rid c w b L) (hok : L.a.Ok) (hw : window ≤ 4) (hk : L.a.known ≤ L.a.rows.length) :
  Calls Try.prog 80 #[.pointer (some ⟨b, 0, none⟩), .int .i64 0, .int .i64 window] w fun e w' => e = .returned (.tuple #[]) ∧ ∃ own', LineAt own' rid c w' b { L with a := L.a.tick window } ∧ Upd own own' (inLine rid c) w w' := by
 have h2 : w.cell? ⟨b, 2, none⟩ = some (.int .i64 L.a.taken) := h.cells.1
 have h4 : w.cell? ⟨b, 4, none⟩ = some (.int .i64 L.a.known) := h.cells.2.2.1
 have hk240 := hok.known
 have hmk : L.a.known ≤ L.a.may window := by unfold REnd.may; omega
 have hmr : L.a.may window ≤ L.a.rows.length := by unfold REnd.may; omega
 have hr240 := hok.rows
 have HMAY := hide (may_0 own rid c b L window w h hok hw)
 have HSD : Hid (∀ (E : REnd) own1 W (a t : Int), E.Ok → E.rows = L.a.rows → a = ((L.a.known + 1 : Nat) : Int) → t = ((L.a.may window : Nat) : Int) → LineAt own1 rid c W b { L with a := E } → Upd own own1 (inLine rid c) w W →
   Calls Try.prog 93 #[.pointer (some ⟨b, 0, none⟩), .int .i64 0, .int .i64 a, .int .i64 t] W fun e w' => e = .returned (.tuple #[]) ∧ ∃ own', LineAt own' rid c w' b { L with a := E.sendN (L.a.known + 1) (L.a.may window - L.a.known) } ∧ Upd own own' (inLine rid c) w w') := by
  apply hide
  intro E own1 W a t hE hrw ha ht hL hU
  obtain rfl : t = ((L.a.known + 1 : Nat) : Int) + ((L.a.may window - L.a.known : Nat) : Int) - 1 := by omega
  subst ha
  refine (send_0 own1 rid c b { L with a := E } (L.a.known + 1) (L.a.may window - L.a.known) W hL hE (by omega) (by rw [show ({ L with a := E } : RLine).a.rows = E.rows from rfl, hrw]; omega)).mono ?_
  rintro e w' ⟨rfl, own', hL', hU'⟩
  exact ⟨rfl, own', hL', hU.trans hU'⟩
 have HWD := hide (word_0 own rid c b L w h hok)
 have HL := hide h
 have HTK : Hid (L.a.tick window = (if L.a.may window ≤ L.a.known ∧ 0 < L.a.taken then L.a.word else L.a).sendN (L.a.known + 1) (L.a.may window - L.a.known)) := rfl
 have HOK := hide hok
 clear h hok
 have hwk : IntKind.i64.wrap ((L.a.known : Int) + 1) = (L.a.known : Int) + 1 := by rw [IntKind.wrap_i64]; omega
 generalize L.a.may window = mw at *
 go_enter Try.func80, Try.ntmps80
 go_wp2_with fail
 refine (unhide HMAY).mono ?_
 rintro e w1 ⟨rfl, hw1⟩
 obtain rfl := hw1.symm
 by_cases hc : mw ≤ L.a.known ∧ 0 < L.a.taken
 ·rw [if_pos hc] at HTK
  have hc1 : (mw : Int) ≤ (L.a.known : Int) := by omega
  have hc2 : (0 : Int) < (L.a.taken : Int) := by omega
  go_wp2_with fail
  refine (unhide HWD).mono ?_
  rintro e w2 ⟨rfl, own2, hL2, hU2⟩
  have h4' : w2.cell? ⟨b, 4, none⟩ = some (.int .i64 L.a.known) := by rw [hL2.cells.2.2.1]; exact congrArg (fun n : Nat => some (Value.int .i64 n)) (L.a.fly_rows _).2.2.1
  have HSD2 := hide ((unhide HSD) _ own2 w2 _ _ (unhide HOK).word (L.a.fly_rows _).1 rfl rfl hL2 hU2)
  clear hL2 hU2 HWD HSD
  go_wp2_with fail
  refine (unhide HSD2).mono ?_
  rintro e w3 ⟨rfl, hF⟩
  have HF := hide hF
  clear hF HSD2
  go_wp2
  go_end0
  rw [unhide HTK]
  exact ⟨rfl, unhide HF⟩
 ·rw [if_neg hc] at HTK
  have HSD2 := hide ((unhide HSD) _ own w _ _ (unhide HOK) rfl rfl rfl (unhide HL) (Upd.refl _ _ _))
  clear HWD HSD HL
  by_cases hc1 : (mw : Int) ≤ (L.a.known : Int)
  ·have hc2 : ¬ (0 : Int) < (L.a.taken : Int) := by omega
   go_wp2_with fail
   refine (unhide HSD2).mono ?_
   rintro e w3 ⟨rfl, hF⟩
   have HF := hide hF
   clear hF HSD2
   go_wp2
   go_end0
   rw [unhide HTK]
   exact ⟨rfl, unhide HF⟩
  ·go_wp2_with fail
   refine (unhide HSD2).mono ?_
   rintro e w3 ⟨rfl, hF⟩
   have HF := hide hF
   clear hF HSD2
   go_wp2
   go_end0
   rw [unhide HTK]
   exact ⟨rfl, unhide HF⟩
set_option maxRecDepth 100000 in
set_option maxHeartbeats 400000 in
theorem word_1 (own : Nat → Tag) (rid c b : Nat) (L : RLine) (w : World) (h : LineAt own rid c w b L) (hok : L.b.Ok) :
  Calls Try.prog 96 #[.pointer (some ⟨b, 0, none⟩), .int .i64 1] w fun e w' => e = .returned (.tuple #[]) ∧ ∃ own', LineAt own' rid c w' b { L with b := L.b.word } ∧ Upd own own' (inLine rid c) w w' := by
 have h2 : w.cell? ⟨b, 3, none⟩ = some (.int .i64 L.b.taken) := h.cells.2.1
 have hsp1 : L.b.spoilt.length < 13 := by have := hok.out; have := hok.spoilt; omega
 have htk := hok.taken
 have hbl := h.lt.1
 have n1 : ¬ (b = w.heap.size) := by omega
 have h2a : ∀ u, (w.alloc u).cell? ⟨b, 3, none⟩ = some (.int .i64 L.b.taken) := fun u => by rw [World.cell?_alloc_lt _ _ _ hbl]; exact h2
 have HCK : Hid (∀ u W, u = .cells #[.int .i64 2, .int .i64 L.b.taken] 3 → W = w.alloc u → Calls Try.prog 103 #[.slice (some ⟨w.heap.size, 0, none⟩) 2 2] W fun e w' => e = .returned (.string (ckd [2, (L.b.taken : Int)])) ∧ Below W.heap.size W w') := by
  apply hide
  rintro u W rfl rfl
  exact checked_lit [2, (L.b.taken : Int)] 2 _ _ _ rfl (bytes_word _ (by omega)) (by decide) (heap_alloc_new w _)
 have HFL : Hid (∀ W, Below w.heap.size w W → Calls Try.prog 102 #[.pointer (some ⟨b, 0, none⟩), .int .i64 1, .string (ckd [2, (L.b.taken : Int)])] W fun e w' => e = .returned (.tuple #[]) ∧ ∃ own', LineAt own' rid c w' b { L with b := L.b.word } ∧ Upd own own' (inLine rid c) w w') := by
  apply hide
  intro W hB
  refine (fly_1 own rid c b L _ W (h.upd (Upd.of_below own (fun _ => False) hB) (fun _ h => h)) hsp1).mono ?_
  rintro e w' ⟨rfl, own', hL, hU⟩
  exact ⟨rfl, own', hL, (Upd.of_below own _ hB).trans hU⟩
 clear h
 go_enter Try.func96, Try.ntmps96
 go_wp2_with fail
 refine (unhide HCK _ _ rfl rfl).mono ?_
 rintro e w3 ⟨rfl, hb3⟩
 have HB3 := hide (((Below.refl w.heap.size w).alloc (Nat.le_refl _) (.cells #[.int .i64 2, .int .i64 L.b.taken] 3)).trans (hb3.mono (Nat.le_of_lt (by simp))))
 clear hb3 HCK
 go_wp2_with fail
 refine (unhide HFL _ (unhide HB3)).mono ?_
 rintro e w4 ⟨rfl, hF⟩
 have HF := hide hF
 clear hF
 go_wp2
 go_end0
 exact ⟨rfl, unhide HF⟩

set_option maxRecDepth 100000 in
set_option maxHeartbeats 800000 in
theorem tick_1 (own : Nat → Tag) (rid c b : Nat) (L : RLine) (window : Nat) (w : World) (h : LineAt own rid c w b L) (hok : L.b.Ok) (hw : window ≤ 4) (hk : L.b.known ≤ L.b.rows.length) :
  Calls Try.prog 80 #[.pointer (some ⟨b, 0, none⟩), .int .i64 1, .int .i64 window] w fun e w' => e = .returned (.tuple #[]) ∧ ∃ own', LineAt own' rid c w' b { L with b := L.b.tick window } ∧ Upd own own' (inLine rid c) w w' := by
 have h2 : w.cell? ⟨b, 3, none⟩ = some (.int .i64 L.b.taken) := h.cells.2.1
 have h4 : w.cell? ⟨b, 5, none⟩ = some (.int .i64 L.b.known) := h.cells.2.2.2.1
 have hk240 := hok.known
 have hmk : L.b.known ≤ L.b.may window := by unfold REnd.may; omega
 have hmr : L.b.may window ≤ L.b.rows.length := by unfold REnd.may; omega
 have hr240 := hok.rows
 have HMAY := hide (may_1 own rid c b L window w h hok hw)
 have HSD : Hid (∀ (E : REnd) own1 W (a t : Int), E.Ok → E.rows = L.b.rows → a = ((L.b.known + 1 : Nat) : Int) → t = ((L.b.may window : Nat) : Int) → LineAt own1 rid c W b { L with b := E } → Upd own own1 (inLine rid c) w W →
   Calls Try.prog 93 #[.pointer (some ⟨b, 0, none⟩), .int .i64 1, .int .i64 a, .int .i64 t] W fun e w' => e = .returned (.tuple #[]) ∧ ∃ own', LineAt own' rid c w' b { L with b := E.sendN (L.b.known + 1) (L.b.may window - L.b.known) } ∧ Upd own own' (inLine rid c) w w') := by
  apply hide
  intro E own1 W a t hE hrw ha ht hL hU
  obtain rfl : t = ((L.b.known + 1 : Nat) : Int) + ((L.b.may window - L.b.known : Nat) : Int) - 1 := by omega
  subst ha
  refine (send_1 own1 rid c b { L with b := E } (L.b.known + 1) (L.b.may window - L.b.known) W hL hE (by omega) (by rw [show ({ L with b := E } : RLine).b.rows = E.rows from rfl, hrw]; omega)).mono ?_
  rintro e w' ⟨rfl, own', hL', hU'⟩
  exact ⟨rfl, own', hL', hU.trans hU'⟩
 have HWD := hide (word_1 own rid c b L w h hok)
 have HL := hide h
 have HTK : Hid (L.b.tick window = (if L.b.may window ≤ L.b.known ∧ 0 < L.b.taken then L.b.word else L.b).sendN (L.b.known + 1) (L.b.may window - L.b.known)) := rfl
 have HOK := hide hok
 clear h hok
 have hwk : IntKind.i64.wrap ((L.b.known : Int) + 1) = (L.b.known : Int) + 1 := by rw [IntKind.wrap_i64]; omega
 generalize L.b.may window = mw at *
 go_enter Try.func80, Try.ntmps80
 go_wp2_with fail
 refine (unhide HMAY).mono ?_
 rintro e w1 ⟨rfl, hw1⟩
 obtain rfl := hw1.symm
 by_cases hc : mw ≤ L.b.known ∧ 0 < L.b.taken
 ·rw [if_pos hc] at HTK
  have hc1 : (mw : Int) ≤ (L.b.known : Int) := by omega
  have hc2 : (0 : Int) < (L.b.taken : Int) := by omega
  go_wp2_with fail
  refine (unhide HWD).mono ?_
  rintro e w2 ⟨rfl, own2, hL2, hU2⟩
  have h4' : w2.cell? ⟨b, 5, none⟩ = some (.int .i64 L.b.known) := by rw [hL2.cells.2.2.2.1]; exact congrArg (fun n : Nat => some (Value.int .i64 n)) (L.b.fly_rows _).2.2.1
  have HSD2 := hide ((unhide HSD) _ own2 w2 _ _ (unhide HOK).word (L.b.fly_rows _).1 rfl rfl hL2 hU2)
  clear hL2 hU2 HWD HSD
  go_wp2_with fail
  refine (unhide HSD2).mono ?_
  rintro e w3 ⟨rfl, hF⟩
  have HF := hide hF
  clear hF HSD2
  go_wp2
  go_end0
  rw [unhide HTK]
  exact ⟨rfl, unhide HF⟩
 ·rw [if_neg hc] at HTK
  have HSD2 := hide ((unhide HSD) _ own w _ _ (unhide HOK) rfl rfl rfl (unhide HL) (Upd.refl _ _ _))
  clear HWD HSD HL
  by_cases hc1 : (mw : Int) ≤ (L.b.known : Int)
  ·have hc2 : ¬ (0 : Int) < (L.b.taken : Int) := by omega
   go_wp2_with fail
   refine (unhide HSD2).mono ?_
   rintro e w3 ⟨rfl, hF⟩
   have HF := hide hF
   clear hF HSD2
   go_wp2
   go_end0
   rw [unhide HTK]
   exact ⟨rfl, unhide HF⟩
  ·go_wp2_with fail
   refine (unhide HSD2).mono ?_
   rintro e w3 ⟨rfl, hF⟩
   have HF := hide hF
   clear hF HSD2
   go_wp2
   go_end0
   rw [unhide HTK]
   exact ⟨rfl, unhide HF⟩

set_option maxRecDepth 100000 in
set_option maxHeartbeats 400000 in
theorem do_nop (t : List UInt8) (cl p l : Int) (w : World) :
  Calls Try.prog 97 #[.string ⟨t.toArray⟩, .agg #[.int .i64 cl, .int .i64 0, .int .i64 p, .int .u8 l]] w fun e w' => e = .returned (.string ⟨t.toArray⟩) ∧ Below w.heap.size w w' := by
 go_enter Try.func97, Try.ntmps97
 go_wp2
 go_ret
 exact ⟨rfl, by go_grown⟩
/-- An operation that is meant for a text, to it. -/
theorem do_any (t : List UInt8) (o : ROp) (w : World) (ht : t.length ≤ 1000) (hf : o.fits t.length) (hl : 0 ≤ o.letter ∧ o.letter ≤ 255) :
  Calls Try.prog 97 #[.string ⟨t.toArray⟩, .agg #[.int .i64 o.client, .int .i64 o.verb, .int .i64 o.place, .int .u8 o.letter]] w fun e w' => e = .returned (bstr (o.does t)) ∧ Below w.heap.size w w' := by
 obtain ⟨cl, vb, p, l⟩ := o
 obtain ⟨q, rfl⟩ := Int.eq_ofNat_of_zero_le hl.1
 rcases hf with rfl | ⟨rfl, h1, h2⟩ | ⟨rfl, h1, h2⟩
 ·rw [ROp.does_nop]; exact do_nop t cl p q w
 ·obtain ⟨p, rfl⟩ := Int.eq_ofNat_of_zero_le h1
  rw [ROp.does_put]
  have := do_put t cl p q w ht (by dsimp only at h2; omega) (by have := hl.2; dsimp only at this; omega)
  exact this
 ·obtain ⟨p, rfl⟩ := Int.eq_ofNat_of_zero_le h1
  rw [ROp.does_cut]
  exact do_cut t cl p q w ht (by dsimp only at h2; omega)
end Go.Proofs.Ytemkgikncmhoaaa

namespace Go.Proofs.Ytemkgikncmhoaaa
open Go.RowKit

def ROp.vl (o : ROp) : Value := .agg #[.int .i64 o.client, .int .i64 o.verb, .int .i64 o.place, .int .u8 o.letter]
/-- An operation whose numbers are small. -/
structure ROp.Tiny (o : ROp) : Prop where
 verb : o.verb = 0 ∨ o.verb = 1 ∨ o.verb = 2
 lo : -1000000 ≤ o.place
 hi : o.place ≤ 1000000

set_option maxRecDepth 100000 in
set_option maxHeartbeats 800000 in
theorem turn_w0 (c d p q l m vb : Int) (w : World) :
  Calls Try.prog 107 #[.agg #[.int .i64 c, .int .i64 0, .int .i64 p, .int .u8 l], .agg #[.int .i64 d, .int .i64 vb, .int .i64 q, .int .u8 m]] w fun e w' => e = .returned (⟨c, 0, p, l⟩ : ROp).vl ∧ Below w.heap.size w w' := by
 go_enter Try.func107, Try.ntmps107
 go_wp2
 go_returns
 exact ⟨rfl, by go_grown⟩
set_option maxRecDepth 100000 in
set_option maxHeartbeats 800000 in
theorem turn_w1 (c d p q l m va : Int) (w : World) (h : (va == 0) = false) :
  Calls Try.prog 107 #[.agg #[.int .i64 c, .int .i64 va, .int .i64 p, .int .u8 l], .agg #[.int .i64 d, .int .i64 0, .int .i64 q, .int .u8 m]] w fun e w' => e = .returned (⟨c, va, p, l⟩ : ROp).vl ∧ Below w.heap.size w w' := by
 go_enter Try.func107, Try.ntmps107
 go_wp2
 go_returns
 exact ⟨rfl, by go_grown⟩
set_option maxRecDepth 100000 in
set_option maxHeartbeats 800000 in
theorem turn_pp1 (c d p q l m : Int) (w : World) (hp : -1000000 ≤ p) (hp2 : p ≤ 1000000) (h : q < p) :
  Calls Try.prog 107 #[.agg #[.int .i64 c, .int .i64 1, .int .i64 p, .int .u8 l], .agg #[.int .i64 d, .int .i64 1, .int .i64 q, .int .u8 m]] w fun e w' => e = .returned (⟨c, 1, p + 1, l⟩ : ROp).vl ∧ Below w.heap.size w w' := by
 go_enter Try.func107, Try.ntmps107
 go_wp2
 go_returns
 exact ⟨rfl, by go_grown⟩
set_option maxRecDepth 100000 in
set_option maxHeartbeats 800000 in
theorem turn_pp2 (c d p q l m : Int) (w : World) (hp : -1000000 ≤ p) (hp2 : p ≤ 1000000) (h : p = q) (h2 : d < c) :
  Calls Try.prog 107 #[.agg #[.int .i64 c, .int .i64 1, .int .i64 p, .int .u8 l], .agg #[.int .i64 d, .int .i64 1, .int .i64 q, .int .u8 m]] w fun e w' => e = .returned (⟨c, 1, p + 1, l⟩ : ROp).vl ∧ Below w.heap.size w w' := by
 subst h
 go_enter Try.func107, Try.ntmps107
 go_wp2
 go_returns
 exact ⟨rfl, by go_grown⟩
set_option maxRecDepth 100000 in
set_option maxHeartbeats 800000 in
theorem turn_pp3 (c d p q l m : Int) (w : World) (h : p = q) (h2 : ¬ d < c) :
  Calls Try.prog 107 #[.agg #[.int .i64 c, .int .i64 1, .int .i64 p, .int .u8 l], .agg #[.int .i64 d, .int .i64 1, .int .i64 q, .int .u8 m]] w fun e w' => e = .returned (⟨c, 1, p, l⟩ : ROp).vl ∧ Below w.heap.size w w' := by
 subst h
 go_enter Try.func107, Try.ntmps107
 go_wp2
 go_returns
 exact ⟨rfl, by go_grown⟩
set_option maxRecDepth 100000 in
set_option maxHeartbeats 800000 in
theorem turn_pp4 (c d p q l m : Int) (w : World) (h : p < q) :
  Calls Try.prog 107 #[.agg #[.int .i64 c, .int .i64 1, .int .i64 p, .int .u8 l], .agg #[.int .i64 d, .int .i64 1, .int .i64 q, .int .u8 m]] w fun e w' => e = .returned (⟨c, 1, p, l⟩ : ROp).vl ∧ Below w.heap.size w w' := by
 have h2 : (p == q) = false := by rw [beq_eq_false_iff_ne]; omega
 go_enter Try.func107, Try.ntmps107
 go_wp2
 go_returns
 exact ⟨rfl, by go_grown⟩
set_option maxRecDepth 100000 in
set_option maxHeartbeats 800000 in
theorem turn_pc1 (c d p q l m : Int) (w : World) (hp : -1000000 ≤ p) (hp2 : p ≤ 1000000) (h : q < p) :
  Calls Try.prog 107 #[.agg #[.int .i64 c, .int .i64 1, .int .i64 p, .int .u8 l], .agg #[.int .i64 d, .int .i64 2, .int .i64 q, .int .u8 m]] w fun e w' => e = .returned (⟨c, 1, p - 1, l⟩ : ROp).vl ∧ Below w.heap.size w w' := by
 go_enter Try.func107, Try.ntmps107
 go_wp2
 go_returns
 exact ⟨rfl, by go_grown⟩
set_option maxRecDepth 100000 in
set_option maxHeartbeats 800000 in
theorem turn_pc2 (c d p q l m : Int) (w : World) (h : ¬ q < p) :
  Calls Try.prog 107 #[.agg #[.int .i64 c, .int .i64 1, .int .i64 p, .int .u8 l], .agg #[.int .i64 d, .int .i64 2, .int .i64 q, .int .u8 m]] w fun e w' => e = .returned (⟨c, 1, p, l⟩ : ROp).vl ∧ Below w.heap.size w w' := by
 go_enter Try.func107, Try.ntmps107
 go_wp2
 go_returns
 exact ⟨rfl, by go_grown⟩
set_option maxRecDepth 100000 in
set_option maxHeartbeats 800000 in
theorem turn_cp1 (c d p q l m : Int) (w : World) (hp : -1000000 ≤ p) (hp2 : p ≤ 1000000) (h : q ≤ p) :
  Calls Try.prog 107 #[.agg #[.int .i64 c, .int .i64 2, .int .i64 p, .int .u8 l], .agg #[.int .i64 d, .int .i64 1, .int .i64 q, .int .u8 m]] w fun e w' => e = .returned (⟨c, 2, p + 1, l⟩ : ROp).vl ∧ Below w.heap.size w w' := by
 go_enter Try.func107, Try.ntmps107
 go_wp2
 go_returns
 exact ⟨rfl, by go_grown⟩
set_option maxRecDepth 100000 in
set_option maxHeartbeats 800000 in
theorem turn_cp2 (c d p q l m : Int) (w : World) (h : ¬ q ≤ p) :
  Calls Try.prog 107 #[.agg #[.int .i64 c, .int .i64 2, .int .i64 p, .int .u8 l], .agg #[.int .i64 d, .int .i64 1, .int .i64 q, .int .u8 m]] w fun e w' => e = .returned (⟨c, 2, p, l⟩ : ROp).vl ∧ Below w.heap.size w w' := by
 go_enter Try.func107, Try.ntmps107
 go_wp2
 go_returns
 exact ⟨rfl, by go_grown⟩
set_option maxRecDepth 100000 in
set_option maxHeartbeats 800000 in
theorem turn_cc1 (c d p q l m : Int) (w : World) (h : p = q) :
  Calls Try.prog 107 #[.agg #[.int .i64 c, .int .i64 2, .int .i64 p, .int .u8 l], .agg #[.int .i64 d, .int .i64 2, .int .i64 q, .int .u8 m]] w fun e w' => e = .returned (⟨c, 0, 0, 0⟩ : ROp).vl ∧ Below w.heap.size w w' := by
 subst h
 go_enter Try.func107, Try.ntmps107
 go_wp2
 go_returns
 exact ⟨rfl, by go_grown⟩
set_option maxRecDepth 100000 in
set_option maxHeartbeats 800000 in
theorem turn_cc2 (c d p q l m : Int) (w : World) (hp : -1000000 ≤ p) (hp2 : p ≤ 1000000) (h : q < p) :
  Calls Try.prog 107 #[.agg #[.int .i64 c, .int .i64 2, .int .i64 p, .int .u8 l], .agg #[.int .i64 d, .int .i64 2, .int .i64 q, .int .u8 m]] w fun e w' => e = .returned (⟨c, 2, p - 1, l⟩ : ROp).vl ∧ Below w.heap.size w w' := by
 have h2 : (p == q) = false := by rw [beq_eq_false_iff_ne]; omega
 go_enter Try.func107, Try.ntmps107
 go_wp2
 go_returns
 exact ⟨rfl, by go_grown⟩
set_option maxRecDepth 100000 in
set_option maxHeartbeats 800000 in
theorem turn_cc3 (c d p q l m : Int) (w : World) (h : p < q) :
  Calls Try.prog 107 #[.agg #[.int .i64 c, .int .i64 2, .int .i64 p, .int .u8 l], .agg #[.int .i64 d, .int .i64 2, .int .i64 q, .int .u8 m]] w fun e w' => e = .returned (⟨c, 2, p, l⟩ : ROp).vl ∧ Below w.heap.size w w' := by
 have h2 : (p == q) = false := by rw [beq_eq_false_iff_ne]; omega
 go_enter Try.func107, Try.ntmps107
 go_wp2
 go_returns
 exact ⟨rfl, by go_grown⟩

/-- TURN. -/
theorem turn_any (a b : ROp) (w : World) (ha : a.Tiny) (hb : b.Tiny) :
  Calls Try.prog 107 #[a.vl, b.vl] w fun e w' => e = .returned (a.turn b).vl ∧ Below w.heap.size w w' := by
 obtain ⟨c, va, p, l⟩ := a
 obtain ⟨d, vb, q, m⟩ := b
 obtain ⟨h1, h2, h3⟩ := ha
 obtain ⟨g1, g2, g3⟩ := hb
 dsimp only at h1 h2 h3 g1 g2 g3
 unfold ROp.vl
 dsimp only
 by_cases h0 : va = 0
 ·subst h0
  rw [show (⟨c, 0, p, l⟩ : ROp).turn ⟨d, vb, q, m⟩ = ⟨c, 0, p, l⟩ from turn_nop _ _ _ _]
  exact turn_w0 c d p q l m vb w
 by_cases g0 : vb = 0
 ·subst g0
  rw [show (⟨c, va, p, l⟩ : ROp).turn ⟨d, 0, q, m⟩ = ⟨c, va, p, l⟩ from turn_by_nop _ _ _ _]
  exact turn_w1 c d p q l m va w (by rw [beq_eq_false_iff_ne]; exact h0)
 obtain rfl | rfl : va = 1 ∨ va = 2 := by omega
 ·obtain rfl | rfl : vb = 1 ∨ vb = 2 := by omega
  ·by_cases k1 : q < p
   ·rw [show (⟨c, 1, p, l⟩ : ROp).turn ⟨d, 1, q, m⟩ = ⟨c, 1, p + 1, l⟩ from by simp [ROp.turn, k1]]
    exact turn_pp1 c d p q l m w h2 h3 k1
   ·by_cases k2 : p = q
    ·by_cases k3 : d < c
     ·rw [show (⟨c, 1, p, l⟩ : ROp).turn ⟨d, 1, q, m⟩ = ⟨c, 1, p + 1, l⟩ from by simp [ROp.turn, k2, k3]]
      exact turn_pp2 c d p q l m w h2 h3 k2 k3
     ·rw [show (⟨c, 1, p, l⟩ : ROp).turn ⟨d, 1, q, m⟩ = ⟨c, 1, p, l⟩ from by simp [ROp.turn, k2, k3]]
      exact turn_pp3 c d p q l m w k2 k3
    ·rw [show (⟨c, 1, p, l⟩ : ROp).turn ⟨d, 1, q, m⟩ = ⟨c, 1, p, l⟩ from by simp [ROp.turn, k1, k2]]
     exact turn_pp4 c d p q l m w (by omega)
  ·by_cases k1 : q < p
   ·rw [show (⟨c, 1, p, l⟩ : ROp).turn ⟨d, 2, q, m⟩ = ⟨c, 1, p - 1, l⟩ from by simp [ROp.turn, k1]]
    exact turn_pc1 c d p q l m w h2 h3 k1
   ·rw [show (⟨c, 1, p, l⟩ : ROp).turn ⟨d, 2, q, m⟩ = ⟨c, 1, p, l⟩ from by simp [ROp.turn, k1]]
    exact turn_pc2 c d p q l m w k1
 ·obtain rfl | rfl : vb = 1 ∨ vb = 2 := by omega
  ·by_cases k1 : q ≤ p
   ·rw [show (⟨c, 2, p, l⟩ : ROp).turn ⟨d, 1, q, m⟩ = ⟨c, 2, p + 1, l⟩ from by simp [ROp.turn, k1]]
    exact turn_cp1 c d p q l m w h2 h3 k1
   ·rw [show (⟨c, 2, p, l⟩ : ROp).turn ⟨d, 1, q, m⟩ = ⟨c, 2, p, l⟩ from by simp [ROp.turn, k1]]
    exact turn_cp2 c d p q l m w k1
  ·by_cases k2 : p = q
   ·rw [show (⟨c, 2, p, l⟩ : ROp).turn ⟨d, 2, q, m⟩ = ⟨c, 0, 0, 0⟩ from by simp [ROp.turn, k2]]
    exact turn_cc1 c d p q l m w k2
   ·by_cases k1 : q < p
    ·rw [show (⟨c, 2, p, l⟩ : ROp).turn ⟨d, 2, q, m⟩ = ⟨c, 2, p - 1, l⟩ from by simp [ROp.turn, k1, k2]]
     exact turn_cc2 c d p q l m w h2 h3 k1
    ·rw [show (⟨c, 2, p, l⟩ : ROp).turn ⟨d, 2, q, m⟩ = ⟨c, 2, p, l⟩ from by simp [ROp.turn, k1, k2]]
     exact turn_cc3 c d p q l m w (by omega)
end Go.Proofs.Ytemkgikncmhoaaa

namespace Go.Proofs.Ytemkgikncmhoaaa
open Go.RowKit

def histOf (ms : List RMsg) : List GMsg := ms.map fun m => ⟨m.ctx, m.first⟩
/-- The forms that a row bears are those of the grid. -/
def MemoR (us ds : List GMsg) (ms : List RMsg) : Prop := ∀ i m, ms[i]? = some m → m.forms ≠ [] ∧ m.ctx + m.forms.length ≤ ds.length + 1 ∧ ∀ j f, m.forms[j]? = some f → f = form us ds (i + 1) (m.ctx + j)
def RLine.withRows (L : RLine) (ra rb : List RMsg) : RLine := ⟨{ L.a with rows := ra }, { L.b with rows := rb }⟩

theorem histOf_len (ms : List RMsg) : (histOf ms).length = ms.length := by simp [histOf]
theorem histOf_get {ms : List RMsg} {i : Nat} {m : RMsg} (h : ms[i]? = some m) : gmsg (histOf ms) (i + 1) = ⟨m.ctx, m.first⟩ := by
 unfold gmsg histOf
 rw [Nat.add_sub_cancel, List.getD_eq_getElem?_getD, List.getElem?_map, h]
 rfl
theorem histOf_set {ms : List RMsg} {i : Nat} {m : RMsg} (h : ms[i]? = some m) (m' : RMsg) (h1 : m'.ctx = m.ctx) (h2 : m'.first = m.first) : histOf (ms.set i m') = histOf ms := by
 unfold histOf
 apply List.ext_getElem?
 intro j
 rw [List.getElem?_map, List.getElem?_map, List.getElem?_set]
 by_cases hj : i = j
 ·subst hj
  have hi := (List.getElem?_eq_some_iff.1 h).1
  rw [if_pos rfl, if_pos hi, h]
  simp [h1, h2]
 ·rw [if_neg hj]

/-- Operations whose numbers are small. -/
def OpsOk (us : List GMsg) : Prop := ∀ i, 1 ≤ i → i ≤ us.length → ((gmsg us i).op.verb = 0 ∨ (gmsg us i).op.verb = 1 ∨ (gmsg us i).op.verb = 2) ∧ -1000 ≤ (gmsg us i).op.place ∧ (gmsg us i).op.place ≤ 1000
theorem turn_small (a b : ROp) (n : Int) (hv : a.verb = 0 ∨ a.verb = 1 ∨ a.verb = 2) (h1 : -n ≤ a.place) (h2 : a.place ≤ n) (hn : 0 ≤ n) : ((a.turn b).verb = 0 ∨ (a.turn b).verb = 1 ∨ (a.turn b).verb = 2) ∧ -(n + 1) ≤ (a.turn b).place ∧ (a.turn b).place ≤ n + 1 := by
 unfold ROp.turn
 repeat' split
 all_goals (refine ⟨?_, ?_, ?_⟩ <;> (try dsimp only) <;> omega)
theorem form_small {us ds : List GMsg} (h : OpsOk us) (i : Nat) (h1 : 1 ≤ i) (h2 : i ≤ us.length) : ∀ k : Nat, ((form us ds i k).verb = 0 ∨ (form us ds i k).verb = 1 ∨ (form us ds i k).verb = 2) ∧ -(1000 + (k : Int)) ≤ (form us ds i k).place ∧ (form us ds i k).place ≤ 1000 + (k : Int)
 | 0 => by
  rw [form_base _ _ _ _ (Nat.zero_le _)]
  obtain ⟨a, b, c⟩ := h i h1 h2
  exact ⟨a, by omega, by omega⟩
 | k + 1 => by
  by_cases hk : k + 1 ≤ (gmsg us i).ctx
  ·rw [form_base _ _ _ _ hk]
   obtain ⟨a, b, c⟩ := h i h1 h2
   exact ⟨a, by omega, by omega⟩
  ·rw [form_step _ _ _ _ h1 (by omega), Nat.add_sub_cancel]
   obtain ⟨a, b, c⟩ := form_small h i h1 h2 k
   obtain ⟨x, y, z⟩ := turn_small (form us ds i k) (form ds us (k + 1) (i - 1)) (1000 + k) a (by omega) (by omega) (by omega)
   exact ⟨x, by omega, by omega⟩
theorem form_Tiny {us ds : List GMsg} (h : OpsOk us) (i k : Nat) (h1 : 1 ≤ i) (h2 : i ≤ us.length) (hk : k ≤ 1000) : (form us ds i k).Tiny := by
 obtain ⟨a, b, c⟩ := form_small (ds := ds) h i h1 h2 k
 exact ⟨a, by omega, by omega⟩

/-- What may be asked of Form. -/
structure Asked (us ds : List GMsg) (i k : Nat) : Prop where
 i1 : 1 ≤ i
 il : i ≤ us.length
 kl : k ≤ ds.length
 ck : (gmsg us i).ctx ≤ k
 sq : (gmsg us i).ctx < k → (gmsg ds k).ctx < i
theorem Asked.sub {us ds : List GMsg} {i k n : Nat} (H : Hist us ds) (h : Asked us ds i k) (h1 : (gmsg us i).ctx ≤ n) (h2 : n < k) : Asked ds us (n + 1) (i - 1) := by
 have a1 := h.il
 have a2 := h.kl
 have a3 := h.sq (by omega)
 have a4 := H.md (n + 1) k (by omega) (by omega) a2
 have a5 := h.i1
 refine ⟨by omega, by omega, by omega, by omega, fun h3 => ?_⟩
 have := H.mu (i - 1) i (by omega) (by omega) a1
 omega

theorem zip_cells : ∀ (ms : List RMsg) (fs : List Value) (i : Nat) (m : RMsg) (f : Value), ms[i]? = some m → fs[i]? = some f →
  ((List.zipWith (fun m f => [Value.int .i64 (m.ctx : Int), f]) ms fs).flatten)[i * 2]? = some (.int .i64 m.ctx) ∧ ((List.zipWith (fun m f => [Value.int .i64 (m.ctx : Int), f]) ms fs).flatten)[i * 2 + 1]? = some f := by
 intro ms
 induction ms with
 | nil => intro fs i m f h; simp at h
 | cons m0 ms ih =>
  intro fs i m f h h'
  cases fs with
  | nil => simp at h'
  | cons f0 fs =>
   cases i with
   | zero => simp at h h'; subst h h'; simp
   | succ i =>
    have := ih fs i m f (by simpa using h) (by simpa using h')
    simp only [List.zipWith_cons_cons, List.flatten_cons]
    rw [show (i + 1) * 2 = i * 2 + 1 + 1 by omega]
    simpa using this
theorem zip_set : ∀ (ms : List RMsg) (fs : List Value) (i : Nat) (m m' : RMsg) (f' : Value), fs.length = ms.length → ms[i]? = some m → m'.ctx = m.ctx →
  (List.zipWith (fun m f => [Value.int .i64 (m.ctx : Int), f]) (ms.set i m') (fs.set i f')).flatten = ((List.zipWith (fun m f => [Value.int .i64 (m.ctx : Int), f]) ms fs).flatten).set (i * 2 + 1) f' := by
 intro ms
 induction ms with
 | nil => intro fs i m m' f' _ h; simp at h
 | cons m0 ms ih =>
  intro fs i m m' f' hl h hc
  cases fs with
  | nil => simp at hl
  | cons f0 fs =>
   cases i with
   | zero => simp at h; subst h; simp [hc]
   | succ i =>
    have := ih fs i m m' f' (by simpa using hl) (by simpa using h) hc
    simp only [List.set_cons_succ, List.zipWith_cons_cons, List.flatten_cons, this]
    rw [show (i + 1) * 2 + 1 = i * 2 + 1 + 1 + 1 by omega]
    simp
theorem cells_get : ∀ (os : List ROp) (j : Nat) (o : ROp), os[j]? = some o → (os.flatMap ROp.cells)[j * 4]? = some (.int .i64 o.client) ∧ (os.flatMap ROp.cells)[j * 4 + 1]? = some (.int .i64 o.verb) ∧ (os.flatMap ROp.cells)[j * 4 + 2]? = some (.int .i64 o.place) ∧ (os.flatMap ROp.cells)[j * 4 + 3]? = some (.int .u8 o.letter) := by
 intro os
 induction os with
 | nil => intro j o h; simp at h
 | cons o0 os ih =>
  intro j o h
  cases j with
  | zero => simp at h; subst h; simp [ROp.cells]
  | succ j =>
   have := ih j o (by simpa using h)
   simp only [List.flatMap_cons, ROp.cells]
   rw [show (j + 1) * 4 = j * 4 + 1 + 1 + 1 + 1 by omega, show j * 4 + 1 + 1 + 1 + 1 + 1 = j * 4 + 1 + 1 + 1 + 1 + 1 from rfl]
   simpa [Nat.add_right_comm, Nat.add_assoc] using this

/-- Message i of a row, in memory: its two cells, and the forms. -/
theorem RowsAt.msg {own : Nat → Tag} {rid c s : Nat} {w : World} {r : Value} {ms : List RMsg} (h : RowsAt own rid c s w r ms) {i : Nat} {m : RMsg} (hm : ms[i]? = some m) (hne : m.forms ≠ []) :
  ∃ g cap fb fc, r = .slice (some ⟨g, 0, none⟩) ms.length cap ∧ own g = (rid, c, 1 + s) ∧ g < w.heap.size ∧ w.cell? ⟨g, i * 2, none⟩ = some (.int .i64 m.ctx) ∧ w.cell? ⟨g, i * 2 + 1, none⟩ = some (.slice (some ⟨fb, 0, none⟩) m.forms.length fc) ∧ w.frozen? ⟨g, i * 2 + 1, none⟩ = false ∧
   OwnsT own (rid, c, 20 + 2 * i + s) w 149 4 (.slice (some ⟨fb, 0, none⟩) m.forms.length fc) m.forms.length (m.forms.flatMap ROp.cells) ∧ own fb = (rid, c, 20 + 2 * i + s) ∧ fb < w.heap.size ∧
   ∀ j o, m.forms[j]? = some o → w.cell? ⟨fb, j * 4, none⟩ = some (.int .i64 o.client) ∧ w.cell? ⟨fb, j * 4 + 1, none⟩ = some (.int .i64 o.verb) ∧ w.cell? ⟨fb, j * 4 + 2, none⟩ = some (.int .i64 o.place) ∧ w.cell? ⟨fb, j * 4 + 3, none⟩ = some (.int .u8 o.letter) := by
 obtain ⟨fs, hl, ho, hf⟩ := h
 have hi : i < ms.length := (List.getElem?_eq_some_iff.1 hm).1
 obtain ⟨f, hff⟩ : ∃ f, fs[i]? = some f := ⟨fs[i]'(by omega), by simp [hl, hi]⟩
 have hfo := hf i m f hm hff
 have hfl : 1 ≤ m.forms.length := by
  cases h : m.forms with
  | nil => exact absurd h hne
  | cons o os => simp
 rcases ho.1.2 with ⟨_, h0⟩ | ⟨g, cap, cur, rfl, _, hg, _, _, hcs, htake⟩
 ·omega
 rcases hfo.1.2 with ⟨_, h0⟩ | ⟨fb, fc, hcur, rfl, _, hhb, hle, _, hhcs, hhtake⟩
 ·omega
 have e1 := ho.1.cells (g := g) rfl
 have e2 := hfo.1.cells (g := fb) rfl
 obtain ⟨z1, z2⟩ := zip_cells ms fs i m _ hm hff
 have q1 := e1 _ _ z1
 have q2 := e1 _ _ z2
 rw [Addr.add_lit, Nat.zero_add] at q1 q2
 refine ⟨g, cap, fb, fc, rfl, ho.2 g rfl, (Array.getElem?_eq_some_iff.1 hg).1, q1, q2, by simp [World.frozen?, hg], hfo, hfo.2 fb rfl, (Array.getElem?_eq_some_iff.1 hhb).1, fun j o hj => ?_⟩
 obtain ⟨c0, c1, c2, c3⟩ := cells_get _ _ _ hj
 have p0 := e2 _ _ c0
 have p1 := e2 _ _ c1
 have p2 := e2 _ _ c2
 have p3 := e2 _ _ c3
 rw [Addr.add_lit, Nat.zero_add] at p0 p1 p2 p3
 exact ⟨p0, p1, p2, p3⟩

/-- A store into a row's cell. -/
theorem ownsRow_set {w : World} {e : TypeId} {size g n cap : Nat} {xs : List Value} (h : w.ownsRow 0 e size (.slice (some ⟨g, 0, none⟩) n cap) n xs) (i : Nat) (u : Value) :
  (w.setCell ⟨g, i, none⟩ u).ownsRow 0 e size (.slice (some ⟨g, 0, none⟩) n cap) n (xs.set i u) := by
 obtain ⟨h0, h1⟩ := h
 refine ⟨by simpa using h0, ?_⟩
 rcases h1 with ⟨h, _⟩ | ⟨g', cap', cur, hv, hb, hg, h3, h4, h5, h6⟩
 ·simp at h
 ·simp only [Value.slice.injEq, Option.some.injEq, Addr.mk.injEq, true_and, and_true] at hv
  obtain ⟨rfl, rfl⟩ := hv
  refine .inr ⟨g, cap, cur.setIfInBounds i u, rfl, hb, ?_, h3, h4, by simpa using h5, ?_⟩
  ·simp [World.setCell, Array.getElem?_modify, hg]
  ·rw [Array.toList_setIfInBounds, List.take_set, h6]

/-- A form more. -/
theorem RowsAt.grow {own own' : Nat → Tag} {rid c s : Nat} {w w' : World} {g cap : Nat} {ms : List RMsg} (h : RowsAt own rid c s w (.slice (some ⟨g, 0, none⟩) ms.length cap) ms) {i : Nat} {m : RMsg} (hm : ms[i]? = some m) (o : ROp)
  (hu : Upd own own' (fun x => x = (rid, c, 20 + 2 * i + s)) w w') (_hs : s ≤ 1) {f' : Value} (ho' : OwnsT own' (rid, c, 20 + 2 * i + s) w' 149 4 f' (m.forms.length + 1) ((m.forms ++ [o]).flatMap ROp.cells)) :
  RowsAt own' rid c s (w'.setCell ⟨g, i * 2 + 1, none⟩ f') (.slice (some ⟨g, 0, none⟩) ms.length cap) (ms.set i ⟨m.ctx, m.forms ++ [o]⟩) := by
 obtain ⟨fs, hl, ho, hf⟩ := h
 have hg : own g = (rid, c, 1 + s) := ho.2 g rfl
 have ho1 := ho.upd hu (by simp; omega)
 have hg' : own' g = (rid, c, 1 + s) := ho1.2 g rfl
 have U : Upd own' own' (fun x => x = (rid, c, 1 + s)) w' (w'.setCell ⟨g, i * 2 + 1, none⟩ f') := Upd.setCell (p := ⟨g, i * 2 + 1, none⟩) (Upd.refl own' _ w') hg' _
 refine ⟨fs.set i f', by simp [hl], ?_, fun j m1 f1 hm1 hf1 => ?_⟩
 ·rw [zip_set ms fs i m ⟨m.ctx, m.forms ++ [o]⟩ f' hl hm rfl, List.length_set]
  exact ⟨ownsRow_set ho1.1 _ _, ho1.2⟩
 ·by_cases hj : i = j
  ·subst hj
   have hi := (List.getElem?_eq_some_iff.1 hm).1
   rw [List.getElem?_set_self hi] at hm1
   rw [List.getElem?_set_self (by omega)] at hf1
   simp only [Option.some.injEq] at hm1 hf1
   subst hm1 hf1
   refine (OwnsT.upd (own' := own') ?_ U (by simp; omega))
   simpa using ho'
  ·rw [List.getElem?_set_ne hj] at hm1 hf1
   exact ((hf j m1 f1 hm1 hf1).upd hu (by simp; omega)).upd U (by simp; omega)
end Go.Proofs.Ytemkgikncmhoaaa

namespace Go.Proofs.Ytemkgikncmhoaaa
open Go.RowKit

/-- What a call of Form (row e, message i, behind k) may turn: forms of its row's messages up to i, of the other's up to k. -/
def mayF (rid c e i k : Nat) (t : Tag) : Prop := t.1 = rid ∧ t.2.1 = c ∧ (t.2.2 = 1 ∨ t.2.2 = 2 ∨ (∃ j, j < i ∧ t.2.2 = 20 + 2 * j + e) ∨ (∃ j, j < k ∧ t.2.2 = 20 + 2 * j + (1 - e)))
theorem mayF.swap {rid c e i k n : Nat} (he : e ≤ 1) (hn : n ≤ k) {t : Tag} (h : mayF rid c (1 - e) n (i - 1) t) : mayF rid c e i k t := by
 obtain ⟨h1, h2, h3⟩ := h
 refine ⟨h1, h2, ?_⟩
 rcases h3 with h | h | ⟨j, hj, h⟩ | ⟨j, hj, h⟩
 ·exact .inl h
 ·exact .inr (.inl h)
 ·exact .inr (.inr (.inr ⟨j, by omega, h⟩))
 ·exact .inr (.inr (.inl ⟨j, by omega, by omega⟩))
def RLine.row (L : RLine) (e : Nat) : List RMsg := if e = 0 then L.a.rows else L.b.rows

structure FormR (own : Nat → Tag) (rid c : Nat) (w : World) (b : Nat) (L : RLine) (e i k : Nat) (own1 : Nat → Tag) (ra rb : List RMsg) (wr : World) : Prop where
 line : LineAt own1 rid c wr b (L.withRows ra rb)
 ha : histOf ra = histOf L.a.rows
 hb : histOf rb = histOf L.b.rows
 ma : MemoR (histOf L.a.rows) (histOf L.b.rows) ra
 mb : MemoR (histOf L.b.rows) (histOf L.a.rows) rb
 fe : ∀ j, i ≤ j → ((L.withRows ra rb).row e)[j]? = (L.row e)[j]?
 fo : ∀ j, k ≤ j → ((L.withRows ra rb).row (1 - e))[j]? = (L.row (1 - e))[j]?
 upd : Upd own own1 (mayF rid c e i k) w wr
 ce : ∀ g o, own g = (rid, c, 1 + e) → g < w.heap.size → 2 * i ≤ o → wr.cell? ⟨g, o, none⟩ = w.cell? ⟨g, o, none⟩
 co : ∀ g o, own g = (rid, c, 1 + (1 - e)) → g < w.heap.size → 2 * k ≤ o → wr.cell? ⟨g, o, none⟩ = w.cell? ⟨g, o, none⟩

theorem FormR.start {own : Nat → Tag} {rid c : Nat} {w : World} {b : Nat} {L : RLine} (h : LineAt own rid c w b L) (hm : MemoR (histOf L.a.rows) (histOf L.b.rows) L.a.rows) (hn : MemoR (histOf L.b.rows) (histOf L.a.rows) L.b.rows) (e i k : Nat) : FormR own rid c w b L e i k own L.a.rows L.b.rows w :=
 ⟨h, rfl, rfl, hm, hn, fun _ _ => rfl, fun _ _ => rfl, Upd.refl _ _ _, fun _ _ _ _ _ => rfl, fun _ _ _ _ _ => rfl⟩
/-- What is not of rooms may turn between. -/
theorem FormR.scratch {own own1 own2 : Nat → Tag} {rid c : Nat} {w wr w2 : World} {b : Nat} {L : RLine} {e i k : Nat} {ra rb : List RMsg} (h : FormR own rid c w b L e i k own1 ra rb wr) (hU : Upd own1 own2 (fun _ => False) wr w2) : FormR own rid c w b L e i k own2 ra rb w2 := by
 obtain ⟨h1, h2, h3, h4, h5, h6, h7, h8, h9, h10⟩ := h
 refine ⟨h1.upd hU (fun _ h => h), h2, h3, h4, h5, h6, h7, h8.trans (hU.mono (fun _ h => h.elim)), fun g o hg hl ho => ?_, fun g o hg hl ho => ?_⟩
 ·rw [← h9 g o hg hl ho]
  exact World.cell?_of_block (hU.block g (Nat.lt_of_lt_of_le hl h8.size) (fun h => h))
 ·rw [← h10 g o hg hl ho]
  exact World.cell?_of_block (hU.block g (Nat.lt_of_lt_of_le hl h8.size) (fun h => h))
theorem Upd.putNew {own own' : Nat → Tag} {may : Tag → Prop} {w w' : World} (h : Upd own own' may w w') {p : Addr} (hp : w.heap.size ≤ p.block) (u : Value) : Upd own own' may w (w'.setCell p u) :=
 ⟨h.os, h.tape, h.output, by have := h.size; simpa [World.setCell] using this, fun k hk hn => (Below.heap_setCell _ _ _ _ (fun e => by omega)).trans (h.block k hk hn), h.tags⟩
/-- A store into a box of the call's own. -/
theorem FormR.box {own own1 : Nat → Tag} {rid c : Nat} {w wr : World} {b : Nat} {L : RLine} {e i k : Nat} {ra rb : List RMsg} (h : FormR own rid c w b L e i k own1 ra rb wr) (hrid : rid ≠ 0) {M : Nat} (hM : w.heap.size ≤ M) (ht : own1 M = (0, 0, 0)) (o : Nat) (u : Value) :
  FormR own rid c w b L e i k own1 ra rb (wr.setCell ⟨M, o, none⟩ u) := by
 obtain ⟨h1, h2, h3, h4, h5, h6, h7, h8, h9, h10⟩ := h
 have U : Upd own1 own1 (fun t => t = (0, 0, 0)) wr (wr.setCell ⟨M, o, none⟩ u) := Upd.setCell (p := ⟨M, o, none⟩) (Upd.refl own1 _ wr) ht _
 refine ⟨h1.upd U (by simp [hrid]), h2, h3, h4, h5, h6, h7, h8.putNew (p := ⟨M, o, none⟩) hM _, fun g o' hg hl ho => ?_, fun g o' hg hl ho => ?_⟩
 ·rw [← h9 g o' hg hl ho]
  exact World.cell?_of_block (Below.heap_setCell _ _ _ _ (fun e => by dsimp only at e; omega))
 ·rw [← h10 g o' hg hl ho]
  exact World.cell?_of_block (Below.heap_setCell _ _ _ _ (fun e => by dsimp only at e; omega))
/-- The call within. -/
theorem FormR.within {own own1 own2 : Nat → Tag} {rid c : Nat} {w wr w2 : World} {b : Nat} {L : RLine} {e i k n : Nat} {ra rb ra2 rb2 : List RMsg} (he : e ≤ 1) (hn : n ≤ k) (h : FormR own rid c w b L e i k own1 ra rb wr)
  (g : FormR own1 rid c wr b (L.withRows ra rb) (1 - e) n (i - 1) own2 ra2 rb2 w2) : FormR own rid c w b L e i k own2 ra2 rb2 w2 := by
 obtain ⟨h1, h2, h3, h4, h5, h6, h7, h8, h9, h10⟩ := h
 obtain ⟨g1, g2, g3, g4, g5, g6, g7, g8, g9, g10⟩ := g
 have ee : 1 - (1 - e) = e := by omega
 rw [ee] at g7 g10
 have x1 : histOf (L.withRows ra rb).a.rows = histOf L.a.rows := h2
 have x2 : histOf (L.withRows ra rb).b.rows = histOf L.b.rows := h3
 rw [x1] at g2
 rw [x2] at g3
 rw [x1, x2] at g4 g5
 refine ⟨g1, g2, g3, g4, g5, fun j hj => (g7 j (by omega)).trans (h6 j hj), fun j hj => (g6 j (by omega)).trans (h7 j hj), h8.trans (g8.mono (fun t ht => mayF.swap he hn ht)), fun q o hg hl ho => ?_, fun q o hg hl ho => ?_⟩
 ·rw [← h9 q o hg hl ho]
  exact g10 q o (by rw [h8.tags q hl]; exact hg) (Nat.lt_of_lt_of_le hl h8.size) (by omega)
 ·rw [← h10 q o hg hl ho]
  exact g9 q o (by rw [h8.tags q hl]; exact hg) (Nat.lt_of_lt_of_le hl h8.size) (by omega)

theorem MemoR.grow {us ds : List GMsg} {ms : List RMsg} (h : MemoR us ds ms) {i : Nat} {m : RMsg} (hm : ms[i]? = some m) {o : ROp} (ho : o = form us ds (i + 1) (m.ctx + m.forms.length)) (hle : m.ctx + m.forms.length ≤ ds.length) : MemoR us ds (ms.set i ⟨m.ctx, m.forms ++ [o]⟩) := by
 intro j m' hm'
 by_cases hj : i = j
 ·subst hj
  rw [List.getElem?_set_self (List.getElem?_eq_some_iff.1 hm).1] at hm'
  simp only [Option.some.injEq] at hm'
  subst hm'
  refine ⟨by simp, by simp; omega, fun q f hq => ?_⟩
  dsimp only at hq ⊢
  by_cases hql : q < m.forms.length
  ·rw [List.getElem?_append_left hql] at hq
   exact (h i m hm).2.2 q f hq
  ·obtain rfl : q = m.forms.length := by
    have := (List.getElem?_eq_some_iff.1 hq).1
    simp at this
    omega
   simp at hq
   rw [← hq, ho]
 ·rw [List.getElem?_set_ne hj] at hm'
  exact h j m' hm'

/-- A form more, of the message that was asked for. -/
theorem FormR.grow0 {own own1 own2 : Nat → Tag} {rid c : Nat} {w wr w2 : World} {b g cap : Nat} {L : RLine} {i k : Nat} {ra rb : List RMsg} (h : FormR own rid c w b L 0 (i + 1) k own1 ra rb wr) {m : RMsg} (hm : ra[i]? = some m)
  (hne : m.forms ≠ []) {o : ROp} (ho : o = form (histOf L.a.rows) (histOf L.b.rows) (i + 1) (m.ctx + m.forms.length)) (hle : m.ctx + m.forms.length ≤ (histOf L.b.rows).length) (hg : wr.cell? ⟨b, 0, none⟩ = some (.slice (some ⟨g, 0, none⟩) ra.length cap))
  (hu : Upd own1 own2 (fun x => x = (rid, c, 20 + 2 * i + 0)) wr w2) {f' : Value} (ho' : OwnsT own2 (rid, c, 20 + 2 * i + 0) w2 149 4 f' (m.forms.length + 1) ((m.forms ++ [o]).flatMap ROp.cells)) :
  FormR own rid c w b L 0 (i + 1) k own2 (ra.set i ⟨m.ctx, m.forms ++ [o]⟩) rb (w2.setCell ⟨g, i * 2 + 1, none⟩ f') := by
 obtain ⟨h1, h2, h3, h4, h5, h6, h7, h8, h9, h10⟩ := h
 obtain ⟨r0, r1, k0, k1, o0, o1, s0, s1, hc, ⟨a1, a2, a3, a4⟩, ⟨b1, b2, b3, b4⟩⟩ := h1
 have er : r0 = .slice (some ⟨g, 0, none⟩) ra.length cap := by
  have : wr.cell? ⟨b, 0, none⟩ = some r0 := by rw [hc.cell]; rfl
  rw [this] at hg
  simpa using hg
 subst er
 have hgt : own1 g = (rid, c, 1 + 0) := by
  obtain ⟨fs, _, q, _⟩ := a1
  exact q.2 g rfl
 have hgl : g < wr.heap.size := by
  obtain ⟨fs, _, q, _⟩ := a1
  have hi := (List.getElem?_eq_some_iff.1 hm).1
  rcases q.1.2 with ⟨q1, q2⟩ | ⟨g', _, _, q1, _, q3, _⟩
  ·simp at q1
  ·simp only [Value.slice.injEq, Option.some.injEq, Addr.mk.injEq, and_true] at q1
   obtain ⟨rfl, _⟩ := q1
   exact (Array.getElem?_eq_some_iff.1 q3).1
 have hgt2 : own2 g = (rid, c, 1 + 0) := (hu.tags g hgl).trans hgt
 have G := RowsAt.grow a1 hm o hu (by omega) ho'
 have V : Upd own1 own2 (fun x => x = (rid, c, 20 + 2 * i + 0) ∨ x = (rid, c, 1 + 0)) wr (w2.setCell ⟨g, i * 2 + 1, none⟩ f') := Upd.setCell (p := ⟨g, i * 2 + 1, none⟩) (hu.mono (fun _ h => .inl h)) (.inr hgt2) _
 have hfst : (⟨m.ctx, m.forms ++ [o]⟩ : RMsg).first = m.first := by
  unfold RMsg.first
  cases hf : m.forms with
  | nil => exact absurd hf hne
  | cons x xs => rfl
 have cellE : ∀ q p, p ≠ i * 2 + 1 → own1 q = (rid, c, 1 + 0) → q < wr.heap.size → (w2.setCell ⟨g, i * 2 + 1, none⟩ f').cell? ⟨q, p, none⟩ = wr.cell? ⟨q, p, none⟩ := by
  intro q p hp hq hl
  have e2 : w2.cell? ⟨q, p, none⟩ = wr.cell? ⟨q, p, none⟩ := World.cell?_of_block (hu.block q hl (by rw [hq]; simp <;> omega))
  rw [← e2]
  by_cases hqg : q = g
  ·subst hqg
   simp only [World.cell?, World.setCell, Array.getElem?_modify, if_true]
   cases w2.heap[q]? with
   | none => rfl
   | some ob =>
    cases ob <;> simp
    rw [Array.getElem?_setIfInBounds_ne (by omega)]
  ·exact World.cell?_of_block (Below.heap_setCell _ _ _ _ (by simpa using hqg))
 refine ⟨⟨_, _, _, _, _, _, _, _, hc.upd V (by simp <;> omega), ?_, ?_⟩, ?_, ?_, ?_, ?_, ?_, ?_, ?_, ?_, ?_⟩
 ·exact ⟨by simpa [RLine.withRows] using G, a2.upd V (by simp <;> omega), a3.upd V (by simp <;> omega), a4.upd V (by simp <;> omega)⟩
 ·exact ⟨b1.upd V (by simp <;> omega) (by intro j; simp <;> omega), b2.upd V (by simp <;> omega), b3.upd V (by simp <;> omega), b4.upd V (by simp <;> omega)⟩
 ·exact (histOf_set hm ⟨m.ctx, m.forms ++ [o]⟩ rfl hfst).trans h2
 ·exact h3
 ·exact h4.grow hm ho hle
 ·exact h5
 ·intro j hj
  rw [← h6 j hj]
  simp only [RLine.row, RLine.withRows]
  simp
  try rw [List.getElem?_set_ne (by omega)]
 ·exact h7
 ·refine h8.trans (V.mono ?_)
  rintro t (rfl | rfl)
  ·exact ⟨rfl, rfl, .inr (.inr (.inl ⟨i, by omega, rfl⟩))⟩
  ·exact ⟨rfl, rfl, .inl rfl⟩
 ·intro q p hq hl hp
  rw [cellE q p (by omega) (by rw [h8.tags q hl]; exact hq) (Nat.lt_of_lt_of_le hl h8.size)]
  exact h9 q p hq hl hp
 ·intro q p hq hl hp
  rw [← h10 q p hq hl hp]
  exact World.cell?_of_block (V.block q (Nat.lt_of_lt_of_le hl h8.size) (by rw [h8.tags q hl, hq]; simp <;> omega))
/-- A form more, of the message that was asked for. -/
theorem FormR.grow1 {own own1 own2 : Nat → Tag} {rid c : Nat} {w wr w2 : World} {b g cap : Nat} {L : RLine} {i k : Nat} {ra rb : List RMsg} (h : FormR own rid c w b L 1 (i + 1) k own1 ra rb wr) {m : RMsg} (hm : rb[i]? = some m)
  (hne : m.forms ≠ []) {o : ROp} (ho : o = form (histOf L.b.rows) (histOf L.a.rows) (i + 1) (m.ctx + m.forms.length)) (hle : m.ctx + m.forms.length ≤ (histOf L.a.rows).length) (hg : wr.cell? ⟨b, 1, none⟩ = some (.slice (some ⟨g, 0, none⟩) rb.length cap))
  (hu : Upd own1 own2 (fun x => x = (rid, c, 20 + 2 * i + 1)) wr w2) {f' : Value} (ho' : OwnsT own2 (rid, c, 20 + 2 * i + 1) w2 149 4 f' (m.forms.length + 1) ((m.forms ++ [o]).flatMap ROp.cells)) :
  FormR own rid c w b L 1 (i + 1) k own2 ra (rb.set i ⟨m.ctx, m.forms ++ [o]⟩) (w2.setCell ⟨g, i * 2 + 1, none⟩ f') := by
 obtain ⟨h1, h2, h3, h4, h5, h6, h7, h8, h9, h10⟩ := h
 obtain ⟨r0, r1, k0, k1, o0, o1, s0, s1, hc, ⟨a1, a2, a3, a4⟩, ⟨b1, b2, b3, b4⟩⟩ := h1
 have er : r1 = .slice (some ⟨g, 0, none⟩) rb.length cap := by
  have : wr.cell? ⟨b, 1, none⟩ = some r1 := by rw [hc.cell]; rfl
  rw [this] at hg
  simpa using hg
 subst er
 have hgt : own1 g = (rid, c, 1 + 1) := by
  obtain ⟨fs, _, q, _⟩ := b1
  exact q.2 g rfl
 have hgl : g < wr.heap.size := by
  obtain ⟨fs, _, q, _⟩ := b1
  have hi := (List.getElem?_eq_some_iff.1 hm).1
  rcases q.1.2 with ⟨q1, q2⟩ | ⟨g', _, _, q1, _, q3, _⟩
  ·simp at q1
  ·simp only [Value.slice.injEq, Option.some.injEq, Addr.mk.injEq, and_true] at q1
   obtain ⟨rfl, _⟩ := q1
   exact (Array.getElem?_eq_some_iff.1 q3).1
 have hgt2 : own2 g = (rid, c, 1 + 1) := (hu.tags g hgl).trans hgt
 have G := RowsAt.grow b1 hm o hu (by omega) ho'
 have V : Upd own1 own2 (fun x => x = (rid, c, 20 + 2 * i + 1) ∨ x = (rid, c, 1 + 1)) wr (w2.setCell ⟨g, i * 2 + 1, none⟩ f') := Upd.setCell (p := ⟨g, i * 2 + 1, none⟩) (hu.mono (fun _ h => .inl h)) (.inr hgt2) _
 have hfst : (⟨m.ctx, m.forms ++ [o]⟩ : RMsg).first = m.first := by
  unfold RMsg.first
  cases hf : m.forms with
  | nil => exact absurd hf hne
  | cons x xs => rfl
 have cellE : ∀ q p, p ≠ i * 2 + 1 → own1 q = (rid, c, 1 + 1) → q < wr.heap.size → (w2.setCell ⟨g, i * 2 + 1, none⟩ f').cell? ⟨q, p, none⟩ = wr.cell? ⟨q, p, none⟩ := by
  intro q p hp hq hl
  have e2 : w2.cell? ⟨q, p, none⟩ = wr.cell? ⟨q, p, none⟩ := World.cell?_of_block (hu.block q hl (by rw [hq]; simp <;> omega))
  rw [← e2]
  by_cases hqg : q = g
  ·subst hqg
   simp only [World.cell?, World.setCell, Array.getElem?_modify, if_true]
   cases w2.heap[q]? with
   | none => rfl
   | some ob =>
    cases ob <;> simp
    rw [Array.getElem?_setIfInBounds_ne (by omega)]
  ·exact World.cell?_of_block (Below.heap_setCell _ _ _ _ (by simpa using hqg))
 refine ⟨⟨_, _, _, _, _, _, _, _, hc.upd V (by simp <;> omega), ?_, ?_⟩, ?_, ?_, ?_, ?_, ?_, ?_, ?_, ?_, ?_⟩
 ·exact ⟨a1.upd V (by simp <;> omega) (by intro j; simp <;> omega), a2.upd V (by simp <;> omega), a3.upd V (by simp <;> omega), a4.upd V (by simp <;> omega)⟩
 ·exact ⟨by simpa [RLine.withRows] using G, b2.upd V (by simp <;> omega), b3.upd V (by simp <;> omega), b4.upd V (by simp <;> omega)⟩
 ·exact h2
 ·exact (histOf_set hm ⟨m.ctx, m.forms ++ [o]⟩ rfl hfst).trans h3
 ·exact h4
 ·exact h5.grow hm ho hle
 ·intro j hj
  rw [← h6 j hj]
  simp only [RLine.row, RLine.withRows]
  simp
  try rw [List.getElem?_set_ne (by omega)]
 ·exact h7
 ·refine h8.trans (V.mono ?_)
  rintro t (rfl | rfl)
  ·exact ⟨rfl, rfl, .inr (.inr (.inl ⟨i, by omega, rfl⟩))⟩
  ·exact ⟨rfl, rfl, .inr (.inl rfl)⟩
 ·intro q p hq hl hp
  rw [cellE q p (by omega) (by rw [h8.tags q hl]; exact hq) (Nat.lt_of_lt_of_le hl h8.size)]
  exact h9 q p hq hl hp
 ·intro q p hq hl hp
  rw [← h10 q p hq hl hp]
  exact World.cell?_of_block (V.block q (Nat.lt_of_lt_of_le hl h8.size) (by rw [h8.tags q hl, hq]; simp <;> omega))
end Go.Proofs.Ytemkgikncmhoaaa

