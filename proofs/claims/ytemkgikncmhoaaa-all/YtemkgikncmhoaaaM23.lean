import Derived.Test.YtemkgikncmhoaaaM02
import Derived.Test.YtemkgikncmhoaaaM12
import Derived.Test.YtemkgikncmhoaaaM15
import Derived.Deep.RegionHeld3
namespace Go.Proofs.Ytemkgikncmhoaaa
open Go.RowKit
attribute [local go_sem ↓] Go.wp_at_zero Go.wp_at_succ

set_option maxRecDepth 100000 in
set_option maxHeartbeats 400000 in
theorem xlearn_no (own : Nat → Tag) (rid k b tb window n : Nat) (E : IEnd) (w : World) (h : EndX own rid k w b tb window E) (hm : E.made ≤ 1000) (hn : n ≤ E.known ∨ E.made < n) :
  Calls Try.prog 87 #[.pointer (some ⟨b, 0, none⟩), .int .i64 n] w fun e w' => e = .returned (.tuple #[]) ∧ Below w.heap.size w w' := by
 have c2 := h.c2
 have HM := hide (xmade own rid k b tb window E w h hm)
 clear h
 by_cases h1 : n ≤ E.known
 ·have h1' : (n : Int) ≤ (E.known : Int) := by omega
  go_enter Try.func87, Try.ntmps87
  go_wp2
  exact bodyPost_ret (results_none rfl _ _ _) rfl ⟨rfl, Below.refl _ _⟩
 ·have h1' : ¬ (n : Int) ≤ (E.known : Int) := by omega
  have h2' : (E.made : Int) < (n : Int) := by omega
  go_enter Try.func87, Try.ntmps87
  go_wp2_with (first | (go_at_call 51; with_reducible refine (unhide HM).mono ?_; rintro e w1 ⟨rfl, hw1⟩; obtain rfl := hw1.symm))
  exact bodyPost_ret (results_none rfl _ _ _) rfl ⟨rfl, (Below.refl _ _).drew⟩

theorem flatMap_drop' {α β : Type} (f : α → List β) (n : Nat) (hf : ∀ a, (f a).length = n) : ∀ (l : List α) (k : Nat), (l.drop k).flatMap f = (l.flatMap f).drop (k * n)
 | [], k => by simp
 | a :: l, 0 => by simp
 | a :: l, k + 1 => by
  rw [List.drop_succ_cons, flatMap_drop' f n hf l k, List.flatMap_cons, Nat.add_mul, Nat.one_mul, List.drop_append, hf]
  rw [show (f a).drop (k * n + n) = [] from List.drop_eq_nil_of_le (by rw [hf]; omega), List.nil_append, Nat.add_sub_cancel]

set_option maxRecDepth 100000 in
set_option maxHeartbeats 1600000 in
theorem xlearn_yes (own : Nat → Tag) (rid k b tb window n : Nat) (E : IEnd) (w : World) (h : EndX own rid k w b tb window E) (hm : E.made ≤ 1000) (hw : window ≤ 4) (hn1 : E.known < n) (hn2 : n ≤ E.made) (hf : E.flying.length ≤ 12) (hx : ∀ m ∈ E.waiting, Bytes (m.bytes E.taken)) :
  Calls Try.prog 87 #[.pointer (some ⟨b, 0, none⟩), .int .i64 n] w fun e w' => e = .returned (.tuple #[]) ∧ ∃ own', EndX own' rid k w' b tb window (E.learn window n) ∧ Upd own own' (inEnd rid k) w w' := by
 have c2 := h.c2
 have HM := hide (xmade own rid k b tb window E w h hm)
 have hwl : E.waiting.length ≤ 1000 := by unfold IEnd.made at hm; omega
 have h1' : ¬ (n : Int) ≤ (E.known : Int) := by omega
 have h2' : ¬ (E.made : Int) < (n : Int) := by omega
 have HL : Hid (E.learn window n = (E.moved n).sends (E.fresh window n)) := by apply hide; unfold IEnd.learn; rw [if_neg (by omega)]
 rw [HL.out]
 go_enter Try.func87, Try.ntmps87
 go_wp2_with (first | (go_at_call 51; with_reducible refine (unhide HM).mono ?_; rintro e w1 ⟨rfl, hw1⟩; obtain rfl := hw1.symm))
 obtain ⟨wv, ov, kb, fv, hc, hmr, hop, hkp, hfr⟩ := id h
 obtain ⟨wa, wcp, hwv, hwc, hwcm, hdrop⟩ := hmr.drop (k := n - E.known) (by unfold IEnd.made at hn2; omega)
 subst hwv
 have c3 : w.cell? ⟨b, 3, none⟩ = some (.slice wa E.waiting.length wcp) := by rw [hc.cell]; rfl
 have hD := h.upd ((Upd.refl own (fun _ => False) w).drew) (fun _ _ _ h => h)
 have HSD : Hid (Calls Try.prog 68 #[.pointer (some ⟨b, 0, none⟩)] w.drew.drew fun e w' => e = .returned (.slice wa (min window E.waiting.length) wcp) ∧ w' = w.drew.drew.drew) := hide (xsendable own rid k b tb window E w.drew.drew (hD.upd ((Upd.refl own (fun _ => False) w.drew).drew) (fun _ _ _ h => h)) hwl hw wa wcp c3 hwc)
 obtain ⟨st, hst⟩ : ∃ st, st = E.known + min window E.waiting.length := ⟨_, rfl⟩
 have hsti : (E.known : Int) + ((min window E.waiting.length : Nat) : Int) = (st : Int) := by omega
 have hstw : IntKind.i64.wrap ((E.known : Int) + ((min window E.waiting.length : Nat) : Int)) = (st : Int) := by rw [hsti, IntKind.wrap_i64]; unfold IEnd.made at hm; omega
 have hstw2 : IntKind.i64.wrap (st : Int) = (st : Int) := by rw [IntKind.wrap_i64]; unfold IEnd.made at hm; omega
 have HST := hide hst
 obtain ⟨k0, hk0⟩ : ∃ q, q = n - E.known := ⟨_, rfl⟩
 rw [← hk0] at hdrop
 have hkw : IntKind.i64.wrap ((n : Int) - (E.known : Int)) = (k0 : Int) := by rw [IntKind.wrap_i64]; omega
 have hkn : (n : Int) - (E.known : Int) = (k0 : Int) := by omega
 have hkl : (k0 : Int) ≤ (E.waiting.length : Int) := by unfold IEnd.made at hn2; omega
 have HK0 := hide hk0
 obtain ⟨na, hna⟩ : ∃ na, (if wcp = k0 then wa else wa.map (·.add (k0 * 6))) = na := ⟨_, rfl⟩
 have f2 := hc.frozen 2
 have f3 := hc.frozen 3
 rw [hna] at hdrop
 have FIN : Hid (∃ own', EndX own' rid k (((w.setCell ⟨b, 3, none⟩ (.slice na (E.waiting.length - k0) (wcp - k0))).setCell ⟨b, 2, none⟩ (.int .i64 n)).drew.drew.drew.drew) b tb window (E.moved n) ∧ Upd own own' (inEnd rid k) w (((w.setCell ⟨b, 3, none⟩ (.slice na (E.waiting.length - k0) (wcp - k0))).setCell ⟨b, 2, none⟩ (.int .i64 n)).drew.drew.drew.drew)) := by
  apply hide
  have U : Upd own own (fun t => t = (rid, k, 0)) w (((w.setCell ⟨b, 3, none⟩ (.slice na (E.waiting.length - k0) (wcp - k0))).setCell ⟨b, 2, none⟩ (.int .i64 n)).drew.drew.drew.drew) := (Upd.setCell (p := ⟨b, 2, none⟩) (Upd.setCell (p := ⟨b, 3, none⟩) (Upd.refl own _ w) hc.2 _) hc.2 _).drew.drew.drew.drew
  refine ⟨own, ⟨_, ov, kb, fv, ((hc.set 3 _).set 2 _).drew.drew.drew.drew, ?_, hop.upd U (by simp), hkp.upd U (by simp), hfr.upd U (by simp)⟩, U.mono (by rintro t rfl; exact inEnd.mk _ _ (by decide) (by decide))⟩
  have hl : (E.moved n).waiting.length = E.waiting.length - k0 := by rw [hk0]; simp [IEnd.moved]
  rw [hl, show (E.moved n).waiting = E.waiting.drop k0 from by rw [hk0]; rfl, flatMap_drop' IMsg.cells 6 (fun _ => rfl)]
  exact hdrop.upd U (by simp)
 have HE := hide h
 clear hst hk0 hmr hop hkp hfr hdrop hD HM hc h
 go_region_held3 (fun w' => w'.cell? ⟨b, 2, none⟩ = some (.int .i64 E.known)) (first | exact c2) (first | (go_at_call 68; with_reducible refine (unhide HSD).mono ?_; rintro e w1 ⟨rfl, hw1⟩; obtain rfl := hw1.symm))
 all_goals go_wp2_with fail
 go_region
 all_goals go_wp2_with fail
 obtain ⟨own1, hE1, hU1⟩ := unhide FIN
 have hl1 : (E.moved n).waiting.length = E.waiting.length - k0 := by rw [unhide HK0]; simp [IEnd.moved]
 have c3' : (((w.setCell ⟨b, 3, none⟩ (.slice na (E.waiting.length - k0) (wcp - k0))).setCell ⟨b, 2, none⟩ (.int .i64 n)).drew.drew.drew.drew).cell? ⟨b, 3, none⟩ = some (.slice na (E.moved n).waiting.length (wcp - k0)) := by
  rw [hl1]
  obtain ⟨_, _, _, _, hc, _⟩ := unhide HE
  rw [(((hc.set 3 _).set 2 _).drew.drew.drew.drew).cell]; rfl
 have HEW := hide hl1
 have HX : Hid (∀ m ∈ (E.moved n).waiting, Bytes (m.bytes (E.moved n).taken)) := hide fun m hm => hx m (List.mem_of_mem_drop hm)
 have hE1f : (E.moved n).flying.length ≤ 12 := hf
 have HFR : Hid (E.fresh window n = ((E.moved n).waiting.take window).filter fun m => decide (st < m.number)) := by apply hide; unfold IEnd.fresh; rw [unhide HST]
 have hwl1 : (E.moved n).waiting.length ≤ 1000 := by rw [hl1]; omega
 have hwc1 : (E.moved n).waiting.length ≤ wcp - k0 := by rw [hl1]; omega
 clear FIN HE hx hf hl1 c2 c3 f2 f3 HSD hsti hstw hstw2 hkw hkn hkl HK0 hna HL HST hn1 hn2 h1' h2' hwc hwcm
 generalize ((w.setCell ⟨b, 3, none⟩ (.slice na (E.waiting.length - k0) (wcp - k0))).setCell ⟨b, 2, none⟩ (.int .i64 n)).drew.drew.drew.drew = W1 at *
 generalize hE1e : E.moved n = E1 at *
 have HE1e := hide hE1e
 clear hE1e
 refine (xsendable own1 rid k b tb window E1 W1 hE1 hwl1 hw na (wcp - k0) c3' hwc1).mono ?_
 rintro e w1 ⟨rfl, hw1⟩
 obtain rfl := hw1.symm
 have hE2 := hE1.upd ((Upd.refl own1 (fun _ => False) W1).drew) (fun _ _ _ h => h)
 have hU2 := hU1.drew
 obtain ⟨ms, HMS⟩ : ∃ ms, Hid (ms = E1.waiting.take window) := ⟨_, rfl⟩
 have hml : min window E1.waiting.length = ms.length := by rw [HMS.out]; simp
 rw [hml]
 have HGF : Hid (ms ≠ [] → ∃ g off, na = some ⟨g, off, none⟩ ∧ own1 g = (rid, k, 3) ∧ g < W1.heap.size ∧ ∀ j u, (ms.flatMap IMsg.cells)[j]? = some u → W1.cell? ⟨g, off + j, none⟩ = some u) := by
  apply hide
  intro hne
  have hpos : 0 < E1.waiting.length := by
   have h1 : 0 < ms.length := List.length_pos_iff.2 hne
   omega
  obtain ⟨g, off, c, d3, _, _, g3, g4, g5⟩ := hE1.front hpos
  rw [c3'] at d3
  obtain ⟨rfl, _⟩ : na = some ⟨g, off, none⟩ ∧ True := ⟨by simpa using (Option.some.inj d3 |> fun h => by injection h), trivial⟩
  refine ⟨g, off, rfl, g3, g4, fun j u hu => g5 j u ?_⟩
  rw [HMS.out, flatMap_take IMsg.cells 6 (fun _ => rfl), List.getElem?_take] at hu
  split at hu
  ·exact hu
  ·cases hu
 have HE2 := hide hE2
 have HU2 := hide hU2
 clear hE1 hE2 hU1 hU2 c3' hwc1
 go_wp2_with fail
 have hmx : ms.length ≤ 1000 := by omega
 go_loopw [48] (fun v48 wr => ∃ j : Nat, j ≤ ms.length ∧ v48 = .int .i64 j ∧ ∃ own', EndX own' rid k wr b tb window (E1.sends ((ms.take j).filter fun m => decide (st < m.number))) ∧ Upd own own' (inEnd rid k) w wr ∧ Upd own1 own' (inFly rid k) W1 wr) (fun v48 _ => ms.length - (intOf v48).toNat)
 case atStart => exact ⟨0, Nat.zero_le _, rfl, own1, unhide HE2, unhide HU2, (Upd.refl own1 _ W1).drew⟩
 case round =>
  obtain ⟨j, hj, rfl, own', h1, h2, h3⟩ := hrel
  by_cases hlt : j < ms.length
  ·have hlt' : (j : Int) < (ms.length : Int) := by omega
   obtain ⟨m, hmj⟩ : ∃ m, ms[j]? = some m := ⟨ms[j], by simp [hlt]⟩
   obtain ⟨g, off, rfl, g1, g2, g3⟩ := unhide HGF (by rintro rfl; simp at hlt)
   have zz : ∀ i, i < 6 → ∀ u, m.cells[i]? = some u → wr.cell? ⟨g, off + j * 6 + i, none⟩ = some u := fun i hi u hu => by rw [Nat.add_assoc]; exact h3.cell (g3 _ _ ((IMsg.cells_at hmj hi).trans hu)) (by rw [g1]; simp [inFly])
   have m0 : wr.cell? ⟨g, off + j * 6, none⟩ = _ := zz 0 (by decide) _ rfl
   have m1 := zz 1 (by decide) _ rfl
   have m2 := zz 2 (by decide) _ rfl
   have m3 := zz 3 (by decide) _ rfl
   have m4 := zz 4 (by decide) _ rfl
   have m5 := zz 5 (by decide) _ rfl
   have hmem : m ∈ E1.waiting := by have := List.mem_of_getElem? hmj; rw [HMS.out] at this; exact List.mem_of_mem_take this
   have hbm := unhide HX m hmem
   have ht : (E1.sends ((ms.take j).filter fun m => decide (st < m.number))).taken = E1.taken := (IEnd.sends_fields _ E1).2.2.1
   have hle1 := IEnd.sends_le ((ms.take j).filter fun m => decide (st < m.number)) E1 hE1f
   have hnx : (ms.take (j + 1)).filter (fun m => decide (st < m.number)) = (ms.take j).filter (fun m => decide (st < m.number)) ++ if st < m.number then [m] else [] := by
    rw [List.take_add_one, hmj, Option.toList_some, List.filter_append]
    congr 1
    by_cases hs : st < m.number <;> simp [hs]
   have V : Upd own' (retag own' wr.heap.size (rid + 1, 0, 3)) (fun _ => False) wr (wr.alloc (Obj.cells #[Value.int IntKind.i64 m.number, Value.int IntKind.i64 m.ctx, Value.int IntKind.i64 m.op.client, Value.int IntKind.i64 m.op.verb, Value.int IntKind.i64 m.op.place, Value.int IntKind.u8 m.op.letter] 139)) := Upd.retag ((Upd.refl own' (fun _ => False) wr).alloc _) _ _ (Nat.le_refl _)
   by_cases hs : st < m.number
   ·have hs' : (st : Int) < (m.number : Int) := by omega
    rw [if_pos hs] at hnx
    have HSN : Hid (Calls Try.prog 67 #[.pointer (some ⟨b, 0, none⟩), .slice (some ⟨wr.heap.size + 1, 0, none⟩) 1 1] ((wr.alloc (Obj.cells #[Value.int IntKind.i64 m.number, Value.int IntKind.i64 m.ctx, Value.int IntKind.i64 m.op.client, Value.int IntKind.i64 m.op.verb, Value.int IntKind.i64 m.op.place, Value.int IntKind.u8 m.op.letter] 139)).alloc (Obj.cells #[Value.int IntKind.i64 m.number, Value.int IntKind.i64 m.ctx, Value.int IntKind.i64 m.op.client, Value.int IntKind.i64 m.op.verb, Value.int IntKind.i64 m.op.place, Value.int IntKind.u8 m.op.letter] 139)) fun e w' => e = .returned (.tuple #[]) ∧ ∃ own2, EndX own2 rid k w' b tb window (E1.sends ((ms.take (j + 1)).filter fun m => decide (st < m.number))) ∧ Upd own own2 (inEnd rid k) w w' ∧ Upd own1 own2 (inFly rid k) W1 w') := by
     apply hide
     have V2 : Upd own' (retag own' wr.heap.size (rid + 1, 0, 3)) (fun _ => False) wr ((wr.alloc (Obj.cells #[Value.int IntKind.i64 m.number, Value.int IntKind.i64 m.ctx, Value.int IntKind.i64 m.op.client, Value.int IntKind.i64 m.op.verb, Value.int IntKind.i64 m.op.place, Value.int IntKind.u8 m.op.letter] 139)).alloc (Obj.cells #[Value.int IntKind.i64 m.number, Value.int IntKind.i64 m.ctx, Value.int IntKind.i64 m.op.client, Value.int IntKind.i64 m.op.verb, Value.int IntKind.i64 m.op.place, Value.int IntKind.u8 m.op.letter] 139)) := Upd.retag (((Upd.refl own' (fun _ => False) wr).alloc _).alloc _) _ _ (Nat.le_refl _)
     have hE := h1.upd V2 (fun _ _ _ h => h)
     have hh : ((wr.alloc (Obj.cells #[Value.int IntKind.i64 m.number, Value.int IntKind.i64 m.ctx, Value.int IntKind.i64 m.op.client, Value.int IntKind.i64 m.op.verb, Value.int IntKind.i64 m.op.place, Value.int IntKind.u8 m.op.letter] 139)).alloc (Obj.cells #[Value.int IntKind.i64 m.number, Value.int IntKind.i64 m.ctx, Value.int IntKind.i64 m.op.client, Value.int IntKind.i64 m.op.verb, Value.int IntKind.i64 m.op.place, Value.int IntKind.u8 m.op.letter] 139)).heap[wr.heap.size + 1]? = some (.cells #[Value.int IntKind.i64 m.number, Value.int IntKind.i64 m.ctx, Value.int IntKind.i64 m.op.client, Value.int IntKind.i64 m.op.verb, Value.int IntKind.i64 m.op.place, Value.int IntKind.u8 m.op.letter] 139 (0, 0)) := heap_alloc_two _ _ _
     have := xsends (retag own' wr.heap.size (rid + 1, 0, 3)) rid k b tb window (wr.heap.size + 1) 0 1 _ [m] _ hE hle1 (by intro x hx; obtain rfl : x = m := (by simpa using hx); rw [ht]; exact hbm) (by simp) (fun _ => ⟨by rw [retag_ge (by omega)]; simp [inFly], (Array.getElem?_eq_some_iff.1 hh).1⟩) (by
      intro q u hu
      rw [List.flatMap_singleton] at hu
      rw [Nat.zero_add]
      simp only [World.cell?, hh]
      simpa [IMsg.cells] using hu)
     refine this.mono ?_
     rintro e w' ⟨rfl, own2, a1, a2⟩
     rw [hnx, IEnd.sends_append]
     exact ⟨rfl, own2, a1, h2.trans ((V2.mono fun _ h => h.elim).trans (a2.mono fun _ h => h.inEnd)), h3.trans ((V2.mono fun _ h => h.elim).trans a2)⟩
    clear zz V h1 h2 h3 HE2 HU2 HGF hbm HX hnx g3
    go_wp2_with (first | (go_at_call 67; with_reducible refine (unhide HSN).mono ?_; rintro e w4 ⟨rfl, hF⟩))
    go_roundw
    case rel => exact ⟨j + 1, by omega, by go_num, hF⟩
    case measure => simp [intOf]; omega
   ·have hs' : ¬ (st : Int) < (m.number : Int) := by omega
    rw [if_neg hs, List.append_nil] at hnx
    have HF : Hid (∃ own2, EndX own2 rid k (wr.alloc (Obj.cells #[Value.int IntKind.i64 m.number, Value.int IntKind.i64 m.ctx, Value.int IntKind.i64 m.op.client, Value.int IntKind.i64 m.op.verb, Value.int IntKind.i64 m.op.place, Value.int IntKind.u8 m.op.letter] 139)) b tb window (E1.sends ((ms.take (j + 1)).filter fun m => decide (st < m.number))) ∧ Upd own own2 (inEnd rid k) w (wr.alloc (Obj.cells #[Value.int IntKind.i64 m.number, Value.int IntKind.i64 m.ctx, Value.int IntKind.i64 m.op.client, Value.int IntKind.i64 m.op.verb, Value.int IntKind.i64 m.op.place, Value.int IntKind.u8 m.op.letter] 139)) ∧ Upd own1 own2 (inFly rid k) W1 (wr.alloc (Obj.cells #[Value.int IntKind.i64 m.number, Value.int IntKind.i64 m.ctx, Value.int IntKind.i64 m.op.client, Value.int IntKind.i64 m.op.verb, Value.int IntKind.i64 m.op.place, Value.int IntKind.u8 m.op.letter] 139))) := by
     apply hide
     rw [hnx]
     exact ⟨_, h1.upd V (fun _ _ _ h => h), h2.trans (V.mono fun _ h => h.elim), h3.trans (V.mono fun _ h => h.elim)⟩
    clear zz V h1 h2 h3 HE2 HU2 HGF hbm HX hnx g3
    go_wp2
    go_roundw
    case rel => exact ⟨j + 1, by omega, by go_num, unhide HF⟩
    case measure => simp [intOf]; omega
  ·have hlt' : ¬ (j : Int) < (ms.length : Int) := by omega
   obtain rfl : j = ms.length := by omega
   rw [List.take_length, HMS.out, ← HFR.out] at h1
   go_wp2
   go_end0
   rw [unhide HE1e]
   exact ⟨rfl, own', h1, h2⟩
end Go.Proofs.Ytemkgikncmhoaaa

namespace Go.Proofs.Ytemkgikncmhoaaa
open Go.RowKit
attribute [local go_sem ↓] Go.wp_at_zero Go.wp_at_succ

theorem wrap_byte (b : UInt8) : wrap64 (b.toNat : Int) = (b.toNat : Int) := by
 have := b.toNat_lt
 unfold wrap64
 omega
set_option maxRecDepth 100000 in
set_option maxHeartbeats 400000 in
theorem xisMessage10 (b0 b1 b2 b3 b4 b5 b6 b7 b8 b9 : UInt8) (w : World) :
  Calls Try.prog 89 #[.string ⟨#[b0, b1, b2, b3, b4, b5, b6, b7, b8, b9]⟩] w fun e w' => e = .returned (.bool ((b0.toNat : Int) == 1)) ∧ w' = w := by
 go_enter Try.func89, Try.ntmps89
 go_wp2
 go_ret
 exact ⟨rfl, rfl⟩
set_option maxRecDepth 100000 in
set_option maxHeartbeats 400000 in
theorem xtaken10 (b0 b1 b2 b3 b4 b5 b6 b7 b8 b9 : UInt8) (w : World) (h : ((b0.toNat : Int) == 1) = true) :
  Calls Try.prog 88 #[.string ⟨#[b0, b1, b2, b3, b4, b5, b6, b7, b8, b9]⟩] w fun e w' => e = .returned (.int .i64 b3.toNat) ∧ w' = w := by
 have hm := xisMessage10 b0 b1 b2 b3 b4 b5 b6 b7 b8 b9 w
 rw [h] at hm
 have HM := hide hm
 clear hm h
 go_enter Try.func88, Try.ntmps88
 go_wp2_with (first | (go_at_call 89; with_reducible refine (unhide HM).mono ?_; rintro e w' ⟨rfl, hw'⟩; obtain rfl := hw'.symm))
 go_ret
 exact ⟨congrArg (fun x => Ending.returned (Value.int .i64 x)) (wrap_byte b3), rfl⟩
set_option maxRecDepth 100000 in
set_option maxHeartbeats 400000 in
theorem xspoilt10 (b0 b1 b2 b3 b4 b5 b6 b7 b8 b9 : UInt8) (w : World) :
  Calls Try.prog 77 #[.string ⟨#[b0, b1, b2, b3, b4, b5, b6, b7, b8, b9]⟩] w fun e w' => e = .returned (.bool ((b0.toNat : Int) != 1 && (b0.toNat : Int) != 2)) ∧ w' = w := by
 go_enter Try.func77, Try.ntmps77
 go_wp2
 all_goals (go_ret; first | exact ⟨rfl, rfl⟩ | (rename_i h; have h' : (b0.toNat : Int) = 1 := h; exact ⟨by rw [h']; rfl, rfl⟩))
set_option maxRecDepth 100000 in
set_option maxHeartbeats 400000 in
theorem xisMessage4 (b0 b1 b2 b3 : UInt8) (w : World) :
  Calls Try.prog 89 #[.string ⟨#[b0, b1, b2, b3]⟩] w fun e w' => e = .returned (.bool ((b0.toNat : Int) == 1)) ∧ w' = w := by
 go_enter Try.func89, Try.ntmps89
 go_wp2
 go_ret
 exact ⟨rfl, rfl⟩
set_option maxRecDepth 100000 in
set_option maxHeartbeats 400000 in
theorem xtaken4 (b0 b1 b2 b3 : UInt8) (w : World) (h : ((b0.toNat : Int) == 1) = false) :
  Calls Try.prog 88 #[.string ⟨#[b0, b1, b2, b3]⟩] w fun e w' => e = .returned (.int .i64 b1.toNat) ∧ w' = w := by
 have hm := xisMessage4 b0 b1 b2 b3 w
 rw [h] at hm
 have HM := hide hm
 clear hm h
 go_enter Try.func88, Try.ntmps88
 go_wp2_with (first | (go_at_call 89; with_reducible refine (unhide HM).mono ?_; rintro e w' ⟨rfl, hw'⟩; obtain rfl := hw'.symm))
 go_ret
 exact ⟨congrArg (fun x => Ending.returned (Value.int .i64 x)) (wrap_byte b1), rfl⟩
set_option maxRecDepth 100000 in
set_option maxHeartbeats 400000 in
theorem xspoilt4 (b0 b1 b2 b3 : UInt8) (w : World) :
  Calls Try.prog 77 #[.string ⟨#[b0, b1, b2, b3]⟩] w fun e w' => e = .returned (.bool ((b0.toNat : Int) != 1 && (b0.toNat : Int) != 2)) ∧ w' = w := by
 go_enter Try.func77, Try.ntmps77
 go_wp2
 all_goals (go_ret; first | exact ⟨rfl, rfl⟩ | (rename_i h; have h' : (b0.toNat : Int) = 1 := h; exact ⟨by rw [h']; rfl, rfl⟩))
set_option maxRecDepth 100000 in
set_option maxHeartbeats 400000 in
theorem xmessage10 (b0 b1 b2 b3 b4 b5 b6 b7 b8 b9 : UInt8) (w : World) :
  Calls Try.prog 91 #[.string ⟨#[b0, b1, b2, b3, b4, b5, b6, b7, b8, b9]⟩] w fun e w' => e = .returned (.agg #[.int .i64 b1.toNat, .int .i64 b2.toNat, .int .i64 b4.toNat, .int .i64 b5.toNat, .int .i64 b6.toNat, .int .u8 b7.toNat]) ∧ Below w.heap.size w w' := by
 go_enter Try.func91, Try.ntmps91
 go_wp2_with fail
 go_region
 all_goals go_wp2_with fail
 all_goals go_region
 all_goals go_wp2_with fail
 all_goals go_returns
 all_goals refine ⟨?_, by go_grown⟩
 all_goals
  show Ending.returned (.agg #[.int .i64 (wrap64 b1.toNat), .int .i64 (wrap64 b2.toNat), .int .i64 (wrap64 b4.toNat), .int .i64 (wrap64 b5.toNat), .int .i64 (wrap64 b6.toNat), .int .u8 b7.toNat]) = _
  rw [wrap_byte, wrap_byte, wrap_byte, wrap_byte, wrap_byte]
end Go.Proofs.Ytemkgikncmhoaaa

