import Derived.Test.YtemkgikncmhoaaaM33
import Derived.Test.YtemkgikncmhoaaaM35
import Derived.Deep.DeepCutAuto
import Derived.BigQuiet
namespace Go.Proofs.Ytemkgikncmhoaaa
open Go.RowKit
attribute [local go_sem ↓] Go.wp_at_zero Go.wp_at_succ

theorem Try.info3 : (Try.prog.info? 3).map (fun i => (i.zero, i.size, i.bytes)) = some (some (.int .i64 0), 1, 8) := by kernel_rfl
theorem Upd.drewN {own own' : Nat → Tag} {may : Tag → Prop} {w w' : World} (h : Upd own own' may w w') (n : Nat) : Upd own own' may w (w'.drewN n) := ⟨h.os, h.tape, h.output, h.size, h.block, h.tags⟩
def numOf (v : Option Value) : Nat := match v with | some (.int _ n) => n.toNat | _ => 0
theorem numOf_nat {v : Option Value} {n : Nat} (h : v = some (.int .i64 n)) : numOf v = n := by subst h; simp [numOf]
theorem mem_take_succ {l : List Nat} {j n x : Nat} (h : l[j]? = some n) : x ∈ l.take (j + 1) ↔ x ∈ l.take j ∨ x = n := by
 rw [List.take_add_one, h, List.mem_append]
 simp
theorem LineAt.kept0 {own : Nat → Tag} {rid c b : Nat} {w : World} {L : RLine} (h : LineAt own rid c w b L) : ∃ ka kc, w.cell? ⟨b, 8, none⟩ = some (.slice ka L.a.kept.length kc) ∧ (0 < L.a.kept.length → ∃ kg, ka = some ⟨kg, 0, none⟩ ∧ ∀ (j n : Nat), L.a.kept[j]? = some n → w.cell? ⟨kg, j, none⟩ = some (.int .i64 n)) := by
 obtain ⟨r0, r1, k0, k1, o0, o1, s0, s1, hc, ⟨a1, a2, a3, a4⟩, ⟨b1, b2, b3, b4⟩⟩ := h
 rcases a2.1.2 with ⟨e1, e2⟩ | ⟨g, cap, cur, e1, _⟩
 ·exact ⟨none, 0, by rw [hc.cell, e1]; simp [e2], fun h => by omega⟩
 ·refine ⟨some ⟨g, 0, none⟩, cap, by rw [hc.cell, e1]; rfl, fun _ => ⟨g, rfl, fun j n hj => ?_⟩⟩
  have := a2.1.cells (g := g) (by rw [e1]; rfl) j (I n) (by rw [List.getElem?_map, hj]; rfl)
  rw [Addr.add_lit, Nat.zero_add] at this
  exact this
theorem LineAt.kept1 {own : Nat → Tag} {rid c b : Nat} {w : World} {L : RLine} (h : LineAt own rid c w b L) : ∃ ka kc, w.cell? ⟨b, 9, none⟩ = some (.slice ka L.b.kept.length kc) ∧ (0 < L.b.kept.length → ∃ kg, ka = some ⟨kg, 0, none⟩ ∧ ∀ (j n : Nat), L.b.kept[j]? = some n → w.cell? ⟨kg, j, none⟩ = some (.int .i64 n)) := by
 obtain ⟨r0, r1, k0, k1, o0, o1, s0, s1, hc, ⟨a1, a2, a3, a4⟩, ⟨b1, b2, b3, b4⟩⟩ := h
 rcases b2.1.2 with ⟨e1, e2⟩ | ⟨g, cap, cur, e1, _⟩
 ·exact ⟨none, 0, by rw [hc.cell, e1]; simp [e2], fun h => by omega⟩
 ·refine ⟨some ⟨g, 0, none⟩, cap, by rw [hc.cell, e1]; rfl, fun _ => ⟨g, rfl, fun j n hj => ?_⟩⟩
  have := b2.1.cells (g := g) (by rw [e1]; rfl) j (I n) (by rw [List.getElem?_map, hj]; rfl)
  rw [Addr.add_lit, Nat.zero_add] at this
  exact this

set_option maxRecDepth 100000 in
set_option maxHeartbeats 3200000 in
theorem rcomes10_0 (A : List Nat) (own : Nat → Tag) (rid b : Nat) (R : RRoom) (i : Nat) (t : List UInt8) (L : RLine) (b0 b1 b2 b3 b4 b5 b6 b7 b8 b9 : UInt8) (w : World) (h : RoomB A own rid w b R) (ht : R.texts[i]? = some t) (hL : R.lines[i]? = some L) (hb : b0.toNat = 1) (htk : b3.toNat ≤ 240) (hwin : R.window ≤ 4)
  (hok : L.a.Ok) (hs : L.a.sent ≤ (L.a.know b3.toNat).may R.window) (hkl : L.a.kept.length < 10000000000000)
  (J : RRoom → Prop) (hJ0 : J (R.setLine i { L with a := (L.a.heard R.window b3.toNat).keep R.window b1.toNat }))
  (hJ : ∀ R', J R' → ∃ t' L', R'.texts[i]? = some t' ∧ R'.lines[i]? = some L' ∧ L'.a.Ok ∧ L'.a.kept.length ≤ 10000000000000 ∧ (L'.a.taken + 1 ∈ L'.a.kept → ∀ own1 w1, RoomB A own1 rid w1 b R' → Calls Try.prog 95 #[.pointer (some ⟨b, 0, none⟩), .int .i64 i, .int .i64 0] w1 fun r w' => r = .returned (.tuple #[]) ∧
   ∃ own' R'' L'', J R'' ∧ R''.lines[i]? = some L'' ∧ L''.a.taken = L'.a.taken + 1 ∧ RoomB A own' rid w' b R'' ∧ Upd own1 own' (inRoom rid) w1 w')) :
  Calls Try.prog 79 #[.pointer (some ⟨b, 0, none⟩), .int .i64 i, .int .i64 0, .string ⟨#[b0, b1, b2, b3, b4, b5, b6, b7, b8, b9]⟩] w fun e w' => e = .returned (.tuple #[]) ∧
   ∃ own' R' L', J R' ∧ R'.lines[i]? = some L' ∧ L'.a.taken + 1 ∉ L'.a.kept ∧ RoomB A own' rid w' b (R'.setLine i { L' with a := L'.a.word }) ∧ Upd own own' (inRoom rid) w w' := by
 have hn4 : R.texts.length ≤ 4 := h.lens.1
 obtain ⟨tg, tc, lg, lc, lb, c0, c2, c3, c4, c5, f4, hLA, t1, t2, t3, l1, l2, l3, hi⟩ := h.room.get ht hL
 have hA := h.at_ hi c3 c5
 obtain ⟨ra, rc, d0⟩ : ∃ ra rc, w.cell? ⟨lb, 0, none⟩ = some (.slice ra L.a.rows.length rc) := by
  obtain ⟨r0, r1, k0, k1, o0, o1, s0, s1, hc, ⟨⟨fs, hfl, hro, hfs⟩, _⟩, ⟨⟨fs', hfl', hro', hfs'⟩, _⟩⟩ := hLA
  obtain ⟨ra, rc, rfl, _, _⟩ := hro.shape
  exact ⟨ra, rc, by rw [hc.cell]; rfl⟩
 have d4 : w.cell? ⟨lb, 4, none⟩ = some (.int .i64 L.a.known) := hLA.cells.2.2.1
 have z4 := hLA.cells.2.2.2.2.2.2 4
 have hi1 : (i : Int) < (R.texts.length : Int) := by omega
 have hi2 : (0 : Int) ≤ (i : Int) := by omega
 have hb0 : ((((⟨#[b0, b1, b2, b3, b4, b5, b6, b7, b8, b9]⟩ : ByteArray)[0]'(by show 0 < 10; omega)).toNat : Int) == 1) = true := by
  show ((b0.toNat : Int) == 1) = true
  rw [beq_iff_eq]; omega
 have hb1 : (((⟨#[b0, b1, b2, b3, b4, b5, b6, b7, b8, b9]⟩ : ByteArray)[0]'(by show 0 < 10; omega)).toNat : Int) = 1 := by
  show (b0.toNat : Int) = 1
  omega
 have hy1 : wrap64 (((⟨#[b0, b1, b2, b3, b4, b5, b6, b7, b8, b9]⟩ : ByteArray)[1]'(by show 1 < 10; omega)).toNat : Int) = (b1.toNat : Int) := wrapB b1
 have hy3 : wrap64 (((⟨#[b0, b1, b2, b3, b4, b5, b6, b7, b8, b9]⟩ : ByteArray)[3]'(by show 3 < 10; omega)).toNat : Int) = (b3.toNat : Int) := wrapB b3
 have hws : IntKind.i64.wrap ((L.a.sent : Int) + 1) = (L.a.sent : Int) + 1 := by rw [IntKind.wrap_i64]; have := hok.sent; omega
 have n0 : ∀ k, ¬ inLine rid i (rid, 100, k) := fun k hk => by have := hk.2; simp at this; omega
 have HMAY : Hid (∀ own1 W, LineAt own1 rid i W lb { L with a := L.a.know b3.toNat } → Calls Try.prog 94 #[.pointer (some ⟨lb, 0, none⟩), .int .i64 0, .int .i64 R.window] W fun e w' => e = .returned (.int .i64 ((L.a.know b3.toNat).may R.window : Nat)) ∧ w' = W) :=
  hide fun own1 W hW => may_0 own1 rid i lb _ R.window W hW (hok.know b3.toNat htk) hwin
 have HSD : Hid (∀ own1 W, LineAt own1 rid i W lb { L with a := L.a.know b3.toNat } → Upd own own1 (inLine rid i) w W → Calls Try.prog 93 #[.pointer (some ⟨lb, 0, none⟩), .int .i64 0, .int .i64 ((L.a.sent : Int) + 1), .int .i64 ((L.a.know b3.toNat).may R.window : Nat)] W fun e w' => e = .returned (.tuple #[]) ∧ ∃ own', RoomB A own' rid w' b (R.setLine i { L with a := L.a.heard R.window b3.toNat }) ∧ Upd own own' (inRoom rid) w w') := by
  apply hide
  intro own1 W hW hU
  refine (heard_0 own1 rid i lb L R.window b3.toNat W hok htk hs _ _ rfl rfl hW).mono ?_
  rintro e w' ⟨rfl, own', x1, x2⟩
  exact ⟨rfl, own', RoomB.line h (by omega) hi c3 c5 (hU.trans x2) x1, (hU.trans x2).mono (fun t h => h.1)⟩
 have HKN : Hid (L.a.know b3.toNat = if L.a.known < b3.toNat ∧ b3.toNat ≤ L.a.rows.length then { L.a with known := b3.toNat } else L.a) := rfl
 have HKF := hide (L.a.know_fields b3.toNat)
 have HHF := hide (L.a.heard_fields R.window b3.toNat)
 have HTK := hide hok.taken
 have HST := hide (hLA.set4 b3.toNat)
 have HLA := hide hLA
 have HJ := hide hJ
 have HJ0 := hide hJ0
 have HA := hide hA
 clear hLA h hs hok hJ hJ0 hA
 generalize (L.a.know b3.toNat).may R.window = mw at *
 generalize L.a.know b3.toNat = EK at *
 generalize L.a.heard R.window b3.toNat = EH at *
 go_enter Try.func79, Try.ntmps79
 go_upto_region 4 with fail
 rw [hy3]
 clear hy3
 go_cut [47] (fun v47 wc => v47 = .bool (decide (L.a.known < b3.toNat ∧ b3.toNat ≤ L.a.rows.length)) ∧ wc = w)
 case first =>
  by_cases k1 : L.a.known < b3.toNat
  ·have k1' : (L.a.known : Int) < (b3.toNat : Int) := by omega
   by_cases k2 : b3.toNat ≤ L.a.rows.length
   ·have k2' : (b3.toNat : Int) ≤ (L.a.rows.length : Int) := by omega
    go_wp2
    go_meet
    case rel => exact ⟨by rw [decide_eq_true ⟨k1, k2⟩], rfl⟩
   ·have k2' : ¬ ((b3.toNat : Int) ≤ (L.a.rows.length : Int)) := by omega
    go_wp2
    go_meet
    case rel => exact ⟨by rw [decide_eq_false (fun h => k2 h.2)], rfl⟩
  ·have k1' : ¬ ((L.a.known : Int) < (b3.toNat : Int)) := by omega
   go_wp2
   go_meet
   case rel => exact ⟨by rw [decide_eq_false (fun h => k1 h.1)], rfl⟩
 case rest =>
  obtain ⟨rfl, hwc⟩ := hcut
  obtain rfl := hwc.symm

  go_upto_if 47 with fail
  go_cut [] (fun wc => LineAt own rid i wc lb { L with a := EK } ∧ Upd own own (inLine rid i) w wc)
  case first =>
   by_cases hc : L.a.known < b3.toNat ∧ b3.toNat ≤ L.a.rows.length
   ·rw [decide_eq_true hc]
    have hk2 := unhide HKN
    rw [if_pos hc] at hk2
    go_wp2
    go_meet
    case rel => rw [hk2]; exact unhide HST
   ·rw [decide_eq_false hc]
    have hk2 := unhide HKN
    rw [if_neg hc] at hk2
    go_wp2
    go_meet
    case rel => rw [hk2]; exact ⟨unhide HLA, Upd.refl _ _ _⟩
  case rest =>
   obtain ⟨x1, x2⟩ := hcut
   have d6' : wc.cell? ⟨lb, 6, none⟩ = some (.int .i64 L.a.sent) := by rw [x1.cells.2.2.2.2.1]; exact congrArg (fun n : Nat => some (Value.int .i64 n)) (unhide HKF).2.1
   have c0' := x2.cell c0 (by rw [t2]; exact n0 _)
   have HM2 : Hid (∀ W, W = wc ∨ W = wc.drew → Calls Try.prog 94 #[.pointer (some ⟨lb, 0, none⟩), .int .i64 0, .int .i64 R.window] W fun e w' => e = .returned (.int .i64 mw) ∧ w' = W) := by
    apply hide
    rintro W (rfl | rfl)
    ·exact (unhide HMAY) own _ x1
    ·exact (unhide HMAY) own _ (x1.upd ((Upd.refl own (fun _ => False) _).drew) (fun _ h => h))
   have HS2 : Hid (∀ W, W = wc ∨ W = wc.drew → Calls Try.prog 93 #[.pointer (some ⟨lb, 0, none⟩), .int .i64 0, .int .i64 ((L.a.sent : Int) + 1), .int .i64 mw] W fun e w' => e = .returned (.tuple #[]) ∧ ∃ own', RoomB A own' rid w' b (R.setLine i { L with a := EH }) ∧ Upd own own' (inRoom rid) w w') := by
    apply hide
    rintro W (rfl | rfl)
    ·exact (unhide HSD) own _ x1 x2
    ·exact (unhide HSD) own _ (x1.upd ((Upd.refl own (fun _ => False) _).drew) (fun _ h => h)) (x2.drew)
   clear x1 x2 HST HMAY HSD HLA HKN c2 c3 c4 c5 f4 d0 d4 z4 hwc
   go_upto_region 6 with fail
   go_cut [] (fun wd => ∃ own2, RoomB A own2 rid wd b (R.setLine i { L with a := EH }) ∧ Upd own own2 (inRoom rid) w wd)
   case first =>
    go_region_with (first | (go_at_call 94; with_reducible refine (unhide HM2 _ (by first | exact .inl rfl | exact .inr rfl)).mono ?_; rintro e w2 ⟨rfl, hw2⟩; obtain rfl := hw2.symm) | (go_at_call 93; with_reducible refine (unhide HS2 _ (by first | exact .inl rfl | exact .inr rfl)).mono ?_; rintro e w2 ⟨rfl, hF⟩; have HF := hide hF; clear hF))
    all_goals
     go_wp2
     go_meet
     case rel => exact unhide HF
   case rest =>
    clear HM2 HS2 d6' c0' c0
    obtain ⟨own2, hR2, hU2⟩ := hcut
    have hA := unhide HA
    have hl2 := hR2.lineAt (setLine_get hL _) hA
    obtain ⟨lg2, lc2, c0x, _, _, t2', l1', _, _⟩ := hR2.heads (setLine_get hL _) hA
    have d2 : wc.cell? ⟨lb, 2, none⟩ = some (.int .i64 EH.taken) := hl2.cells.1
    have hEt : EH.taken ≤ 240 := by rw [(unhide HHF).2.1]; exact unhide HTK
    have hwk : IntKind.i64.wrap ((EH.taken : Int) + R.window) = (EH.taken : Int) + R.window := by rw [IntKind.wrap_i64]; omega
    have c0 : wc.cell? ⟨b, 0, none⟩ = some (.int .i64 R.window) := c0x
    clear c0x
    have HR2 : Hid (∀ W, (∃ n, W = wc.drewN n) → ∃ own2, RoomB A own2 rid W b (R.setLine i { L with a := EH }) ∧ Upd own own2 (inRoom rid) w W) := by
     apply hide
     rintro W ⟨n, rfl⟩
     exact ⟨own2, hR2.upd ((Upd.refl own2 (fun _ => False) _).drewN n) (fun _ _ h => h), hU2.drewN n⟩
    clear hR2 hU2 hl2 hA
    go_upto_region 9 with fail
    rw [hy1]
    clear hy1
    go_cut [99] (fun v99 wx => v99 = .bool (decide (EH.taken < b1.toNat ∧ b1.toNat ≤ EH.taken + R.window)) ∧ ∃ own2, RoomB A own2 rid wx b (R.setLine i { L with a := EH }) ∧ Upd own own2 (inRoom rid) w wx)
    case first =>
     by_cases k1 : EH.taken < b1.toNat
     ·have k1' : (EH.taken : Int) < (b1.toNat : Int) := by omega
      by_cases k2 : b1.toNat ≤ EH.taken + R.window
      ·have k2' : (b1.toNat : Int) ≤ (EH.taken : Int) + (R.window : Int) := by omega
       go_big_quiet (fail)
       all_goals go_wp2
       go_meet
       case rel => exact ⟨by rw [decide_eq_true ⟨k1, k2⟩], unhide HR2 _ ⟨_, rfl⟩⟩
      ·have k2' : ¬ ((b1.toNat : Int) ≤ (EH.taken : Int) + (R.window : Int)) := by omega
       go_big_quiet (fail)
       all_goals go_wp2
       go_meet
       case rel => exact ⟨by rw [decide_eq_false (fun h => k2 h.2)], unhide HR2 _ ⟨_, rfl⟩⟩
     ·have k1' : ¬ ((EH.taken : Int) < (b1.toNat : Int)) := by omega
      go_big_quiet (fail)
      all_goals go_wp2
      go_meet
      case rel => exact ⟨by rw [decide_eq_false (fun h => k1 h.1)], unhide HR2 _ ⟨_, rfl⟩⟩
    case rest =>
     obtain ⟨rfl, own3, hR3, hU3⟩ := hcut
     clear HR2 d2 c0 l1' t2'
     go_upto_if 99 with fail
     go_cut [] (fun wx => ∃ own4, RoomB A own4 rid wx b (R.setLine i { L with a := EH.keep R.window b1.toNat }) ∧ Upd own own4 (inRoom rid) w wx)
     case first =>
      by_cases hc : EH.taken < b1.toNat ∧ b1.toNat ≤ EH.taken + R.window
      ·rw [decide_eq_true hc]
       have hkeep : EH.keep R.window b1.toNat = { EH with kept := EH.kept ++ [b1.toNat] } := if_pos hc
       have hA := unhide HA
       have hl3 := hR3.lineAt (setLine_get hL _) hA
       obtain ⟨lg3, lc3, _, g3, g5, _, _, hi3, _⟩ := hR3.heads (setLine_get hL _) hA
       have hkl3 : EH.kept.length < 10000000000000 := by rw [(unhide HHF).2.2]; exact hkl
       obtain ⟨r0, r1, k0, k1, o0, o1, s0, s1, hc3, ⟨a1, a2, a3, a4⟩, ⟨y1, y2, y3, y4⟩⟩ := hl3
       obtain ⟨i1, hi0, hz0, hz1, hz2⟩ := info_parts Try.info3
       obtain ⟨ka, kc, rfl, kcl, _⟩ := a2.shape
       have h8 : wc.cell? ⟨lb, 8, none⟩ = some (.slice ka EH.kept.length kc) := by rw [hc3.cell]; rfl
       have hf8 := hc3.frozen 8
       have hlt3 := hc3.lt
       have hne : ¬ (lb = wc.heap.size) := by omega
       have hlb1 := hc3.2
       have h8' : ((wc.alloc (Obj.cells #[Value.int .i64 b1.toNat] 3)).drew).cell? ⟨lb, 8, none⟩ = some (.slice ka EH.kept.length kc) := (hc3.alloc _).drew.cell 8
       have hf8' : ((wc.alloc (Obj.cells #[Value.int .i64 b1.toNat] 3)).drew).frozen? ⟨lb, 8, none⟩ = false := (hc3.alloc _).drew.frozen 8
       have hlt' : lb < ((wc.alloc (Obj.cells #[Value.int .i64 b1.toNat] 3)).drew).heap.size := by simp; omega
       have HA2 := hide a2
       have FIN : Hid (∀ na nc w1, OwnsT (retag own3 (wc.heap.size + 1) (rid, i, 3)) (rid, i, 3) w1 3 1 (.slice na (EH.kept.length + 1) nc) (EH.kept.length + 1) (EH.kept.map I ++ [.int .i64 b1.toNat]) → Upd own3 (retag own3 (wc.heap.size + 1) (rid, i, 3)) (fun x => x = (rid, i, 3)) ((wc.alloc (Obj.cells #[Value.int .i64 b1.toNat] 3)).drew) w1 →
         ∃ own4, RoomB A own4 rid (w1.setCell ⟨lb, 8, none⟩ (.slice na (EH.kept.length + 1) nc)) b (R.setLine i { L with a := EH.keep R.window b1.toNat }) ∧ Upd own own4 (inRoom rid) w (w1.setCell ⟨lb, 8, none⟩ (.slice na (EH.kept.length + 1) nc))) := by
        apply hide
        intro na nc w1 hown1 hu1
        obtain ⟨C1, O1, U1⟩ := app_store (k := 8) hc3 hu1 (by simp) hown1
        have U2 : Upd own3 _ (inLine rid i) wc (w1.setCell ⟨lb, 8, none⟩ (.slice na (EH.kept.length + 1) nc)) := U1.mono (by rintro t (rfl | rfl) <;> exact ⟨rfl, rfl⟩)
        have X : EndAt _ rid i 0 _ _ _ _ _ { EH with kept := EH.kept ++ [b1.toNat] } := ⟨a1.upd U1 (by simp) (by simp; omega), by simpa [I] using O1, a3.upd U1 (by simp), a4.upd U1 (by simp)⟩
        have Y : EndAt _ rid i 1 _ _ _ _ _ L.b := ⟨y1.upd U1 (by simp) (by simp; omega), y2.upd U1 (by simp), y3.upd U1 (by simp), y4.upd U1 (by simp)⟩
        have LA : LineAt _ rid i (w1.setCell ⟨lb, 8, none⟩ (.slice na (EH.kept.length + 1) nc)) lb { L with a := { EH with kept := EH.kept ++ [b1.toNat] } } := ⟨r0, r1, _, _, _, _, _, _, C1, X, Y⟩
        have RB := RoomB.line hR3 (by omega) hi3 g3 g5 U2 LA
        rw [setLine_setLine, ← hkeep] at RB
        exact ⟨_, RB, hU3.trans (U2.mono (fun t h => h.1))⟩
       clear hR3 hU3 hc3 a1 a2 a3 a4 y1 y2 y3 y4 g3 g5
       go_wp2_with fail
       go_region_law ((refine step_append_T _ (by rfl) _ _ _ (by rfl) 3 i1 _ 1 8 Try.underlying53 hi0 hz0 hz1 hz2 rfl (by omega) _ _ _ own3 (rid, i, 3) (by rfl) ((unhide HA2).alloc _).drew ⟨wc.heap.size, 0, none⟩ 1 1 [.int .i64 b1.toNat] (by rfl) (by rfl) (World.news_of_block (cs := #[.int .i64 b1.toNat]) (t := 3) (fr := (0, 0)) (heap_alloc_new wc _)) (by simp [Value.oneCell']) (by simp [maxLen]; omega) (by omega) (wc.heap.size + 1) (by simp) ?_; intro na nc w1 hown1 hu1; have k0 := hu1.cell h8' (by simp [hlb1]); have e0 := hu1.frozen hlt' (by simp [hlb1]) hf8'; have HF := hide (unhide FIN _ _ _ hown1 hu1); clear h8 hf8 h8' hf8' hlt' hown1 hu1))
       all_goals
        go_wp2
        go_meet
        case rel => exact unhide HF
      ·rw [decide_eq_false hc]
       have hkeep : EH.keep R.window b1.toNat = EH := if_neg hc
       have HF : Hid (∃ own4, RoomB A own4 rid wc b (R.setLine i { L with a := EH.keep R.window b1.toNat }) ∧ Upd own own4 (inRoom rid) w wc) := hide ⟨own3, by rw [hkeep]; exact hR3, hU3⟩
       clear hR3 hU3
       go_wp2
       go_meet
       case rel => exact unhide HF
     case rest =>
      obtain ⟨own4, hR4, hU4⟩ := hcut
      have START : Hid (∃ own' R', J R' ∧ RoomB A own' rid wc b R' ∧ Upd own own' (inRoom rid) w wc) := hide ⟨own4, _, unhide HJ0, hR4, hU4⟩
      clear hR4 hU4 hR3 hU3 hEt hwk hb0 hb1 HJ0
      go_wp2_with fail
      go_loopw [] (fun wr => ∃ own' R', J R' ∧ RoomB A own' rid wr b R' ∧ Upd own own' (inRoom rid) w wr) (fun wr => 300 - numOf (wr.cell? ⟨lb, 2, none⟩))
      case atStart => exact unhide START
      case round =>
       obtain ⟨own5, R5, hJ5, hR5, hU5⟩ := hrel
       clear START
       rename World => wo
       obtain ⟨t5, L5, ht5, hL5, hok5, hk5, htake⟩ := unhide HJ R5 hJ5
       have hA := unhide HA
       have HMS : Hid (numOf (wo.cell? ⟨lb, 2, none⟩) = L5.a.taken) := hide (numOf_nat (hR5.lineAt hL5 hA).cells.1)
       have HTAKE := hide htake
       have HJ5 := hide hJ5
       have HOK5 := hide hok5
       have htk5 := hok5.taken
       have hwt : IntKind.i64.wrap ((L5.a.taken : Int) + 1) = (L5.a.taken : Int) + 1 := by rw [IntKind.wrap_i64]; omega
       have ST5 : Hid (∃ own6, RoomB A own6 rid wo b R5 ∧ Upd own own6 (inRoom rid) w wo) := hide ⟨own5, hR5, hU5⟩
       clear htake hJ5 hok5 hR5 hU5 hA
       go_wp2_with fail
       go_loopw [11, 12] (fun v11 v12 wq => ∃ j : Nat, j ≤ L5.a.kept.length ∧ v12 = .int .i64 j ∧ v11 = .bool (decide (L5.a.taken + 1 ∈ L5.a.kept.take j)) ∧ ∃ own6, RoomB A own6 rid wq b R5 ∧ Upd own own6 (inRoom rid) w wq) (fun _ v12 _ => L5.a.kept.length - (intOf v12).toNat)
       case atStart => exact ⟨0, by omega, rfl, by simp, unhide ST5⟩
       case round =>
        obtain ⟨j, hj, rfl, rfl, own6, hR6, hU6⟩ := hrel
        rename World => wq
        have hA := unhide HA
        have hl6 := hR6.lineAt hL5 hA
        obtain ⟨ka, kc, e8, hkc⟩ := hl6.kept0
        have e2 : wq.cell? ⟨lb, 2, none⟩ = some (.int .i64 L5.a.taken) := hl6.cells.1
        by_cases hjl : j < L5.a.kept.length
        ·have hjl' : (j : Int) < (L5.a.kept.length : Int) := by omega
         have hj0 : (0 : Int) ≤ (j : Int) := by omega
         obtain ⟨kg, rfl, hcells⟩ := hkc (by omega)
         obtain ⟨n, hn⟩ : ∃ n, L5.a.kept[j]? = some n := ⟨_, List.getElem?_eq_getElem hjl⟩
         have hcj := hcells j n hn
         have HNX : Hid (∀ q, ∃ own6, RoomB A own6 rid (wq.drewN q) b R5 ∧ Upd own own6 (inRoom rid) w (wq.drewN q)) := hide fun q => ⟨own6, hR6.upd ((Upd.refl own6 (fun _ => False) _).drewN q) (fun _ _ h => h), hU6.drewN q⟩
         have HMT := hide (mem_take_succ (x := L5.a.taken + 1) hn)
         clear hR6 hU6 hl6 hkc hcells hn hA
         by_cases hin : L5.a.taken + 1 ∈ L5.a.kept.take j
         ·rw [decide_eq_true hin]
          go_wp2_with fail
          go_big_quiet (fail)
          go_wp2
          go_roundw
          case rel => exact ⟨j + 1, by omega, by go_num, by rw [decide_eq_true ((unhide HMT).2 (.inl hin))], unhide HNX _⟩
          case measure => simp [intOf]; omega
         ·rw [decide_eq_false hin]
          by_cases hnn : n = L5.a.taken + 1
          ·have hb : ((n : Int) == (L5.a.taken : Int) + 1) = true := by rw [beq_iff_eq]; omega
           go_wp2_with fail
           go_big_quiet (fail)
           go_wp2
           go_roundw
           case rel => exact ⟨j + 1, by omega, by go_num, by rw [decide_eq_true ((unhide HMT).2 (.inr hnn.symm))], unhide HNX _⟩
           case measure => simp [intOf]; omega
          ·have hb : ((n : Int) == (L5.a.taken : Int) + 1) = false := by rw [beq_eq_false_iff_ne]; omega
           go_wp2_with fail
           go_big_quiet (fail)
           go_wp2
           go_roundw
           case rel => exact ⟨j + 1, by omega, by go_num, by rw [decide_eq_false (fun h => ((unhide HMT).1 h).elim hin (fun h => hnn h.symm))], unhide HNX _⟩
           case measure => simp [intOf]; omega
        ·obtain rfl : j = L5.a.kept.length := by omega
         have hjl' : ¬ (L5.a.kept.length : Int) < (L5.a.kept.length : Int) := by omega
         rw [List.take_length]
         by_cases hin : L5.a.taken + 1 ∈ L5.a.kept
         ·rw [decide_eq_true hin]
          have HT6 : Hid (Calls Try.prog 95 #[.pointer (some ⟨b, 0, none⟩), .int .i64 i, .int .i64 0] wq fun r w' => r = .returned (.tuple #[]) ∧ (∃ own' R', J R' ∧ RoomB A own' rid w' b R' ∧ Upd own own' (inRoom rid) w w') ∧ numOf (w'.cell? ⟨lb, 2, none⟩) = L5.a.taken + 1) := by
           apply hide
           refine (unhide HTAKE hin own6 wq hR6).mono ?_
           rintro r w7 ⟨rfl, own7, R7, L7, hJ7, hL7, htk7, hR7, hU7⟩
           exact ⟨rfl, ⟨own7, R7, hJ7, hR7, hU6.trans hU7⟩, by rw [numOf_nat (hR7.lineAt hL7 hA).cells.1, htk7]⟩
          clear hR6 hU6 hl6 hkc hA HTAKE
          go_wp2_with fail
          refine (unhide HT6).mono ?_
          rintro r w7 ⟨rfl, hF, hM⟩
          have HF := hide hF
          have HM := hide hM
          clear hF hM HT6
          go_wp2
          go_roundw
          case rel => exact unhide HF
          case measure =>
           rw [unhide HM, unhide HMS]
           omega
         ·rw [decide_eq_false hin]
          obtain ⟨lg6, lc6, _, g3, g5, _, _, hi6, hn6⟩ := hR6.heads hL5 hA
          have HW6 : Hid (Calls Try.prog 96 #[.pointer (some ⟨lb, 0, none⟩), .int .i64 0] wq fun r w' => r = .returned (.tuple #[]) ∧ ∃ own' R' L', J R' ∧ R'.lines[i]? = some L' ∧ L'.a.taken + 1 ∉ L'.a.kept ∧ RoomB A own' rid w' b (R'.setLine i { L' with a := L'.a.word }) ∧ Upd own own' (inRoom rid) w w') := by
           apply hide
           refine (word_0 own6 rid i lb L5 wq hl6 (unhide HOK5)).mono ?_
           rintro r w7 ⟨rfl, own7, x1, x2⟩
           exact ⟨rfl, own7, R5, L5, unhide HJ5, hL5, hin, RoomB.line hR6 (by omega) hi6 g3 g5 x2 x1, hU6.trans (x2.mono (fun t h => h.1))⟩
          clear hR6 hU6 hl6 hkc hA HTAKE g3 g5
          go_wp2_with fail
          refine (unhide HW6).mono ?_
          rintro r w7 ⟨rfl, hF⟩
          have HF := hide hF
          clear hF HW6
          go_wp2
          go_end0
          exact ⟨rfl, unhide HF⟩
set_option maxRecDepth 100000 in
set_option maxHeartbeats 3200000 in
theorem rcomes10_1 (A : List Nat) (own : Nat → Tag) (rid b : Nat) (R : RRoom) (i : Nat) (t : List UInt8) (L : RLine) (b0 b1 b2 b3 b4 b5 b6 b7 b8 b9 : UInt8) (w : World) (h : RoomB A own rid w b R) (ht : R.texts[i]? = some t) (hL : R.lines[i]? = some L) (hb : b0.toNat = 1) (htk : b3.toNat ≤ 240) (hwin : R.window ≤ 4)
  (hok : L.b.Ok) (hs : L.b.sent ≤ (L.b.know b3.toNat).may R.window) (hkl : L.b.kept.length < 10000000000000)
  (J : RRoom → Prop) (hJ0 : J (R.setLine i { L with b := (L.b.heard R.window b3.toNat).keep R.window b1.toNat }))
  (hJ : ∀ R', J R' → ∃ t' L', R'.texts[i]? = some t' ∧ R'.lines[i]? = some L' ∧ L'.b.Ok ∧ L'.b.kept.length ≤ 10000000000000 ∧ (L'.b.taken + 1 ∈ L'.b.kept → ∀ own1 w1, RoomB A own1 rid w1 b R' → Calls Try.prog 95 #[.pointer (some ⟨b, 0, none⟩), .int .i64 i, .int .i64 1] w1 fun r w' => r = .returned (.tuple #[]) ∧
   ∃ own' R'' L'', J R'' ∧ R''.lines[i]? = some L'' ∧ L''.b.taken = L'.b.taken + 1 ∧ RoomB A own' rid w' b R'' ∧ Upd own1 own' (inRoom rid) w1 w')) :
  Calls Try.prog 79 #[.pointer (some ⟨b, 0, none⟩), .int .i64 i, .int .i64 1, .string ⟨#[b0, b1, b2, b3, b4, b5, b6, b7, b8, b9]⟩] w fun e w' => e = .returned (.tuple #[]) ∧
   ∃ own' R' L', J R' ∧ R'.lines[i]? = some L' ∧ L'.b.taken + 1 ∉ L'.b.kept ∧ RoomB A own' rid w' b (R'.setLine i { L' with b := L'.b.word }) ∧ Upd own own' (inRoom rid) w w' := by
 have hn4 : R.texts.length ≤ 4 := h.lens.1
 obtain ⟨tg, tc, lg, lc, lb, c0, c2, c3, c4, c5, f4, hLA, t1, t2, t3, l1, l2, l3, hi⟩ := h.room.get ht hL
 have hA := h.at_ hi c3 c5
 obtain ⟨ra, rc, d0⟩ : ∃ ra rc, w.cell? ⟨lb, 1, none⟩ = some (.slice ra L.b.rows.length rc) := by
  obtain ⟨r0, r1, k0, k1, o0, o1, s0, s1, hc, ⟨⟨fs, hfl, hro, hfs⟩, _⟩, ⟨⟨fs', hfl', hro', hfs'⟩, _⟩⟩ := hLA
  obtain ⟨ra, rc, rfl, _, _⟩ := hro'.shape
  exact ⟨ra, rc, by rw [hc.cell]; rfl⟩
 have d4 : w.cell? ⟨lb, 5, none⟩ = some (.int .i64 L.b.known) := hLA.cells.2.2.2.1
 have z4 := hLA.cells.2.2.2.2.2.2 5
 have hi1 : (i : Int) < (R.texts.length : Int) := by omega
 have hi2 : (0 : Int) ≤ (i : Int) := by omega
 have hb0 : ((((⟨#[b0, b1, b2, b3, b4, b5, b6, b7, b8, b9]⟩ : ByteArray)[0]'(by show 0 < 10; omega)).toNat : Int) == 1) = true := by
  show ((b0.toNat : Int) == 1) = true
  rw [beq_iff_eq]; omega
 have hb1 : (((⟨#[b0, b1, b2, b3, b4, b5, b6, b7, b8, b9]⟩ : ByteArray)[0]'(by show 0 < 10; omega)).toNat : Int) = 1 := by
  show (b0.toNat : Int) = 1
  omega
 have hy1 : wrap64 (((⟨#[b0, b1, b2, b3, b4, b5, b6, b7, b8, b9]⟩ : ByteArray)[1]'(by show 1 < 10; omega)).toNat : Int) = (b1.toNat : Int) := wrapB b1
 have hy3 : wrap64 (((⟨#[b0, b1, b2, b3, b4, b5, b6, b7, b8, b9]⟩ : ByteArray)[3]'(by show 3 < 10; omega)).toNat : Int) = (b3.toNat : Int) := wrapB b3
 have hws : IntKind.i64.wrap ((L.b.sent : Int) + 1) = (L.b.sent : Int) + 1 := by rw [IntKind.wrap_i64]; have := hok.sent; omega
 have n0 : ∀ k, ¬ inLine rid i (rid, 100, k) := fun k hk => by have := hk.2; simp at this; omega
 have HMAY : Hid (∀ own1 W, LineAt own1 rid i W lb { L with b := L.b.know b3.toNat } → Calls Try.prog 94 #[.pointer (some ⟨lb, 0, none⟩), .int .i64 1, .int .i64 R.window] W fun e w' => e = .returned (.int .i64 ((L.b.know b3.toNat).may R.window : Nat)) ∧ w' = W) :=
  hide fun own1 W hW => may_1 own1 rid i lb _ R.window W hW (hok.know b3.toNat htk) hwin
 have HSD : Hid (∀ own1 W, LineAt own1 rid i W lb { L with b := L.b.know b3.toNat } → Upd own own1 (inLine rid i) w W → Calls Try.prog 93 #[.pointer (some ⟨lb, 0, none⟩), .int .i64 1, .int .i64 ((L.b.sent : Int) + 1), .int .i64 ((L.b.know b3.toNat).may R.window : Nat)] W fun e w' => e = .returned (.tuple #[]) ∧ ∃ own', RoomB A own' rid w' b (R.setLine i { L with b := L.b.heard R.window b3.toNat }) ∧ Upd own own' (inRoom rid) w w') := by
  apply hide
  intro own1 W hW hU
  refine (heard_1 own1 rid i lb L R.window b3.toNat W hok htk hs _ _ rfl rfl hW).mono ?_
  rintro e w' ⟨rfl, own', x1, x2⟩
  exact ⟨rfl, own', RoomB.line h (by omega) hi c3 c5 (hU.trans x2) x1, (hU.trans x2).mono (fun t h => h.1)⟩
 have HKN : Hid (L.b.know b3.toNat = if L.b.known < b3.toNat ∧ b3.toNat ≤ L.b.rows.length then { L.b with known := b3.toNat } else L.b) := rfl
 have HKF := hide (L.b.know_fields b3.toNat)
 have HHF := hide (L.b.heard_fields R.window b3.toNat)
 have HTK := hide hok.taken
 have HST := hide (hLA.set5 b3.toNat)
 have HLA := hide hLA
 have HJ := hide hJ
 have HJ0 := hide hJ0
 have HA := hide hA
 clear hLA h hs hok hJ hJ0 hA
 generalize (L.b.know b3.toNat).may R.window = mw at *
 generalize L.b.know b3.toNat = EK at *
 generalize L.b.heard R.window b3.toNat = EH at *
 go_enter Try.func79, Try.ntmps79
 go_upto_region 4 with fail
 rw [hy3]
 clear hy3
 go_cut [47] (fun v47 wc => v47 = .bool (decide (L.b.known < b3.toNat ∧ b3.toNat ≤ L.b.rows.length)) ∧ wc = w)
 case first =>
  by_cases k1 : L.b.known < b3.toNat
  ·have k1' : (L.b.known : Int) < (b3.toNat : Int) := by omega
   by_cases k2 : b3.toNat ≤ L.b.rows.length
   ·have k2' : (b3.toNat : Int) ≤ (L.b.rows.length : Int) := by omega
    go_wp2
    go_meet
    case rel => exact ⟨by rw [decide_eq_true ⟨k1, k2⟩], rfl⟩
   ·have k2' : ¬ ((b3.toNat : Int) ≤ (L.b.rows.length : Int)) := by omega
    go_wp2
    go_meet
    case rel => exact ⟨by rw [decide_eq_false (fun h => k2 h.2)], rfl⟩
  ·have k1' : ¬ ((L.b.known : Int) < (b3.toNat : Int)) := by omega
   go_wp2
   go_meet
   case rel => exact ⟨by rw [decide_eq_false (fun h => k1 h.1)], rfl⟩
 case rest =>
  obtain ⟨rfl, hwc⟩ := hcut
  obtain rfl := hwc.symm

  go_upto_if 47 with fail
  go_cut [] (fun wc => LineAt own rid i wc lb { L with b := EK } ∧ Upd own own (inLine rid i) w wc)
  case first =>
   by_cases hc : L.b.known < b3.toNat ∧ b3.toNat ≤ L.b.rows.length
   ·rw [decide_eq_true hc]
    have hk2 := unhide HKN
    rw [if_pos hc] at hk2
    go_wp2
    go_meet
    case rel => rw [hk2]; exact unhide HST
   ·rw [decide_eq_false hc]
    have hk2 := unhide HKN
    rw [if_neg hc] at hk2
    go_wp2
    go_meet
    case rel => rw [hk2]; exact ⟨unhide HLA, Upd.refl _ _ _⟩
  case rest =>
   obtain ⟨x1, x2⟩ := hcut
   have d6' : wc.cell? ⟨lb, 7, none⟩ = some (.int .i64 L.b.sent) := by rw [x1.cells.2.2.2.2.2.1]; exact congrArg (fun n : Nat => some (Value.int .i64 n)) (unhide HKF).2.1
   have c0' := x2.cell c0 (by rw [t2]; exact n0 _)
   have HM2 : Hid (∀ W, W = wc ∨ W = wc.drew → Calls Try.prog 94 #[.pointer (some ⟨lb, 0, none⟩), .int .i64 1, .int .i64 R.window] W fun e w' => e = .returned (.int .i64 mw) ∧ w' = W) := by
    apply hide
    rintro W (rfl | rfl)
    ·exact (unhide HMAY) own _ x1
    ·exact (unhide HMAY) own _ (x1.upd ((Upd.refl own (fun _ => False) _).drew) (fun _ h => h))
   have HS2 : Hid (∀ W, W = wc ∨ W = wc.drew → Calls Try.prog 93 #[.pointer (some ⟨lb, 0, none⟩), .int .i64 1, .int .i64 ((L.b.sent : Int) + 1), .int .i64 mw] W fun e w' => e = .returned (.tuple #[]) ∧ ∃ own', RoomB A own' rid w' b (R.setLine i { L with b := EH }) ∧ Upd own own' (inRoom rid) w w') := by
    apply hide
    rintro W (rfl | rfl)
    ·exact (unhide HSD) own _ x1 x2
    ·exact (unhide HSD) own _ (x1.upd ((Upd.refl own (fun _ => False) _).drew) (fun _ h => h)) (x2.drew)
   clear x1 x2 HST HMAY HSD HLA HKN c2 c3 c4 c5 f4 d0 d4 z4 hwc
   go_upto_region 6 with fail
   go_cut [] (fun wd => ∃ own2, RoomB A own2 rid wd b (R.setLine i { L with b := EH }) ∧ Upd own own2 (inRoom rid) w wd)
   case first =>
    go_region_with (first | (go_at_call 94; with_reducible refine (unhide HM2 _ (by first | exact .inl rfl | exact .inr rfl)).mono ?_; rintro e w2 ⟨rfl, hw2⟩; obtain rfl := hw2.symm) | (go_at_call 93; with_reducible refine (unhide HS2 _ (by first | exact .inl rfl | exact .inr rfl)).mono ?_; rintro e w2 ⟨rfl, hF⟩; have HF := hide hF; clear hF))
    all_goals
     go_wp2
     go_meet
     case rel => exact unhide HF
   case rest =>
    clear HM2 HS2 d6' c0' c0
    obtain ⟨own2, hR2, hU2⟩ := hcut
    have hA := unhide HA
    have hl2 := hR2.lineAt (setLine_get hL _) hA
    obtain ⟨lg2, lc2, c0x, _, _, t2', l1', _, _⟩ := hR2.heads (setLine_get hL _) hA
    have d2 : wc.cell? ⟨lb, 3, none⟩ = some (.int .i64 EH.taken) := hl2.cells.2.1
    have hEt : EH.taken ≤ 240 := by rw [(unhide HHF).2.1]; exact unhide HTK
    have hwk : IntKind.i64.wrap ((EH.taken : Int) + R.window) = (EH.taken : Int) + R.window := by rw [IntKind.wrap_i64]; omega
    have c0 : wc.cell? ⟨b, 0, none⟩ = some (.int .i64 R.window) := c0x
    clear c0x
    have HR2 : Hid (∀ W, (∃ n, W = wc.drewN n) → ∃ own2, RoomB A own2 rid W b (R.setLine i { L with b := EH }) ∧ Upd own own2 (inRoom rid) w W) := by
     apply hide
     rintro W ⟨n, rfl⟩
     exact ⟨own2, hR2.upd ((Upd.refl own2 (fun _ => False) _).drewN n) (fun _ _ h => h), hU2.drewN n⟩
    clear hR2 hU2 hl2 hA
    go_upto_region 9 with fail
    rw [hy1]
    clear hy1
    go_cut [99] (fun v99 wx => v99 = .bool (decide (EH.taken < b1.toNat ∧ b1.toNat ≤ EH.taken + R.window)) ∧ ∃ own2, RoomB A own2 rid wx b (R.setLine i { L with b := EH }) ∧ Upd own own2 (inRoom rid) w wx)
    case first =>
     by_cases k1 : EH.taken < b1.toNat
     ·have k1' : (EH.taken : Int) < (b1.toNat : Int) := by omega
      by_cases k2 : b1.toNat ≤ EH.taken + R.window
      ·have k2' : (b1.toNat : Int) ≤ (EH.taken : Int) + (R.window : Int) := by omega
       go_big_quiet (fail)
       all_goals go_wp2
       go_meet
       case rel => exact ⟨by rw [decide_eq_true ⟨k1, k2⟩], unhide HR2 _ ⟨_, rfl⟩⟩
      ·have k2' : ¬ ((b1.toNat : Int) ≤ (EH.taken : Int) + (R.window : Int)) := by omega
       go_big_quiet (fail)
       all_goals go_wp2
       go_meet
       case rel => exact ⟨by rw [decide_eq_false (fun h => k2 h.2)], unhide HR2 _ ⟨_, rfl⟩⟩
     ·have k1' : ¬ ((EH.taken : Int) < (b1.toNat : Int)) := by omega
      go_big_quiet (fail)
      all_goals go_wp2
      go_meet
      case rel => exact ⟨by rw [decide_eq_false (fun h => k1 h.1)], unhide HR2 _ ⟨_, rfl⟩⟩
    case rest =>
     obtain ⟨rfl, own3, hR3, hU3⟩ := hcut
     clear HR2 d2 c0 l1' t2'
     go_upto_if 99 with fail
     go_cut [] (fun wx => ∃ own4, RoomB A own4 rid wx b (R.setLine i { L with b := EH.keep R.window b1.toNat }) ∧ Upd own own4 (inRoom rid) w wx)
     case first =>
      by_cases hc : EH.taken < b1.toNat ∧ b1.toNat ≤ EH.taken + R.window
      ·rw [decide_eq_true hc]
       have hkeep : EH.keep R.window b1.toNat = { EH with kept := EH.kept ++ [b1.toNat] } := if_pos hc
       have hA := unhide HA
       have hl3 := hR3.lineAt (setLine_get hL _) hA
       obtain ⟨lg3, lc3, _, g3, g5, _, _, hi3, _⟩ := hR3.heads (setLine_get hL _) hA
       have hkl3 : EH.kept.length < 10000000000000 := by rw [(unhide HHF).2.2]; exact hkl
       obtain ⟨r0, r1, k0, k1, o0, o1, s0, s1, hc3, ⟨y1, y2, y3, y4⟩, ⟨a1, a2, a3, a4⟩⟩ := hl3
       obtain ⟨i1, hi0, hz0, hz1, hz2⟩ := info_parts Try.info3
       obtain ⟨ka, kc, rfl, kcl, _⟩ := a2.shape
       have h8 : wc.cell? ⟨lb, 9, none⟩ = some (.slice ka EH.kept.length kc) := by rw [hc3.cell]; rfl
       have hf8 := hc3.frozen 9
       have hlt3 := hc3.lt
       have hne : ¬ (lb = wc.heap.size) := by omega
       have hlb1 := hc3.2
       have h8' : ((wc.alloc (Obj.cells #[Value.int .i64 b1.toNat] 3)).drew).cell? ⟨lb, 9, none⟩ = some (.slice ka EH.kept.length kc) := (hc3.alloc _).drew.cell 9
       have hf8' : ((wc.alloc (Obj.cells #[Value.int .i64 b1.toNat] 3)).drew).frozen? ⟨lb, 9, none⟩ = false := (hc3.alloc _).drew.frozen 9
       have hlt' : lb < ((wc.alloc (Obj.cells #[Value.int .i64 b1.toNat] 3)).drew).heap.size := by simp; omega
       have HA2 := hide a2
       have FIN : Hid (∀ na nc w1, OwnsT (retag own3 (wc.heap.size + 1) (rid, i, 4)) (rid, i, 4) w1 3 1 (.slice na (EH.kept.length + 1) nc) (EH.kept.length + 1) (EH.kept.map I ++ [.int .i64 b1.toNat]) → Upd own3 (retag own3 (wc.heap.size + 1) (rid, i, 4)) (fun x => x = (rid, i, 4)) ((wc.alloc (Obj.cells #[Value.int .i64 b1.toNat] 3)).drew) w1 →
         ∃ own4, RoomB A own4 rid (w1.setCell ⟨lb, 9, none⟩ (.slice na (EH.kept.length + 1) nc)) b (R.setLine i { L with b := EH.keep R.window b1.toNat }) ∧ Upd own own4 (inRoom rid) w (w1.setCell ⟨lb, 9, none⟩ (.slice na (EH.kept.length + 1) nc))) := by
        apply hide
        intro na nc w1 hown1 hu1
        obtain ⟨C1, O1, U1⟩ := app_store (k := 9) hc3 hu1 (by simp) hown1
        have U2 : Upd own3 _ (inLine rid i) wc (w1.setCell ⟨lb, 9, none⟩ (.slice na (EH.kept.length + 1) nc)) := U1.mono (by rintro t (rfl | rfl) <;> exact ⟨rfl, rfl⟩)
        have X : EndAt _ rid i 1 _ _ _ _ _ { EH with kept := EH.kept ++ [b1.toNat] } := ⟨a1.upd U1 (by simp) (by simp; omega), by simpa [I] using O1, a3.upd U1 (by simp), a4.upd U1 (by simp)⟩
        have Y : EndAt _ rid i 0 _ _ _ _ _ L.a := ⟨y1.upd U1 (by simp) (by simp; omega), y2.upd U1 (by simp), y3.upd U1 (by simp), y4.upd U1 (by simp)⟩
        have LA : LineAt _ rid i (w1.setCell ⟨lb, 9, none⟩ (.slice na (EH.kept.length + 1) nc)) lb { L with b := { EH with kept := EH.kept ++ [b1.toNat] } } := ⟨r0, r1, _, _, _, _, _, _, C1, Y, X⟩
        have RB := RoomB.line hR3 (by omega) hi3 g3 g5 U2 LA
        rw [setLine_setLine, ← hkeep] at RB
        exact ⟨_, RB, hU3.trans (U2.mono (fun t h => h.1))⟩
       clear hR3 hU3 hc3 a1 a2 a3 a4 y1 y2 y3 y4 g3 g5
       go_wp2_with fail
       go_region_law ((refine step_append_T _ (by rfl) _ _ _ (by rfl) 3 i1 _ 1 8 Try.underlying53 hi0 hz0 hz1 hz2 rfl (by omega) _ _ _ own3 (rid, i, 4) (by rfl) ((unhide HA2).alloc _).drew ⟨wc.heap.size, 0, none⟩ 1 1 [.int .i64 b1.toNat] (by rfl) (by rfl) (World.news_of_block (cs := #[.int .i64 b1.toNat]) (t := 3) (fr := (0, 0)) (heap_alloc_new wc _)) (by simp [Value.oneCell']) (by simp [maxLen]; omega) (by omega) (wc.heap.size + 1) (by simp) ?_; intro na nc w1 hown1 hu1; have k0 := hu1.cell h8' (by simp [hlb1]); have e0 := hu1.frozen hlt' (by simp [hlb1]) hf8'; have HF := hide (unhide FIN _ _ _ hown1 hu1); clear h8 hf8 h8' hf8' hlt' hown1 hu1))
       all_goals
        go_wp2
        go_meet
        case rel => exact unhide HF
      ·rw [decide_eq_false hc]
       have hkeep : EH.keep R.window b1.toNat = EH := if_neg hc
       have HF : Hid (∃ own4, RoomB A own4 rid wc b (R.setLine i { L with b := EH.keep R.window b1.toNat }) ∧ Upd own own4 (inRoom rid) w wc) := hide ⟨own3, by rw [hkeep]; exact hR3, hU3⟩
       clear hR3 hU3
       go_wp2
       go_meet
       case rel => exact unhide HF
     case rest =>
      obtain ⟨own4, hR4, hU4⟩ := hcut
      have START : Hid (∃ own' R', J R' ∧ RoomB A own' rid wc b R' ∧ Upd own own' (inRoom rid) w wc) := hide ⟨own4, _, unhide HJ0, hR4, hU4⟩
      clear hR4 hU4 hR3 hU3 hEt hwk hb0 hb1 HJ0
      go_wp2_with fail
      go_loopw [] (fun wr => ∃ own' R', J R' ∧ RoomB A own' rid wr b R' ∧ Upd own own' (inRoom rid) w wr) (fun wr => 300 - numOf (wr.cell? ⟨lb, 3, none⟩))
      case atStart => exact unhide START
      case round =>
       obtain ⟨own5, R5, hJ5, hR5, hU5⟩ := hrel
       clear START
       rename World => wo
       obtain ⟨t5, L5, ht5, hL5, hok5, hk5, htake⟩ := unhide HJ R5 hJ5
       have hA := unhide HA
       have HMS : Hid (numOf (wo.cell? ⟨lb, 3, none⟩) = L5.b.taken) := hide (numOf_nat (hR5.lineAt hL5 hA).cells.2.1)
       have HTAKE := hide htake
       have HJ5 := hide hJ5
       have HOK5 := hide hok5
       have htk5 := hok5.taken
       have hwt : IntKind.i64.wrap ((L5.b.taken : Int) + 1) = (L5.b.taken : Int) + 1 := by rw [IntKind.wrap_i64]; omega
       have ST5 : Hid (∃ own6, RoomB A own6 rid wo b R5 ∧ Upd own own6 (inRoom rid) w wo) := hide ⟨own5, hR5, hU5⟩
       clear htake hJ5 hok5 hR5 hU5 hA
       go_wp2_with fail
       go_loopw [11, 12] (fun v11 v12 wq => ∃ j : Nat, j ≤ L5.b.kept.length ∧ v12 = .int .i64 j ∧ v11 = .bool (decide (L5.b.taken + 1 ∈ L5.b.kept.take j)) ∧ ∃ own6, RoomB A own6 rid wq b R5 ∧ Upd own own6 (inRoom rid) w wq) (fun _ v12 _ => L5.b.kept.length - (intOf v12).toNat)
       case atStart => exact ⟨0, by omega, rfl, by simp, unhide ST5⟩
       case round =>
        obtain ⟨j, hj, rfl, rfl, own6, hR6, hU6⟩ := hrel
        rename World => wq
        have hA := unhide HA
        have hl6 := hR6.lineAt hL5 hA
        obtain ⟨ka, kc, e8, hkc⟩ := hl6.kept1
        have e2 : wq.cell? ⟨lb, 3, none⟩ = some (.int .i64 L5.b.taken) := hl6.cells.2.1
        by_cases hjl : j < L5.b.kept.length
        ·have hjl' : (j : Int) < (L5.b.kept.length : Int) := by omega
         have hj0 : (0 : Int) ≤ (j : Int) := by omega
         obtain ⟨kg, rfl, hcells⟩ := hkc (by omega)
         obtain ⟨n, hn⟩ : ∃ n, L5.b.kept[j]? = some n := ⟨_, List.getElem?_eq_getElem hjl⟩
         have hcj := hcells j n hn
         have HNX : Hid (∀ q, ∃ own6, RoomB A own6 rid (wq.drewN q) b R5 ∧ Upd own own6 (inRoom rid) w (wq.drewN q)) := hide fun q => ⟨own6, hR6.upd ((Upd.refl own6 (fun _ => False) _).drewN q) (fun _ _ h => h), hU6.drewN q⟩
         have HMT := hide (mem_take_succ (x := L5.b.taken + 1) hn)
         clear hR6 hU6 hl6 hkc hcells hn hA
         by_cases hin : L5.b.taken + 1 ∈ L5.b.kept.take j
         ·rw [decide_eq_true hin]
          go_wp2_with fail
          go_big_quiet (fail)
          go_wp2
          go_roundw
          case rel => exact ⟨j + 1, by omega, by go_num, by rw [decide_eq_true ((unhide HMT).2 (.inl hin))], unhide HNX _⟩
          case measure => simp [intOf]; omega
         ·rw [decide_eq_false hin]
          by_cases hnn : n = L5.b.taken + 1
          ·have hb : ((n : Int) == (L5.b.taken : Int) + 1) = true := by rw [beq_iff_eq]; omega
           go_wp2_with fail
           go_big_quiet (fail)
           go_wp2
           go_roundw
           case rel => exact ⟨j + 1, by omega, by go_num, by rw [decide_eq_true ((unhide HMT).2 (.inr hnn.symm))], unhide HNX _⟩
           case measure => simp [intOf]; omega
          ·have hb : ((n : Int) == (L5.b.taken : Int) + 1) = false := by rw [beq_eq_false_iff_ne]; omega
           go_wp2_with fail
           go_big_quiet (fail)
           go_wp2
           go_roundw
           case rel => exact ⟨j + 1, by omega, by go_num, by rw [decide_eq_false (fun h => ((unhide HMT).1 h).elim hin (fun h => hnn h.symm))], unhide HNX _⟩
           case measure => simp [intOf]; omega
        ·obtain rfl : j = L5.b.kept.length := by omega
         have hjl' : ¬ (L5.b.kept.length : Int) < (L5.b.kept.length : Int) := by omega
         rw [List.take_length]
         by_cases hin : L5.b.taken + 1 ∈ L5.b.kept
         ·rw [decide_eq_true hin]
          have HT6 : Hid (Calls Try.prog 95 #[.pointer (some ⟨b, 0, none⟩), .int .i64 i, .int .i64 1] wq fun r w' => r = .returned (.tuple #[]) ∧ (∃ own' R', J R' ∧ RoomB A own' rid w' b R' ∧ Upd own own' (inRoom rid) w w') ∧ numOf (w'.cell? ⟨lb, 3, none⟩) = L5.b.taken + 1) := by
           apply hide
           refine (unhide HTAKE hin own6 wq hR6).mono ?_
           rintro r w7 ⟨rfl, own7, R7, L7, hJ7, hL7, htk7, hR7, hU7⟩
           exact ⟨rfl, ⟨own7, R7, hJ7, hR7, hU6.trans hU7⟩, by rw [numOf_nat (hR7.lineAt hL7 hA).cells.2.1, htk7]⟩
          clear hR6 hU6 hl6 hkc hA HTAKE
          go_wp2_with fail
          refine (unhide HT6).mono ?_
          rintro r w7 ⟨rfl, hF, hM⟩
          have HF := hide hF
          have HM := hide hM
          clear hF hM HT6
          go_wp2
          go_roundw
          case rel => exact unhide HF
          case measure =>
           rw [unhide HM, unhide HMS]
           omega
         ·rw [decide_eq_false hin]
          obtain ⟨lg6, lc6, _, g3, g5, _, _, hi6, hn6⟩ := hR6.heads hL5 hA
          have HW6 : Hid (Calls Try.prog 96 #[.pointer (some ⟨lb, 0, none⟩), .int .i64 1] wq fun r w' => r = .returned (.tuple #[]) ∧ ∃ own' R' L', J R' ∧ R'.lines[i]? = some L' ∧ L'.b.taken + 1 ∉ L'.b.kept ∧ RoomB A own' rid w' b (R'.setLine i { L' with b := L'.b.word }) ∧ Upd own own' (inRoom rid) w w') := by
           apply hide
           refine (word_1 own6 rid i lb L5 wq hl6 (unhide HOK5)).mono ?_
           rintro r w7 ⟨rfl, own7, x1, x2⟩
           exact ⟨rfl, own7, R5, L5, unhide HJ5, hL5, hin, RoomB.line hR6 (by omega) hi6 g3 g5 x2 x1, hU6.trans (x2.mono (fun t h => h.1))⟩
          clear hR6 hU6 hl6 hkc hA HTAKE g3 g5
          go_wp2_with fail
          refine (unhide HW6).mono ?_
          rintro r w7 ⟨rfl, hF⟩
          have HF := hide hF
          clear hF HW6
          go_wp2
          go_end0
          exact ⟨rfl, unhide HF⟩
end Go.Proofs.Ytemkgikncmhoaaa

