import Derived.Test.YtemkgikncmhoaaaM02
import Derived.Test.YtemkgikncmhoaaaM33
import Derived.Test.YtemkgikncmhoaaaM35
import Derived.Test.YtemkgikncmhoaaaM37
import Derived.Test.YtemkgikncmhoaaaM38
import Derived.Test.YtemkgikncmhoaaaM39
namespace Go.Proofs.Ytemkgikncmhoaaa
open Go.RowKit

theorem msg_form (m : IMsg) (tk : Nat) (h : Bytes (m.bytes tk)) : ∃ b1 b2 b3 b4 b5 b6 b7 b8 b9, ckd (m.bytes tk) = ⟨#[byteOf 1, b1, b2, b3, b4, b5, b6, b7, b8, b9]⟩ ∧ b1.toNat = m.number ∧ b3.toNat = tk ∧ spoil (ckd (m.bytes tk)) = ⟨#[255 - byteOf 1, b1, b2, b3, b4, b5, b6, b7, b8, b9]⟩ := by
 obtain ⟨c0, hc0⟩ : ∃ c, c = byteOf (sumTo (m.bytes tk) 8 % 251) := ⟨_, rfl⟩
 obtain ⟨c1, hc1⟩ : ∃ c, c = byteOf (wsumTo (m.bytes tk) 8 % 251) := ⟨_, rfl⟩
 have hd : ckd (m.bytes tk) = ⟨#[byteOf 1, byteOf m.number, byteOf m.ctx, byteOf tk, byteOf m.op.client, byteOf m.op.verb, byteOf m.op.place, byteOf m.op.letter, c0, c1]⟩ := by rw [hc0, hc1]; rfl
 have x1 : ((byteOf m.number).toNat : Int) = m.number := bytes_int h (k := 1) rfl
 have x3 : ((byteOf tk).toNat : Int) = tk := bytes_int h (k := 3) rfl
 exact ⟨_, _, _, _, _, _, _, _, _, hd, by omega, by omega, by rw [hd]; rfl⟩
theorem word_form (tk : Nat) (h : tk ≤ 255) : ∃ b1 b2 b3, ckd [2, (tk : Int)] = ⟨#[byteOf 2, b1, b2, b3]⟩ ∧ b1.toNat = tk ∧ spoil (ckd [2, (tk : Int)]) = ⟨#[255 - byteOf 2, b1, b2, b3]⟩ := by
 obtain ⟨c0, hc0⟩ : ∃ c, c = byteOf (sumTo [2, (tk : Int)] 2 % 251) := ⟨_, rfl⟩
 obtain ⟨c1, hc1⟩ : ∃ c, c = byteOf (wsumTo [2, (tk : Int)] 2 % 251) := ⟨_, rfl⟩
 have hd : ckd [2, (tk : Int)] = ⟨#[byteOf 2, byteOf tk, c0, c1]⟩ := by rw [hc0, hc1]; rfl
 have x1 : ((byteOf tk).toNat : Int) = tk := by simp [byteOf]; omega
 exact ⟨_, _, _, hd, by omega, by rw [hd]; rfl⟩
section
variable {K i : Nat} {us ds : Nat → List GMsg} {T : Nat → Nat → Nat → List UInt8} {X : IRoom} {R : RRoom} {L : RLine}
theorem comesA {A : List Nat} {rid b : Nat} (hrid : rid ≠ 0) (h : SimAt K us ds T X R i L) (hs : RSim K us ds X R) (hr : RInv X us ds T) (hi : i < X.texts.length) (_hsn : Sane X.window (X.e i) (X.s i)) (hK : K < 10000000000000) {d : ByteArray} (hd : Dgm (ds i) (X.s i).taken d) :
  ∀ own1 w1, RoomB A own1 rid w1 b R → Calls Try.prog 79 #[.pointer (some ⟨b, 0, none⟩), .int .i64 i, .int .i64 0, .string d] w1 fun r w' => r = .returned (.tuple #[]) ∧ ∃ own' R', (∃ us' ds' T', RInv (X.comeA i d) us' ds' T' ∧ RSim (K + 1) us' ds' (X.comeA i d) R') ∧ RoomB A own' rid w' b R' ∧ Upd own1 own' (inRoom rid) w1 w' := by
 intro own1 w1 hR
 have ht240 := h.taken255
 obtain ⟨g1, g2, g3⟩ := hr.at' hi
 rcases hd with ⟨n, tk, h1, h2, h3⟩ | ⟨tk, h3⟩
 ·have hby := h.bd n tk h1 h2 (by omega)
  unfold IRoom.comeA
  rw [readD_msg _ _ hby]
  obtain ⟨b1, b2, b3, b4, b5, b6, b7, b8, b9, hd, e1, e3, _⟩ := msg_form _ _ hby
  rw [hd]
  have e1' : b1.toNat = n := e1
  obtain ⟨k1, k2⟩ := h.keepA hs hr hi h3 h1 h2
  let X0 : IRoom := X.setA i (X.tx i) (((X.e i).learn X.window tk).keep X.window (imsg (ds i) n))
  have he0 : X0.e i = ((X.e i).learn X.window tk).keep X.window (imsg (ds i) n) := by
   show (X.setA i (X.tx i) _).e i = _
   rw [e_setA (by rw [hr.le]; exact hi), if_pos rfl]
  have hn0 : X0.texts.length = X.texts.length := by simp [X0, IRoom.setA]
  let XF : IRoom := X0.takesA i (((X.e i).learn X.window tk).keep X.window (imsg (ds i) n)).kept.length
  have key := rcomes10_0 A own1 rid b R i (X.tx i) L (byteOf 1) b1 b2 b3 b4 b5 b6 b7 b8 b9 w1 hR h.ht h.hL (by decide) (by omega) (by rw [hs.win]; exact hr.w4) h.oka (EndR.may0 h hs.win _) (by have := h.a.1.keptK; omega)
   (JA (K + 1) X.texts.length X.window i XF) (by
    rw [e1', e3]
    exact ⟨X0, us, ds, T, _, k1, k2, hn0, rfl, by rw [he0]; exact Nat.le_refl _, rfl⟩) (fun R' hJ => JA.step hrid hi (by omega) hJ)
  refine key.mono ?_
  rintro r w' ⟨rfl, own', R', L', hJ, hL', hnk, hR', hU⟩
  refine ⟨rfl, own', _, ?_, hR', hU⟩
  obtain ⟨X', us', ds', T', f, hr', hs', hn', hw', hf', hX'⟩ := hJ
  have hi' : i < X'.texts.length := by omega
  obtain ⟨L2, hL2⟩ := hs'.at_ hr' hi'
  obtain rfl : L' = L2 := by have := hL2.hL; rw [hL'] at this; simpa using this
  have hnone : (X'.e i).nextKept = none := by
   by_cases hq : (X'.e i).nextKept = none
   ·exact hq
   ·exact absurd (hL2.a.next.2 hq) hnk
  obtain ⟨p1, p2, p3⟩ := hr'.at' hi'
  rw [IRoom.takesA_none p1 p2 hnone] at hX'
  have ht2 := hL2.taken255
  have harr : X.arriveA i tk (some (imsg (ds i) n)) = X'.setA i (X'.tx i) (X'.e i).word := by
   have : X.arriveA i tk (some (imsg (ds i) n)) = XF.wordA i := by
    unfold IRoom.arriveA
    rw [g1, g2]
    rfl
   rw [this, ← hX', IRoom.wordA_eq X' hi' hr']
  show ∃ us' ds' T', RInv (X.arriveA i tk (some (imsg (ds i) n))) us' ds' T' ∧ RSim (K + 1) us' ds' (X.arriveA i tk (some (imsg (ds i) n))) _
  rw [harr]
  refine ⟨us', ds', T', hr'.wordedA hi', ?_⟩
  have := hs'.setE (t' := X'.tx i) hr'.le hi' (Nat.le_refl _) (hL2.a.word (by omega)) hL2.b
  rw [put_setLine hL2.ht] at this
  exact this
 ·unfold IRoom.comeA
  rw [readD_word tk (by omega)]
  obtain ⟨b1, b2, b3, hd, e1, _⟩ := word_form tk (by omega)
  rw [hd]
  refine (rcomes4_0 A own1 rid b R i (X.tx i) L (byteOf 2) b1 b2 b3 w1 hR h.ht h.hL (by decide) (by omega) (by rw [hs.win]; exact hr.w4) h.oka (EndR.may0 h hs.win _)).mono ?_
  rintro r w' ⟨rfl, own', hR', hU⟩
  rw [e1] at hR'
  obtain ⟨k1, k2⟩ := h.hearA hs hr hi h3
  have harr : X.arriveA i tk none = X.setA i (X.tx i) ((X.e i).learn X.window tk) := by
   unfold IRoom.arriveA
   rw [g1, g2]
   rfl
  refine ⟨rfl, own', _, ?_, hR', hU⟩
  show ∃ us' ds' T', RInv (X.arriveA i tk none) us' ds' T' ∧ RSim (K + 1) us' ds' (X.arriveA i tk none) _
  rw [harr]
  exact ⟨us, ds, T, k1, k2.mono (Nat.le_succ _)⟩
theorem comesB {A : List Nat} {rid b : Nat} (hrid : rid ≠ 0) (h : SimAt K us ds T X R i L) (hs : RSim K us ds X R) (hr : RInv X us ds T) (hi : i < X.texts.length) (hsn : Sane X.window (X.e i) (X.s i)) (hK : K < 10000000000000) {d : ByteArray} (hd : Dgm (us i) (X.e i).taken d) :
  ∀ own1 w1, RoomB A own1 rid w1 b R → Calls Try.prog 79 #[.pointer (some ⟨b, 0, none⟩), .int .i64 i, .int .i64 1, .string d] w1 fun r w' => r = .returned (.tuple #[]) ∧ ∃ own' R', (∃ us' ds' T', RInv (X.comeB i d) us' ds' T' ∧ RSim (K + 1) us' ds' (X.comeB i d) R') ∧ RoomB A own' rid w' b R' ∧ Upd own1 own' (inRoom rid) w1 w' := by
 intro own1 w1 hR
 have ht240 := h.taken255
 obtain ⟨g1, g2, g3⟩ := hr.at' hi
 rcases hd with ⟨n, tk, h1, h2, h3⟩ | ⟨tk, h3⟩
 ·have hby := h.bu n tk h1 h2 (by omega)
  unfold IRoom.comeB
  rw [readD_msg _ _ hby]
  obtain ⟨b1, b2, b3, b4, b5, b6, b7, b8, b9, hd, e1, e3, _⟩ := msg_form _ _ hby
  rw [hd]
  have e1' : b1.toNat = n := e1
  obtain ⟨k1, k2⟩ := h.keepB hs hr hi hsn h3 h1 h2
  let X0 : IRoom := X.setB i (((X.s i).learn X.window tk).keep X.window (imsg (us i) n))
  have he0 : X0.s i = ((X.s i).learn X.window tk).keep X.window (imsg (us i) n) := by
   show (X.setB i _).s i = _
   rw [s_setB (by rw [hr.ls]; exact hi), if_pos rfl]
  have hn0 : X0.texts.length = X.texts.length := by simp [X0, IRoom.setB]
  let XF : IRoom := X0.takesB i (((X.s i).learn X.window tk).keep X.window (imsg (us i) n)).kept.length
  have key := rcomes10_1 A own1 rid b R i (X.tx i) L (byteOf 1) b1 b2 b3 b4 b5 b6 b7 b8 b9 w1 hR h.ht h.hL (by decide) (by omega) (by rw [hs.win]; exact hr.w4) h.okb (EndR.may1 h hs.win _) (by have := h.b.1.keptK; omega)
   (JB (K + 1) X.texts.length X.window i XF) (by
    rw [e1', e3]
    exact ⟨X0, us, ds, T, _, k1, k2, hn0, rfl, by rw [he0]; exact Nat.le_refl _, rfl⟩) (fun R' hJ => JB.step hrid hi (by omega) hJ)
  refine key.mono ?_
  rintro r w' ⟨rfl, own', R', L', hJ, hL', hnk, hR', hU⟩
  refine ⟨rfl, own', _, ?_, hR', hU⟩
  obtain ⟨X', us', ds', T', f, hr', hs', hn', hw', hf', hX'⟩ := hJ
  have hi' : i < X'.texts.length := by omega
  obtain ⟨L2, hL2⟩ := hs'.at_ hr' hi'
  obtain rfl : L' = L2 := by have := hL2.hL; rw [hL'] at this; simpa using this
  have hnone : (X'.s i).nextKept = none := by
   by_cases hq : (X'.s i).nextKept = none
   ·exact hq
   ·exact absurd (hL2.b.next.2 hq) hnk
  obtain ⟨p1, p2, p3⟩ := hr'.at' hi'
  rw [IRoom.takesB_none p3 hnone] at hX'
  have ht2 := hL2.taken255
  have harr : X.arriveB i tk (some (imsg (us i) n)) = X'.setB i (X'.s i).word := by
   have : X.arriveB i tk (some (imsg (us i) n)) = XF.wordB i := by
    unfold IRoom.arriveB
    rw [g3]
    rfl
   rw [this, ← hX', IRoom.wordB_eq X' hi' hr']
  show ∃ us' ds' T', RInv (X.arriveB i tk (some (imsg (us i) n))) us' ds' T' ∧ RSim (K + 1) us' ds' (X.arriveB i tk (some (imsg (us i) n))) _
  rw [harr]
  refine ⟨us', ds', T', hr'.wordedB hi', ?_⟩
  have := hs'.setB hr'.ls hi' (Nat.le_refl _) hL2.a (hL2.b.word (by omega))
  skip
  exact this
 ·unfold IRoom.comeB
  rw [readD_word tk (by omega)]
  obtain ⟨b1, b2, b3, hd, e1, _⟩ := word_form tk (by omega)
  rw [hd]
  refine (rcomes4_1 A own1 rid b R i (X.tx i) L (byteOf 2) b1 b2 b3 w1 hR h.ht h.hL (by decide) (by omega) (by rw [hs.win]; exact hr.w4) h.okb (EndR.may1 h hs.win _)).mono ?_
  rintro r w' ⟨rfl, own', hR', hU⟩
  rw [e1] at hR'
  obtain ⟨k1, k2⟩ := h.hearB hs hr hi hsn h3
  have harr : X.arriveB i tk none = X.setB i ((X.s i).learn X.window tk) := by
   unfold IRoom.arriveB
   rw [g3]
   rfl
  refine ⟨rfl, own', _, ?_, hR', hU⟩
  show ∃ us' ds' T', RInv (X.arriveB i tk none) us' ds' T' ∧ RSim (K + 1) us' ds' (X.arriveB i tk none) _
  rw [harr]
  exact ⟨us, ds, T, k1, k2.mono (Nat.le_succ _)⟩
end
end Go.Proofs.Ytemkgikncmhoaaa

namespace Go.Proofs.Ytemkgikncmhoaaa
open Go.RowKit
attribute [local go_sem ↓] Go.wp_at_zero Go.wp_at_succ

theorem spoil_byte (b0 : UInt8) : byteOf (255 - (b0.toNat : Int)) = 255 - b0 := by
 unfold byteOf
 apply UInt8.toNat.inj
 have := b0.toNat_lt
 rw [UInt8.toNat_ofNat', UInt8.toNat_sub]
 simp
 omega
/-- A line of which one is spoilt. -/
theorem RoomB.spoil0 {A : List Nat} {own : Nat → Tag} {rid b : Nat} {w : World} {R : RRoom} (h : RoomB A own rid w b R) {i lb : Nat} {L : RLine} (hL : R.lines[i]? = some L) (hA : A[i]? = some lb) {n og oc sg sc : Nat} {d : ByteArray}
  (d10 : w.cell? ⟨lb, 10, none⟩ = some (.slice (some ⟨og, 0, none⟩) L.a.out.length oc)) (d12 : w.cell? ⟨lb, 12, none⟩ = some (.slice (some ⟨sg, 0, none⟩) L.a.spoilt.length sc)) :
  RoomB A own rid ((w.setCell ⟨og, n, none⟩ (.string d)).setCell ⟨sg, n, none⟩ (.bool true)) b (R.setLine i { L with a := L.a.spoil n d }) ∧ Upd own own (inRoom rid) w ((w.setCell ⟨og, n, none⟩ (.string d)).setCell ⟨sg, n, none⟩ (.bool true)) := by
 obtain ⟨lg, lc, _, c3, c5, _, _, hi, hn4⟩ := h.heads hL hA
 obtain ⟨r0, r1, k0, k1, o0, o1, s0, s1, hc, ⟨a1, a2, a3, a4⟩, ⟨b1, b2, b3, b4⟩⟩ := h.lineAt hL hA
 have e1 : o0 = .slice (some ⟨og, 0, none⟩) L.a.out.length oc := by
  have := hc.cell 10; rw [d10] at this; simpa using this.symm
 have e2 : s0 = .slice (some ⟨sg, 0, none⟩) L.a.spoilt.length sc := by
  have := hc.cell 12; rw [d12] at this; simpa using this.symm
 subst e1 e2
 have tg : own og = (rid, i, 5) := a3.2 og rfl
 have ts : own sg = (rid, i, 7) := a4.2 sg rfl
 have U1 : Upd own own (fun t => t = (rid, i, 5)) w (w.setCell ⟨og, n, none⟩ (.string d)) := Upd.setCell (p := ⟨og, n, none⟩) (Upd.refl own _ w) tg _
 have U2 : Upd own own (fun t => t = (rid, i, 7)) (w.setCell ⟨og, n, none⟩ (.string d)) ((w.setCell ⟨og, n, none⟩ (.string d)).setCell ⟨sg, n, none⟩ (.bool true)) := Upd.setCell (p := ⟨sg, n, none⟩) (Upd.refl own _ _) ts _
 have U : Upd own own (fun t => t = (rid, i, 5) ∨ t = (rid, i, 7)) w ((w.setCell ⟨og, n, none⟩ (.string d)).setCell ⟨sg, n, none⟩ (.bool true)) := (U1.mono (fun t h => .inl h)).trans (U2.mono (fun t h => .inr h))
 have V : Upd own own (inLine rid i) w ((w.setCell ⟨og, n, none⟩ (.string d)).setCell ⟨sg, n, none⟩ (.bool true)) := U.mono (by rintro t (rfl | rfl) <;> exact ⟨rfl, rfl⟩)
 have O1 := (a3.set (i := n) (.string d)).upd U2 (by simp)
 have O2 := (a4.upd U1 (by simp)).set (i := n) (.bool true)
 have X : EndAt own rid i 0 ((w.setCell ⟨og, n, none⟩ (.string d)).setCell ⟨sg, n, none⟩ (.bool true)) _ _ _ _ (L.a.spoil n d) := ⟨a1.upd U (by simp) (by simp; omega), a2.upd U (by simp), by simpa [REnd.spoil, List.map_set] using O1, by simpa [REnd.spoil, List.map_set] using O2⟩
 have Y : EndAt own rid i 1 ((w.setCell ⟨og, n, none⟩ (.string d)).setCell ⟨sg, n, none⟩ (.bool true)) _ _ _ _ L.b := ⟨b1.upd U (by simp) (by simp; omega), b2.upd U (by simp), b3.upd U (by simp), b4.upd U (by simp)⟩
 exact ⟨RoomB.line h (by omega) hi c3 c5 V ⟨r0, r1, _, _, _, _, _, _, hc.upd U (by simp), X, Y⟩, V.mono (fun t h => h.1)⟩
/-- A line of which one is spoilt. -/
theorem RoomB.spoil1 {A : List Nat} {own : Nat → Tag} {rid b : Nat} {w : World} {R : RRoom} (h : RoomB A own rid w b R) {i lb : Nat} {L : RLine} (hL : R.lines[i]? = some L) (hA : A[i]? = some lb) {n og oc sg sc : Nat} {d : ByteArray}
  (d10 : w.cell? ⟨lb, 11, none⟩ = some (.slice (some ⟨og, 0, none⟩) L.b.out.length oc)) (d12 : w.cell? ⟨lb, 13, none⟩ = some (.slice (some ⟨sg, 0, none⟩) L.b.spoilt.length sc)) :
  RoomB A own rid ((w.setCell ⟨og, n, none⟩ (.string d)).setCell ⟨sg, n, none⟩ (.bool true)) b (R.setLine i { L with b := L.b.spoil n d }) ∧ Upd own own (inRoom rid) w ((w.setCell ⟨og, n, none⟩ (.string d)).setCell ⟨sg, n, none⟩ (.bool true)) := by
 obtain ⟨lg, lc, _, c3, c5, _, _, hi, hn4⟩ := h.heads hL hA
 obtain ⟨r0, r1, k0, k1, o0, o1, s0, s1, hc, ⟨b1, b2, b3, b4⟩, ⟨a1, a2, a3, a4⟩⟩ := h.lineAt hL hA
 have e1 : o1 = .slice (some ⟨og, 0, none⟩) L.b.out.length oc := by
  have := hc.cell 11; rw [d10] at this; simpa using this.symm
 have e2 : s1 = .slice (some ⟨sg, 0, none⟩) L.b.spoilt.length sc := by
  have := hc.cell 13; rw [d12] at this; simpa using this.symm
 subst e1 e2
 have tg : own og = (rid, i, 6) := a3.2 og rfl
 have ts : own sg = (rid, i, 8) := a4.2 sg rfl
 have U1 : Upd own own (fun t => t = (rid, i, 6)) w (w.setCell ⟨og, n, none⟩ (.string d)) := Upd.setCell (p := ⟨og, n, none⟩) (Upd.refl own _ w) tg _
 have U2 : Upd own own (fun t => t = (rid, i, 8)) (w.setCell ⟨og, n, none⟩ (.string d)) ((w.setCell ⟨og, n, none⟩ (.string d)).setCell ⟨sg, n, none⟩ (.bool true)) := Upd.setCell (p := ⟨sg, n, none⟩) (Upd.refl own _ _) ts _
 have U : Upd own own (fun t => t = (rid, i, 6) ∨ t = (rid, i, 8)) w ((w.setCell ⟨og, n, none⟩ (.string d)).setCell ⟨sg, n, none⟩ (.bool true)) := (U1.mono (fun t h => .inl h)).trans (U2.mono (fun t h => .inr h))
 have V : Upd own own (inLine rid i) w ((w.setCell ⟨og, n, none⟩ (.string d)).setCell ⟨sg, n, none⟩ (.bool true)) := U.mono (by rintro t (rfl | rfl) <;> exact ⟨rfl, rfl⟩)
 have O1 := (a3.set (i := n) (.string d)).upd U2 (by simp)
 have O2 := (a4.upd U1 (by simp)).set (i := n) (.bool true)
 have X : EndAt own rid i 1 ((w.setCell ⟨og, n, none⟩ (.string d)).setCell ⟨sg, n, none⟩ (.bool true)) _ _ _ _ (L.b.spoil n d) := ⟨a1.upd U (by simp) (by simp; omega), a2.upd U (by simp), by simpa [REnd.spoil, List.map_set] using O1, by simpa [REnd.spoil, List.map_set] using O2⟩
 have Y : EndAt own rid i 0 ((w.setCell ⟨og, n, none⟩ (.string d)).setCell ⟨sg, n, none⟩ (.bool true)) _ _ _ _ L.a := ⟨b1.upd U (by simp) (by simp; omega), b2.upd U (by simp), b3.upd U (by simp), b4.upd U (by simp)⟩
 exact ⟨RoomB.line h (by omega) hi c3 c5 V ⟨r0, r1, _, _, _, _, _, _, hc.upd U (by simp), Y, X⟩, V.mono (fun t h => h.1)⟩
set_option maxRecDepth 100000 in
set_option maxHeartbeats 1600000 in
theorem rFate_spoil4_0 (A : List Nat) (own : Nat → Tag) (rid b : Nat) (R : RRoom) (i n : Nat) (b0 b1 b2 b3 : UInt8) (t : List UInt8) (L : RLine) (w : World) (h : RoomB A own rid w b R) (ht : R.texts[i]? = some t) (hL : R.lines[i]? = some L) (hq : L.a.out[n]? = some ⟨#[b0, b1, b2, b3]⟩) (hm : L.a.spoilt[n]? = some false) :
  Calls Try.prog 59 #[.pointer (some ⟨b, 0, none⟩), .int .i64 i, .bool false, .int .i64 n, .int .i64 3] w fun e w' => e = .returned (.int .i64 0) ∧ ∃ own', RoomB A own' rid w' b (R.setLine i { L with a := L.a.spoil n ⟨#[255 - b0, b1, b2, b3]⟩ }) ∧ Upd own own' (inRoom rid) w w' := by
 have HT := hide (rpeek_0_yes own rid b R i n _ t L w h.room ht hL hq)
 have HE : Hid (∀ w, Calls Try.prog 66 #[.bool false] w fun e w' => e = .returned (.int .i64 0) ∧ w' = w) := hide (fun w => end_any false w)
 obtain ⟨lb, hA⟩ := h.where hL
 have hi : i < R.texts.length := by have := (List.getElem?_eq_some_iff.1 hL).1; have := h.lens.2; omega
 have hi1 : (i : Int) < (R.texts.length : Int) := by omega
 have hi2 : (0 : Int) ≤ (i : Int) := by omega
 have hn2 : (0 : Int) ≤ (n : Int) := by omega
 have hno := (List.getElem?_eq_some_iff.1 hq).1
 have hns := (List.getElem?_eq_some_iff.1 hm).1
 have hn3 : (n : Int) < (L.a.spoilt.length : Int) := by omega
 have hn4 : (n : Int) < (L.a.out.length : Int) := by omega
 have HX : Hid (∀ w1, Below w.heap.size w w1 → RoomB A own rid w1 b R ∧ _) := hide fun w1 hb => ⟨h.upd (Upd.of_below own (fun _ => False) hb) (fun _ _ h => h), (h.upd (Upd.of_below own (fun _ => False) hb) (fun _ _ h => h)).fate0 hL hA hq hm⟩
 have hb9 : 0 ≤ (b0.toNat : Int) ∧ (b0.toNat : Int) ≤ 255 := by have := b0.toNat_lt; omega
 have hx0 : ((({ data := #[b0, b1, b2, b3] } : ByteArray)[0]'(by simp [ByteArray.size])).toNat : Int) = (b0.toNat : Int) := rfl
 clear h
 go_enter Try.func59, Try.ntmps59
 go_wp2_with fail
 refine (unhide HT).mono ?_
 rintro e w1 ⟨rfl, hb⟩
 obtain ⟨hR1, lg, lc, og, oc, sg, sc, c3, c5, d10, d12, d1, d2⟩ := unhide HX w1 hb
 obtain ⟨f1, f2, g1, g2, g3, q1, q2⟩ : w1.frozen? ⟨og, n, none⟩ = false ∧ w1.frozen? ⟨sg, n, none⟩ = false ∧ og < w1.heap.size ∧ sg < w1.heap.size ∧ lb < w1.heap.size ∧ ¬ (lb = og) ∧ ¬ (sg = og) := by
  obtain ⟨r0, r1, k0, k1, o0, o1, s0, s1, hc, ⟨_, _, x0, y0⟩, ⟨_, _, x1, y1⟩⟩ := hR1.lineAt hL hA
  have e1 : o0 = .slice (some ⟨og, 0, none⟩) L.a.out.length oc := by
   have := hc.cell 10; rw [d10] at this; simpa using this.symm
  have e2 : s0 = .slice (some ⟨sg, 0, none⟩) L.a.spoilt.length sc := by
   have := hc.cell 12; rw [d12] at this; simpa using this.symm
  subst e1 e2
  obtain ⟨og', oc', q1, _, _, _, q2, v1, q3⟩ := x0.get (i := n) (u := .string ⟨#[b0, b1, b2, b3]⟩) (by simp [hq])
  obtain ⟨sg', sc', q4, _, _, _, q5, v2, q6⟩ := y0.get (i := n) (u := .bool false) (by simp [hm])
  simp only [Value.slice.injEq, Option.some.injEq, Addr.mk.injEq, and_true] at q1 q4
  obtain ⟨rfl, _, _⟩ := q1
  obtain ⟨rfl, _, _⟩ := q4
  exact ⟨q2, q5, q3, q6, hc.lt, fun h => (by have := hc.2; rw [h, v1] at this; simp at this), fun h => (by rw [h, v1] at v2; simp at v2)⟩
 have FIN : Hid (∀ d ob, ∃ own', RoomB A own' rid ((((w1.setCell ⟨og, n, none⟩ (.string d)).setCell ⟨sg, n, none⟩ (.bool true)).alloc ob).drew) b (R.setLine i { L with a := L.a.spoil n d }) ∧ Upd own own' (inRoom rid) w ((((w1.setCell ⟨og, n, none⟩ (.string d)).setCell ⟨sg, n, none⟩ (.bool true)).alloc ob).drew)) := by
  apply hide
  intro d ob
  obtain ⟨z1, z2⟩ := hR1.spoil0 hL hA (n := n) (d := d) d10 d12
  exact ⟨own, z1.upd (((Upd.refl own (fun _ => False) _).alloc ob).drew) (fun _ _ h => h), (((Upd.of_below own _ hb).trans z2).alloc ob).drew⟩
 have hcv := run_string_at (w1.alloc (Obj.cells #[Value.int IntKind.u8 (255 - (b0.toNat : Int))] 5)).drew 9 Try.underlying9 ⟨w1.heap.size, 0, none⟩ 1 1 [255 - (b0.toNat : Int)] rfl (by
  intro j u hu
  rw [Addr.add_lit, Nat.zero_add]
  exact (World.cell?_alloc_new _ _ _ _).trans (by simpa using hu))
 simp only [strOf, List.map_cons, List.map_nil, spoil_byte] at hcv
 have p1 : ¬ (og = w1.heap.size) := by omega
 have p2 : ¬ (sg = w1.heap.size) := by omega
 have p3 : ¬ (lb = w1.heap.size) := by omega
 clear hb HT HX hR1
 go_wp2_with (first | (go_at_call 66; refine (unhide HE _).mono ?_; rintro e w' ⟨rfl, rfl⟩))
 go_region
 all_goals
  go_wp2
  go_ret
  exact ⟨rfl, unhide FIN ⟨#[255 - b0, b1, b2, b3]⟩ _⟩
set_option maxRecDepth 100000 in
set_option maxHeartbeats 1600000 in
theorem rFate_spoil4_1 (A : List Nat) (own : Nat → Tag) (rid b : Nat) (R : RRoom) (i n : Nat) (b0 b1 b2 b3 : UInt8) (t : List UInt8) (L : RLine) (w : World) (h : RoomB A own rid w b R) (ht : R.texts[i]? = some t) (hL : R.lines[i]? = some L) (hq : L.b.out[n]? = some ⟨#[b0, b1, b2, b3]⟩) (hm : L.b.spoilt[n]? = some false) :
  Calls Try.prog 59 #[.pointer (some ⟨b, 0, none⟩), .int .i64 i, .bool true, .int .i64 n, .int .i64 3] w fun e w' => e = .returned (.int .i64 0) ∧ ∃ own', RoomB A own' rid w' b (R.setLine i { L with b := L.b.spoil n ⟨#[255 - b0, b1, b2, b3]⟩ }) ∧ Upd own own' (inRoom rid) w w' := by
 have HT := hide (rpeek_1_yes own rid b R i n _ t L w h.room ht hL hq)
 have HE : Hid (∀ w, Calls Try.prog 66 #[.bool true] w fun e w' => e = .returned (.int .i64 1) ∧ w' = w) := hide (fun w => end_any true w)
 obtain ⟨lb, hA⟩ := h.where hL
 have hi : i < R.texts.length := by have := (List.getElem?_eq_some_iff.1 hL).1; have := h.lens.2; omega
 have hi1 : (i : Int) < (R.texts.length : Int) := by omega
 have hi2 : (0 : Int) ≤ (i : Int) := by omega
 have hn2 : (0 : Int) ≤ (n : Int) := by omega
 have hno := (List.getElem?_eq_some_iff.1 hq).1
 have hns := (List.getElem?_eq_some_iff.1 hm).1
 have hn3 : (n : Int) < (L.b.spoilt.length : Int) := by omega
 have hn4 : (n : Int) < (L.b.out.length : Int) := by omega
 have HX : Hid (∀ w1, Below w.heap.size w w1 → RoomB A own rid w1 b R ∧ _) := hide fun w1 hb => ⟨h.upd (Upd.of_below own (fun _ => False) hb) (fun _ _ h => h), (h.upd (Upd.of_below own (fun _ => False) hb) (fun _ _ h => h)).fate1 hL hA hq hm⟩
 have hb9 : 0 ≤ (b0.toNat : Int) ∧ (b0.toNat : Int) ≤ 255 := by have := b0.toNat_lt; omega
 have hx0 : ((({ data := #[b0, b1, b2, b3] } : ByteArray)[0]'(by simp [ByteArray.size])).toNat : Int) = (b0.toNat : Int) := rfl
 clear h
 go_enter Try.func59, Try.ntmps59
 go_wp2_with fail
 refine (unhide HT).mono ?_
 rintro e w1 ⟨rfl, hb⟩
 obtain ⟨hR1, lg, lc, og, oc, sg, sc, c3, c5, d10, d12, d1, d2⟩ := unhide HX w1 hb
 obtain ⟨f1, f2, g1, g2, g3, q1, q2⟩ : w1.frozen? ⟨og, n, none⟩ = false ∧ w1.frozen? ⟨sg, n, none⟩ = false ∧ og < w1.heap.size ∧ sg < w1.heap.size ∧ lb < w1.heap.size ∧ ¬ (lb = og) ∧ ¬ (sg = og) := by
  obtain ⟨r0, r1, k0, k1, o0, o1, s0, s1, hc, ⟨_, _, x0, y0⟩, ⟨_, _, x1, y1⟩⟩ := hR1.lineAt hL hA
  have e1 : o1 = .slice (some ⟨og, 0, none⟩) L.b.out.length oc := by
   have := hc.cell 11; rw [d10] at this; simpa using this.symm
  have e2 : s1 = .slice (some ⟨sg, 0, none⟩) L.b.spoilt.length sc := by
   have := hc.cell 13; rw [d12] at this; simpa using this.symm
  subst e1 e2
  obtain ⟨og', oc', q1, _, _, _, q2, v1, q3⟩ := x1.get (i := n) (u := .string ⟨#[b0, b1, b2, b3]⟩) (by simp [hq])
  obtain ⟨sg', sc', q4, _, _, _, q5, v2, q6⟩ := y1.get (i := n) (u := .bool false) (by simp [hm])
  simp only [Value.slice.injEq, Option.some.injEq, Addr.mk.injEq, and_true] at q1 q4
  obtain ⟨rfl, _, _⟩ := q1
  obtain ⟨rfl, _, _⟩ := q4
  exact ⟨q2, q5, q3, q6, hc.lt, fun h => (by have := hc.2; rw [h, v1] at this; simp at this), fun h => (by rw [h, v1] at v2; simp at v2)⟩
 have FIN : Hid (∀ d ob, ∃ own', RoomB A own' rid ((((w1.setCell ⟨og, n, none⟩ (.string d)).setCell ⟨sg, n, none⟩ (.bool true)).alloc ob).drew) b (R.setLine i { L with b := L.b.spoil n d }) ∧ Upd own own' (inRoom rid) w ((((w1.setCell ⟨og, n, none⟩ (.string d)).setCell ⟨sg, n, none⟩ (.bool true)).alloc ob).drew)) := by
  apply hide
  intro d ob
  obtain ⟨z1, z2⟩ := hR1.spoil1 hL hA (n := n) (d := d) d10 d12
  exact ⟨own, z1.upd (((Upd.refl own (fun _ => False) _).alloc ob).drew) (fun _ _ h => h), (((Upd.of_below own _ hb).trans z2).alloc ob).drew⟩
 have hcv := run_string_at (w1.alloc (Obj.cells #[Value.int IntKind.u8 (255 - (b0.toNat : Int))] 5)).drew 9 Try.underlying9 ⟨w1.heap.size, 0, none⟩ 1 1 [255 - (b0.toNat : Int)] rfl (by
  intro j u hu
  rw [Addr.add_lit, Nat.zero_add]
  exact (World.cell?_alloc_new _ _ _ _).trans (by simpa using hu))
 simp only [strOf, List.map_cons, List.map_nil, spoil_byte] at hcv
 have p1 : ¬ (og = w1.heap.size) := by omega
 have p2 : ¬ (sg = w1.heap.size) := by omega
 have p3 : ¬ (lb = w1.heap.size) := by omega
 clear hb HT HX hR1
 go_wp2_with (first | (go_at_call 66; refine (unhide HE _).mono ?_; rintro e w' ⟨rfl, rfl⟩))
 go_region
 all_goals
  go_wp2
  go_ret
  exact ⟨rfl, unhide FIN ⟨#[255 - b0, b1, b2, b3]⟩ _⟩
set_option maxRecDepth 100000 in
set_option maxHeartbeats 1600000 in
theorem rFate_spoil10_0 (A : List Nat) (own : Nat → Tag) (rid b : Nat) (R : RRoom) (i n : Nat) (b0 b1 b2 b3 b4 b5 b6 b7 b8 b9 : UInt8) (t : List UInt8) (L : RLine) (w : World) (h : RoomB A own rid w b R) (ht : R.texts[i]? = some t) (hL : R.lines[i]? = some L) (hq : L.a.out[n]? = some ⟨#[b0, b1, b2, b3, b4, b5, b6, b7, b8, b9]⟩) (hm : L.a.spoilt[n]? = some false) :
  Calls Try.prog 59 #[.pointer (some ⟨b, 0, none⟩), .int .i64 i, .bool false, .int .i64 n, .int .i64 3] w fun e w' => e = .returned (.int .i64 0) ∧ ∃ own', RoomB A own' rid w' b (R.setLine i { L with a := L.a.spoil n ⟨#[255 - b0, b1, b2, b3, b4, b5, b6, b7, b8, b9]⟩ }) ∧ Upd own own' (inRoom rid) w w' := by
 have HT := hide (rpeek_0_yes own rid b R i n _ t L w h.room ht hL hq)
 have HE : Hid (∀ w, Calls Try.prog 66 #[.bool false] w fun e w' => e = .returned (.int .i64 0) ∧ w' = w) := hide (fun w => end_any false w)
 obtain ⟨lb, hA⟩ := h.where hL
 have hi : i < R.texts.length := by have := (List.getElem?_eq_some_iff.1 hL).1; have := h.lens.2; omega
 have hi1 : (i : Int) < (R.texts.length : Int) := by omega
 have hi2 : (0 : Int) ≤ (i : Int) := by omega
 have hn2 : (0 : Int) ≤ (n : Int) := by omega
 have hno := (List.getElem?_eq_some_iff.1 hq).1
 have hns := (List.getElem?_eq_some_iff.1 hm).1
 have hn3 : (n : Int) < (L.a.spoilt.length : Int) := by omega
 have hn4 : (n : Int) < (L.a.out.length : Int) := by omega
 have HX : Hid (∀ w1, Below w.heap.size w w1 → RoomB A own rid w1 b R ∧ _) := hide fun w1 hb => ⟨h.upd (Upd.of_below own (fun _ => False) hb) (fun _ _ h => h), (h.upd (Upd.of_below own (fun _ => False) hb) (fun _ _ h => h)).fate0 hL hA hq hm⟩
 have hb9 : 0 ≤ (b0.toNat : Int) ∧ (b0.toNat : Int) ≤ 255 := by have := b0.toNat_lt; omega
 have hx0 : ((({ data := #[b0, b1, b2, b3, b4, b5, b6, b7, b8, b9] } : ByteArray)[0]'(by simp [ByteArray.size])).toNat : Int) = (b0.toNat : Int) := rfl
 clear h
 go_enter Try.func59, Try.ntmps59
 go_wp2_with fail
 refine (unhide HT).mono ?_
 rintro e w1 ⟨rfl, hb⟩
 obtain ⟨hR1, lg, lc, og, oc, sg, sc, c3, c5, d10, d12, d1, d2⟩ := unhide HX w1 hb
 obtain ⟨f1, f2, g1, g2, g3, q1, q2⟩ : w1.frozen? ⟨og, n, none⟩ = false ∧ w1.frozen? ⟨sg, n, none⟩ = false ∧ og < w1.heap.size ∧ sg < w1.heap.size ∧ lb < w1.heap.size ∧ ¬ (lb = og) ∧ ¬ (sg = og) := by
  obtain ⟨r0, r1, k0, k1, o0, o1, s0, s1, hc, ⟨_, _, x0, y0⟩, ⟨_, _, x1, y1⟩⟩ := hR1.lineAt hL hA
  have e1 : o0 = .slice (some ⟨og, 0, none⟩) L.a.out.length oc := by
   have := hc.cell 10; rw [d10] at this; simpa using this.symm
  have e2 : s0 = .slice (some ⟨sg, 0, none⟩) L.a.spoilt.length sc := by
   have := hc.cell 12; rw [d12] at this; simpa using this.symm
  subst e1 e2
  obtain ⟨og', oc', q1, _, _, _, q2, v1, q3⟩ := x0.get (i := n) (u := .string ⟨#[b0, b1, b2, b3, b4, b5, b6, b7, b8, b9]⟩) (by simp [hq])
  obtain ⟨sg', sc', q4, _, _, _, q5, v2, q6⟩ := y0.get (i := n) (u := .bool false) (by simp [hm])
  simp only [Value.slice.injEq, Option.some.injEq, Addr.mk.injEq, and_true] at q1 q4
  obtain ⟨rfl, _, _⟩ := q1
  obtain ⟨rfl, _, _⟩ := q4
  exact ⟨q2, q5, q3, q6, hc.lt, fun h => (by have := hc.2; rw [h, v1] at this; simp at this), fun h => (by rw [h, v1] at v2; simp at v2)⟩
 have FIN : Hid (∀ d ob, ∃ own', RoomB A own' rid ((((w1.setCell ⟨og, n, none⟩ (.string d)).setCell ⟨sg, n, none⟩ (.bool true)).alloc ob).drew) b (R.setLine i { L with a := L.a.spoil n d }) ∧ Upd own own' (inRoom rid) w ((((w1.setCell ⟨og, n, none⟩ (.string d)).setCell ⟨sg, n, none⟩ (.bool true)).alloc ob).drew)) := by
  apply hide
  intro d ob
  obtain ⟨z1, z2⟩ := hR1.spoil0 hL hA (n := n) (d := d) d10 d12
  exact ⟨own, z1.upd (((Upd.refl own (fun _ => False) _).alloc ob).drew) (fun _ _ h => h), (((Upd.of_below own _ hb).trans z2).alloc ob).drew⟩
 have hcv := run_string_at (w1.alloc (Obj.cells #[Value.int IntKind.u8 (255 - (b0.toNat : Int))] 5)).drew 9 Try.underlying9 ⟨w1.heap.size, 0, none⟩ 1 1 [255 - (b0.toNat : Int)] rfl (by
  intro j u hu
  rw [Addr.add_lit, Nat.zero_add]
  exact (World.cell?_alloc_new _ _ _ _).trans (by simpa using hu))
 simp only [strOf, List.map_cons, List.map_nil, spoil_byte] at hcv
 have p1 : ¬ (og = w1.heap.size) := by omega
 have p2 : ¬ (sg = w1.heap.size) := by omega
 have p3 : ¬ (lb = w1.heap.size) := by omega
 clear hb HT HX hR1
 go_wp2_with (first | (go_at_call 66; refine (unhide HE _).mono ?_; rintro e w' ⟨rfl, rfl⟩))
 go_region
 all_goals
  go_wp2
  go_ret
  exact ⟨rfl, unhide FIN ⟨#[255 - b0, b1, b2, b3, b4, b5, b6, b7, b8, b9]⟩ _⟩
set_option maxRecDepth 100000 in
set_option maxHeartbeats 1600000 in
theorem rFate_spoil10_1 (A : List Nat) (own : Nat → Tag) (rid b : Nat) (R : RRoom) (i n : Nat) (b0 b1 b2 b3 b4 b5 b6 b7 b8 b9 : UInt8) (t : List UInt8) (L : RLine) (w : World) (h : RoomB A own rid w b R) (ht : R.texts[i]? = some t) (hL : R.lines[i]? = some L) (hq : L.b.out[n]? = some ⟨#[b0, b1, b2, b3, b4, b5, b6, b7, b8, b9]⟩) (hm : L.b.spoilt[n]? = some false) :
  Calls Try.prog 59 #[.pointer (some ⟨b, 0, none⟩), .int .i64 i, .bool true, .int .i64 n, .int .i64 3] w fun e w' => e = .returned (.int .i64 0) ∧ ∃ own', RoomB A own' rid w' b (R.setLine i { L with b := L.b.spoil n ⟨#[255 - b0, b1, b2, b3, b4, b5, b6, b7, b8, b9]⟩ }) ∧ Upd own own' (inRoom rid) w w' := by
 have HT := hide (rpeek_1_yes own rid b R i n _ t L w h.room ht hL hq)
 have HE : Hid (∀ w, Calls Try.prog 66 #[.bool true] w fun e w' => e = .returned (.int .i64 1) ∧ w' = w) := hide (fun w => end_any true w)
 obtain ⟨lb, hA⟩ := h.where hL
 have hi : i < R.texts.length := by have := (List.getElem?_eq_some_iff.1 hL).1; have := h.lens.2; omega
 have hi1 : (i : Int) < (R.texts.length : Int) := by omega
 have hi2 : (0 : Int) ≤ (i : Int) := by omega
 have hn2 : (0 : Int) ≤ (n : Int) := by omega
 have hno := (List.getElem?_eq_some_iff.1 hq).1
 have hns := (List.getElem?_eq_some_iff.1 hm).1
 have hn3 : (n : Int) < (L.b.spoilt.length : Int) := by omega
 have hn4 : (n : Int) < (L.b.out.length : Int) := by omega
 have HX : Hid (∀ w1, Below w.heap.size w w1 → RoomB A own rid w1 b R ∧ _) := hide fun w1 hb => ⟨h.upd (Upd.of_below own (fun _ => False) hb) (fun _ _ h => h), (h.upd (Upd.of_below own (fun _ => False) hb) (fun _ _ h => h)).fate1 hL hA hq hm⟩
 have hb9 : 0 ≤ (b0.toNat : Int) ∧ (b0.toNat : Int) ≤ 255 := by have := b0.toNat_lt; omega
 have hx0 : ((({ data := #[b0, b1, b2, b3, b4, b5, b6, b7, b8, b9] } : ByteArray)[0]'(by simp [ByteArray.size])).toNat : Int) = (b0.toNat : Int) := rfl
 clear h
 go_enter Try.func59, Try.ntmps59
 go_wp2_with fail
 refine (unhide HT).mono ?_
 rintro e w1 ⟨rfl, hb⟩
 obtain ⟨hR1, lg, lc, og, oc, sg, sc, c3, c5, d10, d12, d1, d2⟩ := unhide HX w1 hb
 obtain ⟨f1, f2, g1, g2, g3, q1, q2⟩ : w1.frozen? ⟨og, n, none⟩ = false ∧ w1.frozen? ⟨sg, n, none⟩ = false ∧ og < w1.heap.size ∧ sg < w1.heap.size ∧ lb < w1.heap.size ∧ ¬ (lb = og) ∧ ¬ (sg = og) := by
  obtain ⟨r0, r1, k0, k1, o0, o1, s0, s1, hc, ⟨_, _, x0, y0⟩, ⟨_, _, x1, y1⟩⟩ := hR1.lineAt hL hA
  have e1 : o1 = .slice (some ⟨og, 0, none⟩) L.b.out.length oc := by
   have := hc.cell 11; rw [d10] at this; simpa using this.symm
  have e2 : s1 = .slice (some ⟨sg, 0, none⟩) L.b.spoilt.length sc := by
   have := hc.cell 13; rw [d12] at this; simpa using this.symm
  subst e1 e2
  obtain ⟨og', oc', q1, _, _, _, q2, v1, q3⟩ := x1.get (i := n) (u := .string ⟨#[b0, b1, b2, b3, b4, b5, b6, b7, b8, b9]⟩) (by simp [hq])
  obtain ⟨sg', sc', q4, _, _, _, q5, v2, q6⟩ := y1.get (i := n) (u := .bool false) (by simp [hm])
  simp only [Value.slice.injEq, Option.some.injEq, Addr.mk.injEq, and_true] at q1 q4
  obtain ⟨rfl, _, _⟩ := q1
  obtain ⟨rfl, _, _⟩ := q4
  exact ⟨q2, q5, q3, q6, hc.lt, fun h => (by have := hc.2; rw [h, v1] at this; simp at this), fun h => (by rw [h, v1] at v2; simp at v2)⟩
 have FIN : Hid (∀ d ob, ∃ own', RoomB A own' rid ((((w1.setCell ⟨og, n, none⟩ (.string d)).setCell ⟨sg, n, none⟩ (.bool true)).alloc ob).drew) b (R.setLine i { L with b := L.b.spoil n d }) ∧ Upd own own' (inRoom rid) w ((((w1.setCell ⟨og, n, none⟩ (.string d)).setCell ⟨sg, n, none⟩ (.bool true)).alloc ob).drew)) := by
  apply hide
  intro d ob
  obtain ⟨z1, z2⟩ := hR1.spoil1 hL hA (n := n) (d := d) d10 d12
  exact ⟨own, z1.upd (((Upd.refl own (fun _ => False) _).alloc ob).drew) (fun _ _ h => h), (((Upd.of_below own _ hb).trans z2).alloc ob).drew⟩
 have hcv := run_string_at (w1.alloc (Obj.cells #[Value.int IntKind.u8 (255 - (b0.toNat : Int))] 5)).drew 9 Try.underlying9 ⟨w1.heap.size, 0, none⟩ 1 1 [255 - (b0.toNat : Int)] rfl (by
  intro j u hu
  rw [Addr.add_lit, Nat.zero_add]
  exact (World.cell?_alloc_new _ _ _ _).trans (by simpa using hu))
 simp only [strOf, List.map_cons, List.map_nil, spoil_byte] at hcv
 have p1 : ¬ (og = w1.heap.size) := by omega
 have p2 : ¬ (sg = w1.heap.size) := by omega
 have p3 : ¬ (lb = w1.heap.size) := by omega
 clear hb HT HX hR1
 go_wp2_with (first | (go_at_call 66; refine (unhide HE _).mono ?_; rintro e w' ⟨rfl, rfl⟩))
 go_region
 all_goals
  go_wp2
  go_ret
  exact ⟨rfl, unhide FIN ⟨#[255 - b0, b1, b2, b3, b4, b5, b6, b7, b8, b9]⟩ _⟩
end Go.Proofs.Ytemkgikncmhoaaa

