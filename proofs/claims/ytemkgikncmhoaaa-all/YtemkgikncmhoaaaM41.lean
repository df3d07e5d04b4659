import Derived.Test.YtemkgikncmhoaaaM35
namespace Go.Proofs.Ytemkgikncmhoaaa
open Go.RowKit
attribute [local go_sem ↓] Go.wp_at_zero Go.wp_at_succ

theorem fresh_tag (own : Nat → Tag) : ∀ N, ∃ M, ∀ k, k < N → (own k).2.2 < M
 | 0 => ⟨0, fun k h => by omega⟩
 | N + 1 => by
  obtain ⟨M, hM⟩ := fresh_tag own N
  refine ⟨M + (own N).2.2 + 1, fun k hk => ?_⟩
  by_cases h : k = N
  ·subst h; omega
  ·have := hM k (by omega); omega
theorem erase_step {α : Type} {l : List α} {j n : Nat} {x : α} (hx : l[j]? = some x) (hj : j ≠ n) : (l.take (j + 1)).eraseIdx n = (l.take j).eraseIdx n ++ [x] := by
 have hl := (List.getElem?_eq_some_iff.1 hx).1
 rw [List.take_add_one, hx]
 show (l.take j ++ [x]).eraseIdx n = _
 by_cases h : j < n
 ·rw [List.eraseIdx_of_length_le (by simp; omega), List.eraseIdx_of_length_le (by simp; omega)]
 ·rw [List.eraseIdx_append_of_lt_length (by simp; omega)]
theorem erase_same {α : Type} {l : List α} {n : Nat} {x : α} (hx : l[n]? = some x) : (l.take (n + 1)).eraseIdx n = (l.take n).eraseIdx n := by
 have hl := (List.getElem?_eq_some_iff.1 hx).1
 rw [List.take_add_one, hx]
 show (l.take n ++ [x]).eraseIdx n = _
 have e : (l.take n).length = n := by simp; omega
 rw [List.eraseIdx_append_of_length_le (by omega), e, Nat.sub_self, List.eraseIdx_of_length_le (l := l.take n) (by omega)]
 simp
/-- What was built takes the place of what flew. -/
theorem RoomB.lose0 {A : List Nat} {own own' : Nat → Tag} {rid b : Nat} {w wr : World} {R : RRoom} (h : RoomB A own rid w b R) {i lb M n : Nat} {L : RLine} (hL : R.lines[i]? = some L) (hA : A[i]? = some lb) (hM : ∀ k, k < w.heap.size → (own k).2.2 < M) {v16 v17 : Value}
  (o1 : OwnsT own' (0, 0, M) wr 9 1 v16 (L.a.out.eraseIdx n).length ((L.a.out.eraseIdx n).map Value.string)) (o2 : OwnsT own' (0, 0, M + 1) wr 4 1 v17 (L.a.spoilt.eraseIdx n).length ((L.a.spoilt.eraseIdx n).map Value.bool))
  (hU : Upd own own' (fun t => t = (0, 0, M) ∨ t = (0, 0, M + 1)) w wr) :
  ∃ ownF, RoomB A ownF rid ((wr.setCell ⟨lb, 10, none⟩ v16).setCell ⟨lb, 12, none⟩ v17) b (R.setLine i { L with a := L.a.lose n }) ∧ Upd own ownF (inRoom rid) w ((wr.setCell ⟨lb, 10, none⟩ v16).setCell ⟨lb, 12, none⟩ v17) := by
 obtain ⟨lg, lc, _, c3, c5, _, _, hi, hn4⟩ := h.heads hL hA
 obtain ⟨r0, r1, k0, k1, o0, o1', s0, s1, hc, ⟨a1, a2, a3, a4⟩, ⟨b1, b2, b3, b4⟩⟩ := h.lineAt hL hA
 have hno : ∀ k, k < w.heap.size → ¬ (own k = (0, 0, M) ∨ own k = (0, 0, M + 1)) := by
  intro k hk
  have := hM k hk
  rintro (e1 | e1) <;> rw [e1] at this <;> simp at this <;> omega
 let ownF : Nat → Tag := fun k => if k < w.heap.size then own k else if own' k = (0, 0, M) then (rid, i, 5) else (rid, i, 7)
 have UF : Upd own ownF (fun _ => False) w wr := ⟨hU.os, hU.tape, hU.output, hU.size, fun k hk _ => hU.block k hk (hno k hk), fun k hk => if_pos hk⟩
 have O1 : OwnsT ownF (rid, i, 5) wr 9 1 v16 (L.a.out.eraseIdx n).length ((L.a.out.eraseIdx n).map Value.string) := by
  refine ⟨o1.1, fun g hg => ?_⟩
  have ht := o1.2 g hg
  have hge : ¬ g < w.heap.size := fun hk => hno g hk (.inl (by rw [← hU.tags g hk]; exact ht))
  show (if g < w.heap.size then own g else if own' g = (0, 0, M) then (rid, i, 5) else (rid, i, 7)) = _
  rw [if_neg hge, if_pos ht]
 have O2 : OwnsT ownF (rid, i, 7) wr 4 1 v17 (L.a.spoilt.eraseIdx n).length ((L.a.spoilt.eraseIdx n).map Value.bool) := by
  refine ⟨o2.1, fun g hg => ?_⟩
  have ht := o2.2 g hg
  have hge : ¬ g < w.heap.size := fun hk => hno g hk (.inr (by rw [← hU.tags g hk]; exact ht))
  show (if g < w.heap.size then own g else if own' g = (0, 0, M) then (rid, i, 5) else (rid, i, 7)) = _
  rw [if_neg hge, if_neg (by rw [ht]; simp)]
 have hcF := hc.upd UF (fun h => h)
 have U1 : Upd ownF ownF (fun t => t = (rid, i, 0)) wr (wr.setCell ⟨lb, 10, none⟩ v16) := Upd.setCell (p := ⟨lb, 10, none⟩) (Upd.refl ownF _ wr) hcF.2 _
 have U2 : Upd ownF ownF (fun t => t = (rid, i, 0)) (wr.setCell ⟨lb, 10, none⟩ v16) ((wr.setCell ⟨lb, 10, none⟩ v16).setCell ⟨lb, 12, none⟩ v17) := Upd.setCell (p := ⟨lb, 12, none⟩) (Upd.refl ownF _ _) hcF.2 _
 have U := U1.trans U2
 have UA : Upd own ownF (fun t => t = (rid, i, 0)) w ((wr.setCell ⟨lb, 10, none⟩ v16).setCell ⟨lb, 12, none⟩ v17) := (UF.mono (fun _ h => h.elim)).trans U
 have V : Upd own ownF (inLine rid i) w ((wr.setCell ⟨lb, 10, none⟩ v16).setCell ⟨lb, 12, none⟩ v17) := UA.mono (by rintro t rfl; exact ⟨rfl, rfl⟩)
 have C := (hcF.set 10 v16).set 12 v17
 have P1 := O1.upd U (by simp)
 have P2 := O2.upd U (by simp)
 rw [List.eraseIdx_eq_take_drop_succ] at P1 P2
 have X : EndAt ownF rid i 0 ((wr.setCell ⟨lb, 10, none⟩ v16).setCell ⟨lb, 12, none⟩ v17) _ _ _ _ (L.a.lose n) := ⟨a1.upd UA (by simp) (by simp), a2.upd UA (by simp), P1, P2⟩
 have Y : EndAt ownF rid i 1 ((wr.setCell ⟨lb, 10, none⟩ v16).setCell ⟨lb, 12, none⟩ v17) _ _ _ _ L.b := ⟨b1.upd UA (by simp) (by simp), b2.upd UA (by simp), b3.upd UA (by simp), b4.upd UA (by simp)⟩
 have LA : LineAt ownF rid i ((wr.setCell ⟨lb, 10, none⟩ v16).setCell ⟨lb, 12, none⟩ v17) lb { L with a := L.a.lose n } := ⟨r0, r1, _, _, _, _, _, _, C, X, Y⟩
 exact ⟨ownF, RoomB.line h (by omega) hi c3 c5 V LA, V.mono (fun t h => h.1)⟩
set_option maxRecDepth 100000 in
set_option maxHeartbeats 1600000 in
theorem rFate_gone_0 (A : List Nat) (own : Nat → Tag) (rid b : Nat) (R : RRoom) (i n : Nat) (k : Int) (s : ByteArray) (m : Bool) (t : List UInt8) (L : RLine) (w : World) (P : RRoom → Prop) (h : RoomB A own rid w b R) (ht : R.texts[i]? = some t) (hL : R.lines[i]? = some L) (hq : L.a.out[n]? = some s) (hm : L.a.spoilt[n]? = some m) (hlen : L.a.spoilt.length = L.a.out.length) (h12 : L.a.out.length ≤ 12) (hk : k = 0 ∨ k = 1)
  (hP0 : ¬ (k = 0 ∧ m = false) → P (R.setLine i { L with a := L.a.lose n }))
  (hP1 : k = 0 ∧ m = false → ∀ own1 w1, RoomB A own1 rid w1 b (R.setLine i { L with a := L.a.lose n }) → Calls Try.prog 79 #[.pointer (some ⟨b, 0, none⟩), .int .i64 i, .int .i64 1, .string s] w1 fun r w' => r = .returned (.tuple #[]) ∧ ∃ own' R', P R' ∧ RoomB A own' rid w' b R' ∧ Upd own1 own' (inRoom rid) w1 w') :
  Calls Try.prog 59 #[.pointer (some ⟨b, 0, none⟩), .int .i64 i, .bool false, .int .i64 n, .int .i64 k] w fun e w' => e = .returned (.int .i64 0) ∧ ∃ own' R', P R' ∧ RoomB A own' rid w' b R' ∧ Upd own own' (inRoom rid) w w' := by
 have HT := hide (rpeek_0_yes own rid b R i n _ t L w h.room ht hL hq)
 have HE : Hid (∀ w, Calls Try.prog 66 #[.bool false] w fun e w' => e = .returned (.int .i64 0) ∧ w' = w) := hide (fun w => end_any false w)
 obtain ⟨lb, hA⟩ := h.where hL
 have hi : i < R.texts.length := by have := (List.getElem?_eq_some_iff.1 hL).1; have := h.lens.2; omega
 have hi1 : (i : Int) < (R.texts.length : Int) := by omega
 have hi2 : (0 : Int) ≤ (i : Int) := by omega
 have hn2 : (0 : Int) ≤ (n : Int) := by omega
 have hno := (List.getElem?_eq_some_iff.1 hq).1
 have hns := (List.getElem?_eq_some_iff.1 hm).1
 have hn3 : (n : Int) < (L.a.spoilt.length : Int) := by omega
 have hn4 : (n : Int) < (L.a.out.length : Int) := by omega
 have hk0 : ¬ k < 0 := by omega
 have hk3 : ¬ 3 < k := by omega
 have hk2 : (k == 2) = false := by rw [beq_eq_false_iff_ne]; omega
 have hk4 : (k == 3) = false := by rw [beq_eq_false_iff_ne]; omega
 have HX : Hid (∀ w1, Below w.heap.size w w1 → RoomB A own rid w1 b R ∧ _) := hide fun w1 hb => ⟨h.upd (Upd.of_below own (fun _ => False) hb) (fun _ _ h => h), (h.upd (Upd.of_below own (fun _ => False) hb) (fun _ _ h => h)).fate0 hL hA hq hm⟩
 obtain ⟨i1, hi0, hz0, hz1, hz2⟩ := info_parts Try.info9
 obtain ⟨i2, hjb0, hy0, hy1, hy2⟩ := info_parts Try.info4
 have HP0 := hide hP0
 have HP1 := hide hP1
 clear h hP0 hP1
 go_enter Try.func59, Try.ntmps59
 go_wp2_with fail
 refine (unhide HT).mono ?_
 rintro e w1 ⟨rfl, hb⟩
 obtain ⟨hR1, lg, lc, og, oc, sg, sc, c3, c5, d10, d12, d1, d2⟩ := unhide HX w1 hb
 have HB := hide (Upd.of_below own (inRoom rid) hb)
 obtain ⟨hcs, hsc, g1, g2, g3⟩ : (∀ (j : Nat) x, L.a.out[j]? = some x → w1.cell? ⟨og, j, none⟩ = some (.string x)) ∧ (∀ (j : Nat) x, L.a.spoilt[j]? = some x → w1.cell? ⟨sg, j, none⟩ = some (.bool x)) ∧ og < w1.heap.size ∧ sg < w1.heap.size ∧ lb < w1.heap.size := by
  obtain ⟨r0, r1, k0, k1, o0, o1, s0, s1, hc, ⟨_, _, x0, y0⟩, ⟨_, _, x1, y1⟩⟩ := hR1.lineAt hL hA
  have e1 : o0 = .slice (some ⟨og, 0, none⟩) L.a.out.length oc := by
   have := hc.cell 10; rw [d10] at this; simpa using this.symm
  have e2 : s0 = .slice (some ⟨sg, 0, none⟩) L.a.spoilt.length sc := by
   have := hc.cell 12; rw [d12] at this; simpa using this.symm
  subst e1 e2
  refine ⟨fun j x hx => ?_, fun j x hx => ?_, ?_, ?_, hc.lt⟩
  ·obtain ⟨og', oc', q1, _, _, q2, _⟩ := x0.get (i := j) (u := .string x) (by simp [hx])
   simp only [Value.slice.injEq, Option.some.injEq, Addr.mk.injEq, and_true] at q1
   obtain ⟨rfl, _, _⟩ := q1
   exact q2
  ·obtain ⟨og', oc', q1, _, _, q2, _⟩ := y0.get (i := j) (u := .bool x) (by simp [hx])
   simp only [Value.slice.injEq, Option.some.injEq, Addr.mk.injEq, and_true] at q1
   obtain ⟨rfl, _, _⟩ := q1
   exact q2
  ·obtain ⟨og', oc', q1, _, _, _, _, _, q3⟩ := x0.get (i := n) (u := .string s) (by simp [hq])
   simp only [Value.slice.injEq, Option.some.injEq, Addr.mk.injEq, and_true] at q1
   obtain ⟨rfl, _, _⟩ := q1
   exact q3
  ·obtain ⟨og', oc', q1, _, _, _, _, _, q3⟩ := y0.get (i := n) (u := .bool m) (by simp [hm])
   simp only [Value.slice.injEq, Option.some.injEq, Addr.mk.injEq, and_true] at q1
   obtain ⟨rfl, _, _⟩ := q1
   exact q3
 have hfz : ∀ q, w1.frozen? ⟨lb, q, none⟩ = false := (hR1.lineAt hL hA).cells.2.2.2.2.2.2
 obtain ⟨M, hM⟩ := fresh_tag own w1.heap.size
 have hnt : ∀ q, q < w1.heap.size → ¬ (own q = (0, 0, M) ∨ own q = (0, 0, M + 1)) := by
  intro q hq'
  have := hM q hq'
  rintro (e1 | e1) <;> rw [e1] at this <;> simp at this <;> omega
 have HR1 := hide hR1
 have HM := hide hM
 have HCS := hide hcs
 have HSC := hide hsc
 have HFZ := hide hfz
 have HNT := hide hnt
 clear hb HT HX hR1 hM hcs hsc hfz hnt
 go_wp2_with (first | (go_at_call 66; refine (unhide HE _).mono ?_; rintro e w' ⟨rfl, hw'⟩; obtain rfl := hw'.symm))
 go_loopw [16, 17, 18] (fun v16 v17 v18 wr => ∃ j : Nat, j ≤ L.a.out.length ∧ v18 = .int .i64 j ∧ ∃ own', OwnsT own' (0, 0, M) wr 9 1 v16 ((L.a.out.take j).eraseIdx n).length (((L.a.out.take j).eraseIdx n).map Value.string) ∧ OwnsT own' (0, 0, M + 1) wr 4 1 v17 ((L.a.spoilt.take j).eraseIdx n).length (((L.a.spoilt.take j).eraseIdx n).map Value.bool) ∧ Upd own own' (fun t => t = (0, 0, M) ∨ t = (0, 0, M + 1)) w1 wr) (fun _ _ v18 _ => L.a.out.length - (intOf v18).toNat)
 case atStart => exact ⟨0, by omega, rfl, own, by simpa using OwnsT.nil own (0, 0, M) _ _ _, by simpa using OwnsT.nil own (0, 0, M + 1) _ _ _, Upd.refl _ _ _⟩
 case round =>
  obtain ⟨j, hj, rfl, own', o1, o2, hU⟩ := hrel
  have x10 := hU.cell d10 (unhide HNT _ g3)
  have x12 := hU.cell d12 (unhide HNT _ g3)
  have z10 := hU.frozen g3 (unhide HNT _ g3) (unhide HFZ 10)
  have z12 := hU.frozen g3 (unhide HNT _ g3) (unhide HFZ 12)
  have sz := hU.size
  by_cases hlt : j < L.a.out.length
  ·have hlt' : (j : Int) < (L.a.out.length : Int) := by omega
   have hlt2 : (j : Int) < (L.a.spoilt.length : Int) := by omega
   have hj0 : (0 : Int) ≤ (j : Int) := by omega
   obtain ⟨x, hx⟩ : ∃ x, L.a.out[j]? = some x := ⟨_, List.getElem?_eq_getElem hlt⟩
   obtain ⟨y, hy⟩ : ∃ y, L.a.spoilt[j]? = some y := ⟨_, List.getElem?_eq_getElem (by omega)⟩
   by_cases hjn : j = n
   ·have hjn' : ((j : Int) == (n : Int)) = true := by rw [beq_iff_eq]; omega
    have hjn2 : (j : Int) = (n : Int) := by omega
    have HNX : Hid (∃ own', OwnsT own' (0, 0, M) wr 9 1 u16 ((L.a.out.take (j + 1)).eraseIdx n).length (((L.a.out.take (j + 1)).eraseIdx n).map Value.string) ∧ OwnsT own' (0, 0, M + 1) wr 4 1 u17 ((L.a.spoilt.take (j + 1)).eraseIdx n).length (((L.a.spoilt.take (j + 1)).eraseIdx n).map Value.bool) ∧ Upd own own' (fun t => t = (0, 0, M) ∨ t = (0, 0, M + 1)) w1 wr) := by
     apply hide
     subst hjn
     rw [erase_same hx, erase_same hy]
     exact ⟨own', o1, o2, hU⟩
    clear o1 o2 hU
    go_wp2
    go_roundw
    case rel => exact ⟨j + 1, by omega, by go_num, unhide HNX⟩
    case measure => simp [intOf]; omega
   ·have hjn' : ((j : Int) == (n : Int)) = false := by rw [beq_eq_false_iff_ne]; omega
    have hjn2 : ¬ (j : Int) = (n : Int) := by omega
    have y1 := hU.cell (unhide HCS j x hx) (unhide HNT _ g1)
    have hl1 : ((L.a.out.take j).eraseIdx n).length ≤ 12 := Nat.le_trans (List.length_eraseIdx_le _ _) (by simp; omega)
    have hl2 : ((L.a.spoilt.take j).eraseIdx n).length ≤ 12 := Nat.le_trans (List.length_eraseIdx_le _ _) (by simp; omega)
    have p1 : ¬ (lb = wr.heap.size) := by omega
    have p2 : ¬ (og = wr.heap.size) := by omega
    have p3 : ¬ (sg = wr.heap.size) := by omega
    have HES := hide (erase_step hx hjn)
    have HET := hide (erase_step hy hjn)
    generalize (L.a.out.take j).eraseIdx n = xs at *
    generalize (L.a.spoilt.take j).eraseIdx n = ys at *
    have HU := hide hU
    have HO2 := hide o2
    clear hU o2
    go_wp2_with (at_builtin; go_must (refine wpList_append_T _ rfl (.tmp 134) (.tmp 144) 28 rfl 9 i1 (.string ⟨#[]⟩) 1 16 Try.underlying28 hi0 hz0 hz1 hz2 rfl (by decide) _ xs.length _ own' (0, 0, M) rfl (o1.alloc _) ⟨wr.heap.size, 0, none⟩ 1 1 [.string x] rfl rfl (World.news_of_block (cs := #[.string x]) (t := 9) (fr := (0, 0)) (heap_alloc_new wr _)) (by simp [Value.oneCell']) (by simp [maxLen]; omega) (by omega) ?_))
    intro v1 w2 ho1 hu1
    have U1 : Upd own _ (fun t => t = (0, 0, M) ∨ t = (0, 0, M + 1)) w1 w2 := ((unhide HU).alloc _).trans (hu1.mono (fun t h => .inl h))
    have o2' := ((unhide HO2).alloc _).upd hu1 (by simp)
    have sz2 := U1.size
    have x10b := U1.cell d10 (unhide HNT _ g3)
    have x12b := U1.cell d12 (unhide HNT _ g3)
    have y2b := U1.cell (unhide HSC j y hy) (unhide HNT _ g2)
    have p1b : ¬ (lb = w2.heap.size) := by omega
    have p2b : ¬ (og = w2.heap.size) := by omega
    have p3b : ¬ (sg = w2.heap.size) := by omega
    have HU1 := hide U1
    have HO1 := hide ho1
    clear o1 hu1 U1 ho1 HU HO2 x10 x12 z10 z12 y1
    generalize retag own' _ (0, 0, M) = ownA at *
    go_wp2_with (at_builtin; go_must (refine wpList_append_T _ rfl (.tmp 146) (.tmp 156) 119 rfl 4 i2 (.bool false) 1 1 Try.underlying119 hjb0 hy0 hy1 hy2 rfl (by decide) _ ys.length _ ownA (0, 0, M + 1) rfl (o2'.alloc _) ⟨w2.heap.size, 0, none⟩ 1 1 [.bool y] rfl rfl (World.news_of_block (cs := #[.bool y]) (t := 4) (fr := (0, 0)) (heap_alloc_new w2 _)) (by simp [Value.oneCell']) (by simp [maxLen]; omega) (by omega) ?_))
    intro v2 w3 ho2 hu2
    have HNX : Hid (∃ own', OwnsT own' (0, 0, M) w3 9 1 v1 ((L.a.out.take (j + 1)).eraseIdx n).length (((L.a.out.take (j + 1)).eraseIdx n).map Value.string) ∧ OwnsT own' (0, 0, M + 1) w3 4 1 v2 ((L.a.spoilt.take (j + 1)).eraseIdx n).length (((L.a.spoilt.take (j + 1)).eraseIdx n).map Value.bool) ∧ Upd own own' (fun t => t = (0, 0, M) ∨ t = (0, 0, M + 1)) w1 w3) := by
     apply hide
     rw [unhide HES, unhide HET]
     refine ⟨_, ?_, ?_, ((unhide HU1).alloc _).trans (hu2.mono (fun t h => .inr h))⟩
     ·have := ((unhide HO1).alloc (.cells #[.bool y] 4)).upd hu2 (by simp)
      simpa using this
     ·simpa using ho2
    clear o2' hu2 ho2 HU1 HO1 x10b x12b y2b
    go_wp2
    go_roundw
    case rel => exact ⟨j + 1, by omega, by go_num, unhide HNX⟩
    case measure => simp [intOf]; omega
  ·obtain rfl : j = L.a.out.length := by omega
   have hlt' : ¬ (L.a.out.length : Int) < (L.a.out.length : Int) := by omega
   rw [List.take_length] at o1
   rw [List.take_of_length_le (by omega)] at o2
   obtain ⟨oa, ocp, rfl, _, _⟩ := o1.shape
   obtain ⟨sa, scp, rfl, _, _⟩ := o2.shape
   obtain ⟨ownF, hRF, hUF⟩ := (unhide HR1).lose0 hL hA (unhide HM) o1 o2 hU
   have HRF := hide hRF
   have HUF := hide ((unhide HB).trans hUF)
   clear o1 o2 hU hRF hUF HR1 HM HCS HSC HFZ HNT
   by_cases k0 : k = 0
   ·subst k0
    cases m with
    | false =>
     have HC : Hid (Calls Try.prog 79 #[.pointer (some ⟨b, 0, none⟩), .int .i64 i, .int .i64 1, .string s] ((wr.setCell ⟨lb, 10, none⟩ (.slice oa (L.a.out.eraseIdx n).length ocp)).setCell ⟨lb, 12, none⟩ (.slice sa (L.a.spoilt.eraseIdx n).length scp)) fun r w' => r = .returned (.tuple #[]) ∧ ∃ own' R', P R' ∧ RoomB A own' rid w' b R' ∧ Upd own own' (inRoom rid) w w') := by
      apply hide
      refine (unhide HP1 ⟨rfl, rfl⟩ ownF _ (unhide HRF)).mono ?_
      rintro r w' ⟨rfl, own2, R2, p1, p2, p3⟩
      exact ⟨rfl, own2, R2, p1, p2, (unhide HUF).trans p3⟩
     clear HRF HUF HP0 HP1
     go_wp2_with fail
     refine (unhide HC).mono ?_
     rintro r w5 ⟨rfl, hF⟩
     have HF := hide hF
     clear hF HC
     go_wp2
     go_ret
     exact ⟨rfl, unhide HF⟩
    | true =>
     have HF : Hid (∃ own' R', P R' ∧ RoomB A own' rid ((wr.setCell ⟨lb, 10, none⟩ (.slice oa (L.a.out.eraseIdx n).length ocp)).setCell ⟨lb, 12, none⟩ (.slice sa (L.a.spoilt.eraseIdx n).length scp)) b R' ∧ Upd own own' (inRoom rid) w ((wr.setCell ⟨lb, 10, none⟩ (.slice oa (L.a.out.eraseIdx n).length ocp)).setCell ⟨lb, 12, none⟩ (.slice sa (L.a.spoilt.eraseIdx n).length scp))) := hide ⟨ownF, _, unhide HP0 (by simp), unhide HRF, unhide HUF⟩
     clear HRF HUF HP0 HP1
     go_wp2
     go_ret
     exact ⟨rfl, unhide HF⟩
   ·have HF : Hid (∃ own' R', P R' ∧ RoomB A own' rid ((wr.setCell ⟨lb, 10, none⟩ (.slice oa (L.a.out.eraseIdx n).length ocp)).setCell ⟨lb, 12, none⟩ (.slice sa (L.a.spoilt.eraseIdx n).length scp)) b R' ∧ Upd own own' (inRoom rid) w ((wr.setCell ⟨lb, 10, none⟩ (.slice oa (L.a.out.eraseIdx n).length ocp)).setCell ⟨lb, 12, none⟩ (.slice sa (L.a.spoilt.eraseIdx n).length scp))) := hide ⟨ownF, _, unhide HP0 (fun h => k0 h.1), unhide HRF, unhide HUF⟩
    have k0' : (k == 0) = false := by rw [beq_eq_false_iff_ne]; exact k0
    clear HRF HUF HP0 HP1
    go_wp2
    go_ret
    exact ⟨rfl, unhide HF⟩
/-- What was built takes the place of what flew. -/
theorem RoomB.lose1 {A : List Nat} {own own' : Nat → Tag} {rid b : Nat} {w wr : World} {R : RRoom} (h : RoomB A own rid w b R) {i lb M n : Nat} {L : RLine} (hL : R.lines[i]? = some L) (hA : A[i]? = some lb) (hM : ∀ k, k < w.heap.size → (own k).2.2 < M) {v16 v17 : Value}
  (o1 : OwnsT own' (0, 0, M) wr 9 1 v16 (L.b.out.eraseIdx n).length ((L.b.out.eraseIdx n).map Value.string)) (o2 : OwnsT own' (0, 0, M + 1) wr 4 1 v17 (L.b.spoilt.eraseIdx n).length ((L.b.spoilt.eraseIdx n).map Value.bool))
  (hU : Upd own own' (fun t => t = (0, 0, M) ∨ t = (0, 0, M + 1)) w wr) :
  ∃ ownF, RoomB A ownF rid ((wr.setCell ⟨lb, 11, none⟩ v16).setCell ⟨lb, 13, none⟩ v17) b (R.setLine i { L with b := L.b.lose n }) ∧ Upd own ownF (inRoom rid) w ((wr.setCell ⟨lb, 11, none⟩ v16).setCell ⟨lb, 13, none⟩ v17) := by
 obtain ⟨lg, lc, _, c3, c5, _, _, hi, hn4⟩ := h.heads hL hA
 obtain ⟨r0, r1, k0, k1, o0, o1', s0, s1, hc, ⟨b1, b2, b3, b4⟩, ⟨a1, a2, a3, a4⟩⟩ := h.lineAt hL hA
 have hno : ∀ k, k < w.heap.size → ¬ (own k = (0, 0, M) ∨ own k = (0, 0, M + 1)) := by
  intro k hk
  have := hM k hk
  rintro (e1 | e1) <;> rw [e1] at this <;> simp at this <;> omega
 let ownF : Nat → Tag := fun k => if k < w.heap.size then own k else if own' k = (0, 0, M) then (rid, i, 6) else (rid, i, 8)
 have UF : Upd own ownF (fun _ => False) w wr := ⟨hU.os, hU.tape, hU.output, hU.size, fun k hk _ => hU.block k hk (hno k hk), fun k hk => if_pos hk⟩
 have O1 : OwnsT ownF (rid, i, 6) wr 9 1 v16 (L.b.out.eraseIdx n).length ((L.b.out.eraseIdx n).map Value.string) := by
  refine ⟨o1.1, fun g hg => ?_⟩
  have ht := o1.2 g hg
  have hge : ¬ g < w.heap.size := fun hk => hno g hk (.inl (by rw [← hU.tags g hk]; exact ht))
  show (if g < w.heap.size then own g else if own' g = (0, 0, M) then (rid, i, 6) else (rid, i, 8)) = _
  rw [if_neg hge, if_pos ht]
 have O2 : OwnsT ownF (rid, i, 8) wr 4 1 v17 (L.b.spoilt.eraseIdx n).length ((L.b.spoilt.eraseIdx n).map Value.bool) := by
  refine ⟨o2.1, fun g hg => ?_⟩
  have ht := o2.2 g hg
  have hge : ¬ g < w.heap.size := fun hk => hno g hk (.inr (by rw [← hU.tags g hk]; exact ht))
  show (if g < w.heap.size then own g else if own' g = (0, 0, M) then (rid, i, 6) else (rid, i, 8)) = _
  rw [if_neg hge, if_neg (by rw [ht]; simp)]
 have hcF := hc.upd UF (fun h => h)
 have U1 : Upd ownF ownF (fun t => t = (rid, i, 0)) wr (wr.setCell ⟨lb, 11, none⟩ v16) := Upd.setCell (p := ⟨lb, 11, none⟩) (Upd.refl ownF _ wr) hcF.2 _
 have U2 : Upd ownF ownF (fun t => t = (rid, i, 0)) (wr.setCell ⟨lb, 11, none⟩ v16) ((wr.setCell ⟨lb, 11, none⟩ v16).setCell ⟨lb, 13, none⟩ v17) := Upd.setCell (p := ⟨lb, 13, none⟩) (Upd.refl ownF _ _) hcF.2 _
 have U := U1.trans U2
 have UA : Upd own ownF (fun t => t = (rid, i, 0)) w ((wr.setCell ⟨lb, 11, none⟩ v16).setCell ⟨lb, 13, none⟩ v17) := (UF.mono (fun _ h => h.elim)).trans U
 have V : Upd own ownF (inLine rid i) w ((wr.setCell ⟨lb, 11, none⟩ v16).setCell ⟨lb, 13, none⟩ v17) := UA.mono (by rintro t rfl; exact ⟨rfl, rfl⟩)
 have C := (hcF.set 11 v16).set 13 v17
 have P1 := O1.upd U (by simp)
 have P2 := O2.upd U (by simp)
 rw [List.eraseIdx_eq_take_drop_succ] at P1 P2
 have X : EndAt ownF rid i 1 ((wr.setCell ⟨lb, 11, none⟩ v16).setCell ⟨lb, 13, none⟩ v17) _ _ _ _ (L.b.lose n) := ⟨a1.upd UA (by simp) (by simp), a2.upd UA (by simp), P1, P2⟩
 have Y : EndAt ownF rid i 0 ((wr.setCell ⟨lb, 11, none⟩ v16).setCell ⟨lb, 13, none⟩ v17) _ _ _ _ L.a := ⟨b1.upd UA (by simp) (by simp), b2.upd UA (by simp), b3.upd UA (by simp), b4.upd UA (by simp)⟩
 have LA : LineAt ownF rid i ((wr.setCell ⟨lb, 11, none⟩ v16).setCell ⟨lb, 13, none⟩ v17) lb { L with b := L.b.lose n } := ⟨r0, r1, _, _, _, _, _, _, C, Y, X⟩
 exact ⟨ownF, RoomB.line h (by omega) hi c3 c5 V LA, V.mono (fun t h => h.1)⟩
set_option maxRecDepth 100000 in
set_option maxHeartbeats 1600000 in
theorem rFate_gone_1 (A : List Nat) (own : Nat → Tag) (rid b : Nat) (R : RRoom) (i n : Nat) (k : Int) (s : ByteArray) (m : Bool) (t : List UInt8) (L : RLine) (w : World) (P : RRoom → Prop) (h : RoomB A own rid w b R) (ht : R.texts[i]? = some t) (hL : R.lines[i]? = some L) (hq : L.b.out[n]? = some s) (hm : L.b.spoilt[n]? = some m) (hlen : L.b.spoilt.length = L.b.out.length) (h12 : L.b.out.length ≤ 12) (hk : k = 0 ∨ k = 1)
  (hP0 : ¬ (k = 0 ∧ m = false) → P (R.setLine i { L with b := L.b.lose n }))
  (hP1 : k = 0 ∧ m = false → ∀ own1 w1, RoomB A own1 rid w1 b (R.setLine i { L with b := L.b.lose n }) → Calls Try.prog 79 #[.pointer (some ⟨b, 0, none⟩), .int .i64 i, .int .i64 0, .string s] w1 fun r w' => r = .returned (.tuple #[]) ∧ ∃ own' R', P R' ∧ RoomB A own' rid w' b R' ∧ Upd own1 own' (inRoom rid) w1 w') :
  Calls Try.prog 59 #[.pointer (some ⟨b, 0, none⟩), .int .i64 i, .bool true, .int .i64 n, .int .i64 k] w fun e w' => e = .returned (.int .i64 0) ∧ ∃ own' R', P R' ∧ RoomB A own' rid w' b R' ∧ Upd own own' (inRoom rid) w w' := by
 have HT := hide (rpeek_1_yes own rid b R i n _ t L w h.room ht hL hq)
 have HE : Hid (∀ w, Calls Try.prog 66 #[.bool true] w fun e w' => e = .returned (.int .i64 1) ∧ w' = w) := hide (fun w => end_any true w)
 obtain ⟨lb, hA⟩ := h.where hL
 have hi : i < R.texts.length := by have := (List.getElem?_eq_some_iff.1 hL).1; have := h.lens.2; omega
 have hi1 : (i : Int) < (R.texts.length : Int) := by omega
 have hi2 : (0 : Int) ≤ (i : Int) := by omega
 have hn2 : (0 : Int) ≤ (n : Int) := by omega
 have hno := (List.getElem?_eq_some_iff.1 hq).1
 have hns := (List.getElem?_eq_some_iff.1 hm).1
 have hn3 : (n : Int) < (L.b.spoilt.length : Int) := by omega
 have hn4 : (n : Int) < (L.b.out.length : Int) := by omega
 have hk0 : ¬ k < 0 := by omega
 have hk3 : ¬ 3 < k := by omega
 have hk2 : (k == 2) = false := by rw [beq_eq_false_iff_ne]; omega
 have hk4 : (k == 3) = false := by rw [beq_eq_false_iff_ne]; omega
 have HX : Hid (∀ w1, Below w.heap.size w w1 → RoomB A own rid w1 b R ∧ _) := hide fun w1 hb => ⟨h.upd (Upd.of_below own (fun _ => False) hb) (fun _ _ h => h), (h.upd (Upd.of_below own (fun _ => False) hb) (fun _ _ h => h)).fate1 hL hA hq hm⟩
 obtain ⟨i1, hi0, hz0, hz1, hz2⟩ := info_parts Try.info9
 obtain ⟨i2, hjb0, hy0, hy1, hy2⟩ := info_parts Try.info4
 have HP0 := hide hP0
 have HP1 := hide hP1
 clear h hP0 hP1
 go_enter Try.func59, Try.ntmps59
 go_wp2_with fail
 refine (unhide HT).mono ?_
 rintro e w1 ⟨rfl, hb⟩
 obtain ⟨hR1, lg, lc, og, oc, sg, sc, c3, c5, d10, d12, d1, d2⟩ := unhide HX w1 hb
 have HB := hide (Upd.of_below own (inRoom rid) hb)
 obtain ⟨hcs, hsc, g1, g2, g3⟩ : (∀ (j : Nat) x, L.b.out[j]? = some x → w1.cell? ⟨og, j, none⟩ = some (.string x)) ∧ (∀ (j : Nat) x, L.b.spoilt[j]? = some x → w1.cell? ⟨sg, j, none⟩ = some (.bool x)) ∧ og < w1.heap.size ∧ sg < w1.heap.size ∧ lb < w1.heap.size := by
  obtain ⟨r0, r1, k0, k1, o0, o1, s0, s1, hc, ⟨_, _, x0, y0⟩, ⟨_, _, x1, y1⟩⟩ := hR1.lineAt hL hA
  have e1 : o1 = .slice (some ⟨og, 0, none⟩) L.b.out.length oc := by
   have := hc.cell 11; rw [d10] at this; simpa using this.symm
  have e2 : s1 = .slice (some ⟨sg, 0, none⟩) L.b.spoilt.length sc := by
   have := hc.cell 13; rw [d12] at this; simpa using this.symm
  subst e1 e2
  refine ⟨fun j x hx => ?_, fun j x hx => ?_, ?_, ?_, hc.lt⟩
  ·obtain ⟨og', oc', q1, _, _, q2, _⟩ := x1.get (i := j) (u := .string x) (by simp [hx])
   simp only [Value.slice.injEq, Option.some.injEq, Addr.mk.injEq, and_true] at q1
   obtain ⟨rfl, _, _⟩ := q1
   exact q2
  ·obtain ⟨og', oc', q1, _, _, q2, _⟩ := y1.get (i := j) (u := .bool x) (by simp [hx])
   simp only [Value.slice.injEq, Option.some.injEq, Addr.mk.injEq, and_true] at q1
   obtain ⟨rfl, _, _⟩ := q1
   exact q2
  ·obtain ⟨og', oc', q1, _, _, _, _, _, q3⟩ := x1.get (i := n) (u := .string s) (by simp [hq])
   simp only [Value.slice.injEq, Option.some.injEq, Addr.mk.injEq, and_true] at q1
   obtain ⟨rfl, _, _⟩ := q1
   exact q3
  ·obtain ⟨og', oc', q1, _, _, _, _, _, q3⟩ := y1.get (i := n) (u := .bool m) (by simp [hm])
   simp only [Value.slice.injEq, Option.some.injEq, Addr.mk.injEq, and_true] at q1
   obtain ⟨rfl, _, _⟩ := q1
   exact q3
 have hfz : ∀ q, w1.frozen? ⟨lb, q, none⟩ = false := (hR1.lineAt hL hA).cells.2.2.2.2.2.2
 obtain ⟨M, hM⟩ := fresh_tag own w1.heap.size
 have hnt : ∀ q, q < w1.heap.size → ¬ (own q = (0, 0, M) ∨ own q = (0, 0, M + 1)) := by
  intro q hq'
  have := hM q hq'
  rintro (e1 | e1) <;> rw [e1] at this <;> simp at this <;> omega
 have HR1 := hide hR1
 have HM := hide hM
 have HCS := hide hcs
 have HSC := hide hsc
 have HFZ := hide hfz
 have HNT := hide hnt
 clear hb HT HX hR1 hM hcs hsc hfz hnt
 go_wp2_with (first | (go_at_call 66; refine (unhide HE _).mono ?_; rintro e w' ⟨rfl, hw'⟩; obtain rfl := hw'.symm))
 go_loopw [16, 17, 18] (fun v16 v17 v18 wr => ∃ j : Nat, j ≤ L.b.out.length ∧ v18 = .int .i64 j ∧ ∃ own', OwnsT own' (0, 0, M) wr 9 1 v16 ((L.b.out.take j).eraseIdx n).length (((L.b.out.take j).eraseIdx n).map Value.string) ∧ OwnsT own' (0, 0, M + 1) wr 4 1 v17 ((L.b.spoilt.take j).eraseIdx n).length (((L.b.spoilt.take j).eraseIdx n).map Value.bool) ∧ Upd own own' (fun t => t = (0, 0, M) ∨ t = (0, 0, M + 1)) w1 wr) (fun _ _ v18 _ => L.b.out.length - (intOf v18).toNat)
 case atStart => exact ⟨0, by omega, rfl, own, by simpa using OwnsT.nil own (0, 0, M) _ _ _, by simpa using OwnsT.nil own (0, 0, M + 1) _ _ _, Upd.refl _ _ _⟩
 case round =>
  obtain ⟨j, hj, rfl, own', o1, o2, hU⟩ := hrel
  have x10 := hU.cell d10 (unhide HNT _ g3)
  have x12 := hU.cell d12 (unhide HNT _ g3)
  have z10 := hU.frozen g3 (unhide HNT _ g3) (unhide HFZ 11)
  have z12 := hU.frozen g3 (unhide HNT _ g3) (unhide HFZ 13)
  have sz := hU.size
  by_cases hlt : j < L.b.out.length
  ·have hlt' : (j : Int) < (L.b.out.length : Int) := by omega
   have hlt2 : (j : Int) < (L.b.spoilt.length : Int) := by omega
   have hj0 : (0 : Int) ≤ (j : Int) := by omega
   obtain ⟨x, hx⟩ : ∃ x, L.b.out[j]? = some x := ⟨_, List.getElem?_eq_getElem hlt⟩
   obtain ⟨y, hy⟩ : ∃ y, L.b.spoilt[j]? = some y := ⟨_, List.getElem?_eq_getElem (by omega)⟩
   by_cases hjn : j = n
   ·have hjn' : ((j : Int) == (n : Int)) = true := by rw [beq_iff_eq]; omega
    have hjn2 : (j : Int) = (n : Int) := by omega
    have HNX : Hid (∃ own', OwnsT own' (0, 0, M) wr 9 1 u16 ((L.b.out.take (j + 1)).eraseIdx n).length (((L.b.out.take (j + 1)).eraseIdx n).map Value.string) ∧ OwnsT own' (0, 0, M + 1) wr 4 1 u17 ((L.b.spoilt.take (j + 1)).eraseIdx n).length (((L.b.spoilt.take (j + 1)).eraseIdx n).map Value.bool) ∧ Upd own own' (fun t => t = (0, 0, M) ∨ t = (0, 0, M + 1)) w1 wr) := by
     apply hide
     subst hjn
     rw [erase_same hx, erase_same hy]
     exact ⟨own', o1, o2, hU⟩
    clear o1 o2 hU
    go_wp2
    go_roundw
    case rel => exact ⟨j + 1, by omega, by go_num, unhide HNX⟩
    case measure => simp [intOf]; omega
   ·have hjn' : ((j : Int) == (n : Int)) = false := by rw [beq_eq_false_iff_ne]; omega
    have hjn2 : ¬ (j : Int) = (n : Int) := by omega
    have y1 := hU.cell (unhide HCS j x hx) (unhide HNT _ g1)
    have hl1 : ((L.b.out.take j).eraseIdx n).length ≤ 12 := Nat.le_trans (List.length_eraseIdx_le _ _) (by simp; omega)
    have hl2 : ((L.b.spoilt.take j).eraseIdx n).length ≤ 12 := Nat.le_trans (List.length_eraseIdx_le _ _) (by simp; omega)
    have p1 : ¬ (lb = wr.heap.size) := by omega
    have p2 : ¬ (og = wr.heap.size) := by omega
    have p3 : ¬ (sg = wr.heap.size) := by omega
    have HES := hide (erase_step hx hjn)
    have HET := hide (erase_step hy hjn)
    generalize (L.b.out.take j).eraseIdx n = xs at *
    generalize (L.b.spoilt.take j).eraseIdx n = ys at *
    have HU := hide hU
    have HO2 := hide o2
    clear hU o2
    go_wp2_with (at_builtin; go_must (refine wpList_append_T _ rfl (.tmp 134) (.tmp 144) 28 rfl 9 i1 (.string ⟨#[]⟩) 1 16 Try.underlying28 hi0 hz0 hz1 hz2 rfl (by decide) _ xs.length _ own' (0, 0, M) rfl (o1.alloc _) ⟨wr.heap.size, 0, none⟩ 1 1 [.string x] rfl rfl (World.news_of_block (cs := #[.string x]) (t := 9) (fr := (0, 0)) (heap_alloc_new wr _)) (by simp [Value.oneCell']) (by simp [maxLen]; omega) (by omega) ?_))
    intro v1 w2 ho1 hu1
    have U1 : Upd own _ (fun t => t = (0, 0, M) ∨ t = (0, 0, M + 1)) w1 w2 := ((unhide HU).alloc _).trans (hu1.mono (fun t h => .inl h))
    have o2' := ((unhide HO2).alloc _).upd hu1 (by simp)
    have sz2 := U1.size
    have x10b := U1.cell d10 (unhide HNT _ g3)
    have x12b := U1.cell d12 (unhide HNT _ g3)
    have y2b := U1.cell (unhide HSC j y hy) (unhide HNT _ g2)
    have p1b : ¬ (lb = w2.heap.size) := by omega
    have p2b : ¬ (og = w2.heap.size) := by omega
    have p3b : ¬ (sg = w2.heap.size) := by omega
    have HU1 := hide U1
    have HO1 := hide ho1
    clear o1 hu1 U1 ho1 HU HO2 x10 x12 z10 z12 y1
    generalize retag own' _ (0, 0, M) = ownA at *
    go_wp2_with (at_builtin; go_must (refine wpList_append_T _ rfl (.tmp 146) (.tmp 156) 119 rfl 4 i2 (.bool false) 1 1 Try.underlying119 hjb0 hy0 hy1 hy2 rfl (by decide) _ ys.length _ ownA (0, 0, M + 1) rfl (o2'.alloc _) ⟨w2.heap.size, 0, none⟩ 1 1 [.bool y] rfl rfl (World.news_of_block (cs := #[.bool y]) (t := 4) (fr := (0, 0)) (heap_alloc_new w2 _)) (by simp [Value.oneCell']) (by simp [maxLen]; omega) (by omega) ?_))
    intro v2 w3 ho2 hu2
    have HNX : Hid (∃ own', OwnsT own' (0, 0, M) w3 9 1 v1 ((L.b.out.take (j + 1)).eraseIdx n).length (((L.b.out.take (j + 1)).eraseIdx n).map Value.string) ∧ OwnsT own' (0, 0, M + 1) w3 4 1 v2 ((L.b.spoilt.take (j + 1)).eraseIdx n).length (((L.b.spoilt.take (j + 1)).eraseIdx n).map Value.bool) ∧ Upd own own' (fun t => t = (0, 0, M) ∨ t = (0, 0, M + 1)) w1 w3) := by
     apply hide
     rw [unhide HES, unhide HET]
     refine ⟨_, ?_, ?_, ((unhide HU1).alloc _).trans (hu2.mono (fun t h => .inr h))⟩
     ·have := ((unhide HO1).alloc (.cells #[.bool y] 4)).upd hu2 (by simp)
      simpa using this
     ·simpa using ho2
    clear o2' hu2 ho2 HU1 HO1 x10b x12b y2b
    go_wp2
    go_roundw
    case rel => exact ⟨j + 1, by omega, by go_num, unhide HNX⟩
    case measure => simp [intOf]; omega
  ·obtain rfl : j = L.b.out.length := by omega
   have hlt' : ¬ (L.b.out.length : Int) < (L.b.out.length : Int) := by omega
   rw [List.take_length] at o1
   rw [List.take_of_length_le (by omega)] at o2
   obtain ⟨oa, ocp, rfl, _, _⟩ := o1.shape
   obtain ⟨sa, scp, rfl, _, _⟩ := o2.shape
   obtain ⟨ownF, hRF, hUF⟩ := (unhide HR1).lose1 hL hA (unhide HM) o1 o2 hU
   have HRF := hide hRF
   have HUF := hide ((unhide HB).trans hUF)
   clear o1 o2 hU hRF hUF HR1 HM HCS HSC HFZ HNT
   by_cases k0 : k = 0
   ·subst k0
    cases m with
    | false =>
     have HC : Hid (Calls Try.prog 79 #[.pointer (some ⟨b, 0, none⟩), .int .i64 i, .int .i64 0, .string s] ((wr.setCell ⟨lb, 11, none⟩ (.slice oa (L.b.out.eraseIdx n).length ocp)).setCell ⟨lb, 13, none⟩ (.slice sa (L.b.spoilt.eraseIdx n).length scp)) fun r w' => r = .returned (.tuple #[]) ∧ ∃ own' R', P R' ∧ RoomB A own' rid w' b R' ∧ Upd own own' (inRoom rid) w w') := by
      apply hide
      refine (unhide HP1 ⟨rfl, rfl⟩ ownF _ (unhide HRF)).mono ?_
      rintro r w' ⟨rfl, own2, R2, p1, p2, p3⟩
      exact ⟨rfl, own2, R2, p1, p2, (unhide HUF).trans p3⟩
     clear HRF HUF HP0 HP1
     go_wp2_with fail
     refine (unhide HC).mono ?_
     rintro r w5 ⟨rfl, hF⟩
     have HF := hide hF
     clear hF HC
     go_wp2
     go_ret
     exact ⟨rfl, unhide HF⟩
    | true =>
     have HF : Hid (∃ own' R', P R' ∧ RoomB A own' rid ((wr.setCell ⟨lb, 11, none⟩ (.slice oa (L.b.out.eraseIdx n).length ocp)).setCell ⟨lb, 13, none⟩ (.slice sa (L.b.spoilt.eraseIdx n).length scp)) b R' ∧ Upd own own' (inRoom rid) w ((wr.setCell ⟨lb, 11, none⟩ (.slice oa (L.b.out.eraseIdx n).length ocp)).setCell ⟨lb, 13, none⟩ (.slice sa (L.b.spoilt.eraseIdx n).length scp))) := hide ⟨ownF, _, unhide HP0 (by simp), unhide HRF, unhide HUF⟩
     clear HRF HUF HP0 HP1
     go_wp2
     go_ret
     exact ⟨rfl, unhide HF⟩
   ·have HF : Hid (∃ own' R', P R' ∧ RoomB A own' rid ((wr.setCell ⟨lb, 11, none⟩ (.slice oa (L.b.out.eraseIdx n).length ocp)).setCell ⟨lb, 13, none⟩ (.slice sa (L.b.spoilt.eraseIdx n).length scp)) b R' ∧ Upd own own' (inRoom rid) w ((wr.setCell ⟨lb, 11, none⟩ (.slice oa (L.b.out.eraseIdx n).length ocp)).setCell ⟨lb, 13, none⟩ (.slice sa (L.b.spoilt.eraseIdx n).length scp))) := hide ⟨ownF, _, unhide HP0 (fun h => k0 h.1), unhide HRF, unhide HUF⟩
    have k0' : (k == 0) = false := by rw [beq_eq_false_iff_ne]; exact k0
    clear HRF HUF HP0 HP1
    go_wp2
    go_ret
    exact ⟨rfl, unhide HF⟩
end Go.Proofs.Ytemkgikncmhoaaa

