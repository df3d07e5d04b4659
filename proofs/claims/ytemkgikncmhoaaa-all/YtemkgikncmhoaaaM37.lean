import Derived.Test.YtemkgikncmhoaaaM33
import Derived.Test.YtemkgikncmhoaaaM35
import Derived.Test.YtemkgikncmhoaaaM36
namespace Go.Proofs.Ytemkgikncmhoaaa
open Go.RowKit
attribute [local go_sem ↓] Go.wp_at_zero Go.wp_at_succ

set_option maxRecDepth 100000 in
set_option maxHeartbeats 20000000 in
theorem form_walk_1 (rid c b i k : Nat) (hrid : rid ≠ 0)
  (IH : ∀ (own : Nat → Tag) (w : World) (L : RLine) (n : Nat), FormC own rid c w b L → n < k → Asked (histOf L.a.rows) (histOf L.b.rows) (n + 1) i →
   Calls Try.prog 104 #[.pointer (some ⟨b, 0, none⟩), .int .i64 0, .int .i64 ((n : Int) + 1), .int .i64 i] w fun r w' => r = .returned (form (histOf L.a.rows) (histOf L.b.rows) (n + 1) i).vl ∧ ∃ own' ra rb, FormR own rid c w b L 0 (n + 1) i own' ra rb w')
  (own : Nat → Tag) (w : World) (L : RLine) (h : FormC own rid c w b L) (hA : Asked (histOf L.b.rows) (histOf L.a.rows) (i + 1) k) :
  Calls Try.prog 104 #[.pointer (some ⟨b, 0, none⟩), .int .i64 1, .int .i64 ((i : Int) + 1), .int .i64 k] w fun r w' => r = .returned (form (histOf L.b.rows) (histOf L.a.rows) (i + 1) k).vl ∧ ∃ own' ra rb, FormR own rid c w b L 1 (i + 1) k own' ra rb w' := by
 have hi : i < L.b.rows.length := by have := hA.il; rw [histOf_len] at this; omega
 have hk : k ≤ 240 := by have := hA.kl; rw [histOf_len] at this; have := h.la; omega
 have hi240 : i < 240 := by have := h.lb; omega
 have hblt := h.line.lt
 have V0 : Upd own (retag own w.heap.size (0, 0, 0)) (fun _ => False) w (w.alloc (.cells zeroOp 149)) := Upd.retag ((Upd.refl own (fun _ => False) w).alloc _) _ _ (Nat.le_refl _)
 have F0 := (FormR.start h.line h.ma h.mb 1 (i + 1) k).scratch V0
 have B0 : CellsT (retag own w.heap.size (0, 0, 0)) (0, 0, 0) (w.alloc (.cells zeroOp 149)) w.heap.size zeroOp 149 := CellsT.new w _ _ _ _
 obtain ⟨g, N, cap, hg⟩ : ∃ g N cap, w.cell? ⟨b, 1, none⟩ = some (.slice (some ⟨g, 0, none⟩) N cap) := by
  obtain ⟨r0, r1, k0, k1, o0, o1, s0, s1, hc, ⟨a1, a2, a3, a4⟩, ⟨b1, b2, b3, b4⟩⟩ := h.line
  obtain ⟨m, hm⟩ : ∃ m, L.b.rows[i]? = some m := ⟨_, List.getElem?_eq_getElem (by omega)⟩
  obtain ⟨g, cap, fb, fc, hr, _⟩ := b1.msg hm (h.mb i m hm).1
  exact ⟨g, _, cap, by rw [hc.cell, hr]; rfl⟩
 have HS0 : Hid (∃ own1 ra rb, FormR own rid c w b L 1 (i + 1) k own1 ra rb (w.alloc (.cells zeroOp 149)) ∧ CellsT own1 (0, 0, 0) (w.alloc (.cells zeroOp 149)) w.heap.size zeroOp 149) := hide ⟨_, _, _, F0, B0⟩
 have HG := hide hg
 have HIH := hide IH
 have HC := hide h
 have HA := hide hA
 clear IH h hA V0 F0 B0 hg
 unfold zeroOp at *
 generalize hW0 : w.alloc (.cells #[.int .i64 0, .int .i64 0, .int .i64 0, .int .u8 0] 149) = W0 at *
 have HW0 := hide hW0
 clear hW0
 go_enter Try.func104, Try.ntmps104
 go_wp2_with fail
 rw [unhide HW0]
 have hblt2 := hide hblt
 clear hblt
 generalize hM : w.heap.size = M at HS0 ⊢
 have HMl := hide (Nat.le_of_eq hM)
 clear hM
 go_loopw [] (fun wr => ∃ own1 ra rb, FormR own rid c w b L 1 (i + 1) k own1 ra rb wr ∧ CellsT own1 (0, 0, 0) wr M #[.int .i64 0, .int .i64 0, .int .i64 0, .int .u8 0] 149) (fun wr => k + 1 - lenOf (wr.cell? ⟨g, i * 2 + 1, none⟩))
 case atStart => exact unhide HS0
 case round =>
  obtain ⟨own1, ra, rb, hF, hB⟩ := hrel
  clear HS0
  obtain ⟨m, fb, fc, hm, hne, hlN, c0, tg, lg, lb, hiN, c1, c2, f2, hO, tf, lf, hcs, hctx, hyl, hfm⟩ := FormR.open1 hF hi (unhide hblt2) (unhide HG)
  have hy1 : 1 ≤ m.forms.length := by
   cases hq : m.forms with
   | nil => exact absurd hq hne
   | cons _ _ => simp
  have hck : m.ctx ≤ k := by rw [hctx]; exact (unhide HA).ck
  rw [histOf_len] at hyl
  have hll := (unhide HC).la
  have hiN' : (i : Int) < (N : Int) := by omega
  have hBl := hB.lt
  have d1 : ¬ (b = wr.heap.size) := by omega
  have d2 : ¬ (g = wr.heap.size) := by omega
  have d3 : ¬ (fb = wr.heap.size) := by omega
  have d4 : ¬ (M = wr.heap.size) := by omega
  by_cases hnk : m.ctx + m.forms.length ≤ k
  ·obtain ⟨n, hn⟩ : ∃ n, m.ctx + m.forms.length = n + 1 := ⟨m.ctx + m.forms.length - 1, by omega⟩
   have hn' : (m.ctx : Int) + (m.forms.length : Int) - 1 = (n : Int) := by omega
   have hlt : ¬ ((k : Int) ≤ (m.ctx : Int) + (m.forms.length : Int) - 1) := by omega
   obtain ⟨j, hj⟩ : ∃ j, m.forms.length = j + 1 := ⟨m.forms.length - 1, by omega⟩
   obtain ⟨o, ho⟩ : ∃ o, m.forms[j]? = some o := ⟨_, List.getElem?_eq_getElem (by omega)⟩
   have hoV := hfm j o ho
   have hj9 : j ≤ 1000 := by omega
   have HREC : Hid (Calls Try.prog 104 #[.pointer (some ⟨b, 0, none⟩), .int .i64 0, .int .i64 ((n : Int) + 1), .int .i64 i] (wr.alloc (.cells #[.int .i64 m.ctx, .slice (some ⟨fb, 0, none⟩) m.forms.length fc] 167)) fun r w' => r = .returned (form (histOf L.a.rows) (histOf L.b.rows) (n + 1) i).vl ∧
     ∃ own3 ra3 rb3, FormR own rid c w b L 1 (i + 1) k own3 ra3 rb3 w' ∧ rb3[i]? = some m ∧ CellsT own3 (0, 0, 0) w' M #[.int .i64 0, .int .i64 0, .int .i64 0, .int .u8 0] 149 ∧ CellsT own3 (0, 0, 0) w' wr.heap.size #[.int .i64 m.ctx, .slice (some ⟨fb, 0, none⟩) m.forms.length fc] 167 ∧
      w'.cell? ⟨g, i * 2 + 1, none⟩ = some (.slice (some ⟨fb, 0, none⟩) m.forms.length fc)) := by
    apply hide
    have V1 : Upd own1 (retag own1 wr.heap.size (0, 0, 0)) (fun _ => False) wr (wr.alloc (.cells #[.int .i64 m.ctx, .slice (some ⟨fb, 0, none⟩) m.forms.length fc] 167)) := Upd.retag ((Upd.refl own1 (fun _ => False) wr).alloc _) _ _ (Nat.le_refl _)
    have F1 := hF.scratch V1
    have B1 := hB.upd V1 (fun h => h)
    have M1 : CellsT (retag own1 wr.heap.size (0, 0, 0)) (0, 0, 0) (wr.alloc (.cells #[.int .i64 m.ctx, .slice (some ⟨fb, 0, none⟩) m.forms.length fc] 167)) wr.heap.size _ _ := CellsT.new wr _ _ own1 (0, 0, 0)
    have x1 : histOf (L.withRows ra rb).a.rows = histOf L.a.rows := hF.ha
    have x2 : histOf (L.withRows ra rb).b.rows = histOf L.b.rows := hF.hb
    have l1 : (L.withRows ra rb).a.rows.length = L.a.rows.length := by rw [← histOf_len, x1, histOf_len]
    have l2 : (L.withRows ra rb).b.rows.length = L.b.rows.length := by rw [← histOf_len, x2, histOf_len]
    have FC : FormC (retag own1 wr.heap.size (0, 0, 0)) rid c (wr.alloc (.cells #[.int .i64 m.ctx, .slice (some ⟨fb, 0, none⟩) m.forms.length fc] 167)) b (L.withRows ra rb) := by
     have hC := unhide HC
     exact ⟨F1.line, by rw [x1, x2]; exact hF.ma, by rw [x1, x2]; exact hF.mb, by rw [x1, x2]; exact hC.hist, by rw [x1]; exact hC.oa, by rw [x2]; exact hC.ob, by rw [l1]; exact hC.la, by rw [l2]; exact hC.lb⟩
    have AS : Asked (histOf L.a.rows) (histOf L.b.rows) (n + 1) (i + 1 - 1) := (unhide HA).sub (unhide HC).hist.swap (by rw [← hctx]; omega) (by omega)
    rw [Nat.add_sub_cancel] at AS
    have key := unhide HIH _ _ _ n FC (by omega) (by rw [x1, x2]; exact AS)
    rw [x1, x2] at key
    refine key.mono ?_
    rintro r w3 ⟨rfl, own3, ra3, rb3, G⟩
    have F3 := F1.within (n := n + 1) (by omega) (by omega) (by rw [Nat.add_sub_cancel]; exact G)
    have nm : ∀ x y z t, ¬ mayF rid c x y z (0, 0, t) := fun x y z t h => hrid h.1.symm
    refine ⟨rfl, own3, ra3, rb3, F3, ?_, B1.upd G.upd (nm _ _ _ _), M1.upd G.upd (nm _ _ _ _), ?_⟩
    ·have := G.fo i (Nat.le_refl _)
     simp only [RLine.row, RLine.withRows] at this
     simp at this
     rw [this]; exact hm
    ·rw [G.co g (i * 2 + 1) (by rw [retag_lt lg]; exact tg) (by simp; omega) (by omega), World.cell?_alloc_lt _ _ _ lg]
     exact c2
   have HWR := hide c2
   have HFM := hide hfm
   have HNE := hide hne
   have HCT := hide hctx
   have HJ := hide hj
   have HN := hide hn
   clear hF hB hO hcs hfm hm hne hctx HW0 hn HIH hj
   unfold ROp.vl at HREC
   generalize hbop : form (histOf L.a.rows) (histOf L.b.rows) (n + 1) i = bop at HREC
   have HBOP := hide hbop
   clear hbop
   go_wp2_with fail
   refine (unhide HREC).mono ?_
   rintro r w3 ⟨rfl, own3, ra3, rb3, hF3, hm3, hB3, hMm3, hd3⟩
   clear HREC c0 c1 c2 f2 d1 d2 d3 d4 tg lg lb tf lf hBl
   obtain ⟨m', fb', fc', hm3', hne3, hlN3, c0, tg, lg, lb, _, c1, c2, f2, hO3, tf, lf, hcs3, _, _, _⟩ := FormR.open1 hF3 hi (unhide hblt2) (unhide HG)
   obtain rfl : m = m' := by rw [hm3] at hm3'; simpa using hm3'
   rw [hd3] at c2
   simp only [Option.some.injEq, Value.slice.injEq, Addr.mk.injEq, and_true, true_and] at c2
   obtain ⟨rfl, rfl⟩ := c2
   obtain ⟨x0, x1, x2, x3⟩ := hcs3 j o ho
   have hBl := hB3.lt
   have hPl := hMm3.lt
   have p0 := hMm3.cell 0
   have p1 := hMm3.cell 1
   simp only [List.getElem?_toArray, List.getElem?_cons_zero, List.getElem?_cons_succ] at p0 p1
   have d5 : ¬ (wr.heap.size = w3.heap.size) := by omega
   have d6 : ¬ (fb = w3.heap.size) := by omega
   have HT : Hid (∀ W, Calls Try.prog 107 #[o.vl, bop.vl] W fun e w' => e = .returned (o.turn bop).vl ∧ Below W.heap.size W w') := by
    apply hide
    intro W
    have hC := unhide HC
    have hA := unhide HA
    have h5 := hA.kl
    have h6 := unhide HJ
    refine turn_any o bop W ?_ ?_
    ·rw [hoV]; exact form_Tiny hC.ob _ _ (by omega) hA.il (by omega)
    ·rw [← unhide HBOP]; exact form_Tiny hC.oa _ _ (by omega) (by omega) (by omega)
   have HO3 := hide hO3
   have HF3 := hide hF3
   have HM3 := hide hm3
   have HB3 := hide hB3
   have HHO := hide ho
   have HOV := hide hoV
   clear hO3 hF3 hm3 hm3' hB3 hMm3 hcs3 hne3 ho hoV
   unfold ROp.vl at HT
   generalize hPP : wr.heap.size = PP at *
   have HPP := hide hPP
   clear hPP
   go_wp2_with fail
   have hW4 : Below w3.heap.size w3 (w3.alloc (.cells #[.int .i64 bop.client, .int .i64 bop.verb, .int .i64 bop.place, .int .u8 bop.letter] 149)) := (Below.refl _ _).alloc (Nat.le_refl _) _
   have HW4 := hide hW4
   have p1' := (hW4.cell (p := ⟨PP, 1, none⟩) hPl).trans p1
   rw [unhide HJ] at p1'
   have hj3 : (0 : Int) ≤ (j : Int) := by omega
   have hj4 : (j : Int) < (j : Int) + 1 := by omega
   have hj5 : ¬ ((j : Int) + 1 - 1 < 0) := by omega
   have hj6 : (j : Int) + 1 - 1 < (j : Int) + 1 := by omega
   have hj7 : j < j + 1 := by omega
   have hwj : IntKind.i64.wrap ((j : Int) + 1 - 1) = (j : Int) := by rw [IntKind.wrap_i64]; omega
   have hwj2 : IntKind.i64.wrap (j : Int) = (j : Int) := by rw [IntKind.wrap_i64]; omega
   have x0' := (hW4.cell (p := ⟨fb, j * 4, none⟩) lf).trans x0
   have x1' := (hW4.cell (p := ⟨fb, j * 4 + 1, none⟩) lf).trans x1
   have x2' := (hW4.cell (p := ⟨fb, j * 4 + 2, none⟩) lf).trans x2
   have x3' := (hW4.cell (p := ⟨fb, j * 4 + 3, none⟩) lf).trans x3
   have yy : ∀ k, (w3.alloc (.cells #[.int .i64 bop.client, .int .i64 bop.verb, .int .i64 bop.place, .int .u8 bop.letter] 149)).cell? ⟨w3.heap.size, k, none⟩ = #[.int .i64 bop.client, .int .i64 bop.verb, .int .i64 bop.place, .int .u8 bop.letter][k]? := fun k => World.cell?_alloc_new _ _ _ _
   have y0 := yy 0
   have y1 := yy 1
   have y2 := yy 2
   have y3 := yy 3
   simp only [List.getElem?_toArray, List.getElem?_cons_zero, List.getElem?_cons_succ] at y0 y1 y2 y3
   have s4 : w3.heap.size < (w3.alloc (.cells #[.int .i64 bop.client, .int .i64 bop.verb, .int .i64 bop.place, .int .u8 bop.letter] 149)).heap.size := by simp
   clear p0 p1 x0 x1 x2 x3 yy hW4 d5 d6
   generalize w3.alloc (.cells #[.int .i64 bop.client, .int .i64 bop.verb, .int .i64 bop.place, .int .u8 bop.letter] 149) = W4 at *
   have n1 : ¬ (PP = W4.heap.size) := by omega
   have n2 : ¬ (fb = W4.heap.size) := by omega
   have n3 : ¬ (w3.heap.size = W4.heap.size) := by omega
   have n4 : ¬ (W4.heap.size = PP) := by omega
   have n5 : ¬ (W4.heap.size = fb) := by omega
   have n6 : ¬ (W4.heap.size = w3.heap.size) := by omega
   have HS3 := hide s4
   generalize hN3 : w3.heap.size = N3 at *
   have HN3 := hide hN3
   clear hN3
   go_cut [12] (fun v12 wc => ∃ q, v12 = .pointer (some ⟨q, 0, none⟩) ∧ N3 ≤ q ∧ wc.heap[q]? = some (.cells #[.int .i64 (o.turn bop).client, .int .i64 (o.turn bop).verb, .int .i64 (o.turn bop).place, .int .u8 (o.turn bop).letter] 149 (0, 0)) ∧ Below N3 w3 wc)
   case first =>
    go_region_held3 (fun w' => w'.cell? ⟨PP, 1, none⟩ = some (.slice (some ⟨fb, 0, none⟩) (j + 1) fc) ∧ w'.cell? ⟨fb, j * 4, none⟩ = some (.int .i64 o.client) ∧ w'.cell? ⟨fb, j * 4 + 1, none⟩ = some (.int .i64 o.verb) ∧ w'.cell? ⟨fb, j * 4 + 2, none⟩ = some (.int .i64 o.place) ∧ w'.cell? ⟨fb, j * 4 + 3, none⟩ = some (.int .u8 o.letter) ∧
     w'.cell? ⟨N3, 0, none⟩ = some (.int .i64 bop.client) ∧ w'.cell? ⟨N3, 1, none⟩ = some (.int .i64 bop.verb) ∧ w'.cell? ⟨N3, 2, none⟩ = some (.int .i64 bop.place) ∧ w'.cell? ⟨N3, 3, none⟩ = some (.int .u8 bop.letter)) (go_keep)
     (first | (go_at_call 107; refine (unhide HT _).mono ?_; rintro e w5 ⟨rfl, hb5⟩; have k1 := hb5.cell (p := ⟨PP, 1, none⟩) (by simp; omega); have k2 := hb5.cell (p := ⟨fb, j * 4, none⟩) (by simp; omega); have k3 := hb5.cell (p := ⟨fb, j * 4 + 1, none⟩) (by simp; omega); have k4 := hb5.cell (p := ⟨fb, j * 4 + 2, none⟩) (by simp; omega); have k5 := hb5.cell (p := ⟨fb, j * 4 + 3, none⟩) (by simp; omega); have k6 := hb5.cell (p := ⟨N3, 0, none⟩) (by simp; omega); have k7 := hb5.cell (p := ⟨N3, 1, none⟩) (by simp; omega); have k8 := hb5.cell (p := ⟨N3, 2, none⟩) (by simp; omega); have k9 := hb5.cell (p := ⟨N3, 3, none⟩) (by simp; omega); first | (have q0 := hb5.cell (p := ⟨W4.heap.size, 0, none⟩) (alloc_lt _ _); have q1 := hb5.cell (p := ⟨W4.heap.size, 1, none⟩) (alloc_lt _ _); have q2 := hb5.cell (p := ⟨W4.heap.size, 2, none⟩) (alloc_lt _ _); have q3 := hb5.cell (p := ⟨W4.heap.size, 3, none⟩) (alloc_lt _ _); have r0 := hb5.frozen (p := ⟨W4.heap.size, 0, none⟩) (alloc_lt _ _); have r1 := hb5.frozen (p := ⟨W4.heap.size, 1, none⟩) (alloc_lt _ _); have r2 := hb5.frozen (p := ⟨W4.heap.size, 2, none⟩) (alloc_lt _ _); have r3 := hb5.frozen (p := ⟨W4.heap.size, 3, none⟩) (alloc_lt _ _)) | skip))
    all_goals
     go_wp2
     go_meet
     case rel => first
      | exact turned_box1 (unhide HW4) (unhide HS3) hb5 _ _
      | exact turned_box2 (unhide HW4) (unhide HS3) hb5 _ _ _ _
   case rest =>
    obtain ⟨q, rfl, hq, hqb, hB5⟩ := hcut
    have U5 : Upd own3 own3 (fun _ => False) w3 wc := Upd.of_below own3 _ (by rw [unhide HN3]; exact hB5)
    have F5 := (unhide HF3).scratch U5
    have B5 := (unhide HB3).upd U5 (fun h => h)
    clear tg lg lb tf lf c0 c1 f2
    obtain ⟨m', fb', fc', hm5, hne5, hlN5, c0, tg, lg, lb, hiN5, c1, c2, f2, hO5, tf, lf, _, _, _, _⟩ := FormR.open1 F5 hi (unhide hblt2) (unhide HG)
    obtain rfl : m = m' := by have := unhide HM3; rw [this] at hm5; simpa using hm5
    have ql : q < wc.heap.size := (Array.getElem?_eq_some_iff.1 hqb).1
    have e0 : wc.cell? ⟨q, 0, none⟩ = some (.int .i64 (o.turn bop).client) := by simp [World.cell?, hqb]
    have e1 : wc.cell? ⟨q, 1, none⟩ = some (.int .i64 (o.turn bop).verb) := by simp [World.cell?, hqb]
    have e2 : wc.cell? ⟨q, 2, none⟩ = some (.int .i64 (o.turn bop).place) := by simp [World.cell?, hqb]
    have e3 : wc.cell? ⟨q, 3, none⟩ = some (.int .u8 (o.turn bop).letter) := by simp [World.cell?, hqb]
    have htn : o.turn bop = form (histOf L.b.rows) (histOf L.a.rows) (i + 1) (m.ctx + m.forms.length) := by
     have hN' := unhide HN
     have hJ' := unhide HJ
     have hA := unhide HA
     rw [unhide HOV, ← unhide HBOP, form_step _ _ (i + 1) (m.ctx + m.forms.length) (by omega) (by rw [← unhide HCT]; omega), show m.ctx + m.forms.length - 1 = m.ctx + j by omega, show m.ctx + m.forms.length = n + 1 by omega, Nat.add_sub_cancel]
    have hle5 : m.ctx + m.forms.length ≤ (histOf L.a.rows).length := by have := (unhide HA).kl; omega
    have HT5 := hide htn
    have HO5 := hide hO5
    have HF5 := hide F5
    have HB5 := hide B5
    have HM5 := hide hm5
    have hfl9 : m.forms.length ≤ 1000 := by have := unhide HJ; omega
    clear htn hO5 F5 B5 hm5 hne5 hqb hB5 U5
    clear p1' x0' x1' x2' x3' y0 y1 y2 y3 HT
    obtain ⟨i1, hi1, hz0, hz1, hz2⟩ := info_parts Try.info149
    generalize o.turn bop = op at *
    have FIN : Hid (∀ na nc w6, OwnsT (retag own3 (wc.heap.size + 1) (rid, c, 20 + 2 * i + 1)) (rid, c, 20 + 2 * i + 1) w6 149 4 (.slice na (m.forms.length + 1) nc) (m.forms.length + 1) (m.forms.flatMap ROp.cells ++ [.int .i64 op.client, .int .i64 op.verb, .int .i64 op.place, .int .u8 op.letter]) →
      Upd own3 (retag own3 (wc.heap.size + 1) (rid, c, 20 + 2 * i + 1)) (fun x => x = (rid, c, 20 + 2 * i + 1)) (wc.alloc (Obj.cells #[.int .i64 op.client, .int .i64 op.verb, .int .i64 op.place, .int .u8 op.letter] 149)).drew w6 →
      (∃ own1 ra rb, FormR own rid c w b L 1 (i + 1) k own1 ra rb (w6.setCell ⟨g, i * 2 + 1, none⟩ (.slice na (m.forms.length + 1) nc)) ∧ CellsT own1 (0, 0, 0) (w6.setCell ⟨g, i * 2 + 1, none⟩ (.slice na (m.forms.length + 1) nc)) M #[.int .i64 0, .int .i64 0, .int .i64 0, .int .u8 0] 149) ∧
       (w6.setCell ⟨g, i * 2 + 1, none⟩ (.slice na (m.forms.length + 1) nc)).cell? ⟨g, i * 2 + 1, none⟩ = some (.slice na (m.forms.length + 1) nc)) := by
     apply hide
     intro na nc w6 ho hu
     have V6 : Upd own3 own3 (fun _ => False) wc (wc.alloc (Obj.cells #[.int .i64 op.client, .int .i64 op.verb, .int .i64 op.place, .int .u8 op.letter] 149)).drew := ((Upd.refl own3 (fun _ => False) wc).alloc _).drew
     have F6 := (unhide HF5).scratch V6
     have B6 := (unhide HB5).upd V6 (fun h => h)
     have c06 : ((wc.alloc (Obj.cells #[.int .i64 op.client, .int .i64 op.verb, .int .i64 op.place, .int .u8 op.letter] 149)).drew).cell? ⟨b, 1, none⟩ = some (.slice (some ⟨g, 0, none⟩) rb3.length cap) := by
      rw [hlN5]; exact V6.cell c0 (fun h => h)
     have G := FormR.grow1 F6 (unhide HM5) (unhide HNE) (o := op) (unhide HT5) hle5 c06 hu (f' := .slice na (m.forms.length + 1) nc) (by simpa [ROp.cells] using ho)
     have hgM : g ≠ M := fun e => by have := (unhide HB5).2; rw [← e, tg] at this; simp at this
     have tg6 : (retag own3 (wc.heap.size + 1) (rid, c, 20 + 2 * i + 1)) g = (rid, c, 1 + 1) := by rw [retag_lt (by omega)]; exact tg
     have B7 := (B6.upd hu (by simp [hrid.symm])).other (p := ⟨g, i * 2 + 1, none⟩) hgM (.slice na (m.forms.length + 1) nc)
     have c26 : w6.cell? ⟨g, i * 2 + 1, none⟩ = some (.slice (some ⟨fb', 0, none⟩) m.forms.length fc') := hu.cell (V6.cell c2 (fun h => h)) (by rw [tg]; simp <;> omega)
     exact ⟨⟨_, _, _, G, B7⟩, World.cell?_setCell_same _ _ _ c26⟩
    have hfit1 : m.forms.length + 1 ≤ maxLen := by simp [maxLen]; omega
    have hfit2 : (m.forms.length + 1) * 32 ≤ 140737488355328 := by omega
    have hwi : IntKind.i64.wrap (i : Int) = (i : Int) := by rw [IntKind.wrap_i64]; omega
    have hi0 : (0 : Int) ≤ (i : Int) := by omega
    have s1 : ¬ (b = wc.heap.size) := by omega
    have s2 : ¬ (g = wc.heap.size) := by omega
    have s3 : ¬ (q = wc.heap.size) := by omega
    have c0a : ∀ u, (wc.alloc u).cell? ⟨b, 1, none⟩ = some (.slice (some ⟨g, 0, none⟩) N cap) := fun u => by rw [World.cell?_alloc_lt _ _ _ lb]; exact c0
    have c2a : ∀ u, (wc.alloc u).cell? ⟨g, i * 2 + 1, none⟩ = some (.slice (some ⟨fb', 0, none⟩) m.forms.length fc') := fun u => by rw [World.cell?_alloc_lt _ _ _ lg]; exact c2
    have f2a : ∀ u, (wc.alloc u).frozen? ⟨g, i * 2 + 1, none⟩ = false := fun u => by
     have e : (wc.alloc u).heap[g]? = wc.heap[g]? := Below.heap_alloc _ _ _ lg
     unfold World.frozen? at f2 ⊢
     simp only [e]
     exact f2
    have tb : own3 b = (rid, c, 0) := by have := (unhide HF3).upd.tags b (unhide hblt2).1; rw [this]; exact (unhide hblt2).2
    go_wp2_with fail
    clear HFM HF3 HM3 HHO HOV HBOP HCT HN HJ HNE HT5 HF5 HB5 HM5 hj3 hj4 hj5 hj6 hj7 hwj hwj2 hPl hBl hd3 hlN3 HC HA HG hyl hck hll hnk hn' hj9
    go_region_law ((refine step_append_T _ (by rfl) _ _ _ (by rfl) 149 i1 _ 4 32 Try.underlying165 hi1 hz0 hz1 hz2 rfl (by omega) _ _ _ own3 (rid, c, 20 + 2 * i + 1) (by rfl) ((unhide HO5).alloc _).drew ⟨wc.heap.size, 0, none⟩ 1 1 [.int .i64 op.client, .int .i64 op.verb, .int .i64 op.place, .int .u8 op.letter] (by rfl) (by rfl) (World.news_of_block (cs := #[.int .i64 op.client, .int .i64 op.verb, .int .i64 op.place, .int .u8 op.letter]) (t := 149) (fr := (0, 0)) (heap_alloc_new wc _)) (by simp [Value.oneCell']) hfit1 hfit2 (wc.heap.size + 1) (by simp) ?_; intro na nc w6 hown6 hu6; have k0 := hu6.cell (c0a _) (by rw [tb]; simp <;> omega); have k2 := hu6.cell (c2a _) (by rw [tg]; simp <;> omega); have k3 := hu6.frozen (alloc_lt2 lg _) (by rw [tg]; simp <;> omega) (f2a _)))
    all_goals
     have KEY := unhide FIN _ _ _ hown6 hu6
     clear FIN hown6 hu6
     have HK1 := hide KEY.1
     have HK2 := hide KEY.2
     clear KEY
     go_wp2
     go_roundw
     case rel => exact unhide HK1
     case measure =>
      rw [unhide HK2, unhide HWR]
      show k + 1 - (m.forms.length + 1) < k + 1 - m.forms.length
      omega
  ·obtain ⟨j, hj⟩ : ∃ j, k = m.ctx + j := ⟨k - m.ctx, by omega⟩
   obtain ⟨o, ho⟩ : ∃ o, m.forms[j]? = some o := ⟨_, List.getElem?_eq_getElem (by omega)⟩
   obtain ⟨x0, x1, x2, x3⟩ := hcs j o ho
   have hval := hfm j o ho
   have hjk : (k : Int) - (m.ctx : Int) = (j : Int) := by omega
   have hjl : (j : Int) < (m.forms.length : Int) := by omega
   have hge : (k : Int) ≤ (m.ctx : Int) + (m.forms.length : Int) - 1 := by omega
   have y0 := hB.cell 0
   have y1 := hB.cell 1
   have y2 := hB.cell 2
   have y3 := hB.cell 3
   have z0 := hB.frozen 0
   have z1 := hB.frozen 1
   have z2 := hB.frozen 2
   have z3 := hB.frozen 3
   simp only [List.getElem?_toArray, List.getElem?_cons_zero, List.getElem?_cons_succ] at y0 y1 y2 y3
   have FIN : Hid (∀ u0 u1 u2 u3 ob, ∃ own' ra rb, FormR own rid c w b L 1 (i + 1) k own' ra rb (((((wr.setCell ⟨M, 0, none⟩ u0).setCell ⟨M, 1, none⟩ u1).setCell ⟨M, 2, none⟩ u2).setCell ⟨M, 3, none⟩ u3).alloc ob)) :=
    hide fun u0 u1 u2 u3 ob => ⟨own1, ra, rb, ((((hF.box hrid (unhide HMl) hB.2 0 u0).box hrid (unhide HMl) hB.2 1 u1).box hrid (unhide HMl) hB.2 2 u2).box hrid (unhide HMl) hB.2 3 u3).scratch ((Upd.refl own1 (fun _ => False) _).alloc ob)⟩
   have HBX : Hid (∀ u0 u1 u2 u3 ob, (((((wr.setCell ⟨M, 0, none⟩ u0).setCell ⟨M, 1, none⟩ u1).setCell ⟨M, 2, none⟩ u2).setCell ⟨M, 3, none⟩ u3).alloc ob).heap[M]? = some (.cells #[u0, u1, u2, u3] 149 (0, 0))) := by
    apply hide
    intro u0 u1 u2 u3 ob
    have := (((((hB.set 0 u0).set 1 u1).set 2 u2).set 3 u3).alloc ob).1
    simpa using this
   have HV := hide hval
   have HJ := hide hj
   clear hF hB hO hcs hfm hval hm hne hctx HIH HW0 hj
   go_wp2
   refine bodyPost_ret (results_cell_row (P := Try.prog) Try.results104 _ _ M 149 _ (0, 0) _ rfl (unhide HBX _ _ _ _ _) Try.underlying149 rfl Try.size149) rfl ?_
   refine ⟨?_, unhide FIN _ _ _ _ _⟩
   rw [unhide HJ, ← unhide HV]
   rfl
end Go.Proofs.Ytemkgikncmhoaaa

namespace Go.Proofs.Ytemkgikncmhoaaa
open Go.RowKit

/-- What Form answers, of row 0. -/
def Forms0 (rid c b i k : Nat) : Prop := ∀ (own : Nat → Tag) (w : World) (L : RLine), FormC own rid c w b L → Asked (histOf L.a.rows) (histOf L.b.rows) (i + 1) k →
 Calls Try.prog 104 #[.pointer (some ⟨b, 0, none⟩), .int .i64 0, .int .i64 ((i : Int) + 1), .int .i64 k] w fun r w' => r = .returned (form (histOf L.a.rows) (histOf L.b.rows) (i + 1) k).vl ∧ ∃ own' ra rb, FormR own rid c w b L 0 (i + 1) k own' ra rb w'
/-- What Form answers, of row 1. -/
def Forms1 (rid c b i k : Nat) : Prop := ∀ (own : Nat → Tag) (w : World) (L : RLine), FormC own rid c w b L → Asked (histOf L.b.rows) (histOf L.a.rows) (i + 1) k →
 Calls Try.prog 104 #[.pointer (some ⟨b, 0, none⟩), .int .i64 1, .int .i64 ((i : Int) + 1), .int .i64 k] w fun r w' => r = .returned (form (histOf L.b.rows) (histOf L.a.rows) (i + 1) k).vl ∧ ∃ own' ra rb, FormR own rid c w b L 1 (i + 1) k own' ra rb w'
theorem forms_both (rid c b : Nat) (hrid : rid ≠ 0) : ∀ N i k, i + k ≤ N → Forms0 rid c b i k ∧ Forms1 rid c b i k
 | 0, i, k, h => by
  refine ⟨fun own w L hC hA => form_walk_0 rid c b i k hrid (fun own w L n _ hn _ => by omega) own w L hC hA, fun own w L hC hA => form_walk_1 rid c b i k hrid (fun own w L n _ hn _ => by omega) own w L hC hA⟩
 | N + 1, i, k, h => by
  refine ⟨fun own w L hC hA => form_walk_0 rid c b i k hrid (fun own w L n hC' hn hA' => (forms_both rid c b hrid N n i (by omega)).2 own w L hC' hA') own w L hC hA, fun own w L hC hA => form_walk_1 rid c b i k hrid (fun own w L n hC' hn hA' => (forms_both rid c b hrid N n i (by omega)).1 own w L hC' hA') own w L hC hA⟩

/-- What a line is for Form, wherever it lies. -/
structure RLine.Good (L : RLine) : Prop where
 ma : MemoR (histOf L.a.rows) (histOf L.b.rows) L.a.rows
 mb : MemoR (histOf L.b.rows) (histOf L.a.rows) L.b.rows
 hist : Hist (histOf L.a.rows) (histOf L.b.rows)
 oa : OpsOk (histOf L.a.rows)
 ob : OpsOk (histOf L.b.rows)
 la : L.a.rows.length ≤ 240
 lb : L.b.rows.length ≤ 240
theorem RLine.Good.form0 {L : RLine} (h : L.Good) (rid i lb : Nat) (hrid : rid ≠ 0) {n k : Nat} (hA : Asked (histOf L.a.rows) (histOf L.b.rows) (n + 1) k) : FormOk rid i lb L 0 n k (form (histOf L.a.rows) (histOf L.b.rows) (n + 1) k) := by
 intro own W hW
 refine ((forms_both rid i lb hrid (n + k) n k (Nat.le_refl _)).1 own W L ⟨hW, h.ma, h.mb, h.hist, h.oa, h.ob, h.la, h.lb⟩ hA).mono ?_
 rintro r w' ⟨rfl, own', ra, rb, F⟩
 exact ⟨rfl, own', ra, rb, ⟨F.ha, F.hb, F.ma, F.mb⟩, F.line, F.upd.mono (fun t h => ⟨h.1, h.2.1⟩)⟩
theorem RLine.Good.form1 {L : RLine} (h : L.Good) (rid i lb : Nat) (hrid : rid ≠ 0) {n k : Nat} (hA : Asked (histOf L.b.rows) (histOf L.a.rows) (n + 1) k) : FormOk rid i lb L 1 n k (form (histOf L.b.rows) (histOf L.a.rows) (n + 1) k) := by
 intro own W hW
 refine ((forms_both rid i lb hrid (n + k) n k (Nat.le_refl _)).2 own W L ⟨hW, h.ma, h.mb, h.hist, h.oa, h.ob, h.la, h.lb⟩ hA).mono ?_
 rintro r w' ⟨rfl, own', ra, rb, F⟩
 exact ⟨rfl, own', ra, rb, ⟨F.ha, F.hb, F.ma, F.mb⟩, F.line, F.upd.mono (fun t h => ⟨h.1, h.2.1⟩)⟩
end Go.Proofs.Ytemkgikncmhoaaa

namespace Go.Proofs.Ytemkgikncmhoaaa
open Go.RowKit

theorem Norms.ops {l : List GMsg} (h : Norms l) : OpsOk l := by
 intro i h1 h2
 obtain ⟨⟨_, hv⟩, hp⟩ := h i h1 h2
 refine ⟨by omega, by omega, by omega⟩
section
variable {K i : Nat} {us ds : Nat → List GMsg} {T : Nat → Nat → Nat → List UInt8} {X : IRoom} {R : RRoom} {L : RLine}
theorem SimAt.good (h : SimAt K us ds T X R i L) : L.Good := by
 have ea := h.a.1.hist
 have eb := h.b.1.hist
 refine ⟨?_, ?_, ?_, ?_, ?_, h.oka.rows, h.okb.rows⟩
 ·rw [ea, eb]; exact h.a.1.memo
 ·rw [ea, eb]; exact h.b.1.memo
 ·rw [ea, eb]; exact h.line.g.hist
 ·rw [ea]; exact h.nu.ops
 ·rw [eb]; exact h.nd.ops
/-- What the client takes next, as Form tells it. -/
theorem SimAt.formA (h : SimAt K us ds T X R i L) {m : IMsg} (hm : (X.e i).nextKept = some m) (hr : RInv X us ds T) (hi : i < X.texts.length) (rid lb : Nat) (hrid : rid ≠ 0) :
  FormOk rid i lb L 1 L.a.taken L.a.rows.length ((X.e i).taking m).1 := by
 obtain ⟨g1, g2, g3⟩ := hr.at' hi
 obtain ⟨k1, k2⟩ := IEnd.nextKept_some hm
 obtain ⟨q1, q2, q3⟩ := hr.keptA g1 g2 g3 k1
 have hk : m = imsg (ds i) ((X.e i).taken + 1) := by rw [← k2]; exact q3
 rw [k2] at q2
 have ea := h.a.1.hist
 have eb := h.b.1.hist
 have hl := h.a.1.len
 have ht := h.a.1.taken
 have hh := h.line.g.hist
 have hA : Asked (histOf L.b.rows) (histOf L.a.rows) (L.a.taken + 1) L.a.rows.length := by
  rw [ea, eb, ht, hl]
  refine ⟨by omega, q2, Nat.le_refl _, hh.bd _ (by omega) q2, fun h3 => ?_⟩
  have := h.line.a.ctx (us i).length (by omega) (Nat.le_refl _)
  omega
 have := h.good.form1 rid i lb hrid hA
 have e1 : form (histOf L.b.rows) (histOf L.a.rows) (L.a.taken + 1) L.a.rows.length = ((X.e i).taking m).1 := by
  rw [ea, eb, ht, hl, hk, (h.line.a.took hh rfl q2).1]
 rw [e1] at this
 exact this
theorem SimAt.formB (h : SimAt K us ds T X R i L) {m : IMsg} (hm : (X.s i).nextKept = some m) (hr : RInv X us ds T) (hi : i < X.texts.length) (rid lb : Nat) (hrid : rid ≠ 0) :
  FormOk rid i lb L 0 L.b.taken L.b.rows.length ((X.s i).taking m).1 := by
 obtain ⟨g1, g2, g3⟩ := hr.at' hi
 obtain ⟨k1, k2⟩ := IEnd.nextKept_some hm
 obtain ⟨q1, q2, q3⟩ := hr.keptB g1 g2 g3 k1
 have hk : m = imsg (us i) ((X.s i).taken + 1) := by rw [← k2]; exact q3
 rw [k2] at q2
 have ea := h.a.1.hist
 have eb := h.b.1.hist
 have hl := h.b.1.len
 have ht := h.b.1.taken
 have hh := h.line.g.hist.swap
 have hA : Asked (histOf L.a.rows) (histOf L.b.rows) (L.b.taken + 1) L.b.rows.length := by
  rw [ea, eb, ht, hl]
  refine ⟨by omega, q2, Nat.le_refl _, hh.bd _ (by omega) q2, fun h3 => ?_⟩
  have := h.line.b.ctx (ds i).length (by omega) (Nat.le_refl _)
  omega
 have := h.good.form0 rid i lb hrid hA
 have e1 : form (histOf L.a.rows) (histOf L.b.rows) (L.b.taken + 1) L.b.rows.length = ((X.s i).taking m).1 := by
  rw [ea, eb, ht, hl, hk, (h.line.b.took hh rfl q2).1]
 rw [e1] at this
 exact this
theorem ready_letter {E : IEnd} {m : IMsg} {t : List UInt8} (h : Ready E m t) : 0 ≤ (E.taking m).1.letter ∧ (E.taking m).1.letter ≤ 255 := by
 obtain ⟨_, _, _, h4⟩ := h.small
 exact h4

/-- What is so while an end takes what was kept. -/
def JA (K n window i : Nat) (XF : IRoom) (R : RRoom) : Prop := ∃ X us ds T f, RInv X us ds T ∧ RSim K us ds X R ∧ X.texts.length = n ∧ X.window = window ∧ (X.e i).kept.length ≤ f ∧ X.takesA i f = XF
def JB (K n window i : Nat) (XF : IRoom) (R : RRoom) : Prop := ∃ X us ds T f, RInv X us ds T ∧ RSim K us ds X R ∧ X.texts.length = n ∧ X.window = window ∧ (X.s i).kept.length ≤ f ∧ X.takesB i f = XF
end
section
variable {K n window i : Nat} {XF : IRoom} {R' : RRoom}
theorem JA.step {A : List Nat} {rid b : Nat} (hrid : rid ≠ 0) (hi : i < n) (hK : K ≤ 10000000000000) (h : JA K n window i XF R') :
  ∃ t' L', R'.texts[i]? = some t' ∧ R'.lines[i]? = some L' ∧ L'.a.Ok ∧ L'.a.kept.length ≤ 10000000000000 ∧ (L'.a.taken + 1 ∈ L'.a.kept → ∀ own1 w1, RoomB A own1 rid w1 b R' → Calls Try.prog 95 #[.pointer (some ⟨b, 0, none⟩), .int .i64 i, .int .i64 0] w1 fun r w' => r = .returned (.tuple #[]) ∧
   ∃ own' R'' L'', JA K n window i XF R'' ∧ R''.lines[i]? = some L'' ∧ L''.a.taken = L'.a.taken + 1 ∧ RoomB A own' rid w' b R'' ∧ Upd own1 own' (inRoom rid) w1 w') := by
 obtain ⟨X, us, ds, T, f, hr, hs, hn, hw, hf, hX⟩ := h
 have hi' : i < X.texts.length := by omega
 obtain ⟨L, hL⟩ := hs.at_ hr hi'
 refine ⟨_, L, hL.ht, hL.hL, hL.oka, Nat.le_trans hL.a.1.keptK hK, fun hk own1 w1 hR => ?_⟩
 have hne := hL.a.next.1 hk
 obtain ⟨m, hm⟩ : ∃ m, (X.e i).nextKept = some m := by
  cases hq : (X.e i).nextKept with
  | none => exact absurd hq hne
  | some m => exact ⟨m, rfl⟩
 obtain ⟨g1, g2, g3⟩ := hr.at' hi'
 obtain ⟨k1, k2⟩ := IEnd.nextKept_some hm
 obtain ⟨q1, q2, q3⟩ := hr.keptA g1 g2 g3 k1
 have hk3 : m = imsg (ds i) ((X.e i).taken + 1) := by rw [← k2]; exact q3
 rw [k2] at q2
 have hrd : Ready (X.e i) m (X.tx i) := by rw [hk3]; exact hr.readyA g1 g2 g3 rfl q2
 refine (rtake_0 A own1 rid b R' i (X.tx i) L ((X.e i).taking m).1 w1 hR hL.ht hL.hL hL.oka.taken hL.oka.rows (fun lb => hL.formA hm hr hi' rid lb hrid) hrd.fits (by have := hrd.tl; omega) (ready_letter hrd)).mono ?_
 rintro r w' ⟨rfl, own', ra, rb, hRw, hR2, hU⟩
 rw [hL.a.1.hist, hL.b.1.hist] at hRw
 obtain ⟨j1, j2⟩ := hL.stepA hs hr hi' hm hRw
 refine ⟨rfl, own', _, (L.withRows ra rb).tookA, ?_, ?_, rfl, hR2, hU⟩
 ·cases f with
  | zero => exact absurd (nextKept_short (by omega)) hne
  | succ f =>
   rw [IRoom.takesA_some g1 g2 hm] at hX
   have hlen : (X.stepA i (X.tx i) (X.e i) m).texts.length = n := by rw [← hn]; simp [IRoom.stepA, IRoom.setA]
   have he : (X.stepA i (X.tx i) (X.e i) m).e i = ((X.e i).drop m.number).take m := by
    unfold IRoom.stepA
    rw [e_setA (by rw [hr.le]; exact hi'), if_pos rfl]
   refine ⟨_, us, ds, T, f, j1, j2, hlen, hw, ?_, hX⟩
   rw [he]
   have := drop_shorter (E := X.e i) k1
   omega
 ·show (R'.lines.set i _)[i]? = _
  rw [List.getElem?_set_self (List.getElem?_eq_some_iff.1 hL.hL).1]
theorem JB.step {A : List Nat} {rid b : Nat} (hrid : rid ≠ 0) (hi : i < n) (hK : K ≤ 10000000000000) (h : JB K n window i XF R') :
  ∃ t' L', R'.texts[i]? = some t' ∧ R'.lines[i]? = some L' ∧ L'.b.Ok ∧ L'.b.kept.length ≤ 10000000000000 ∧ (L'.b.taken + 1 ∈ L'.b.kept → ∀ own1 w1, RoomB A own1 rid w1 b R' → Calls Try.prog 95 #[.pointer (some ⟨b, 0, none⟩), .int .i64 i, .int .i64 1] w1 fun r w' => r = .returned (.tuple #[]) ∧
   ∃ own' R'' L'', JB K n window i XF R'' ∧ R''.lines[i]? = some L'' ∧ L''.b.taken = L'.b.taken + 1 ∧ RoomB A own' rid w' b R'' ∧ Upd own1 own' (inRoom rid) w1 w') := by
 obtain ⟨X, us, ds, T, f, hr, hs, hn, hw, hf, hX⟩ := h
 have hi' : i < X.texts.length := by omega
 obtain ⟨L, hL⟩ := hs.at_ hr hi'
 refine ⟨_, L, hL.ht, hL.hL, hL.okb, Nat.le_trans hL.b.1.keptK hK, fun hk own1 w1 hR => ?_⟩
 have hne := hL.b.next.1 hk
 obtain ⟨m, hm⟩ : ∃ m, (X.s i).nextKept = some m := by
  cases hq : (X.s i).nextKept with
  | none => exact absurd hq hne
  | some m => exact ⟨m, rfl⟩
 obtain ⟨g1, g2, g3⟩ := hr.at' hi'
 obtain ⟨k1, k2⟩ := IEnd.nextKept_some hm
 obtain ⟨q1, q2, q3⟩ := hr.keptB g1 g2 g3 k1
 have hk3 : m = imsg (us i) ((X.s i).taken + 1) := by rw [← k2]; exact q3
 rw [k2] at q2
 have hrd : Ready (X.s i) m X.server := by rw [hk3]; exact hr.readyB g1 g2 g3 rfl q2
 have hsm := hrd.small
 have hmk : ∀ k M, R'.lines[k]? = some M → k ≠ i → ({ M.b with rows := M.b.rows ++ [(⟨M.b.taken, [((X.s i).taking m).1]⟩ : RMsg)] } : REnd).Ok ∧ M.b.sent ≤ min (M.b.known + R'.window) (M.b.rows.length + 1) := by
  intro k M hM hki
  have hk2 : k < X.texts.length := by have := (List.getElem?_eq_some_iff.1 hM).1; have := hs.len; omega
  obtain ⟨M', hM'⟩ := hs.at_ hr hk2
  obtain rfl : M = M' := by have := hM'.hL; rw [hM] at this; simpa using this
  refine ⟨hM'.okb.more _ ?_ hsm.1 hsm.2.1 hsm.2.2.1 hsm.2.2.2, ?_⟩
  ·have := hM'.b.1.len; have := hM'.ld; omega
  ·have h1 := hM'.b.2
   have h2 := hM'.line.b.sentTo_eq (window := X.window)
   have h3 := hM'.b.1.len
   have h4 := hM'.b.1.known
   have h5 := hM'.line.b.kn
   have h6 := hs.win
   omega
 refine (rtake_1 A own1 rid b R' i (X.tx i) L ((X.s i).taking m).1 w1 hR hL.ht hL.hL hL.okb.taken hL.okb.rows (by rw [hs.win]; exact hr.w4) (fun lb => hL.formB hm hr hi' rid lb hrid) (by rw [hs.server]; exact hrd.fits) (by rw [hs.server]; have := hrd.tl; omega) (ready_letter hrd) hmk).mono ?_
 rintro r w' ⟨rfl, own', ra, rb, hRw, hR2, hU⟩
 rw [hL.a.1.hist, hL.b.1.hist] at hRw
 obtain ⟨ds', T', j1, j2⟩ := hL.stepB hs hr hi' hm hRw
 refine ⟨rfl, own', _, (L.withRows ra rb).tookB, ?_, ?_, rfl, hR2, hU⟩
 ·cases f with
  | zero => exact absurd (nextKept_short (by omega)) hne
  | succ f =>
   rw [IRoom.takesB_some g3 hm] at hX
   have hlen : (X.stepB i (X.s i) m).texts.length = n := hn
   have he : (X.stepB i (X.s i) m).s i = ((X.s i).drop m.number).take m := by
    unfold IRoom.stepB
    rw [s_tell (by rw [hr.ls]; exact hi'), if_pos rfl]
   refine ⟨_, us, ds', T', f, j1, j2, hlen, hw, ?_, hX⟩
   rw [he]
   have := drop_shorter (E := X.s i) k1
   omega
 ·refine (told_at (show ((R'.setLine i (L.withRows ra rb).tookB).setServer (((X.s i).taking m).1.does R'.server)).lines[i]? = some (L.withRows ra rb).tookB from setLine_get hL.hL _)).trans ?_
  rw [if_neg (fun h => h.2 rfl)]
end
end Go.Proofs.Ytemkgikncmhoaaa

