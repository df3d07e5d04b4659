import Derived.Test.YtemkgikncmhoaaaM31
import Derived.Deep.DeepCutAuto
import Derived.Deep.RegionHeld3
namespace Go.Proofs.Ytemkgikncmhoaaa
open Go.RowKit
attribute [local go_sem ↓] Go.wp_at_zero Go.wp_at_succ

/-- What a call of Form may lean on. -/
structure FormC (own : Nat → Tag) (rid c : Nat) (w : World) (b : Nat) (L : RLine) : Prop where
 line : LineAt own rid c w b L
 ma : MemoR (histOf L.a.rows) (histOf L.b.rows) L.a.rows
 mb : MemoR (histOf L.b.rows) (histOf L.a.rows) L.b.rows
 hist : Hist (histOf L.a.rows) (histOf L.b.rows)
 oa : OpsOk (histOf L.a.rows)
 ob : OpsOk (histOf L.b.rows)
 la : L.a.rows.length ≤ 240
 lb : L.b.rows.length ≤ 240
def lenOf (v : Option Value) : Nat := match v with | some (.slice _ n _) => n | _ => 0

theorem Try.size149 : (Try.prog.info? 149).map (·.size) = some 4 := by kernel_rfl
theorem alloc_lt2 {w : World} {g : Nat} (h : g < w.heap.size) (o : Obj) : g < ((w.alloc o).drew).heap.size := by have : w.heap.size < ((w.alloc o).drew).heap.size := (by show w.heap.size < (w.alloc o).heap.size; simp); omega
theorem alloc_lt (w : World) (o : Obj) : w.heap.size < (w.alloc o).heap.size := by simp
theorem box_set4 {w : World} {q : Nat} {z0 z1 z2 z3 : Value} {t : TypeId} (h : w.heap[q]? = some (.cells #[z0, z1, z2, z3] t (0, 0))) (u0 u1 u2 u3 : Value) :
  ((((w.setCell ⟨q, 0, none⟩ u0).setCell ⟨q, 1, none⟩ u1).setCell ⟨q, 2, none⟩ u2).setCell ⟨q, 3, none⟩ u3).heap[q]? = some (.cells #[u0, u1, u2, u3] t (0, 0)) := by
 have h0 : CellsT (fun _ => (0, 0, 0)) (0, 0, 0) w q #[z0, z1, z2, z3] t := ⟨h, rfl⟩
 have := ((((h0.set 0 u0).set 1 u1).set 2 u2).set 3 u3).1
 simpa using this
theorem Try.info149 : (Try.prog.info? 149).map (fun i => (i.zero, i.size, i.bytes)) = some (some (.agg #[.int .i64 0, .int .i64 0, .int .i64 0, .int .u8 0]), 4, 32) := by kernel_rfl
theorem turned_box1 {w3 W4 w5 : World} {N3 : Nat} (h4 : Below N3 w3 W4) (s : N3 < W4.heap.size) (hb5 : Below W4.drew.heap.size W4.drew w5) (cs : Array Value) (t : TypeId) :
  ∃ q, Value.pointer (some ⟨w5.heap.size, 0, none⟩) = .pointer (some ⟨q, 0, none⟩) ∧ N3 ≤ q ∧ (w5.alloc (.cells cs t)).heap[q]? = some (.cells cs t (0, 0)) ∧ Below N3 w3 (w5.alloc (.cells cs t)) := by
 have hs := hb5.size
 have e : W4.drew.heap.size = W4.heap.size := rfl
 rw [e] at hs
 exact ⟨w5.heap.size, rfl, by omega, heap_alloc_new w5 _, (h4.drew.trans ((Below.mono hb5 (by rw [e]; omega) : Below N3 W4.drew w5))).alloc (by omega) _⟩
theorem turned_box2 {w3 W4 w5 : World} {N3 : Nat} {z0 z1 z2 z3 : Value} {t : TypeId} (h4 : Below N3 w3 W4) (s : N3 < W4.heap.size) (hb5 : Below ((W4.alloc (.cells #[z0, z1, z2, z3] t)).drew).heap.size ((W4.alloc (.cells #[z0, z1, z2, z3] t)).drew) w5) (u0 u1 u2 u3 : Value) :
  ∃ q, Value.pointer (some ⟨W4.heap.size, 0, none⟩) = .pointer (some ⟨q, 0, none⟩) ∧ N3 ≤ q ∧ ((((w5.setCell ⟨W4.heap.size, 0, none⟩ u0).setCell ⟨W4.heap.size, 1, none⟩ u1).setCell ⟨W4.heap.size, 2, none⟩ u2).setCell ⟨W4.heap.size, 3, none⟩ u3).heap[q]? = some (.cells #[u0, u1, u2, u3] t (0, 0)) ∧
   Below N3 w3 ((((w5.setCell ⟨W4.heap.size, 0, none⟩ u0).setCell ⟨W4.heap.size, 1, none⟩ u1).setCell ⟨W4.heap.size, 2, none⟩ u2).setCell ⟨W4.heap.size, 3, none⟩ u3) := by
 have hl : W4.heap.size < ((W4.alloc (.cells #[z0, z1, z2, z3] t)).drew).heap.size := alloc_lt _ _
 have hB : Below N3 w3 w5 := (h4.alloc (Nat.le_of_lt s) (.cells #[z0, z1, z2, z3] t)).drew.trans ((Below.mono hb5 (by omega) : Below N3 ((W4.alloc (.cells #[z0, z1, z2, z3] t)).drew) w5))
 have hq : w5.heap[W4.heap.size]? = some (.cells #[z0, z1, z2, z3] t (0, 0)) := (hb5.block _ hl).trans (heap_alloc_new W4 _)
 exact ⟨_, rfl, Nat.le_of_lt s, box_set4 hq _ _ _ _, (((hB.setCell (p := ⟨W4.heap.size, 0, none⟩) (Nat.le_of_lt s) u0).setCell (p := ⟨W4.heap.size, 1, none⟩) (Nat.le_of_lt s) u1).setCell (p := ⟨W4.heap.size, 2, none⟩) (Nat.le_of_lt s) u2).setCell (p := ⟨W4.heap.size, 3, none⟩) (Nat.le_of_lt s) u3⟩
def zeroOp : Array Value := #[.int .i64 0, .int .i64 0, .int .i64 0, .int .u8 0]
/-- The message that is asked for, in memory. -/
theorem FormR.open0 {own own1 : Nat → Tag} {rid c : Nat} {w wr : World} {b g cap N : Nat} {L : RLine} {i k : Nat} {ra rb : List RMsg} (h : FormR own rid c w b L 0 (i + 1) k own1 ra rb wr) (hi : i < L.a.rows.length) (hb : b < w.heap.size ∧ own b = (rid, c, 0))
  (hg : w.cell? ⟨b, 0, none⟩ = some (.slice (some ⟨g, 0, none⟩) N cap)) :
  ∃ m fb fc, ra[i]? = some m ∧ m.forms ≠ [] ∧ ra.length = N ∧ wr.cell? ⟨b, 0, none⟩ = some (.slice (some ⟨g, 0, none⟩) N cap) ∧ own1 g = (rid, c, 1 + 0) ∧ g < wr.heap.size ∧ b < wr.heap.size ∧ i < N ∧
   wr.cell? ⟨g, i * 2, none⟩ = some (.int .i64 m.ctx) ∧ wr.cell? ⟨g, i * 2 + 1, none⟩ = some (.slice (some ⟨fb, 0, none⟩) m.forms.length fc) ∧ wr.frozen? ⟨g, i * 2 + 1, none⟩ = false ∧
   OwnsT own1 (rid, c, 20 + 2 * i + 0) wr 149 4 (.slice (some ⟨fb, 0, none⟩) m.forms.length fc) m.forms.length (m.forms.flatMap ROp.cells) ∧ own1 fb = (rid, c, 20 + 2 * i + 0) ∧ fb < wr.heap.size ∧
   (∀ j o, m.forms[j]? = some o → wr.cell? ⟨fb, j * 4, none⟩ = some (.int .i64 o.client) ∧ wr.cell? ⟨fb, j * 4 + 1, none⟩ = some (.int .i64 o.verb) ∧ wr.cell? ⟨fb, j * 4 + 2, none⟩ = some (.int .i64 o.place) ∧ wr.cell? ⟨fb, j * 4 + 3, none⟩ = some (.int .u8 o.letter)) ∧
   m.ctx = (gmsg (histOf L.a.rows) (i + 1)).ctx ∧ m.ctx + m.forms.length ≤ (histOf L.b.rows).length + 1 ∧ (∀ j o, m.forms[j]? = some o → o = form (histOf L.a.rows) (histOf L.b.rows) (i + 1) (m.ctx + j)) := by
 have hlen : ra.length = L.a.rows.length := by rw [← histOf_len, h.ha, histOf_len]
 obtain ⟨m, hm⟩ : ∃ m, ra[i]? = some m := ⟨_, List.getElem?_eq_getElem (by omega)⟩
 obtain ⟨hne, hyl, hfm⟩ := h.ma i m hm
 have e1 : wr.cell? ⟨b, 0, none⟩ = some (.slice (some ⟨g, 0, none⟩) N cap) := h.upd.cell hg (by dsimp only; rw [hb.2]; rintro ⟨_, _, h | h | ⟨_, _, h⟩ | ⟨_, _, h⟩⟩ <;> (dsimp only at h; omega))
 have hl := h.line
 obtain ⟨r0, r1, k0, k1, o0, o1, s0, s1, hc, ⟨a1, a2, a3, a4⟩, ⟨b1, b2, b3, b4⟩⟩ := hl
 obtain ⟨g', cap', fb, fc, hr, q1, q2, q3, q4, q5, q6, q7, q8, q9⟩ := a1.msg (i := i) (m := m) hm hne
 have e2 : wr.cell? ⟨b, 0, none⟩ = some r0 := by rw [hc.cell]; rfl
 rw [e1, hr] at e2
 simp only [Option.some.injEq, Value.slice.injEq, Addr.mk.injEq, and_true] at e2
 obtain ⟨rfl, e3, rfl⟩ := e2
 have e4 : (L.withRows ra rb).a.rows.length = ra.length := rfl
 refine ⟨m, fb, fc, hm, hne, by omega, e1, q1, q2, Nat.lt_of_lt_of_le hb.1 h.upd.size, by omega, q3, q4, q5, q6, q7, q8, q9, ?_, hyl, hfm⟩
 rw [← h.ha, histOf_get hm]
/-- The message that is asked for, in memory. -/
theorem FormR.open1 {own own1 : Nat → Tag} {rid c : Nat} {w wr : World} {b g cap N : Nat} {L : RLine} {i k : Nat} {ra rb : List RMsg} (h : FormR own rid c w b L 1 (i + 1) k own1 ra rb wr) (hi : i < L.b.rows.length) (hb : b < w.heap.size ∧ own b = (rid, c, 0))
  (hg : w.cell? ⟨b, 1, none⟩ = some (.slice (some ⟨g, 0, none⟩) N cap)) :
  ∃ m fb fc, rb[i]? = some m ∧ m.forms ≠ [] ∧ rb.length = N ∧ wr.cell? ⟨b, 1, none⟩ = some (.slice (some ⟨g, 0, none⟩) N cap) ∧ own1 g = (rid, c, 1 + 1) ∧ g < wr.heap.size ∧ b < wr.heap.size ∧ i < N ∧
   wr.cell? ⟨g, i * 2, none⟩ = some (.int .i64 m.ctx) ∧ wr.cell? ⟨g, i * 2 + 1, none⟩ = some (.slice (some ⟨fb, 0, none⟩) m.forms.length fc) ∧ wr.frozen? ⟨g, i * 2 + 1, none⟩ = false ∧
   OwnsT own1 (rid, c, 20 + 2 * i + 1) wr 149 4 (.slice (some ⟨fb, 0, none⟩) m.forms.length fc) m.forms.length (m.forms.flatMap ROp.cells) ∧ own1 fb = (rid, c, 20 + 2 * i + 1) ∧ fb < wr.heap.size ∧
   (∀ j o, m.forms[j]? = some o → wr.cell? ⟨fb, j * 4, none⟩ = some (.int .i64 o.client) ∧ wr.cell? ⟨fb, j * 4 + 1, none⟩ = some (.int .i64 o.verb) ∧ wr.cell? ⟨fb, j * 4 + 2, none⟩ = some (.int .i64 o.place) ∧ wr.cell? ⟨fb, j * 4 + 3, none⟩ = some (.int .u8 o.letter)) ∧
   m.ctx = (gmsg (histOf L.b.rows) (i + 1)).ctx ∧ m.ctx + m.forms.length ≤ (histOf L.a.rows).length + 1 ∧ (∀ j o, m.forms[j]? = some o → o = form (histOf L.b.rows) (histOf L.a.rows) (i + 1) (m.ctx + j)) := by
 have hlen : rb.length = L.b.rows.length := by rw [← histOf_len, h.hb, histOf_len]
 obtain ⟨m, hm⟩ : ∃ m, rb[i]? = some m := ⟨_, List.getElem?_eq_getElem (by omega)⟩
 obtain ⟨hne, hyl, hfm⟩ := h.mb i m hm
 have e1 : wr.cell? ⟨b, 1, none⟩ = some (.slice (some ⟨g, 0, none⟩) N cap) := h.upd.cell hg (by dsimp only; rw [hb.2]; rintro ⟨_, _, h | h | ⟨_, _, h⟩ | ⟨_, _, h⟩⟩ <;> (dsimp only at h; omega))
 have hl := h.line
 obtain ⟨r0, r1, k0, k1, o0, o1, s0, s1, hc, ⟨a1, a2, a3, a4⟩, ⟨b1, b2, b3, b4⟩⟩ := hl
 obtain ⟨g', cap', fb, fc, hr, q1, q2, q3, q4, q5, q6, q7, q8, q9⟩ := b1.msg (i := i) (m := m) hm hne
 have e2 : wr.cell? ⟨b, 1, none⟩ = some r1 := by rw [hc.cell]; rfl
 rw [e1, hr] at e2
 simp only [Option.some.injEq, Value.slice.injEq, Addr.mk.injEq, and_true] at e2
 obtain ⟨rfl, e3, rfl⟩ := e2
 have e4 : (L.withRows ra rb).b.rows.length = rb.length := rfl
 refine ⟨m, fb, fc, hm, hne, by omega, e1, q1, q2, Nat.lt_of_lt_of_le hb.1 h.upd.size, by omega, q3, q4, q5, q6, q7, q8, q9, ?_, hyl, hfm⟩
 rw [← h.hb, histOf_get hm]

end Go.Proofs.Ytemkgikncmhoaaa

namespace Go.Proofs.Ytemkgikncmhoaaa
open Go.RowKit
attribute [local go_sem ↓] Go.wp_at_zero Go.wp_at_succ

set_option maxRecDepth 100000 in
set_option maxHeartbeats 20000000 in
theorem form_walk_0 (rid c b i k : Nat) (hrid : rid ≠ 0)
  (IH : ∀ (own : Nat → Tag) (w : World) (L : RLine) (n : Nat), FormC own rid c w b L → n < k → Asked (histOf L.b.rows) (histOf L.a.rows) (n + 1) i →
   Calls Try.prog 104 #[.pointer (some ⟨b, 0, none⟩), .int .i64 1, .int .i64 ((n : Int) + 1), .int .i64 i] w fun r w' => r = .returned (form (histOf L.b.rows) (histOf L.a.rows) (n + 1) i).vl ∧ ∃ own' ra rb, FormR own rid c w b L 1 (n + 1) i own' ra rb w')
  (own : Nat → Tag) (w : World) (L : RLine) (h : FormC own rid c w b L) (hA : Asked (histOf L.a.rows) (histOf L.b.rows) (i + 1) k) :
  Calls Try.prog 104 #[.pointer (some ⟨b, 0, none⟩), .int .i64 0, .int .i64 ((i : Int) + 1), .int .i64 k] w fun r w' => r = .returned (form (histOf L.a.rows) (histOf L.b.rows) (i + 1) k).vl ∧ ∃ own' ra rb, FormR own rid c w b L 0 (i + 1) k own' ra rb w' := by
 have hi : i < L.a.rows.length := by have := hA.il; rw [histOf_len] at this; omega
 have hk : k ≤ 240 := by have := hA.kl; rw [histOf_len] at this; have := h.lb; omega
 have hi240 : i < 240 := by have := h.la; omega
 have hblt := h.line.lt
 have V0 : Upd own (retag own w.heap.size (0, 0, 0)) (fun _ => False) w (w.alloc (.cells zeroOp 149)) := Upd.retag ((Upd.refl own (fun _ => False) w).alloc _) _ _ (Nat.le_refl _)
 have F0 := (FormR.start h.line h.ma h.mb 0 (i + 1) k).scratch V0
 have B0 : CellsT (retag own w.heap.size (0, 0, 0)) (0, 0, 0) (w.alloc (.cells zeroOp 149)) w.heap.size zeroOp 149 := CellsT.new w _ _ _ _
 obtain ⟨g, N, cap, hg⟩ : ∃ g N cap, w.cell? ⟨b, 0, none⟩ = some (.slice (some ⟨g, 0, none⟩) N cap) := by
  obtain ⟨r0, r1, k0, k1, o0, o1, s0, s1, hc, ⟨a1, a2, a3, a4⟩, ⟨b1, b2, b3, b4⟩⟩ := h.line
  obtain ⟨m, hm⟩ : ∃ m, L.a.rows[i]? = some m := ⟨_, List.getElem?_eq_getElem (by omega)⟩
  obtain ⟨g, cap, fb, fc, hr, _⟩ := a1.msg hm (h.ma i m hm).1
  exact ⟨g, _, cap, by rw [hc.cell, hr]; rfl⟩
 have HS0 : Hid (∃ own1 ra rb, FormR own rid c w b L 0 (i + 1) k own1 ra rb (w.alloc (.cells zeroOp 149)) ∧ CellsT own1 (0, 0, 0) (w.alloc (.cells zeroOp 149)) w.heap.size zeroOp 149) := hide ⟨_, _, _, F0, B0⟩
 have HG := hide hg
 have HIH := hide IH
 have HC := hide h
 have HA := hide hA
 clear IH h hA V0 F0 B0 hg
 unfold zeroOp at *
 generalize hW0 : w.alloc (.cells #[.int .i64 0, .int .i64 0, .int .i64 0, .int .u8 0] 149) = W0 at *
 have HW0 := hide hW0
 clear hW0
 go_enter Try.func104, Try.ntmps104
 go_wp2_with fail
 rw [unhide HW0]
 have hblt2 := hide hblt
 clear hblt
 generalize hM : w.heap.size = M at HS0 ⊢
 have HMl := hide (Nat.le_of_eq hM)
 clear hM
 go_loopw [] (fun wr => ∃ own1 ra rb, FormR own rid c w b L 0 (i + 1) k own1 ra rb wr ∧ CellsT own1 (0, 0, 0) wr M #[.int .i64 0, .int .i64 0, .int .i64 0, .int .u8 0] 149) (fun wr => k + 1 - lenOf (wr.cell? ⟨g, i * 2 + 1, none⟩))
 case atStart => exact unhide HS0
 case round =>
  obtain ⟨own1, ra, rb, hF, hB⟩ := hrel
  clear HS0
  obtain ⟨m, fb, fc, hm, hne, hlN, c0, tg, lg, lb, hiN, c1, c2, f2, hO, tf, lf, hcs, hctx, hyl, hfm⟩ := FormR.open0 hF hi (unhide hblt2) (unhide HG)
  have hy1 : 1 ≤ m.forms.length := by
   cases hq : m.forms with
   | nil => exact absurd hq hne
   | cons _ _ => simp
  have hck : m.ctx ≤ k := by rw [hctx]; exact (unhide HA).ck
  rw [histOf_len] at hyl
  have hll := (unhide HC).lb
  have hiN' : (i : Int) < (N : Int) := by omega
  have hBl := hB.lt
  have d1 : ¬ (b = wr.heap.size) := by omega
  have d2 : ¬ (g = wr.heap.size) := by omega
  have d3 : ¬ (fb = wr.heap.size) := by omega
  have d4 : ¬ (M = wr.heap.size) := by omega
  by_cases hnk : m.ctx + m.forms.length ≤ k
  ·obtain ⟨n, hn⟩ : ∃ n, m.ctx + m.forms.length = n + 1 := ⟨m.ctx + m.forms.length - 1, by omega⟩
   have hn' : (m.ctx : Int) + (m.forms.length : Int) - 1 = (n : Int) := by omega
   have hlt : ¬ ((k : Int) ≤ (m.ctx : Int) + (m.forms.length : Int) - 1) := by omega
   obtain ⟨j, hj⟩ : ∃ j, m.forms.length = j + 1 := ⟨m.forms.length - 1, by omega⟩
   obtain ⟨o, ho⟩ : ∃ o, m.forms[j]? = some o := ⟨_, List.getElem?_eq_getElem (by omega)⟩
   have hoV := hfm j o ho
   have hj9 : j ≤ 1000 := by omega
   have HREC : Hid (Calls Try.prog 104 #[.pointer (some ⟨b, 0, none⟩), .int .i64 1, .int .i64 ((n : Int) + 1), .int .i64 i] (wr.alloc (.cells #[.int .i64 m.ctx, .slice (some ⟨fb, 0, none⟩) m.forms.length fc] 167)) fun r w' => r = .returned (form (histOf L.b.rows) (histOf L.a.rows) (n + 1) i).vl ∧
     ∃ own3 ra3 rb3, FormR own rid c w b L 0 (i + 1) k own3 ra3 rb3 w' ∧ ra3[i]? = some m ∧ CellsT own3 (0, 0, 0) w' M #[.int .i64 0, .int .i64 0, .int .i64 0, .int .u8 0] 149 ∧ CellsT own3 (0, 0, 0) w' wr.heap.size #[.int .i64 m.ctx, .slice (some ⟨fb, 0, none⟩) m.forms.length fc] 167 ∧
      w'.cell? ⟨g, i * 2 + 1, none⟩ = some (.slice (some ⟨fb, 0, none⟩) m.forms.length fc)) := by
    apply hide
    have V1 : Upd own1 (retag own1 wr.heap.size (0, 0, 0)) (fun _ => False) wr (wr.alloc (.cells #[.int .i64 m.ctx, .slice (some ⟨fb, 0, none⟩) m.forms.length fc] 167)) := Upd.retag ((Upd.refl own1 (fun _ => False) wr).alloc _) _ _ (Nat.le_refl _)
    have F1 := hF.scratch V1
    have B1 := hB.upd V1 (fun h => h)
    have M1 : CellsT (retag own1 wr.heap.size (0, 0, 0)) (0, 0, 0) (wr.alloc (.cells #[.int .i64 m.ctx, .slice (some ⟨fb, 0, none⟩) m.forms.length fc] 167)) wr.heap.size _ _ := CellsT.new wr _ _ own1 (0, 0, 0)
    have x1 : histOf (L.withRows ra rb).a.rows = histOf L.a.rows := hF.ha
    have x2 : histOf (L.withRows ra rb).b.rows = histOf L.b.rows := hF.hb
    have l1 : (L.withRows ra rb).a.rows.length = L.a.rows.length := by rw [← histOf_len, x1, histOf_len]
    have l2 : (L.withRows ra rb).b.rows.length = L.b.rows.length := by rw [← histOf_len, x2, histOf_len]
    have FC : FormC (retag own1 wr.heap.size (0, 0, 0)) rid c (wr.alloc (.cells #[.int .i64 m.ctx, .slice (some ⟨fb, 0, none⟩) m.forms.length fc] 167)) b (L.withRows ra rb) := by
     have hC := unhide HC
     exact ⟨F1.line, by rw [x1, x2]; exact hF.ma, by rw [x1, x2]; exact hF.mb, by rw [x1, x2]; exact hC.hist, by rw [x1]; exact hC.oa, by rw [x2]; exact hC.ob, by rw [l1]; exact hC.la, by rw [l2]; exact hC.lb⟩
    have AS : Asked (histOf L.b.rows) (histOf L.a.rows) (n + 1) (i + 1 - 1) := (unhide HA).sub (unhide HC).hist (by rw [← hctx]; omega) (by omega)
    rw [Nat.add_sub_cancel] at AS
    have key := unhide HIH _ _ _ n FC (by omega) (by rw [x1, x2]; exact AS)
    rw [x1, x2] at key
    refine key.mono ?_
    rintro r w3 ⟨rfl, own3, ra3, rb3, G⟩
    have F3 := F1.within (n := n + 1) (by omega) (by omega) (by rw [Nat.add_sub_cancel]; exact G)
    have nm : ∀ x y z t, ¬ mayF rid c x y z (0, 0, t) := fun x y z t h => hrid h.1.symm
    refine ⟨rfl, own3, ra3, rb3, F3, ?_, B1.upd G.upd (nm _ _ _ _), M1.upd G.upd (nm _ _ _ _), ?_⟩
    ·have := G.fo i (Nat.le_refl _)
     simp only [RLine.row, RLine.withRows] at this
     simp at this
     rw [this]; exact hm
    ·rw [G.co g (i * 2 + 1) (by rw [retag_lt lg]; exact tg) (by simp; omega) (by omega), World.cell?_alloc_lt _ _ _ lg]
     exact c2
   have HWR := hide c2
   have HFM := hide hfm
   have HNE := hide hne
   have HCT := hide hctx
   have HJ := hide hj
   have HN := hide hn
   clear hF hB hO hcs hfm hm hne hctx HW0 hn HIH hj
   unfold ROp.vl at HREC
   generalize hbop : form (histOf L.b.rows) (histOf L.a.rows) (n + 1) i = bop at HREC
   have HBOP := hide hbop
   clear hbop
   go_wp2_with fail
   refine (unhide HREC).mono ?_
   rintro r w3 ⟨rfl, own3, ra3, rb3, hF3, hm3, hB3, hMm3, hd3⟩
   clear HREC c0 c1 c2 f2 d1 d2 d3 d4 tg lg lb tf lf hBl
   obtain ⟨m', fb', fc', hm3', hne3, hlN3, c0, tg, lg, lb, _, c1, c2, f2, hO3, tf, lf, hcs3, _, _, _⟩ := FormR.open0 hF3 hi (unhide hblt2) (unhide HG)
   obtain rfl : m = m' := by rw [hm3] at hm3'; simpa using hm3'
   rw [hd3] at c2
   simp only [Option.some.injEq, Value.slice.injEq, Addr.mk.injEq, and_true, true_and] at c2
   obtain ⟨rfl, rfl⟩ := c2
   obtain ⟨x0, x1, x2, x3⟩ := hcs3 j o ho
   have hBl := hB3.lt
   have hPl := hMm3.lt
   have p0 := hMm3.cell 0
   have p1 := hMm3.cell 1
   simp only [List.getElem?_toArray, List.getElem?_cons_zero, List.getElem?_cons_succ] at p0 p1
   have d5 : ¬ (wr.heap.size = w3.heap.size) := by omega
   have d6 : ¬ (fb = w3.heap.size) := by omega
   have HT : Hid (∀ W, Calls Try.prog 107 #[o.vl, bop.vl] W fun e w' => e = .returned (o.turn bop).vl ∧ Below W.heap.size W w') := by
    apply hide
    intro W
    have hC := unhide HC
    have hA := unhide HA
    have h5 := hA.kl
    have h6 := unhide HJ
    refine turn_any o bop W ?_ ?_
    ·rw [hoV]; exact form_Tiny hC.oa _ _ (by omega) hA.il (by omega)
    ·rw [← unhide HBOP]; exact form_Tiny hC.ob _ _ (by omega) (by omega) (by omega)
   have HO3 := hide hO3
   have HF3 := hide hF3
   have HM3 := hide hm3
   have HB3 := hide hB3
   have HHO := hide ho
   have HOV := hide hoV
   clear hO3 hF3 hm3 hm3' hB3 hMm3 hcs3 hne3 ho hoV
   unfold ROp.vl at HT
   generalize hPP : wr.heap.size = PP at *
   have HPP := hide hPP
   clear hPP
   go_wp2_with fail
   have hW4 : Below w3.heap.size w3 (w3.alloc (.cells #[.int .i64 bop.client, .int .i64 bop.verb, .int .i64 bop.place, .int .u8 bop.letter] 149)) := (Below.refl _ _).alloc (Nat.le_refl _) _
   have HW4 := hide hW4
   have p1' := (hW4.cell (p := ⟨PP, 1, none⟩) hPl).trans p1
   rw [unhide HJ] at p1'
   have hj3 : (0 : Int) ≤ (j : Int) := by omega
   have hj4 : (j : Int) < (j : Int) + 1 := by omega
   have hj5 : ¬ ((j : Int) + 1 - 1 < 0) := by omega
   have hj6 : (j : Int) + 1 - 1 < (j : Int) + 1 := by omega
   have hj7 : j < j + 1 := by omega
   have hwj : IntKind.i64.wrap ((j : Int) + 1 - 1) = (j : Int) := by rw [IntKind.wrap_i64]; omega
   have hwj2 : IntKind.i64.wrap (j : Int) = (j : Int) := by rw [IntKind.wrap_i64]; omega
   have x0' := (hW4.cell (p := ⟨fb, j * 4, none⟩) lf).trans x0
   have x1' := (hW4.cell (p := ⟨fb, j * 4 + 1, none⟩) lf).trans x1
   have x2' := (hW4.cell (p := ⟨fb, j * 4 + 2, none⟩) lf).trans x2
   have x3' := (hW4.cell (p := ⟨fb, j * 4 + 3, none⟩) lf).trans x3
   have yy : ∀ k, (w3.alloc (.cells #[.int .i64 bop.client, .int .i64 bop.verb, .int .i64 bop.place, .int .u8 bop.letter] 149)).cell? ⟨w3.heap.size, k, none⟩ = #[.int .i64 bop.client, .int .i64 bop.verb, .int .i64 bop.place, .int .u8 bop.letter][k]? := fun k => World.cell?_alloc_new _ _ _ _
   have y0 := yy 0
   have y1 := yy 1
   have y2 := yy 2
   have y3 := yy 3
   simp only [List.getElem?_toArray, List.getElem?_cons_zero, List.getElem?_cons_succ] at y0 y1 y2 y3
   have s4 : w3.heap.size < (w3.alloc (.cells #[.int .i64 bop.client, .int .i64 bop.verb, .int .i64 bop.place, .int .u8 bop.letter] 149)).heap.size := by simp
   clear p0 p1 x0 x1 x2 x3 yy hW4 d5 d6
   generalize w3.alloc (.cells #[.int .i64 bop.client, .int .i64 bop.verb, .int .i64 bop.place, .int .u8 bop.letter] 149) = W4 at *
   have n1 : ¬ (PP = W4.heap.size) := by omega
   have n2 : ¬ (fb = W4.heap.size) := by omega
   have n3 : ¬ (w3.heap.size = W4.heap.size) := by omega
   have n4 : ¬ (W4.heap.size = PP) := by omega
   have n5 : ¬ (W4.heap.size = fb) := by omega
   have n6 : ¬ (W4.heap.size = w3.heap.size) := by omega
   have HS3 := hide s4
   generalize hN3 : w3.heap.size = N3 at *
   have HN3 := hide hN3
   clear hN3
   go_cut [12] (fun v12 wc => ∃ q, v12 = .pointer (some ⟨q, 0, none⟩) ∧ N3 ≤ q ∧ wc.heap[q]? = some (.cells #[.int .i64 (o.turn bop).client, .int .i64 (o.turn bop).verb, .int .i64 (o.turn bop).place, .int .u8 (o.turn bop).letter] 149 (0, 0)) ∧ Below N3 w3 wc)
   case first =>
    go_region_held3 (fun w' => w'.cell? ⟨PP, 1, none⟩ = some (.slice (some ⟨fb, 0, none⟩) (j + 1) fc) ∧ w'.cell? ⟨fb, j * 4, none⟩ = some (.int .i64 o.client) ∧ w'.cell? ⟨fb, j * 4 + 1, none⟩ = some (.int .i64 o.verb) ∧ w'.cell? ⟨fb, j * 4 + 2, none⟩ = some (.int .i64 o.place) ∧ w'.cell? ⟨fb, j * 4 + 3, none⟩ = some (.int .u8 o.letter) ∧
     w'.cell? ⟨N3, 0, none⟩ = some (.int .i64 bop.client) ∧ w'.cell? ⟨N3, 1, none⟩ = some (.int .i64 bop.verb) ∧ w'.cell? ⟨N3, 2, none⟩ = some (.int .i64 bop.place) ∧ w'.cell? ⟨N3, 3, none⟩ = some (.int .u8 bop.letter)) (go_keep)
     (first | (go_at_call 107; refine (unhide HT _).mono ?_; rintro e w5 ⟨rfl, hb5⟩; have k1 := hb5.cell (p := ⟨PP, 1, none⟩) (by simp; omega); have k2 := hb5.cell (p := ⟨fb, j * 4, none⟩) (by simp; omega); have k3 := hb5.cell (p := ⟨fb, j * 4 + 1, none⟩) (by simp; omega); have k4 := hb5.cell (p := ⟨fb, j * 4 + 2, none⟩) (by simp; omega); have k5 := hb5.cell (p := ⟨fb, j * 4 + 3, none⟩) (by simp; omega); have k6 := hb5.cell (p := ⟨N3, 0, none⟩) (by simp; omega); have k7 := hb5.cell (p := ⟨N3, 1, none⟩) (by simp; omega); have k8 := hb5.cell (p := ⟨N3, 2, none⟩) (by simp; omega); have k9 := hb5.cell (p := ⟨N3, 3, none⟩) (by simp; omega); first | (have q0 := hb5.cell (p := ⟨W4.heap.size, 0, none⟩) (alloc_lt _ _); have q1 := hb5.cell (p := ⟨W4.heap.size, 1, none⟩) (alloc_lt _ _); have q2 := hb5.cell (p := ⟨W4.heap.size, 2, none⟩) (alloc_lt _ _); have q3 := hb5.cell (p := ⟨W4.heap.size, 3, none⟩) (alloc_lt _ _); have r0 := hb5.frozen (p := ⟨W4.heap.size, 0, none⟩) (alloc_lt _ _); have r1 := hb5.frozen (p := ⟨W4.heap.size, 1, none⟩) (alloc_lt _ _); have r2 := hb5.frozen (p := ⟨W4.heap.size, 2, none⟩) (alloc_lt _ _); have r3 := hb5.frozen (p := ⟨W4.heap.size, 3, none⟩) (alloc_lt _ _)) | skip))
    all_goals
     go_wp2
     go_meet
     case rel => first
      | exact turned_box1 (unhide HW4) (unhide HS3) hb5 _ _
      | exact turned_box2 (unhide HW4) (unhide HS3) hb5 _ _ _ _
   case rest =>
    obtain ⟨q, rfl, hq, hqb, hB5⟩ := hcut
    have U5 : Upd own3 own3 (fun _ => False) w3 wc := Upd.of_below own3 _ (by rw [unhide HN3]; exact hB5)
    have F5 := (unhide HF3).scratch U5
    have B5 := (unhide HB3).upd U5 (fun h => h)
    clear tg lg lb tf lf c0 c1 f2
    obtain ⟨m', fb', fc', hm5, hne5, hlN5, c0, tg, lg, lb, hiN5, c1, c2, f2, hO5, tf, lf, _, _, _, _⟩ := FormR.open0 F5 hi (unhide hblt2) (unhide HG)
    obtain rfl : m = m' := by have := unhide HM3; rw [this] at hm5; simpa using hm5
    have ql : q < wc.heap.size := (Array.getElem?_eq_some_iff.1 hqb).1
    have e0 : wc.cell? ⟨q, 0, none⟩ = some (.int .i64 (o.turn bop).client) := by simp [World.cell?, hqb]
    have e1 : wc.cell? ⟨q, 1, none⟩ = some (.int .i64 (o.turn bop).verb) := by simp [World.cell?, hqb]
    have e2 : wc.cell? ⟨q, 2, none⟩ = some (.int .i64 (o.turn bop).place) := by simp [World.cell?, hqb]
    have e3 : wc.cell? ⟨q, 3, none⟩ = some (.int .u8 (o.turn bop).letter) := by simp [World.cell?, hqb]
    have htn : o.turn bop = form (histOf L.a.rows) (histOf L.b.rows) (i + 1) (m.ctx + m.forms.length) := by
     have hN' := unhide HN
     have hJ' := unhide HJ
     have hA := unhide HA
     rw [unhide HOV, ← unhide HBOP, form_step _ _ (i + 1) (m.ctx + m.forms.length) (by omega) (by rw [← unhide HCT]; omega), show m.ctx + m.forms.length - 1 = m.ctx + j by omega, show m.ctx + m.forms.length = n + 1 by omega, Nat.add_sub_cancel]
    have hle5 : m.ctx + m.forms.length ≤ (histOf L.b.rows).length := by have := (unhide HA).kl; omega
    have HT5 := hide htn
    have HO5 := hide hO5
    have HF5 := hide F5
    have HB5 := hide B5
    have HM5 := hide hm5
    have hfl9 : m.forms.length ≤ 1000 := by have := unhide HJ; omega
    clear htn hO5 F5 B5 hm5 hne5 hqb hB5 U5
    clear p1' x0' x1' x2' x3' y0 y1 y2 y3 HT
    obtain ⟨i1, hi1, hz0, hz1, hz2⟩ := info_parts Try.info149
    generalize o.turn bop = op at *
    have FIN : Hid (∀ na nc w6, OwnsT (retag own3 (wc.heap.size + 1) (rid, c, 20 + 2 * i + 0)) (rid, c, 20 + 2 * i + 0) w6 149 4 (.slice na (m.forms.length + 1) nc) (m.forms.length + 1) (m.forms.flatMap ROp.cells ++ [.int .i64 op.client, .int .i64 op.verb, .int .i64 op.place, .int .u8 op.letter]) →
      Upd own3 (retag own3 (wc.heap.size + 1) (rid, c, 20 + 2 * i + 0)) (fun x => x = (rid, c, 20 + 2 * i + 0)) (wc.alloc (Obj.cells #[.int .i64 op.client, .int .i64 op.verb, .int .i64 op.place, .int .u8 op.letter] 149)).drew w6 →
      (∃ own1 ra rb, FormR own rid c w b L 0 (i + 1) k own1 ra rb (w6.setCell ⟨g, i * 2 + 1, none⟩ (.slice na (m.forms.length + 1) nc)) ∧ CellsT own1 (0, 0, 0) (w6.setCell ⟨g, i * 2 + 1, none⟩ (.slice na (m.forms.length + 1) nc)) M #[.int .i64 0, .int .i64 0, .int .i64 0, .int .u8 0] 149) ∧
       (w6.setCell ⟨g, i * 2 + 1, none⟩ (.slice na (m.forms.length + 1) nc)).cell? ⟨g, i * 2 + 1, none⟩ = some (.slice na (m.forms.length + 1) nc)) := by
     apply hide
     intro na nc w6 ho hu
     have V6 : Upd own3 own3 (fun _ => False) wc (wc.alloc (Obj.cells #[.int .i64 op.client, .int .i64 op.verb, .int .i64 op.place, .int .u8 op.letter] 149)).drew := ((Upd.refl own3 (fun _ => False) wc).alloc _).drew
     have F6 := (unhide HF5).scratch V6
     have B6 := (unhide HB5).upd V6 (fun h => h)
     have c06 : ((wc.alloc (Obj.cells #[.int .i64 op.client, .int .i64 op.verb, .int .i64 op.place, .int .u8 op.letter] 149)).drew).cell? ⟨b, 0, none⟩ = some (.slice (some ⟨g, 0, none⟩) ra3.length cap) := by
      rw [hlN5]; exact V6.cell c0 (fun h => h)
     have G := FormR.grow0 F6 (unhide HM5) (unhide HNE) (o := op) (unhide HT5) hle5 c06 hu (f' := .slice na (m.forms.length + 1) nc) (by simpa [ROp.cells] using ho)
     have hgM : g ≠ M := fun e => by have := (unhide HB5).2; rw [← e, tg] at this; simp at this
     have tg6 : (retag own3 (wc.heap.size + 1) (rid, c, 20 + 2 * i + 0)) g = (rid, c, 1 + 0) := by rw [retag_lt (by omega)]; exact tg
     have B7 := (B6.upd hu (by simp [hrid.symm])).other (p := ⟨g, i * 2 + 1, none⟩) hgM (.slice na (m.forms.length + 1) nc)
     have c26 : w6.cell? ⟨g, i * 2 + 1, none⟩ = some (.slice (some ⟨fb', 0, none⟩) m.forms.length fc') := hu.cell (V6.cell c2 (fun h => h)) (by rw [tg]; simp <;> omega)
     exact ⟨⟨_, _, _, G, B7⟩, World.cell?_setCell_same _ _ _ c26⟩
    have hfit1 : m.forms.length + 1 ≤ maxLen := by simp [maxLen]; omega
    have hfit2 : (m.forms.length + 1) * 32 ≤ 140737488355328 := by omega
    have hwi : IntKind.i64.wrap (i : Int) = (i : Int) := by rw [IntKind.wrap_i64]; omega
    have hi0 : (0 : Int) ≤ (i : Int) := by omega
    have s1 : ¬ (b = wc.heap.size) := by omega
    have s2 : ¬ (g = wc.heap.size) := by omega
    have s3 : ¬ (q = wc.heap.size) := by omega
    have c0a : ∀ u, (wc.alloc u).cell? ⟨b, 0, none⟩ = some (.slice (some ⟨g, 0, none⟩) N cap) := fun u => by rw [World.cell?_alloc_lt _ _ _ lb]; exact c0
    have c2a : ∀ u, (wc.alloc u).cell? ⟨g, i * 2 + 1, none⟩ = some (.slice (some ⟨fb', 0, none⟩) m.forms.length fc') := fun u => by rw [World.cell?_alloc_lt _ _ _ lg]; exact c2
    have f2a : ∀ u, (wc.alloc u).frozen? ⟨g, i * 2 + 1, none⟩ = false := fun u => by
     have e : (wc.alloc u).heap[g]? = wc.heap[g]? := Below.heap_alloc _ _ _ lg
     unfold World.frozen? at f2 ⊢
     simp only [e]
     exact f2
    have tb : own3 b = (rid, c, 0) := by have := (unhide HF3).upd.tags b (unhide hblt2).1; rw [this]; exact (unhide hblt2).2
    go_wp2_with fail
    clear HFM HF3 HM3 HHO HOV HBOP HCT HN HJ HNE HT5 HF5 HB5 HM5 hj3 hj4 hj5 hj6 hj7 hwj hwj2 hPl hBl hd3 hlN3 HC HA HG hyl hck hll hnk hn' hj9
    go_region_law ((refine step_append_T _ (by rfl) _ _ _ (by rfl) 149 i1 _ 4 32 Try.underlying165 hi1 hz0 hz1 hz2 rfl (by omega) _ _ _ own3 (rid, c, 20 + 2 * i + 0) (by rfl) ((unhide HO5).alloc _).drew ⟨wc.heap.size, 0, none⟩ 1 1 [.int .i64 op.client, .int .i64 op.verb, .int .i64 op.place, .int .u8 op.letter] (by rfl) (by rfl) (World.news_of_block (cs := #[.int .i64 op.client, .int .i64 op.verb, .int .i64 op.place, .int .u8 op.letter]) (t := 149) (fr := (0, 0)) (heap_alloc_new wc _)) (by simp [Value.oneCell']) hfit1 hfit2 (wc.heap.size + 1) (by simp) ?_; intro na nc w6 hown6 hu6; have k0 := hu6.cell (c0a _) (by rw [tb]; simp <;> omega); have k2 := hu6.cell (c2a _) (by rw [tg]; simp <;> omega); have k3 := hu6.frozen (alloc_lt2 lg _) (by rw [tg]; simp <;> omega) (f2a _)))
    all_goals
     have KEY := unhide FIN _ _ _ hown6 hu6
     clear FIN hown6 hu6
     have HK1 := hide KEY.1
     have HK2 := hide KEY.2
     clear KEY
     go_wp2
     go_roundw
     case rel => exact unhide HK1
     case measure =>
      rw [unhide HK2, unhide HWR]
      show k + 1 - (m.forms.length + 1) < k + 1 - m.forms.length
      omega
  ·obtain ⟨j, hj⟩ : ∃ j, k = m.ctx + j := ⟨k - m.ctx, by omega⟩
   obtain ⟨o, ho⟩ : ∃ o, m.forms[j]? = some o := ⟨_, List.getElem?_eq_getElem (by omega)⟩
   obtain ⟨x0, x1, x2, x3⟩ := hcs j o ho
   have hval := hfm j o ho
   have hjk : (k : Int) - (m.ctx : Int) = (j : Int) := by omega
   have hjl : (j : Int) < (m.forms.length : Int) := by omega
   have hge : (k : Int) ≤ (m.ctx : Int) + (m.forms.length : Int) - 1 := by omega
   have y0 := hB.cell 0
   have y1 := hB.cell 1
   have y2 := hB.cell 2
   have y3 := hB.cell 3
   have z0 := hB.frozen 0
   have z1 := hB.frozen 1
   have z2 := hB.frozen 2
   have z3 := hB.frozen 3
   simp only [List.getElem?_toArray, List.getElem?_cons_zero, List.getElem?_cons_succ] at y0 y1 y2 y3
   have FIN : Hid (∀ u0 u1 u2 u3 ob, ∃ own' ra rb, FormR own rid c w b L 0 (i + 1) k own' ra rb (((((wr.setCell ⟨M, 0, none⟩ u0).setCell ⟨M, 1, none⟩ u1).setCell ⟨M, 2, none⟩ u2).setCell ⟨M, 3, none⟩ u3).alloc ob)) :=
    hide fun u0 u1 u2 u3 ob => ⟨own1, ra, rb, ((((hF.box hrid (unhide HMl) hB.2 0 u0).box hrid (unhide HMl) hB.2 1 u1).box hrid (unhide HMl) hB.2 2 u2).box hrid (unhide HMl) hB.2 3 u3).scratch ((Upd.refl own1 (fun _ => False) _).alloc ob)⟩
   have HBX : Hid (∀ u0 u1 u2 u3 ob, (((((wr.setCell ⟨M, 0, none⟩ u0).setCell ⟨M, 1, none⟩ u1).setCell ⟨M, 2, none⟩ u2).setCell ⟨M, 3, none⟩ u3).alloc ob).heap[M]? = some (.cells #[u0, u1, u2, u3] 149 (0, 0))) := by
    apply hide
    intro u0 u1 u2 u3 ob
    have := (((((hB.set 0 u0).set 1 u1).set 2 u2).set 3 u3).alloc ob).1
    simpa using this
   have HV := hide hval
   have HJ := hide hj
   clear hF hB hO hcs hfm hval hm hne hctx HIH HW0 hj
   go_wp2
   refine bodyPost_ret (results_cell_row (P := Try.prog) Try.results104 _ _ M 149 _ (0, 0) _ rfl (unhide HBX _ _ _ _ _) Try.underlying149 rfl Try.size149) rfl ?_
   refine ⟨?_, unhide FIN _ _ _ _ _⟩
   rw [unhide HJ, ← unhide HV]
   rfl
end Go.Proofs.Ytemkgikncmhoaaa

