import Derived.Test.YtemkgikncmhoaaaM10
import Derived.Test.YtemkgikncmhoaaaM12
import Derived.Test.YtemkgikncmhoaaaM16
namespace Go.Proofs.Ytemkgikncmhoaaa
open Go.RowKit
attribute [local go_sem ↓] Go.wp_at_zero Go.wp_at_succ

theorem Upd.setNew {own own' : Nat → Tag} {may : Tag → Prop} {w w' : World} (h : Upd own own' may w w') {p : Addr} (hp : w.heap.size ≤ p.block) (u : Value) : Upd own own' may w (w'.setCell p u) :=
 ⟨h.os, h.tape, h.output, by have := h.size; simpa [World.setCell] using this, fun k hk hn => (Below.heap_setCell _ _ _ _ (by omega)).trans (h.block k hk hn), h.tags⟩
theorem Try.results106 : Try.f106.results = #[.cell 4 94] := by kernel_rfl

set_option maxRecDepth 100000 in
set_option maxHeartbeats 800000 in
theorem xdo_nop (own : Nat → Tag) (rid k tb : Nat) (t : List UInt8) (cl p l : Int) (w : World) (h : TextX own rid k w tb t) :
  Calls Try.prog 52 #[.pointer (some ⟨tb, 0, none⟩), .agg #[.int .i64 cl, .int .i64 0, .int .i64 p, .int .u8 l]] w fun e w' => e = .returned (.tuple #[]) ∧ ∃ own', TextX own' rid k w' tb t ∧ Upd own own' (inText rid k) w w' := by
 have U : Upd own own (fun _ => False) w (w.alloc (Obj.cells #[Value.int IntKind.i64 cl, Value.int IntKind.i64 0, Value.int IntKind.i64 p, Value.int IntKind.u8 l] 94)) := (Upd.refl own _ w).alloc _
 have HT := hide (h.upd U (fun h => h) (fun h => h))
 have HU := hide U
 clear h U
 go_enter Try.func52, Try.ntmps52
 go_wp2
 go_end0
 exact ⟨rfl, own, unhide HT, (unhide HU).mono (fun _ h => h.elim)⟩
theorem xdo_any (own : Nat → Tag) (rid k tb : Nat) (t : List UInt8) (o : ROp) (w : World) (h : TextX own rid k w tb t) (ho : o.Norm) (hf : o.fits t.length) (ht : t.length ≤ 900) :
  Calls Try.prog 52 #[.pointer (some ⟨tb, 0, none⟩), o.val] w fun e w' => e = .returned (.tuple #[]) ∧ ∃ own', TextX own' rid k w' tb (o.does t) ∧ Upd own own' (inText rid k) w w' := by
 obtain ⟨c, v, p, l⟩ := o
 obtain ⟨_, hv⟩ := ho
 unfold ROp.val
 dsimp only at hv ⊢
 rcases hf with rfl | ⟨rfl, f1, f2⟩ | ⟨rfl, f1, f2⟩
 ·rw [ROp.does_nop]
  exact xdo_nop own rid k tb t c p l w h
 ·dsimp only at f1 f2
  obtain ⟨q, rfl⟩ := Int.eq_ofNat_of_zero_le f1
  obtain ⟨u, rfl⟩ := Int.eq_ofNat_of_zero_le (show 0 ≤ l by omega)
  rw [ROp.does_put]
  exact xdo_put own rid k tb t c q u w h (by omega) (by omega) ht
 ·dsimp only at f1 f2
  obtain ⟨q, rfl⟩ := Int.eq_ofNat_of_zero_le f1
  rw [ROp.does_cut]
  exact xdo_cut own rid k tb t c q l w h (by omega) ht

theorem flatMap_drop {α β : Type} (f : α → List β) (n : Nat) (hf : ∀ a, (f a).length = n) : ∀ (l : List α) (k : Nat), (l.drop k).flatMap f = (l.flatMap f).drop (k * n)
 | [], k => by simp
 | a :: l, 0 => by simp
 | a :: l, k + 1 => by
  rw [List.drop_succ_cons, flatMap_drop f n hf l k, List.flatMap_cons, Nat.add_mul, Nat.one_mul, List.drop_append, hf]
  rw [show (f a).drop (k * n + n) = [] from List.drop_eq_nil_of_le (by rw [hf]; omega), List.nil_append, Nat.add_sub_cancel]

theorem ownsRow_shape {w : World} {B : Nat} {e : TypeId} {size : Nat} {v : Value} {n : Nat} {xs : List Value} (h : w.ownsRow B e size v n xs) : ∃ a c, v = .slice a n c := by
 rcases h.2 with ⟨rfl, rfl⟩ | ⟨g, cap, cur, rfl, _⟩
 ·exact ⟨_, _, rfl⟩
 ·exact ⟨_, _, rfl⟩
/-- What turnAgainst is called with: the open ones from some place on. -/
theorem xagainst_open (own : Nat → Tag) (t : Tag) (W W' : World) (o : ROp) (l : List ROp) (a : Option Addr) (c k : Nat) (hop : OwnsT own t W 94 4 (.slice a l.length c) l.length (l.flatMap ROp.cells)) (hk : k ≤ l.length) (hl : l.length ≤ 1000) (ho : o.Norm) (hp : o.place ≤ 1000)
  (hb : ∀ b ∈ l, b.Norm ∧ b.place ≤ 1000 ∧ o.client ≠ b.client) (hf : ∀ q, q < W.heap.size → W'.heap[q]? = W.heap[q]?) :
  Calls Try.prog 108 #[o.val, .slice (if c = k then a else a.map (·.add (k * 4))) (l.length - k) (c - k)] W' fun e w' => ∃ v, e = .returned (.tuple #[(turnAll o (l.drop k)).1.val, v]) ∧ w'.ownsRow W'.heap.size 94 4 v (l.length - k) ((turnAll o (l.drop k)).2.flatMap ROp.cells) ∧ Below W'.heap.size W' w' := by
 have hdl : (l.drop k).length = l.length - k := by simp
 rcases hop.1.2 with ⟨h0, h1⟩ | ⟨g, cap, cur, hv, hb0, hg, h3, h4, h5, h6⟩
 ·have hl0 : l = [] := List.eq_nil_of_length_eq_zero h1
  have := xagainst o (l.drop k) (if c = k then a else a.map (·.add (k * 4))) 0 0 (c - k) W' (by simp [hl0]) (by simp [hl0]) ho hp (fun b hb' => hb b (List.mem_of_mem_drop hb')) (by intro j u hu; simp [hl0] at hu)
  rw [hdl] at this
  exact this
 ·obtain ⟨rfl, rfl⟩ : a = some ⟨g, 0, none⟩ ∧ c = cap := by simpa using hv
  have := xagainst o (l.drop k) (if c = k then some ⟨g, 0, none⟩ else (some (⟨g, 0, none⟩ : Addr)).map (·.add (k * 4))) g (k * 4) (c - k) W' (by rw [hdl]; omega) (fun hne => by
   have : 0 < (l.drop k).length := List.length_pos_iff.2 hne
   rw [hdl] at this
   rw [if_neg (by omega)]
   simp [Addr.add_lit]) ho hp (fun b hb' => hb b (List.mem_of_mem_drop hb')) (by
   intro j u hu
   rw [flatMap_drop ROp.cells 4 (fun _ => rfl), List.getElem?_drop] at hu
   have h7 := hop.1.cells (g := g) rfl _ _ hu
   rw [Addr.add_lit, Nat.zero_add] at h7
   exact (World.cell?_of_block (hf g (Array.getElem?_eq_some_iff.1 hg).1)).trans h7)
  rw [hdl] at this
  exact this

set_option maxRecDepth 100000 in
set_option maxHeartbeats 1600000 in
theorem xtake (own : Nat → Tag) (rid k kt b tb window : Nat) (E : IEnd) (m : IMsg) (t : List UInt8) (w : World) (h : EndX own rid k w b tb window E) (hT : TextX own rid kt w tb t) (h1 : E.seen ≤ m.ctx) (h2 : m.ctx - E.seen ≤ E.opn.length) (hmn : m.op.Norm) (hmp : m.op.place ≤ 1000) (hbs : ∀ x ∈ E.opn, x.Norm ∧ x.place ≤ 1000 ∧ m.op.client ≠ x.client)
  (hol : E.opn.length ≤ 1000) (hon : (E.taking m).1.Norm) (hof : (E.taking m).1.fits t.length) (ht : t.length ≤ 900) :
  Calls Try.prog 106 #[.pointer (some ⟨b, 0, none⟩), .agg m.cells.toArray] w fun e w' => e = .returned (E.taking m).1.val ∧ ∃ own', EndX own' rid k w' b tb window (E.take m) ∧ TextX own' rid kt w' tb ((E.taking m).1.does t) ∧ Upd own own' (fun x => inEnd rid k x ∨ inText rid kt x) w w' := by
 have V : Upd own (retag (retag own w.heap.size (rid + 1, 0, 0)) (w.heap.size + 1) (rid + 1, 0, 1)) (fun _ => False) w ((w.alloc (Obj.cells #[Value.int IntKind.i64 m.number, Value.int IntKind.i64 m.ctx, Value.int IntKind.i64 m.op.client, Value.int IntKind.i64 m.op.verb, Value.int IntKind.i64 m.op.place, Value.int IntKind.u8 m.op.letter] 139)).alloc (Obj.cells #[Value.int IntKind.i64 0, Value.int IntKind.i64 0, Value.int IntKind.i64 0, Value.int IntKind.u8 0] 94)) := Upd.retag (Upd.retag (((Upd.refl own (fun _ => False) w).alloc _).alloc _) _ _ (Nat.le_refl _)) _ _ (by omega)
 have CM : CellsT (retag (retag own w.heap.size (rid + 1, 0, 0)) (w.heap.size + 1) (rid + 1, 0, 1)) (rid + 1, 0, 0) ((w.alloc (Obj.cells #[Value.int IntKind.i64 m.number, Value.int IntKind.i64 m.ctx, Value.int IntKind.i64 m.op.client, Value.int IntKind.i64 m.op.verb, Value.int IntKind.i64 m.op.place, Value.int IntKind.u8 m.op.letter] 139)).alloc (Obj.cells #[Value.int IntKind.i64 0, Value.int IntKind.i64 0, Value.int IntKind.i64 0, Value.int IntKind.u8 0] 94)) w.heap.size #[Value.int IntKind.i64 m.number, Value.int IntKind.i64 m.ctx, Value.int IntKind.i64 m.op.client, Value.int IntKind.i64 m.op.verb, Value.int IntKind.i64 m.op.place, Value.int IntKind.u8 m.op.letter] 139 := ⟨(Below.heap_alloc _ _ _ (by simp)).trans (heap_alloc_new w _), by rw [retag_lt (by omega)]; exact retag_ge (Nat.le_refl _)⟩
 have CR : CellsT (retag (retag own w.heap.size (rid + 1, 0, 0)) (w.heap.size + 1) (rid + 1, 0, 1)) (rid + 1, 0, 1) ((w.alloc (Obj.cells #[Value.int IntKind.i64 m.number, Value.int IntKind.i64 m.ctx, Value.int IntKind.i64 m.op.client, Value.int IntKind.i64 m.op.verb, Value.int IntKind.i64 m.op.place, Value.int IntKind.u8 m.op.letter] 139)).alloc (Obj.cells #[Value.int IntKind.i64 0, Value.int IntKind.i64 0, Value.int IntKind.i64 0, Value.int IntKind.u8 0] 94)) (w.heap.size + 1) #[Value.int IntKind.i64 0, Value.int IntKind.i64 0, Value.int IntKind.i64 0, Value.int IntKind.u8 0] 94 := ⟨by have := heap_alloc_new (w.alloc (Obj.cells #[Value.int IntKind.i64 m.number, Value.int IntKind.i64 m.ctx, Value.int IntKind.i64 m.op.client, Value.int IntKind.i64 m.op.verb, Value.int IntKind.i64 m.op.place, Value.int IntKind.u8 m.op.letter] 139)) (Obj.cells #[Value.int IntKind.i64 0, Value.int IntKind.i64 0, Value.int IntKind.i64 0, Value.int IntKind.u8 0] 94); rwa [World.size_alloc] at this, retag_ge (Nat.le_refl _)⟩
 have hE1 := h.upd V (fun _ _ _ h => h)
 have hT1 := hT.upd V (fun h => h) (fun h => h)
 unfold IMsg.cells
 go_enter Try.func106, Try.ntmps106
 go_wp2_with fail
 have HV := hide V
 clear h hT V
 generalize ((w.alloc (Obj.cells #[Value.int IntKind.i64 m.number, Value.int IntKind.i64 m.ctx, Value.int IntKind.i64 m.op.client, Value.int IntKind.i64 m.op.verb, Value.int IntKind.i64 m.op.place, Value.int IntKind.u8 m.op.letter] 139)).alloc (Obj.cells #[Value.int IntKind.i64 0, Value.int IntKind.i64 0, Value.int IntKind.i64 0, Value.int IntKind.u8 0] 94)) = W at *
 generalize (retag (retag own w.heap.size (rid + 1, 0, 0)) (w.heap.size + 1) (rid + 1, 0, 1)) = own1 at *
 generalize hNw : w.heap.size = N at *
 have HN := hide hNw
 clear hNw
 have HTK : Hid (E.taking m = turnAll m.op (E.opn.drop (m.ctx - E.seen))) := rfl
 obtain ⟨k0, hk0⟩ : ∃ q, q = m.ctx - E.seen := ⟨_, rfl⟩
 rw [← hk0] at h2 HTK
 have hctx : (m.ctx : Int) - E.seen = k0 := by omega
 have HK0 := hide hk0
 clear hk0
 obtain ⟨o, HO⟩ : ∃ o, Hid (o = (E.taking m).1) := ⟨_, rfl⟩
 rw [← HO.out] at hon hof
 have hE1' := hE1
 obtain ⟨wv, ov, kb, fv, hc, hm, hop, hkp, hf⟩ := hE1'
 obtain ⟨oa, oc, rfl, hoc, hocm⟩ := hop.shape
 obtain ⟨sa, hsa⟩ : ∃ sa, (if oc = k0 then oa else oa.map (·.add (k0 * 4))) = sa := ⟨_, rfl⟩
 obtain ⟨bh, HBH⟩ : ∃ bh, Hid (bh = (E.taking m).2) := ⟨_, rfl⟩
 have HAG : Hid (∀ W', (∀ q, q < W.heap.size → W'.heap[q]? = W.heap[q]?) → Calls Try.prog 108 #[.agg #[Value.int IntKind.i64 m.op.client, Value.int IntKind.i64 m.op.verb, Value.int IntKind.i64 m.op.place, Value.int IntKind.u8 m.op.letter], .slice sa (E.opn.length - k0) (oc - k0)] W' fun e w' => ∃ v, e = .returned (.tuple #[.agg #[Value.int IntKind.i64 o.client, Value.int IntKind.i64 o.verb, Value.int IntKind.i64 o.place, Value.int IntKind.u8 o.letter], v]) ∧ w'.ownsRow W'.heap.size 94 4 v (E.opn.length - k0) (bh.flatMap ROp.cells) ∧ Below W'.heap.size W' w') := by
  apply hide
  intro W' hf'
  have := xagainst_open own1 (rid, k, 5) W W' m.op E.opn oa oc k0 hop h2 hol hmn hmp hbs hf'
  rw [hsa, ← HTK.out, ← HO.out, ← HBH.out] at this
  exact this
 have hb6 : W.cell? ⟨b, 6, none⟩ = some (.slice oa E.opn.length oc) := by rw [hc.cell]; rfl
 have KS : Hid (∀ W' : World, (∀ q, q < W.heap.size → W'.heap[q]? = W.heap[q]?) → W'.cell? ⟨b, 6, none⟩ = some (.slice oa E.opn.length oc) ∧ W'.cell? ⟨b, 5, none⟩ = some (.int .i64 E.seen) ∧ W'.cell? ⟨N, 1, none⟩ = some (.int .i64 m.ctx) ∧ W'.cell? ⟨N, 2, none⟩ = some (.int .i64 m.op.client) ∧ W'.cell? ⟨N, 3, none⟩ = some (.int .i64 m.op.verb) ∧ W'.cell? ⟨N, 4, none⟩ = some (.int .i64 m.op.place) ∧ W'.cell? ⟨N, 5, none⟩ = some (.int .u8 m.op.letter)) := by
  apply hide
  intro W' hf'
  have e1 : ∀ {p : Addr} {u : Value}, W.cell? p = some u → W'.cell? p = some u := fun {p u} hu => (World.cell?_of_block (hf' p.block (World.block_lt_of_cell? W p hu))).trans hu
  exact ⟨e1 hb6, e1 hE1.c5, e1 (CM.cell 1), e1 (CM.cell 2), e1 (CM.cell 3), e1 (CM.cell 4), e1 (CM.cell 5)⟩
 have F1 : Hid (∀ o, ∀ q, q < W.heap.size → (W.alloc o).heap[q]? = W.heap[q]?) := hide fun o q hq => Below.heap_alloc _ _ _ hq
 have FB : Hid (∀ W' w2, (∀ q, q < W.heap.size → W'.heap[q]? = W.heap[q]?) → W.heap.size ≤ W'.heap.size → Below W'.heap.size W' w2 → ∀ q, q < W.heap.size → w2.heap[q]? = W.heap[q]?) := hide fun W' w2 h1 h2 h3 q hq => (h3.block q (by omega)).trans (h1 q hq)
 go_cut [5, 6] (fun v5 v6 wc => ∃ q va vc, v5 = .pointer (some ⟨q, 0, none⟩) ∧ v6 = .slice va (E.opn.length - k0) vc ∧ W.heap.size ≤ q ∧ wc.heap[q]? = some (.cells #[Value.int IntKind.i64 o.client, Value.int IntKind.i64 o.verb, Value.int IntKind.i64 o.place, Value.int IntKind.u8 o.letter] 94 (0, 0)) ∧ wc.ownsRow W.heap.size 94 4 v6 (E.opn.length - k0) (bh.flatMap ROp.cells) ∧ (∀ g, v6.ownBlock = some g → g ≠ q) ∧ Below W.heap.size W wc)
 case first =>
  have FS : Hid (∀ (w2 : World) q, W.heap.size ≤ q → (∀ k, k < W.heap.size → w2.heap[k]? = W.heap[k]?) → ∀ v0 v1 v2 v3, ∀ k, k < W.heap.size → ((((w2.setCell ⟨q, 0, none⟩ v0).setCell ⟨q, 1, none⟩ v1).setCell ⟨q, 2, none⟩ v2).setCell ⟨q, 3, none⟩ v3).heap[k]? = W.heap[k]?) := by
   apply hide
   intro w2 q hq hf' v0 v1 v2 v3 k hk
   rw [Below.heap_setCell _ _ _ _ (by show k ≠ q; omega), Below.heap_setCell _ _ _ _ (by show k ≠ q; omega), Below.heap_setCell _ _ _ _ (by show k ≠ q; omega), Below.heap_setCell _ _ _ _ (by show k ≠ q; omega)]
   exact hf' k hk
  have HAG0 : Hid (Calls Try.prog 108 #[.agg #[Value.int IntKind.i64 m.op.client, Value.int IntKind.i64 m.op.verb, Value.int IntKind.i64 m.op.place, Value.int IntKind.u8 m.op.letter], .slice sa (E.opn.length - k0) (oc - k0)] W.drew fun e w2 => ∃ v, e = .returned (.tuple #[.agg #[Value.int IntKind.i64 o.client, Value.int IntKind.i64 o.verb, Value.int IntKind.i64 o.place, Value.int IntKind.u8 o.letter], v]) ∧ Hid (w2.ownsRow W.heap.size 94 4 v (E.opn.length - k0) (bh.flatMap ROp.cells)) ∧ Hid (∀ q, q < W.heap.size → w2.heap[q]? = W.heap[q]?) ∧ Hid (Below W.heap.size W w2) ∧ Hid (∀ x, ∀ q, q < W.heap.size → (w2.alloc x).heap[q]? = W.heap[q]?) ∧ Hid (W.heap.size ≤ w2.heap.size) ∧ Hid (∀ g, v.ownBlock = some g → g ≠ w2.heap.size)) := by
   apply hide
   refine (unhide HAG W.drew (fun _ _ => rfl)).mono ?_
   rintro e w2 ⟨v, rfl, hr, hb⟩
   have hb' : Below W.heap.size W w2 := ((Below.refl W.heap.size W).drew).trans hb
   refine ⟨v, rfl, hide hr, hide fun q hq => hb'.block q hq, hide hb', hide fun x q hq => (Below.heap_alloc _ _ _ (Nat.lt_of_lt_of_le hq hb'.size)).trans (hb'.block q hq), hide hb'.size, hide fun g hg => by have := (hr.lt g hg).2; omega⟩
  have HAG1 : Hid (Calls Try.prog 108 #[.agg #[Value.int IntKind.i64 m.op.client, Value.int IntKind.i64 m.op.verb, Value.int IntKind.i64 m.op.place, Value.int IntKind.u8 m.op.letter], .slice sa (E.opn.length - k0) (oc - k0)] (W.alloc (Obj.cells #[Value.int IntKind.i64 0, Value.int IntKind.i64 0, Value.int IntKind.i64 0, Value.int IntKind.u8 0] 94)).drew fun e w2 => ∃ v, e = .returned (.tuple #[.agg #[Value.int IntKind.i64 o.client, Value.int IntKind.i64 o.verb, Value.int IntKind.i64 o.place, Value.int IntKind.u8 o.letter], v]) ∧ Hid (w2.ownsRow W.heap.size 94 4 v (E.opn.length - k0) (bh.flatMap ROp.cells)) ∧ Hid (∀ q, q < W.heap.size → w2.heap[q]? = W.heap[q]?) ∧ Hid (Below W.heap.size W w2) ∧ (w2.cell? ⟨W.heap.size, 0, none⟩ = some (.int .i64 0) ∧ w2.cell? ⟨W.heap.size, 1, none⟩ = some (.int .i64 0) ∧ w2.cell? ⟨W.heap.size, 2, none⟩ = some (.int .i64 0) ∧ w2.cell? ⟨W.heap.size, 3, none⟩ = some (.int .u8 0)) ∧ (w2.frozen? ⟨W.heap.size, 0, none⟩ = false ∧ w2.frozen? ⟨W.heap.size, 1, none⟩ = false ∧ w2.frozen? ⟨W.heap.size, 2, none⟩ = false ∧ w2.frozen? ⟨W.heap.size, 3, none⟩ = false) ∧ Hid (w2.heap[W.heap.size]? = some (.cells #[Value.int IntKind.i64 0, Value.int IntKind.i64 0, Value.int IntKind.i64 0, Value.int IntKind.u8 0] 94 (0, 0))) ∧ Hid (∀ g, v.ownBlock = some g → g ≠ W.heap.size)) := by
   apply hide
   refine (unhide HAG (W.alloc (Obj.cells #[Value.int IntKind.i64 0, Value.int IntKind.i64 0, Value.int IntKind.i64 0, Value.int IntKind.u8 0] 94)).drew (fun q hq => unhide F1 _ q hq)).mono ?_
   rintro e w2 ⟨v, rfl, hr, hb⟩
   have hsz : (W.alloc (Obj.cells #[Value.int IntKind.i64 0, Value.int IntKind.i64 0, Value.int IntKind.i64 0, Value.int IntKind.u8 0] 94)).drew.heap.size = W.heap.size + 1 := by show (W.alloc _).heap.size = _; simp
   have hg : w2.heap[W.heap.size]? = some (.cells #[Value.int IntKind.i64 0, Value.int IntKind.i64 0, Value.int IntKind.i64 0, Value.int IntKind.u8 0] 94 (0, 0)) := (hb.block _ (by rw [hsz]; omega)).trans (heap_alloc_new W _)
   have hb' : Below W.heap.size W w2 := (((Below.refl W.heap.size W).alloc (Nat.le_refl _) _).drew).trans (hb.mono (by rw [hsz]; omega))
   refine ⟨v, rfl, hide ⟨hr.1, hr.2.imp id fun ⟨g, cap, cur, hv, hbb, rest⟩ => ⟨g, cap, cur, hv, by rw [hsz] at hbb; omega, rest⟩⟩, hide fun q hq => hb'.block q hq, hide hb', ⟨?_, ?_, ?_, ?_⟩, ⟨?_, ?_, ?_, ?_⟩, hide hg, hide fun g hg' => by have := (hr.lt g hg').1; rw [hsz] at this; omega⟩ <;> simp [World.cell?, World.frozen?, hg]
  have FD0 : Hid (∀ q, q < W.heap.size → W.drew.heap[q]? = W.heap[q]?) := hide fun _ _ => rfl
  have FD1 : Hid (∀ o, ∀ q, q < W.heap.size → (W.alloc o).drew.heap[q]? = W.heap[q]?) := hide fun o q hq => unhide F1 o q hq
  have hk1 : (k0 : Int) ≤ (E.opn.length : Int) := by omega
  have hwr : IntKind.i64.wrap ((m.ctx : Int) - E.seen) = k0 := by rw [hctx, IntKind.wrap_i64]; omega
  have HCT := hide hctx
  clear hE1 hT1 CM CR hc hm hop hkp hf hb6 hbs hctx
  go_region_held3 (fun w' => w'.cell? ⟨b, 6, none⟩ = some (.slice oa E.opn.length oc) ∧ w'.cell? ⟨b, 5, none⟩ = some (.int .i64 E.seen) ∧ w'.cell? ⟨N, 1, none⟩ = some (.int .i64 m.ctx) ∧ w'.cell? ⟨N, 2, none⟩ = some (.int .i64 m.op.client) ∧ w'.cell? ⟨N, 3, none⟩ = some (.int .i64 m.op.verb) ∧ w'.cell? ⟨N, 4, none⟩ = some (.int .i64 m.op.place) ∧ w'.cell? ⟨N, 5, none⟩ = some (.int .u8 m.op.letter)) (first | with_reducible exact unhide KS _ (unhide FD0) | with_reducible exact unhide KS _ (unhide FD1 _) | with_reducible exact unhide KS _ (unhide hF2) | with_reducible exact unhide KS _ (unhide FA2 _) | with_reducible exact unhide KS _ (unhide FS _ _ (Nat.le_refl _) (unhide hF2) _ _ _ _) | with_reducible exact unhide KS _ (unhide FS _ _ (unhide HS2) (unhide FA2 _) _ _ _ _)) (first | (go_at_call 108; with_reducible refine (unhide HAG0).mono ?_; rintro e w2 ⟨v2, rfl, hr2, hF2, hb2, FA2, HS2, HG2⟩) | (go_at_call 108; with_reducible refine (unhide HAG1).mono ?_; rintro e w2 ⟨v2, rfl, hr2, hF2, hb2, ⟨z0, z1, z2, z3⟩, ⟨y0, y1, y2, y3⟩, hg2, HG2⟩))
  ·go_wp2
   go_meet
   case rel =>
    obtain ⟨va, vc, rfl⟩ := ownsRow_shape (unhide hr2)
    exact ⟨_, va, vc, rfl, rfl, unhide HS2, heap_alloc_new _ _, (unhide hr2).alloc _, unhide HG2, (unhide hb2).alloc (unhide HS2) _⟩
  ·go_wp2
   go_meet
   case rel =>
    have c0 : CellsT (fun _ => (0, 0, 0)) (0, 0, 0) w2 W.heap.size #[Value.int IntKind.i64 0, Value.int IntKind.i64 0, Value.int IntKind.i64 0, Value.int IntKind.u8 0] 94 := ⟨unhide hg2, rfl⟩
    have hr := unhide hr2
    obtain ⟨va, vc, rfl⟩ := ownsRow_shape hr
    refine ⟨_, va, vc, rfl, rfl, Nat.le_refl _, ((((c0.set 0 _).set 1 _).set 2 _).set 3 _).1, ⟨hr.1, hr.2.imp id fun ⟨g, cap, cur, hv, hbb, hgg, rest⟩ => ⟨g, cap, cur, hv, hbb, ?_, rest⟩⟩, unhide HG2, ((((unhide hb2).setCell (Nat.le_refl _) _).setCell (Nat.le_refl _) _).setCell (Nat.le_refl _) _).setCell (Nat.le_refl _) _⟩
    have hne : g ≠ W.heap.size := unhide HG2 g (by rw [hv]; rfl)
    rw [Below.heap_setCell _ _ _ _ hne, Below.heap_setCell _ _ _ _ hne, Below.heap_setCell _ _ _ _ hne, Below.heap_setCell _ _ _ _ hne]
    exact hgg
 case rest =>
  obtain ⟨q, va, vc, rfl, rfl, hq, hqc, hrow, hne, hBl⟩ := hcut
  clear KS F1 FB HAG hsa hctx hb6 hc hm hop hkp hf
  obtain ⟨own2, HT2⟩ : ∃ own2 : Nat → Tag, Hid (own2 = fun j => if j < W.heap.size then own1 j else if j = q then (rid + 1, 0, 2) else (rid, k, 5)) := ⟨_, rfl⟩
  have V2 : Upd own1 own2 (fun _ => False) W wc := ⟨hBl.os, hBl.tape, hBl.output, hBl.size, fun j hj _ => hBl.block j hj, fun j hj => by rw [HT2.out]; exact if_pos hj⟩
  have CQ : CellsT own2 (rid + 1, 0, 2) wc q #[Value.int IntKind.i64 o.client, Value.int IntKind.i64 o.verb, Value.int IntKind.i64 o.place, Value.int IntKind.u8 o.letter] 94 := ⟨hqc, by rw [HT2.out]; dsimp only; rw [if_neg (by omega), if_pos rfl]⟩
  have OB : OwnsT own2 (rid, k, 5) wc 94 4 (.slice va (E.opn.length - k0) vc) (E.opn.length - k0) (bh.flatMap ROp.cells) := ⟨⟨hrow.1, hrow.2.imp id fun ⟨g, cap, cur, hv, _, rest⟩ => ⟨g, cap, cur, hv, Nat.zero_le _, rest⟩⟩, fun g hg => by
   have h1 := (hrow.lt g hg).1
   have h2 := hne g hg
   rw [HT2.out]; dsimp only; rw [if_neg (by omega), if_neg h2]⟩
  have hE2 := hE1.upd V2 (fun _ _ _ h => h)
  have hT2 := hT1.upd V2 (fun h => h) (fun h => h)
  have CM2 := CM.upd V2 (fun h => h)
  have CR2 := CR.upd V2 (fun h => h)
  have HU2 : Hid (Upd own own2 (fun _ => False) w wc) := hide ((unhide HV).trans V2)
  clear hE1 hT1 CM CR V2 hBl hrow hqc hne HV HT2 hq
  have m0 := CM2.cell 0
  have m1 := CM2.cell 1
  have o0 := CQ.cell 0
  have o1 := CQ.cell 1
  have o2 := CQ.cell 2
  have o3 := CQ.cell 3
  simp only [List.getElem?_toArray, List.getElem?_cons_zero, List.getElem?_cons_succ] at m0 m1 o0 o1 o2 o3
  have e0 := hE2.c0
  have e4 := hE2.c4
  have e5 := hE2.c5
  obtain ⟨oa2, oc2, e6⟩ : ∃ a c, wc.cell? ⟨b, 6, none⟩ = some (.slice a E.opn.length c) := by
   obtain ⟨_, _, _, _, hc, _, hop, _⟩ := hE2
   obtain ⟨a, c, rfl, _⟩ := hop.shape
   exact ⟨a, c, by rw [hc.cell]; rfl⟩
  have hfz : ∀ j, wc.frozen? ⟨b, j, none⟩ = false := by obtain ⟨_, _, _, _, hc, _⟩ := hE2; exact hc.frozen
  have f4 := hfz 4
  have f5 := hfz 5
  have f6 := hfz 6
  have nbq : ¬ (b = q) := by
   intro e
   obtain ⟨_, _, _, _, hc, _⟩ := hE2
   have h1 := hc.2
   have h2 := CQ.2
   rw [e, h2] at h1; simp at h1
  have nbN : ¬ (b = N) := by
   intro e
   obtain ⟨_, _, _, _, hc, _⟩ := hE2
   have h1 := hc.2
   have h2 := CM2.2
   rw [e, h2] at h1; simp at h1
  clear hfz
  have nNb : ¬ (N = b) := fun e => nbN e.symm
  go_wp2_with fail
  go_region_held3 (fun w' => w'.cell? ⟨N, 1, none⟩ = some (.int .i64 m.ctx)) (go_keep) (fail)
  all_goals go_wp2_with fail
  have U3 : Upd own2 own2 (fun t => t = (rid, k, 0)) wc (((wc.setCell ⟨b, 6, none⟩ (.slice va (E.opn.length - k0) vc)).setCell ⟨b, 5, none⟩ (.int .i64 m.ctx)).setCell ⟨b, 4, none⟩ (.int .i64 m.number)).drew := by
   have hbt : own2 b = (rid, k, 0) := by obtain ⟨_, _, _, _, hc, _⟩ := hE2; exact hc.2
   exact (Upd.setCell (p := ⟨b, 4, none⟩) (Upd.setCell (p := ⟨b, 5, none⟩) (Upd.setCell (p := ⟨b, 6, none⟩) (Upd.refl own2 _ wc) hbt _) hbt _) hbt _).drew
  have hE3 : EndX own2 rid k (((wc.setCell ⟨b, 6, none⟩ (.slice va (E.opn.length - k0) vc)).setCell ⟨b, 5, none⟩ (.int .i64 m.ctx)).setCell ⟨b, 4, none⟩ (.int .i64 m.number)).drew b tb window (E.take m) := by
   obtain ⟨wv, ov, kb, fv, hc, hm, hop, hkp, hf⟩ := hE2
   have hbl : (E.take m).opn.length = E.opn.length - k0 := by
    have := OB.1.1
    rw [HBH.out] at this
    have e : ((E.taking m).2.flatMap ROp.cells).length = (E.taking m).2.length * 4 := by
     generalize (E.taking m).2 = l
     induction l with
     | nil => rfl
     | cons a l ih => simp [List.flatMap_cons, ih, ROp.cells]; omega
    rw [e] at this
    show (E.taking m).2.length = _
    omega
   refine ⟨wv, .slice va (E.opn.length - k0) vc, kb, fv, (((hc.set 6 _).set 5 _).set 4 _).drew, hm.upd U3 (by simp), ?_, hkp.upd U3 (by simp), hf.upd U3 (by simp)⟩
   rw [hbl, show (E.take m).opn = bh from HBH.out.symm]
   exact OB.upd U3 (by simp)
  have hT3 := hT2.upd U3 (by simp) (by simp)
  have CQ3 := CQ.upd U3 (by simp)
  have CR3 := CR2.upd U3 (by simp)
  have HU3 := hide (((unhide HU2).mono (may' := fun t => t = (rid, k, 0)) (fun _ h => h.elim)).trans U3)
  clear hE2 hT2 CQ CR2 CM2 HU2 OB U3 e0 e4 e5 e6 f4 f5 f6 m0 m1 o0 o1 o2 o3
  generalize (((wc.setCell ⟨b, 6, none⟩ (.slice va (E.opn.length - k0) vc)).setCell ⟨b, 5, none⟩ (.int .i64 m.ctx)).setCell ⟨b, 4, none⟩ (.int .i64 m.number)).drew = W5 at *
  have e0 := hE3.c0
  have o0 := CQ3.cell 0
  have o1 := CQ3.cell 1
  have o2 := CQ3.cell 2
  have o3 := CQ3.cell 3
  simp only [List.getElem?_toArray, List.getElem?_cons_zero, List.getElem?_cons_succ] at o0 o1 o2 o3
  have HDO : Hid (Calls Try.prog 52 #[.pointer (some ⟨tb, 0, none⟩), .agg #[Value.int IntKind.i64 o.client, Value.int IntKind.i64 o.verb, Value.int IntKind.i64 o.place, Value.int IntKind.u8 o.letter]] W5.drew fun e w6 => e = .returned (.tuple #[]) ∧ (w6.cell? ⟨b, 0, none⟩ = some (.pointer (some ⟨tb, 0, none⟩)) ∧ w6.cell? ⟨q, 0, none⟩ = some (.int .i64 o.client) ∧ w6.cell? ⟨q, 1, none⟩ = some (.int .i64 o.verb) ∧ w6.cell? ⟨q, 2, none⟩ = some (.int .i64 o.place) ∧ w6.cell? ⟨q, 3, none⟩ = some (.int .u8 o.letter)) ∧ ∃ own6, Hid (TextX own6 rid kt w6 tb (o.does t)) ∧ Hid (EndX own6 rid k w6 b tb window (E.take m)) ∧ Hid (CellsT own6 (rid + 1, 0, 1) w6 (N + 1) #[Value.int IntKind.i64 0, Value.int IntKind.i64 0, Value.int IntKind.i64 0, Value.int IntKind.u8 0] 94) ∧ Hid (CellsT own6 (rid + 1, 0, 2) w6 q #[Value.int IntKind.i64 o.client, Value.int IntKind.i64 o.verb, Value.int IntKind.i64 o.place, Value.int IntKind.u8 o.letter] 94) ∧ Hid (Upd own own6 (fun x => inEnd rid k x ∨ inText rid kt x) w w6)) := by
   apply hide
   have hT4 := hT3.upd ((Upd.refl own2 (fun _ => False) W5).drew) (fun h => h) (fun h => h)
   refine (xdo_any own2 rid kt tb t o W5.drew hT4 hon hof ht).mono ?_
   rintro e w6 ⟨rfl, own6, hT6, hU6⟩
   have hU6' : Upd own2 own6 (inText rid kt) W5 w6 := ((Upd.refl own2 _ W5).drew).trans hU6
   have hE6 := hE3.upd hU6' (by intro j h1 h2; simp [inText, h1, h2])
   have CQ6 := CQ3.upd hU6' (by simp [inText])
   have CR6 := CR3.upd hU6' (by simp [inText])
   exact ⟨rfl, ⟨hE6.c0, CQ6.cell 0, CQ6.cell 1, CQ6.cell 2, CQ6.cell 3⟩, own6, hide hT6, hide hE6, hide CR6, hide CQ6, hide (((unhide HU3).mono (by rintro x rfl; exact .inl (inEnd.mk _ _ (by decide) (by decide)))).trans (hU6'.mono fun _ h => .inr h))⟩
  clear hE3 hT3 CQ3 CR3 HU3
  go_region_held3 (fun w' => w'.cell? ⟨b, 0, none⟩ = some (.pointer (some ⟨tb, 0, none⟩)) ∧ w'.cell? ⟨q, 0, none⟩ = some (.int .i64 o.client) ∧ w'.cell? ⟨q, 1, none⟩ = some (.int .i64 o.verb) ∧ w'.cell? ⟨q, 2, none⟩ = some (.int .i64 o.place) ∧ w'.cell? ⟨q, 3, none⟩ = some (.int .u8 o.letter)) (first | exact ⟨e0, o0, o1, o2, o3⟩ | with_reducible exact hS6) (first | (go_at_call 52; with_reducible refine (unhide HDO).mono ?_; rintro e w6 ⟨rfl, hS6, own6, hT6, hE6, hR6, hQ6, hU6⟩))
  all_goals
   obtain ⟨_, p0, p1, p2, p3⟩ := hS6
   have HR := unhide hR6
   have r0 := HR.cell 0
   have r1 := HR.cell 1
   have r2 := HR.cell 2
   have r3 := HR.cell 3
   simp only [List.getElem?_toArray, List.getElem?_cons_zero, List.getElem?_cons_succ] at r0 r1 r2 r3
   have g0 := HR.frozen 0
   have g1 := HR.frozen 1
   have g2 := HR.frozen 2
   have g3 := HR.frozen 3
   clear HR
   go_wp2_with fail
  have hU := unhide hU6
  have hge : w.heap.size ≤ N + 1 := by rw [unhide HN]; omega
  have G := ((((unhide hR6).set 0 (.int .i64 o.client)).set 1 (.int .i64 o.verb)).set 2 (.int .i64 o.place)).set 3 (.int .u8 o.letter)
  have q2 := (unhide hR6).2
  have U4 : Upd own6 own6 (fun t => t = (rid + 1, 0, 1)) w6 ((((w6.setCell ⟨N + 1, 0, none⟩ (.int .i64 o.client)).setCell ⟨N + 1, 1, none⟩ (.int .i64 o.verb)).setCell ⟨N + 1, 2, none⟩ (.int .i64 o.place)).setCell ⟨N + 1, 3, none⟩ (.int .u8 o.letter)) :=
   Upd.setCell (p := ⟨N + 1, 3, none⟩) (Upd.setCell (p := ⟨N + 1, 2, none⟩) (Upd.setCell (p := ⟨N + 1, 1, none⟩) (Upd.setCell (p := ⟨N + 1, 0, none⟩) (Upd.refl own6 _ w6) q2 _) q2 _) q2 _) q2 _
  refine bodyPost_ret (results_cell_row (P := Try.prog) Try.results106 _ _ (N + 1) 94 _ (0, 0) _ rfl G.1 Try.underlying94 rfl Try.size94) rfl ?_
  refine ⟨?_, own6, (unhide hE6).upd U4 (by intro j _ _; simp), ?_, Upd.setNew (p := ⟨N + 1, 3, none⟩) (Upd.setNew (p := ⟨N + 1, 2, none⟩) (Upd.setNew (p := ⟨N + 1, 1, none⟩) (Upd.setNew (p := ⟨N + 1, 0, none⟩) hU hge _) hge _) hge _) hge _⟩
  ·rw [← HO.out]; rfl
  ·rw [← HO.out]; exact (unhide hT6).upd U4 (by simp) (by simp)
end Go.Proofs.Ytemkgikncmhoaaa

