import Derived.Test.YtemkgikncmhoaaaM12
import Derived.Test.YtemkgikncmhoaaaM19
namespace Go.Proofs.Ytemkgikncmhoaaa
open Go.RowKit
attribute [local go_sem ↓] Go.wp_at_zero Go.wp_at_succ

/-- Sides, compared. -/
theorem eqSide (a c : Int) (b d : Bool) (w : World) : (Op.equalIn 10000 80 (.agg #[.int .i64 a, .bool b]) (.agg #[.int .i64 c, .bool d])).run Try.prog w = .ok (a == c && b == d) w := by
 have u3 := Try.underlying3
 have a3 := Try.isAgg3
 have z3 := Try.sizeOf3
 have u5 := Try.underlying4
 have a5 := Try.isAgg4
 have z5 := Try.sizeOf4
 have hS : Try.prog.underlying 80 = some (.struct (Try.prog.fieldsOf 80)) := by kernel_rfl
 have hp : Try.prog.stoodInHeld 80 = false := by kernel_rfl
 rw [show (10000 : Nat) = 9999 + 1 from rfl, run_equalIn_agg w 9999 80 _ _ hS hp]
 simp only [Program.fieldsOf, Try.underlying80]
 go_simp
 by_cases h1 : a = c <;> by_cases h2 : b = d <;> simp [h1, h2]
attribute [local go_sem] eqSide

/-- The round's number grows. -/
def boxNum (v : Value) (W : World) : Nat := match v with | .pointer (some a) => (match W.cell? a with | some u => (intOf u).toNat | none => 0) | _ => 0
theorem boxNum_eq {W : World} {a : Addr} {j : Nat} (h : W.cell? a = some (.int .i64 (j : Int))) : boxNum (.pointer (some a)) W = j := by simp [boxNum, h, intOf]
/-- The room when the first j of the others have been told. -/
def IRoom.told (X : IRoom) (i j : Nat) (S : IEnd) (o : ROp) : IRoom := { X with server := o.does X.server, sends := X.sends.mapIdx fun q Z => if q = i then S else if q < j then Z.make o X.window else Z }
theorem IRoom.told_get (X : IRoom) (i j : Nat) (S : IEnd) (o : ROp) (q : Nat) : (X.told i j S o).sends[q]? = (X.sends[q]?).map fun Z => if q = i then S else if q < j then Z.make o X.window else Z := by simp [IRoom.told, List.getElem?_mapIdx]
theorem IRoom.told_zero (X : IRoom) (i : Nat) (S S0 : IEnd) (o : ROp) (h : X.sends[i]? = some S0) : ({ X with server := o.does X.server, sends := X.sends.set i S } : IRoom) = X.told i 0 S o := by
 unfold IRoom.told
 congr 1
 apply List.ext_getElem?
 intro q
 have hi := (List.getElem?_eq_some_iff.1 h).1
 rw [List.getElem?_mapIdx]
 by_cases hq : q = i
 ·subst hq; rw [List.getElem?_set_self hi, h]; simp
 ·rw [List.getElem?_set_ne (fun e => hq e.symm)]
  simp [hq]
theorem IRoom.told_all (X : IRoom) (i j : Nat) (S : IEnd) (o : ROp) (h : X.sends.length ≤ j) : X.told i j S o = X.tell i S o := by
 unfold IRoom.told IRoom.tell
 congr 1
 apply List.ext_getElem?
 intro q
 rw [List.getElem?_mapIdx, List.getElem?_mapIdx]
 by_cases hq : q < X.sends.length
 ·simp [show q < j by omega]
 ·rw [List.getElem?_eq_none (by omega)]; rfl
theorem IRoom.told_same (X : IRoom) (i : Nat) (S : IEnd) (o : ROp) : X.told i (i + 1) S o = X.told i i S o := by
 unfold IRoom.told
 congr 1
 apply List.ext_getElem?
 intro q
 rw [List.getElem?_mapIdx, List.getElem?_mapIdx]
 by_cases hq : q = i
 ·simp [hq]
 ·have : (q < i + 1) = (q < i) := propext ⟨fun h => by omega, fun h => by omega⟩
  simp only [hq, if_false, this]
theorem IRoom.told_next (X : IRoom) (i j : Nat) (S Z : IEnd) (o : ROp) (hj : j ≠ i) (h : X.sends[j]? = some Z) : (X.told i j S o).setB j (Z.make o X.window) = X.told i (j + 1) S o := by
 have hl := (List.getElem?_eq_some_iff.1 h).1
 unfold IRoom.told IRoom.setB
 congr 1
 apply List.ext_getElem?
 intro q
 by_cases hq : q = j
 ·subst hq
  rw [List.getElem?_set_self (by simpa using hl), List.getElem?_mapIdx, h]
  simp [hj]
 ·rw [List.getElem?_set_ne (fun e => hq e.symm), List.getElem?_mapIdx, List.getElem?_mapIdx]
  have : (q < j + 1) = (q < j) := propext ⟨fun h => by omega, fun h => by omega⟩
  simp only [this]

set_option maxRecDepth 100000 in
set_option maxHeartbeats 1600000 in
theorem xRtake_1 (A : RAddr) (own : Nat → Tag) (rid b : Nat) (X : IRoom) (i : Nat) (m : IMsg) (t : List UInt8) (E S : IEnd) (w : World) (h : RoomF A own rid w b X) (ht : X.texts[i]? = some t) (hE : X.ends[i]? = some E) (hS : X.sends[i]? = some S) (h1 : S.seen ≤ m.ctx) (h2 : m.ctx - S.seen ≤ S.opn.length) (hmn : m.op.Norm) (hmp : m.op.place ≤ 1000) (hbs : ∀ x ∈ S.opn, x.Norm ∧ x.place ≤ 1000 ∧ m.op.client ≠ x.client)
  (hol : S.opn.length ≤ 1000) (hon : (S.taking m).1.Norm) (hof : (S.taking m).1.fits X.server.length) (htl : X.server.length ≤ 900) (hsm : (S.taking m).1.Small) (hall : ∀ j Z, X.sends[j]? = some Z → j ≠ i → Z.made < 240 ∧ Z.taken ≤ 240 ∧ Z.flying.length ≤ 12 ∧ Z.opn.length ≤ 240) :
  Calls Try.prog 101 #[.pointer (some ⟨b, 0, none⟩), .agg #[.int .i64 i, .bool true], .agg m.cells.toArray] w fun e w' => e = .returned (.tuple #[]) ∧ ∃ own', RoomF A own' rid w' b (X.tell i (S.take m) (S.taking m).1) ∧ Upd own own' (inRoom rid) w w' := by
 have V : Upd own (retag (retag own w.heap.size (rid + 1, 0, 5)) (w.heap.size + 1) (rid + 1, 0, 6)) (fun _ => False) w ((w.alloc (Obj.cells #[Value.int IntKind.i64 i, Value.bool true] 80)).alloc (Obj.cells #[Value.int IntKind.i64 m.number, Value.int IntKind.i64 m.ctx, Value.int IntKind.i64 m.op.client, Value.int IntKind.i64 m.op.verb, Value.int IntKind.i64 m.op.place, Value.int IntKind.u8 m.op.letter] 139)) := Upd.retag (Upd.retag (((Upd.refl own (fun _ => False) w).alloc _).alloc _) _ _ (Nat.le_refl _)) _ _ (by omega)
 have CA : CellsT (retag (retag own w.heap.size (rid + 1, 0, 5)) (w.heap.size + 1) (rid + 1, 0, 6)) (rid + 1, 0, 5) ((w.alloc (Obj.cells #[Value.int IntKind.i64 i, Value.bool true] 80)).alloc (Obj.cells #[Value.int IntKind.i64 m.number, Value.int IntKind.i64 m.ctx, Value.int IntKind.i64 m.op.client, Value.int IntKind.i64 m.op.verb, Value.int IntKind.i64 m.op.place, Value.int IntKind.u8 m.op.letter] 139)) w.heap.size #[Value.int IntKind.i64 i, Value.bool true] 80 := ⟨(Below.heap_alloc _ _ _ (by simp)).trans (heap_alloc_new w _), by rw [retag_lt (by omega)]; exact retag_ge (Nat.le_refl _)⟩
 have CM : CellsT (retag (retag own w.heap.size (rid + 1, 0, 5)) (w.heap.size + 1) (rid + 1, 0, 6)) (rid + 1, 0, 6) ((w.alloc (Obj.cells #[Value.int IntKind.i64 i, Value.bool true] 80)).alloc (Obj.cells #[Value.int IntKind.i64 m.number, Value.int IntKind.i64 m.ctx, Value.int IntKind.i64 m.op.client, Value.int IntKind.i64 m.op.verb, Value.int IntKind.i64 m.op.place, Value.int IntKind.u8 m.op.letter] 139)) (w.heap.size + 1) #[Value.int IntKind.i64 m.number, Value.int IntKind.i64 m.ctx, Value.int IntKind.i64 m.op.client, Value.int IntKind.i64 m.op.verb, Value.int IntKind.i64 m.op.place, Value.int IntKind.u8 m.op.letter] 139 := ⟨heap_alloc_two _ _ _, retag_ge (Nat.le_refl _)⟩
 have hR1 := h.upd V (fun _ _ h => h)
 unfold IMsg.cells
 go_enter Try.func101, Try.ntmps101
 go_wp2_with fail
 have HV := hide V
 clear h V
 generalize ((w.alloc (Obj.cells #[Value.int IntKind.i64 i, Value.bool true] 80)).alloc (Obj.cells #[Value.int IntKind.i64 m.number, Value.int IntKind.i64 m.ctx, Value.int IntKind.i64 m.op.client, Value.int IntKind.i64 m.op.verb, Value.int IntKind.i64 m.op.place, Value.int IntKind.u8 m.op.letter] 139)) = W at *
 generalize (retag (retag own w.heap.size (rid + 1, 0, 5)) (w.heap.size + 1) (rid + 1, 0, 6)) = own1 at *
 generalize w.heap.size = N at *
 obtain ⟨o, HO⟩ : ∃ o, Hid (o = (S.taking m).1) := ⟨_, rfl⟩
 rw [← HO.out] at hon hof hsm
 have HALL := hide hall
 clear hall
 have HLX : Hid (X.sends.length = X.texts.length ∧ X.ends.length = X.texts.length ∧ X.texts.length ≤ 4) := by apply hide; exact ⟨RoomXAt.lenS hR1, RoomXAt.lenX hR1, RoomXAt.le4 hR1⟩
 have hi4 : i < 4 := by have := RoomXAt.le4 hR1; have := (List.getElem?_eq_some_iff.1 ht).1; omega
 obtain ⟨mb, eb, sb, tbi, tb, O⟩ := hR1.opened ht hE hS
 have KS : Hid (∀ W' : World, (∀ q, q < W.heap.size → W'.heap[q]? = W.heap[q]?) → W'.cell? ⟨b, 1, none⟩ = some (.map (some mb)) ∧ W'.cell? ⟨N, 0, none⟩ = some (.int .i64 i) ∧ W'.cell? ⟨N, 1, none⟩ = some (.bool true) ∧ W'.cell? ⟨N + 1, 0, none⟩ = some (.int .i64 m.number) ∧ W'.cell? ⟨N + 1, 1, none⟩ = some (.int .i64 m.ctx) ∧ W'.cell? ⟨N + 1, 2, none⟩ = some (.int .i64 m.op.client) ∧ W'.cell? ⟨N + 1, 3, none⟩ = some (.int .i64 m.op.verb) ∧ W'.cell? ⟨N + 1, 4, none⟩ = some (.int .i64 m.op.place) ∧ W'.cell? ⟨N + 1, 5, none⟩ = some (.int .u8 m.op.letter)) := by
  apply hide
  intro W' hf'
  have e1 : ∀ {p : Addr} {u : Value}, W.cell? p = some u → W'.cell? p = some u := fun {p u} hu => (World.cell?_of_block (hf' p.block (World.block_lt_of_cell? W p hu))).trans hu
  exact ⟨e1 O.c1, e1 (CA.cell 0), e1 (CA.cell 1), e1 (CM.cell 0), e1 (CM.cell 1), e1 (CM.cell 2), e1 (CM.cell 3), e1 (CM.cell 4), e1 (CM.cell 5)⟩
 have POST : Hid (∀ (W' : World) (own1' : Nat → Tag), Upd own1 own1' (fun _ => False) W W' → Calls Try.prog 106 #[.pointer (some ⟨sb, 0, none⟩), .agg #[Value.int IntKind.i64 m.number, Value.int IntKind.i64 m.ctx, Value.int IntKind.i64 m.op.client, Value.int IntKind.i64 m.op.verb, Value.int IntKind.i64 m.op.place, Value.int IntKind.u8 m.op.letter]] W' fun e w2 => e = .returned (.agg #[Value.int IntKind.i64 o.client, Value.int IntKind.i64 o.verb, Value.int IntKind.i64 o.place, Value.int IntKind.u8 o.letter]) ∧ (w2.cell? ⟨b, 1, none⟩ = some (.map (some mb)) ∧ w2.cell? ⟨N, 0, none⟩ = some (.int .i64 i) ∧ w2.cell? ⟨N, 1, none⟩ = some (.bool true) ∧ w2.cell? ⟨N + 1, 0, none⟩ = some (.int .i64 m.number) ∧ w2.cell? ⟨N + 1, 1, none⟩ = some (.int .i64 m.ctx) ∧ w2.cell? ⟨N + 1, 2, none⟩ = some (.int .i64 m.op.client) ∧ w2.cell? ⟨N + 1, 3, none⟩ = some (.int .i64 m.op.verb) ∧ w2.cell? ⟨N + 1, 4, none⟩ = some (.int .i64 m.op.place) ∧ w2.cell? ⟨N + 1, 5, none⟩ = some (.int .u8 m.op.letter)) ∧ ∃ own2, RoomF A own2 rid w2 b ({ X with server := o.does X.server, sends := X.sends.set i (S.take m) } : IRoom) ∧ Upd own own2 (inRoom rid) w w2 ∧ (∀ q, q < W'.heap.size → own1' q = (rid + 1, 0, 7) → w2.heap[q]? = W'.heap[q]? ∧ own2 q = (rid + 1, 0, 7)) ∧ W.heap.size ≤ w2.heap.size ∧ CellsT own2 (rid + 1, 0, 5) w2 N #[Value.int IntKind.i64 i, Value.bool true] 80) := by
  apply hide
  intro W' own1' U
  have hh := xtake own1' rid (2 * i + 1) 100 sb tb X.window S m X.server W' (O.hS.upd U (fun _ _ _ h => h)) (O.hV.upd U (fun h => h) (fun h => h)) h1 h2 hmn hmp hbs hol (by rw [← HO.out]; exact hon) (by rw [← HO.out]; exact hof) htl
  rw [← HO.out] at hh
  unfold IMsg.cells ROp.val at hh
  refine hh.mono ?_
  rintro e w2 ⟨rfl, own2, hE2, hT2, hU2'⟩
  have hU2 := (U.mono (may' := fun x => inEnd rid (2 * i + 1) x ∨ inText rid 100 x) (fun _ h => h.elim)).trans hU2'
  have CA2 := CA.upd hU2 (by rintro (h | h); exact absurd h.1 (by simp); rcases h with h | h <;> simp at h)
  have CM2 := CM.upd hU2 (by rintro (h | h); exact absurd h.1 (by simp); rcases h with h | h <;> simp at h)
  have hR2 : RoomF A own2 rid w2 b ({ X with server := o.does X.server, sends := X.sends.set i (S.take m) } : IRoom) := by
   exact O.putB own2 w2 _ _ hU2 hE2 hT2
  have hb1 : w2.cell? ⟨b, 1, none⟩ = some (.map (some mb)) := hU2.cell O.c1 (by rw [O.bt]; rintro (h | h); exact absurd h.2.1 (by simp; omega); rcases h with h | h <;> (simp at h))
  refine ⟨rfl, ⟨hb1, CA2.cell 0, CA2.cell 1, CM2.cell 0, CM2.cell 1, CM2.cell 2, CM2.cell 3, CM2.cell 4, CM2.cell 5⟩, own2, hR2, ((unhide HV).mono fun _ h => h.elim).trans (hU2.mono (by rintro x (hx | hx); exact hx.1; rcases hx with rfl | rfl <;> rfl)), fun q hq ht => ⟨hU2'.block q hq (by rw [ht]; rintro (h | h); exact absurd h.1 (by simp); rcases h with h | h <;> simp at h), (hU2'.tags q hq).trans ht⟩, hU2.size, CA2⟩
 have HW : Hid (w.heap.size ≤ W.heap.size) := hide (unhide HV).size
 have HT0 : Hid (Calls Try.prog 106 #[.pointer (some ⟨sb, 0, none⟩), .agg #[Value.int IntKind.i64 m.number, Value.int IntKind.i64 m.ctx, Value.int IntKind.i64 m.op.client, Value.int IntKind.i64 m.op.verb, Value.int IntKind.i64 m.op.place, Value.int IntKind.u8 m.op.letter]] W.drew fun e w2 => e = .returned (.agg #[Value.int IntKind.i64 o.client, Value.int IntKind.i64 o.verb, Value.int IntKind.i64 o.place, Value.int IntKind.u8 o.letter]) ∧ Hid (w2.cell? ⟨b, 1, none⟩ = some (.map (some mb)) ∧ w2.cell? ⟨N, 0, none⟩ = some (.int .i64 i) ∧ w2.cell? ⟨N, 1, none⟩ = some (.bool true) ∧ w2.cell? ⟨N + 1, 0, none⟩ = some (.int .i64 m.number) ∧ w2.cell? ⟨N + 1, 1, none⟩ = some (.int .i64 m.ctx) ∧ w2.cell? ⟨N + 1, 2, none⟩ = some (.int .i64 m.op.client) ∧ w2.cell? ⟨N + 1, 3, none⟩ = some (.int .i64 m.op.verb) ∧ w2.cell? ⟨N + 1, 4, none⟩ = some (.int .i64 m.op.place) ∧ w2.cell? ⟨N + 1, 5, none⟩ = some (.int .u8 m.op.letter)) ∧ Hid (∀ x, (w2.alloc x).cell? ⟨b, 1, none⟩ = some (.map (some mb)) ∧ (w2.alloc x).cell? ⟨N, 0, none⟩ = some (.int .i64 i) ∧ (w2.alloc x).cell? ⟨N, 1, none⟩ = some (.bool true) ∧ (w2.alloc x).cell? ⟨N + 1, 0, none⟩ = some (.int .i64 m.number) ∧ (w2.alloc x).cell? ⟨N + 1, 1, none⟩ = some (.int .i64 m.ctx) ∧ (w2.alloc x).cell? ⟨N + 1, 2, none⟩ = some (.int .i64 m.op.client) ∧ (w2.alloc x).cell? ⟨N + 1, 3, none⟩ = some (.int .i64 m.op.verb) ∧ (w2.alloc x).cell? ⟨N + 1, 4, none⟩ = some (.int .i64 m.op.place) ∧ (w2.alloc x).cell? ⟨N + 1, 5, none⟩ = some (.int .u8 m.op.letter)) ∧ Hid (∃ own3, RoomF A own3 rid (w2.alloc (Obj.cells #[Value.int IntKind.i64 o.client, Value.int IntKind.i64 o.verb, Value.int IntKind.i64 o.place, Value.int IntKind.u8 o.letter] 94)) b ({ X with server := o.does X.server, sends := X.sends.set i (S.take m) } : IRoom) ∧ Upd own own3 (inRoom rid) w (w2.alloc (Obj.cells #[Value.int IntKind.i64 o.client, Value.int IntKind.i64 o.verb, Value.int IntKind.i64 o.place, Value.int IntKind.u8 o.letter] 94)) ∧ CellsT own3 (rid + 1, 0, 7) (w2.alloc (Obj.cells #[Value.int IntKind.i64 o.client, Value.int IntKind.i64 o.verb, Value.int IntKind.i64 o.place, Value.int IntKind.u8 o.letter] 94)) w2.heap.size #[Value.int IntKind.i64 o.client, Value.int IntKind.i64 o.verb, Value.int IntKind.i64 o.place, Value.int IntKind.u8 o.letter] 94 ∧ CellsT own3 (rid + 1, 0, 5) (w2.alloc (Obj.cells #[Value.int IntKind.i64 o.client, Value.int IntKind.i64 o.verb, Value.int IntKind.i64 o.place, Value.int IntKind.u8 o.letter] 94)) N #[Value.int IntKind.i64 i, Value.bool true] 80)) := by
  apply hide
  refine (unhide POST W.drew own1 ((Upd.refl own1 _ W).drew)).mono ?_
  rintro e w2 ⟨rfl, hs, own2, hR2, hU2, _, hsz, hca⟩
  refine ⟨rfl, hide hs, hide fun x => ?_, hide ⟨retag own2 w2.heap.size (rid + 1, 0, 7), ?_, ?_, CellsT.new _ _ _ _ _, ?_⟩⟩
  ·have e1 : ∀ {p : Addr} {u : Value}, w2.cell? p = some u → (w2.alloc x).cell? p = some u := fun {p u} hu => (World.cell?_alloc_lt _ _ _ (World.block_lt_of_cell? w2 p hu)).trans hu
   obtain ⟨a0, a1, a2, a3, a4, a5, a6, a7, a8⟩ := hs
   exact ⟨e1 a0, e1 a1, e1 a2, e1 a3, e1 a4, e1 a5, e1 a6, e1 a7, e1 a8⟩
  ·exact hR2.upd (Upd.retag ((Upd.refl own2 (fun _ => False) w2).alloc _) _ _ (Nat.le_refl _)) (fun _ _ h => h)
  ·exact Upd.retag (hU2.alloc _) _ _ (Nat.le_trans (unhide HW) hsz)
  ·exact hca.upd (Upd.retag ((Upd.refl own2 (fun _ => False) w2).alloc _) _ _ (Nat.le_refl _)) (fun h => h)
 have HT1 : Hid (Calls Try.prog 106 #[.pointer (some ⟨sb, 0, none⟩), .agg #[Value.int IntKind.i64 m.number, Value.int IntKind.i64 m.ctx, Value.int IntKind.i64 m.op.client, Value.int IntKind.i64 m.op.verb, Value.int IntKind.i64 m.op.place, Value.int IntKind.u8 m.op.letter]] (W.alloc (Obj.cells #[Value.int IntKind.i64 0, Value.int IntKind.i64 0, Value.int IntKind.i64 0, Value.int IntKind.u8 0] 94)).drew fun e w2 => e = .returned (.agg #[Value.int IntKind.i64 o.client, Value.int IntKind.i64 o.verb, Value.int IntKind.i64 o.place, Value.int IntKind.u8 o.letter]) ∧ Hid (w2.cell? ⟨b, 1, none⟩ = some (.map (some mb)) ∧ w2.cell? ⟨N, 0, none⟩ = some (.int .i64 i) ∧ w2.cell? ⟨N, 1, none⟩ = some (.bool true) ∧ w2.cell? ⟨N + 1, 0, none⟩ = some (.int .i64 m.number) ∧ w2.cell? ⟨N + 1, 1, none⟩ = some (.int .i64 m.ctx) ∧ w2.cell? ⟨N + 1, 2, none⟩ = some (.int .i64 m.op.client) ∧ w2.cell? ⟨N + 1, 3, none⟩ = some (.int .i64 m.op.verb) ∧ w2.cell? ⟨N + 1, 4, none⟩ = some (.int .i64 m.op.place) ∧ w2.cell? ⟨N + 1, 5, none⟩ = some (.int .u8 m.op.letter)) ∧ Hid (((((w2.setCell ⟨W.heap.size, 0, none⟩ (.int .i64 o.client)).setCell ⟨W.heap.size, 1, none⟩ (.int .i64 o.verb)).setCell ⟨W.heap.size, 2, none⟩ (.int .i64 o.place)).setCell ⟨W.heap.size, 3, none⟩ (.int .u8 o.letter)).cell? ⟨b, 1, none⟩ = some (.map (some mb)) ∧ ((((w2.setCell ⟨W.heap.size, 0, none⟩ (.int .i64 o.client)).setCell ⟨W.heap.size, 1, none⟩ (.int .i64 o.verb)).setCell ⟨W.heap.size, 2, none⟩ (.int .i64 o.place)).setCell ⟨W.heap.size, 3, none⟩ (.int .u8 o.letter)).cell? ⟨N, 0, none⟩ = some (.int .i64 i) ∧ ((((w2.setCell ⟨W.heap.size, 0, none⟩ (.int .i64 o.client)).setCell ⟨W.heap.size, 1, none⟩ (.int .i64 o.verb)).setCell ⟨W.heap.size, 2, none⟩ (.int .i64 o.place)).setCell ⟨W.heap.size, 3, none⟩ (.int .u8 o.letter)).cell? ⟨N, 1, none⟩ = some (.bool true) ∧ ((((w2.setCell ⟨W.heap.size, 0, none⟩ (.int .i64 o.client)).setCell ⟨W.heap.size, 1, none⟩ (.int .i64 o.verb)).setCell ⟨W.heap.size, 2, none⟩ (.int .i64 o.place)).setCell ⟨W.heap.size, 3, none⟩ (.int .u8 o.letter)).cell? ⟨N + 1, 0, none⟩ = some (.int .i64 m.number) ∧ ((((w2.setCell ⟨W.heap.size, 0, none⟩ (.int .i64 o.client)).setCell ⟨W.heap.size, 1, none⟩ (.int .i64 o.verb)).setCell ⟨W.heap.size, 2, none⟩ (.int .i64 o.place)).setCell ⟨W.heap.size, 3, none⟩ (.int .u8 o.letter)).cell? ⟨N + 1, 1, none⟩ = some (.int .i64 m.ctx) ∧ ((((w2.setCell ⟨W.heap.size, 0, none⟩ (.int .i64 o.client)).setCell ⟨W.heap.size, 1, none⟩ (.int .i64 o.verb)).setCell ⟨W.heap.size, 2, none⟩ (.int .i64 o.place)).setCell ⟨W.heap.size, 3, none⟩ (.int .u8 o.letter)).cell? ⟨N + 1, 2, none⟩ = some (.int .i64 m.op.client) ∧ ((((w2.setCell ⟨W.heap.size, 0, none⟩ (.int .i64 o.client)).setCell ⟨W.heap.size, 1, none⟩ (.int .i64 o.verb)).setCell ⟨W.heap.size, 2, none⟩ (.int .i64 o.place)).setCell ⟨W.heap.size, 3, none⟩ (.int .u8 o.letter)).cell? ⟨N + 1, 3, none⟩ = some (.int .i64 m.op.verb) ∧ ((((w2.setCell ⟨W.heap.size, 0, none⟩ (.int .i64 o.client)).setCell ⟨W.heap.size, 1, none⟩ (.int .i64 o.verb)).setCell ⟨W.heap.size, 2, none⟩ (.int .i64 o.place)).setCell ⟨W.heap.size, 3, none⟩ (.int .u8 o.letter)).cell? ⟨N + 1, 4, none⟩ = some (.int .i64 m.op.place) ∧ ((((w2.setCell ⟨W.heap.size, 0, none⟩ (.int .i64 o.client)).setCell ⟨W.heap.size, 1, none⟩ (.int .i64 o.verb)).setCell ⟨W.heap.size, 2, none⟩ (.int .i64 o.place)).setCell ⟨W.heap.size, 3, none⟩ (.int .u8 o.letter)).cell? ⟨N + 1, 5, none⟩ = some (.int .u8 m.op.letter)) ∧ (w2.cell? ⟨W.heap.size, 0, none⟩ = some (.int .i64 0) ∧ w2.cell? ⟨W.heap.size, 1, none⟩ = some (.int .i64 0) ∧ w2.cell? ⟨W.heap.size, 2, none⟩ = some (.int .i64 0) ∧ w2.cell? ⟨W.heap.size, 3, none⟩ = some (.int .u8 0)) ∧ (w2.frozen? ⟨W.heap.size, 0, none⟩ = false ∧ w2.frozen? ⟨W.heap.size, 1, none⟩ = false ∧ w2.frozen? ⟨W.heap.size, 2, none⟩ = false ∧ w2.frozen? ⟨W.heap.size, 3, none⟩ = false) ∧ Hid (∃ own3, RoomF A own3 rid ((((w2.setCell ⟨W.heap.size, 0, none⟩ (.int .i64 o.client)).setCell ⟨W.heap.size, 1, none⟩ (.int .i64 o.verb)).setCell ⟨W.heap.size, 2, none⟩ (.int .i64 o.place)).setCell ⟨W.heap.size, 3, none⟩ (.int .u8 o.letter)) b ({ X with server := o.does X.server, sends := X.sends.set i (S.take m) } : IRoom) ∧ Upd own own3 (inRoom rid) w ((((w2.setCell ⟨W.heap.size, 0, none⟩ (.int .i64 o.client)).setCell ⟨W.heap.size, 1, none⟩ (.int .i64 o.verb)).setCell ⟨W.heap.size, 2, none⟩ (.int .i64 o.place)).setCell ⟨W.heap.size, 3, none⟩ (.int .u8 o.letter)) ∧ CellsT own3 (rid + 1, 0, 7) ((((w2.setCell ⟨W.heap.size, 0, none⟩ (.int .i64 o.client)).setCell ⟨W.heap.size, 1, none⟩ (.int .i64 o.verb)).setCell ⟨W.heap.size, 2, none⟩ (.int .i64 o.place)).setCell ⟨W.heap.size, 3, none⟩ (.int .u8 o.letter)) W.heap.size #[Value.int IntKind.i64 o.client, Value.int IntKind.i64 o.verb, Value.int IntKind.i64 o.place, Value.int IntKind.u8 o.letter] 94 ∧ CellsT own3 (rid + 1, 0, 5) ((((w2.setCell ⟨W.heap.size, 0, none⟩ (.int .i64 o.client)).setCell ⟨W.heap.size, 1, none⟩ (.int .i64 o.verb)).setCell ⟨W.heap.size, 2, none⟩ (.int .i64 o.place)).setCell ⟨W.heap.size, 3, none⟩ (.int .u8 o.letter)) N #[Value.int IntKind.i64 i, Value.bool true] 80)) := by
  apply hide
  have U1 : Upd own1 (retag own1 W.heap.size (rid + 1, 0, 7)) (fun _ => False) W (W.alloc (Obj.cells #[Value.int IntKind.i64 0, Value.int IntKind.i64 0, Value.int IntKind.i64 0, Value.int IntKind.u8 0] 94)).drew := Upd.retag (((Upd.refl own1 _ W).alloc _).drew) _ _ (Nat.le_refl _)
  refine (unhide POST _ _ U1).mono ?_
  rintro e w2 ⟨rfl, hs, own2, hR2, hU2, hq, hsz, hca⟩
  obtain ⟨q1, q2⟩ := hq W.heap.size (by show _ < (W.alloc _).heap.size; simp) (retag_ge (Nat.le_refl _))
  have c0 : CellsT own2 (rid + 1, 0, 7) w2 W.heap.size #[Value.int IntKind.i64 0, Value.int IntKind.i64 0, Value.int IntKind.i64 0, Value.int IntKind.u8 0] 94 := ⟨q1.trans (heap_alloc_new W _), q2⟩
  have U4 : Upd own2 own2 (fun t => t = (rid + 1, 0, 7)) w2 ((((w2.setCell ⟨W.heap.size, 0, none⟩ (.int .i64 o.client)).setCell ⟨W.heap.size, 1, none⟩ (.int .i64 o.verb)).setCell ⟨W.heap.size, 2, none⟩ (.int .i64 o.place)).setCell ⟨W.heap.size, 3, none⟩ (.int .u8 o.letter)) := Upd.setCell (p := ⟨W.heap.size, 3, none⟩) (Upd.setCell (p := ⟨W.heap.size, 2, none⟩) (Upd.setCell (p := ⟨W.heap.size, 1, none⟩) (Upd.setCell (p := ⟨W.heap.size, 0, none⟩) (Upd.refl own2 _ w2) q2 _) q2 _) q2 _) q2 _
  refine ⟨rfl, hide hs, hide ?_, ⟨c0.cell 0, c0.cell 1, c0.cell 2, c0.cell 3⟩, ⟨c0.frozen 0, c0.frozen 1, c0.frozen 2, c0.frozen 3⟩, hide ⟨own2, hR2.upd U4 (by intro a b; simp), ?_, (((c0.set 0 _).set 1 _).set 2 _).set 3 _, hca.upd U4 (by simp)⟩⟩
  ·have e1 : ∀ {p : Addr} {u : Value}, p.block < W.heap.size → w2.cell? p = some u → ((((w2.setCell ⟨W.heap.size, 0, none⟩ (.int .i64 o.client)).setCell ⟨W.heap.size, 1, none⟩ (.int .i64 o.verb)).setCell ⟨W.heap.size, 2, none⟩ (.int .i64 o.place)).setCell ⟨W.heap.size, 3, none⟩ (.int .u8 o.letter)).cell? p = some u := fun {p u} hp hu => by
    refine (World.cell?_of_block ?_).trans hu
    rw [Below.heap_setCell _ _ _ _ (by show p.block ≠ W.heap.size; omega), Below.heap_setCell _ _ _ _ (by show p.block ≠ W.heap.size; omega), Below.heap_setCell _ _ _ _ (by show p.block ≠ W.heap.size; omega), Below.heap_setCell _ _ _ _ (by show p.block ≠ W.heap.size; omega)]
   obtain ⟨a0, a1, a2, a3, a4, a5, a6, a7, a8⟩ := hs
   have l0 := World.block_lt_of_cell? W _ O.c1
   have l1 := CA.lt
   have l2 := CM.lt
   exact ⟨e1 l0 a0, e1 l1 a1, e1 l1 a2, e1 l2 a3, e1 l2 a4, e1 l2 a5, e1 l2 a6, e1 l2 a7, e1 l2 a8⟩
  ·have hp := unhide HW
   exact Upd.setNew (p := ⟨W.heap.size, 3, none⟩) (Upd.setNew (p := ⟨W.heap.size, 2, none⟩) (Upd.setNew (p := ⟨W.heap.size, 1, none⟩) (Upd.setNew (p := ⟨W.heap.size, 0, none⟩) hU2 hp _) hp _) hp _) hp _
 have lk := O.lk1w
 have lkA : (Instr.lookup 74 (.map (some mb)) (.agg #[.int .i64 i, .bool true]) false).run Try.prog W.drew = .ok (.pointer (some ⟨sb, 0, none⟩)) W.drew := lk _ rfl
 have lkB : (Instr.lookup 74 (.map (some mb)) (.agg #[.int .i64 i, .bool true]) false).run Try.prog (W.alloc (Obj.cells #[Value.int IntKind.i64 0, Value.int IntKind.i64 0, Value.int IntKind.i64 0, Value.int IntKind.u8 0] 94)).drew = .ok (.pointer (some ⟨sb, 0, none⟩)) (W.alloc (Obj.cells #[Value.int IntKind.i64 0, Value.int IntKind.i64 0, Value.int IntKind.i64 0, Value.int IntKind.u8 0] 94)).drew := lk _ (Below.heap_alloc _ _ _ O.mbl)
 have FD0 : Hid (∀ q, q < W.heap.size → W.drew.heap[q]? = W.heap[q]?) := hide fun _ _ => rfl
 have FD1 : Hid (∀ x, ∀ q, q < W.heap.size → (W.alloc x).drew.heap[q]? = W.heap[q]?) := hide fun x q hq => Below.heap_alloc _ _ _ hq
 clear lk POST O CA CM hR1 hbs
 go_cut [6] (fun v6 wc => ∃ q, v6 = .pointer (some ⟨q, 0, none⟩) ∧ ∃ own3, RoomF A own3 rid wc b ({ X with server := o.does X.server, sends := X.sends.set i (S.take m) } : IRoom) ∧ Upd own own3 (inRoom rid) w wc ∧ CellsT own3 (rid + 1, 0, 7) wc q #[Value.int IntKind.i64 o.client, Value.int IntKind.i64 o.verb, Value.int IntKind.i64 o.place, Value.int IntKind.u8 o.letter] 94 ∧ CellsT own3 (rid + 1, 0, 5) wc N #[Value.int IntKind.i64 i, Value.bool true] 80)
 case first =>
  go_region_held3 (fun w' => w'.cell? ⟨b, 1, none⟩ = some (.map (some mb)) ∧ w'.cell? ⟨N, 0, none⟩ = some (.int .i64 i) ∧ w'.cell? ⟨N, 1, none⟩ = some (.bool true) ∧ w'.cell? ⟨N + 1, 0, none⟩ = some (.int .i64 m.number) ∧ w'.cell? ⟨N + 1, 1, none⟩ = some (.int .i64 m.ctx) ∧ w'.cell? ⟨N + 1, 2, none⟩ = some (.int .i64 m.op.client) ∧ w'.cell? ⟨N + 1, 3, none⟩ = some (.int .i64 m.op.verb) ∧ w'.cell? ⟨N + 1, 4, none⟩ = some (.int .i64 m.op.place) ∧ w'.cell? ⟨N + 1, 5, none⟩ = some (.int .u8 m.op.letter)) (first | with_reducible exact unhide KS _ (unhide FD0) | with_reducible exact unhide KS _ (unhide FD1 _) | with_reducible exact unhide hs | with_reducible exact unhide hs2 | with_reducible exact unhide hs2 _) (first | (go_at_call 106; with_reducible refine (unhide HT0).mono ?_; rintro e w2 ⟨rfl, hs, hs2, hfin⟩) | (go_at_call 106; with_reducible refine (unhide HT1).mono ?_; rintro e w2 ⟨rfl, hs, hs2, ⟨z0, z1, z2, z3⟩, ⟨y0, y1, y2, y3⟩, hfin⟩))
  all_goals go_wp2_with fail
  all_goals
   go_meet
   case rel => exact ⟨_, rfl, unhide hfin⟩
 case rest =>
  obtain ⟨q, rfl, own3, hR3, hU3, CO3, CA3⟩ := hcut
  rw [IRoom.told_zero X i (S.take m) S o hS] at hR3
  have n1 := CA3.cell 1
  simp only [List.getElem?_toArray, List.getElem?_cons_zero, List.getElem?_cons_succ] at n1
  have V5 : Upd own3 (retag own3 wc.heap.size (rid + 1, 0, 8)) (fun _ => False) wc (wc.alloc (Obj.cells #[Value.int IntKind.i64 0, Value.bool true] 80)) := Upd.retag ((Upd.refl own3 (fun _ => False) wc).alloc _) _ _ (Nat.le_refl _)
  have START : Hid (∃ own', RoomF A own' rid (wc.alloc (Obj.cells #[Value.int IntKind.i64 0, Value.bool true] 80)) b (X.told i 0 (S.take m) o) ∧ Upd own own' (inRoom rid) w (wc.alloc (Obj.cells #[Value.int IntKind.i64 0, Value.bool true] 80)) ∧ CellsT own' (rid + 1, 0, 7) (wc.alloc (Obj.cells #[Value.int IntKind.i64 0, Value.bool true] 80)) q #[Value.int IntKind.i64 o.client, Value.int IntKind.i64 o.verb, Value.int IntKind.i64 o.place, Value.int IntKind.u8 o.letter] 94 ∧ CellsT own' (rid + 1, 0, 5) (wc.alloc (Obj.cells #[Value.int IntKind.i64 0, Value.bool true] 80)) N #[Value.int IntKind.i64 i, Value.bool true] 80 ∧ CellsT own' (rid + 1, 0, 8) (wc.alloc (Obj.cells #[Value.int IntKind.i64 0, Value.bool true] 80)) wc.heap.size #[Value.int IntKind.i64 (0 : Nat), Value.bool true] 80) :=
   hide ⟨_, hR3.upd V5 (fun _ _ h => h), hU3.trans (V5.mono fun _ h => h.elim), CO3.upd V5 (fun h => h), CA3.upd V5 (fun h => h), CellsT.new _ _ _ _ _⟩
  clear HT0 HT1 lkA lkB FD0 FD1 KS hR3 hU3 CO3 CA3 V5 HV HW h1 h2 hmn hmp hol hon hof htl
  go_wp2_with fail
  go_loopw [7] (fun v7 wr => ∃ j p, j ≤ X.texts.length ∧ v7 = .pointer (some ⟨p, 0, none⟩) ∧ ∃ own', RoomF A own' rid wr b (X.told i j (S.take m) o) ∧ Upd own own' (inRoom rid) w wr ∧ CellsT own' (rid + 1, 0, 7) wr q #[Value.int IntKind.i64 o.client, Value.int IntKind.i64 o.verb, Value.int IntKind.i64 o.place, Value.int IntKind.u8 o.letter] 94 ∧ CellsT own' (rid + 1, 0, 5) wr N #[Value.int IntKind.i64 i, Value.bool true] 80 ∧ CellsT own' (rid + 1, 0, 8) wr p #[Value.int IntKind.i64 (j : Nat), Value.bool true] 80) (fun v7 wr => X.texts.length - boxNum v7 wr)
  case atStart => exact ⟨0, _, Nat.zero_le _, rfl, unhide START⟩
  case round =>
   obtain ⟨j, p, hj, rfl, own', hR, hU, CO, CA, CP⟩ := hrel
   obtain ⟨x1, x2, x3⟩ := unhide HLX
   have p0 := CP.cell 0
   have p1 := CP.cell 1
   have a0 := CA.cell 0
   have a1 := CA.cell 1
   have o0 := CO.cell 0
   have o1 := CO.cell 1
   have o2 := CO.cell 2
   have o3 := CO.cell 3
   simp only [List.getElem?_toArray, List.getElem?_cons_zero, List.getElem?_cons_succ] at p0 p1 a0 a1 o0 o1 o2 o3
   have hjw : IntKind.i64.wrap ((j : Int) + 1) = (j : Int) + 1 := by rw [IntKind.wrap_i64]; omega
   by_cases hlt : j < X.texts.length
   ·have htx : (X.told i j (S.take m) o).texts.length = X.texts.length := rfl
    obtain ⟨tj, htj⟩ : ∃ tj, (X.told i j (S.take m) o).texts[j]? = some tj := ⟨X.texts[j], by show X.texts[j]? = _; simp [hlt]⟩
    obtain ⟨Ej, hEj⟩ : ∃ Ej, (X.told i j (S.take m) o).ends[j]? = some Ej := ⟨X.ends[j]'(by omega), by show X.ends[j]? = _; simp [x2, hlt]⟩
    obtain ⟨Z, hZ⟩ : ∃ Z, X.sends[j]? = some Z := ⟨X.sends[j]'(by omega), by simp [x1, hlt]⟩
    have hSj : (X.told i j (S.take m) o).sends[j]? = some (if j = i then S.take m else Z) := by rw [IRoom.told_get, hZ]; simp
    obtain ⟨mb', eb', sb', tbi', tb', O⟩ := hR.opened htj hEj hSj
    have lk := O.lk1w
    have lk0 : (Instr.lookup 74 (.map (some mb')) (.agg #[.int .i64 (j : Nat), .bool true]) false).run Try.prog wr.drew = .ok (.pointer (some ⟨sb', 0, none⟩)) wr.drew := lk _ rfl
    have lk1 : (Instr.lookup 74 (.map (some mb')) (.agg #[.int .i64 (j : Nat), .bool true]) false).run Try.prog wr.drew.drew = .ok (.pointer (some ⟨sb', 0, none⟩)) wr.drew.drew := lk _ rfl
    have c1 := O.c1
    by_cases hji : j = i
    ·have hb : ((j : Int) == (i : Int)) = true := by simp [hji]
     have hbt : ((j : Int) == (i : Int) && true == true) = true := by simp [hji]
     have HF : Hid (∃ own2, RoomF A own2 rid (wr.drew.alloc (Obj.cells #[Value.int IntKind.i64 ((j : Int) + 1), Value.bool true] 80)) b (X.told i (j + 1) (S.take m) o) ∧ Upd own own2 (inRoom rid) w (wr.drew.alloc (Obj.cells #[Value.int IntKind.i64 ((j : Int) + 1), Value.bool true] 80)) ∧ CellsT own2 (rid + 1, 0, 7) (wr.drew.alloc (Obj.cells #[Value.int IntKind.i64 ((j : Int) + 1), Value.bool true] 80)) q #[Value.int IntKind.i64 o.client, Value.int IntKind.i64 o.verb, Value.int IntKind.i64 o.place, Value.int IntKind.u8 o.letter] 94 ∧ CellsT own2 (rid + 1, 0, 5) (wr.drew.alloc (Obj.cells #[Value.int IntKind.i64 ((j : Int) + 1), Value.bool true] 80)) N #[Value.int IntKind.i64 i, Value.bool true] 80 ∧ CellsT own2 (rid + 1, 0, 8) (wr.drew.alloc (Obj.cells #[Value.int IntKind.i64 ((j : Int) + 1), Value.bool true] 80)) wr.heap.size #[Value.int IntKind.i64 ((j : Int) + 1), Value.bool true] 80) := by
      apply hide
      have V6 : Upd own' (retag own' wr.heap.size (rid + 1, 0, 8)) (fun _ => False) wr (wr.drew.alloc (Obj.cells #[Value.int IntKind.i64 ((j : Int) + 1), Value.bool true] 80)) := Upd.retag (((Upd.refl own' (fun _ => False) wr).drew).alloc _) _ _ (Nat.le_refl _)
      have e : X.told i (j + 1) (S.take m) o = X.told i j (S.take m) o := by rw [hji]; exact IRoom.told_same X i (S.take m) o
      rw [e]
      exact ⟨_, hR.upd V6 (fun _ _ h => h), hU.trans (V6.mono fun _ h => h.elim), CO.upd V6 (fun h => h), CA.upd V6 (fun h => h), CellsT.new wr.drew _ _ _ _⟩
     have HJI := hide hji
     clear hR hU CO CA CP O lk START hji
     go_wp2_with fail
     go_region_held3 (fun w' => w'.cell? ⟨b, 1, none⟩ = some (.map (some mb')) ∧ w'.cell? ⟨p, 0, none⟩ = some (.int .i64 (j : Nat)) ∧ w'.cell? ⟨p, 1, none⟩ = some (.bool true)) (first | exact ⟨c1, p0, p1⟩) (fail)
     all_goals go_wp2_with fail
     all_goals
      obtain ⟨own2, f1, f2, f3, f4, f5⟩ := unhide HF
      refine ⟨⟨j + 1, _, by omega, rfl, own2, f1, f2, f3, f4, f5⟩, ?_⟩
      rw [boxNum_eq p0, boxNum_eq (j := j + 1) (World.cell?_alloc_new _ _ _ _)]
      omega
    ·have hb : ((j : Int) == (i : Int)) = false := by rw [beq_eq_false_iff_ne]; omega
     rw [if_neg hji] at O hSj
     obtain ⟨z1, z2, z3, z4⟩ := unhide HALL j Z hZ hji
     have HMK : Hid (Calls Try.prog 53 #[.pointer (some ⟨sb', 0, none⟩), .agg #[Value.int IntKind.i64 o.client, Value.int IntKind.i64 o.verb, Value.int IntKind.i64 o.place, Value.int IntKind.u8 o.letter]] wr.drew.drew fun e w4 => e = .returned (.tuple #[]) ∧ (w4.cell? ⟨b, 1, none⟩ = some (.map (some mb')) ∧ w4.cell? ⟨p, 0, none⟩ = some (.int .i64 (j : Nat)) ∧ w4.cell? ⟨p, 1, none⟩ = some (.bool true) ∧ w4.cell? ⟨q, 0, none⟩ = some (.int .i64 o.client) ∧ w4.cell? ⟨q, 1, none⟩ = some (.int .i64 o.verb) ∧ w4.cell? ⟨q, 2, none⟩ = some (.int .i64 o.place) ∧ w4.cell? ⟨q, 3, none⟩ = some (.int .u8 o.letter)) ∧ Hid (∃ own2, RoomF A own2 rid (w4.alloc (Obj.cells #[Value.int IntKind.i64 ((j : Int) + 1), Value.bool true] 80)) b (X.told i (j + 1) (S.take m) o) ∧ Upd own own2 (inRoom rid) w (w4.alloc (Obj.cells #[Value.int IntKind.i64 ((j : Int) + 1), Value.bool true] 80)) ∧ CellsT own2 (rid + 1, 0, 7) (w4.alloc (Obj.cells #[Value.int IntKind.i64 ((j : Int) + 1), Value.bool true] 80)) q #[Value.int IntKind.i64 o.client, Value.int IntKind.i64 o.verb, Value.int IntKind.i64 o.place, Value.int IntKind.u8 o.letter] 94 ∧ CellsT own2 (rid + 1, 0, 5) (w4.alloc (Obj.cells #[Value.int IntKind.i64 ((j : Int) + 1), Value.bool true] 80)) N #[Value.int IntKind.i64 i, Value.bool true] 80 ∧ CellsT own2 (rid + 1, 0, 8) (w4.alloc (Obj.cells #[Value.int IntKind.i64 ((j : Int) + 1), Value.bool true] 80)) w4.heap.size #[Value.int IntKind.i64 ((j : Int) + 1), Value.bool true] 80)) := by
      apply hide
      have U0 : Upd own' own' (fun _ => False) wr wr.drew.drew := ((Upd.refl own' _ wr).drew).drew
      refine (xmake own' rid (2 * j + 1) sb' tb' X.window Z o wr.drew.drew (O.hS.upd U0 (fun _ _ _ h => h)) hsm z1 z2 z3 z4).mono ?_
      rintro e w4 ⟨rfl, own4, hE4, hU4'⟩
      have hU4 := (U0.mono (may' := inEnd rid (2 * j + 1)) fun _ h => h.elim).trans hU4'
      have nt : ∀ a c, ¬ inEnd rid (2 * j + 1) (rid + 1, a, c) := fun a c h => absurd h.1 (by simp)
      have hR4 := O.setS (by omega) hU4 hE4
      rw [IRoom.told_next X i j (S.take m) Z o hji hZ] at hR4
      have CO4 := CO.upd hU4 (nt _ _)
      have CA4 := CA.upd hU4 (nt _ _)
      have CP4 := CP.upd hU4 (nt _ _)
      have V6 : Upd own4 (retag own4 w4.heap.size (rid + 1, 0, 8)) (fun _ => False) w4 (w4.alloc (Obj.cells #[Value.int IntKind.i64 ((j : Int) + 1), Value.bool true] 80)) := Upd.retag ((Upd.refl own4 (fun _ => False) w4).alloc _) _ _ (Nat.le_refl _)
      refine ⟨rfl, ⟨hU4.cell O.c1 (by rw [O.bt]; intro h; have := h.2.1; simp at this; omega), CP4.cell 0, CP4.cell 1, CO4.cell 0, CO4.cell 1, CO4.cell 2, CO4.cell 3⟩, hide ⟨_, hR4.upd V6 (fun _ _ h => h), (hU.trans (hU4.mono fun _ h => h.1)).trans (V6.mono fun _ h => h.elim), CO4.upd V6 (fun h => h), CA4.upd V6 (fun h => h), CellsT.new _ _ _ _ _⟩⟩
     have HJI := hide hji
     clear hR hU CO CA CP O lk START hji
     go_wp2_with fail
     go_region_held3 (fun w' => w'.cell? ⟨b, 1, none⟩ = some (.map (some mb')) ∧ w'.cell? ⟨p, 0, none⟩ = some (.int .i64 (j : Nat)) ∧ w'.cell? ⟨p, 1, none⟩ = some (.bool true)) (first | exact ⟨c1, p0, p1⟩) (fail)
     all_goals go_wp2_with fail
     all_goals
      go_region_held3 (fun w' => w'.cell? ⟨b, 1, none⟩ = some (.map (some mb')) ∧ w'.cell? ⟨p, 0, none⟩ = some (.int .i64 (j : Nat)) ∧ w'.cell? ⟨p, 1, none⟩ = some (.bool true) ∧ w'.cell? ⟨q, 0, none⟩ = some (.int .i64 o.client) ∧ w'.cell? ⟨q, 1, none⟩ = some (.int .i64 o.verb) ∧ w'.cell? ⟨q, 2, none⟩ = some (.int .i64 o.place) ∧ w'.cell? ⟨q, 3, none⟩ = some (.int .u8 o.letter)) (first | exact ⟨c1, p0, p1, o0, o1, o2, o3⟩ | with_reducible exact hs4) (first | (go_at_call 53; with_reducible refine (unhide HMK).mono ?_; rintro e w4 ⟨rfl, hs4, hf4⟩))
      all_goals
       obtain ⟨_, k0, k1, _⟩ := hs4
       go_wp2_with fail
       obtain ⟨own2, f1, f2, f3, f4, f5⟩ := unhide hf4
       refine ⟨⟨j + 1, _, by omega, rfl, own2, f1, f2, f3, f4, f5⟩, ?_⟩
       rw [boxNum_eq p0, boxNum_eq (j := j + 1) (World.cell?_alloc_new _ _ _ _)]
       omega
   ·obtain rfl : j = X.texts.length := by omega
    obtain ⟨mb', c1, _, lk⟩ := hR.none_w (c := (X.texts.length : Int)) ⟨by omega, by omega⟩ (by show ¬ (0 ≤ (X.texts.length : Int) ∧ (X.texts.length : Int) < (X.texts.length : Int)); omega) true
    have lk0 : (Instr.lookup 74 (.map (some mb')) (.agg #[.int .i64 (X.texts.length : Nat), .bool true]) false).run Try.prog wr.drew = .ok (.pointer none) wr.drew := lk _ rfl
    rw [IRoom.told_all X i _ (S.take m) o (by omega)] at hR
    have HR := hide hR
    have HU := hide hU
    clear hR hU CO CA CP lk START
    go_wp2_with fail
    go_region_held3 (fun w' => w'.cell? ⟨b, 1, none⟩ = some (.map (some mb')) ∧ w'.cell? ⟨p, 0, none⟩ = some (.int .i64 (X.texts.length : Nat)) ∧ w'.cell? ⟨p, 1, none⟩ = some (.bool true)) (first | exact ⟨c1, p0, p1⟩) (fail)
    all_goals go_wp2_with fail
    all_goals
     go_end0
     exact ⟨rfl, own', by rw [← HO.out]; exact (unhide HR).upd ((Upd.refl own' (fun _ => False) wr).drew) (fun _ _ h => h), (unhide HU).drew⟩
end Go.Proofs.Ytemkgikncmhoaaa

namespace Go.Proofs.Ytemkgikncmhoaaa
open Go.RowKit

theorem map_eraseIdx' {α β : Type} (f : α → β) : ∀ (l : List α) (j : Nat), (l.eraseIdx j).map f = (l.map f).eraseIdx j
 | [], j => by simp
 | a :: l, 0 => by simp
 | a :: l, j + 1 => by simp [map_eraseIdx' f l j]
theorem eraseIdx_filter (x : Nat) : ∀ (l : List IMsg) (j : Nat) (m : IMsg), l[j]? = some m → m.number = x → (l.map IMsg.number).Nodup → l.eraseIdx j = l.filter fun q => decide (q.number ≠ x)
 | [], j, m, h, _, _ => by simp at h
 | a :: l, 0, m, h, hx, hn => by
  obtain rfl : a = m := by simpa using h
  rw [List.map_cons, List.nodup_cons] at hn
  have : l.filter (fun q => decide (q.number ≠ x)) = l := by
   rw [List.filter_eq_self]
   intro q hq
   simp only [decide_eq_true_eq]
   intro e
   exact hn.1 (by rw [hx, ← e]; exact List.mem_map_of_mem hq)
  rw [List.eraseIdx_cons_zero, List.filter_cons, this]
  simp [hx]
 | a :: l, j + 1, m, h, hx, hn => by
  rw [List.map_cons, List.nodup_cons] at hn
  have h' : l[j]? = some m := by simpa using h
  have ha : a.number ≠ x := fun e => hn.1 (by rw [e, ← hx]; exact List.mem_map_of_mem (List.mem_of_getElem? h'))
  rw [List.eraseIdx_cons_succ, eraseIdx_filter x l j m h' hx hn.2, List.filter_cons]
  simp [ha]
/-- One is struck. -/
theorem KeptX.cut {own : Nat → Tag} {t : Tag} {w : World} {kb : Nat} {kept : List IMsg} (h : KeptX own t w kb kept) (hn : (kept.map IMsg.number).Nodup) {x : Nat} (hx : ∃ m ∈ kept, m.number = x) (ty : TypeId) :
  ∃ o, (Builtin.delete_ #[83, 3] ty #[.map (some kb), .int .i64 x]).run Try.prog w = .ok (.tuple #[]) (ChangeMaps.setBlock w kb o) ∧ KeptX own t (ChangeMaps.setBlock w kb o) kb (kept.filter fun q => decide (q.number ≠ x)) := by
 obtain ⟨h1, ents, clock, h2, h3, h4, h5⟩ := h
 have hl := (Array.getElem?_eq_some_iff.1 h2).1
 rcases findNow_kept x ents.toList kept 0 h3 with ⟨h6, _⟩ | ⟨j, q, h7, h8, _, h9⟩
 ·obtain ⟨m, hm, hmx⟩ := hx
  exact absurd hmx (h6 m hm)
 ·rw [Nat.zero_add] at h9
  have hjl : j < ents.toList.length := by
   have := (List.getElem?_eq_some_iff.1 h7).1
   have e := congrArg List.length h3
   simp only [List.length_map] at e
   omega
  refine ⟨.map (ents.eraseIdxIfInBounds j) clock, ?_, h1, _, _, heap_setBlock_same _ _ _ hl, ?_, ?_, ?_⟩
  ·simp [Builtin.delete_, run_underlying Try.underlying83, MapKept.run_getObj_map h2, run_checkInt, run_findKey h9, Result.andThen, MapKept.run_setObj_map _ h2]
   rfl
  ·have e : (ents.eraseIdxIfInBounds j).toList = ents.toList.eraseIdx j := by
    unfold Array.eraseIdxIfInBounds
    rw [dif_pos (by simpa using hjl)]
    simp
   rw [e, map_eraseIdx', h3, ← map_eraseIdx', eraseIdx_filter x kept j q h7 h8 hn]
  ·intro e he
   have e' : (ents.eraseIdxIfInBounds j).toList = ents.toList.eraseIdx j := by
    unfold Array.eraseIdxIfInBounds
    rw [dif_pos (by simpa using hjl)]
    simp
   rw [e'] at he
   exact h4 e (List.mem_of_mem_eraseIdx he)
  ·have e' : (ents.eraseIdxIfInBounds j).toList = ents.toList.eraseIdx j := by
    unfold Array.eraseIdxIfInBounds
    rw [dif_pos (by simpa using hjl)]
    simp
   rw [e']
   exact List.Sublist.nodup ((List.eraseIdx_sublist _ _).map _) h5
end Go.Proofs.Ytemkgikncmhoaaa

namespace Go.Proofs.Ytemkgikncmhoaaa
open Go.RowKit

/-- The next one among what was kept. -/
def IEnd.nextKept (E : IEnd) : Option IMsg := E.kept.find? fun m => decide (m.number = E.taken + 1)
def IRoom.stepA (X : IRoom) (i : Nat) (t : List UInt8) (E : IEnd) (m : IMsg) : IRoom := X.setA i ((E.taking m).1.does t) ((E.drop m.number).take m)
def IRoom.stepB (X : IRoom) (i : Nat) (S : IEnd) (m : IMsg) : IRoom := X.tell i ((S.drop m.number).take m) (S.taking m).1
def IRoom.takesA (X : IRoom) (i : Nat) : Nat → IRoom
 | 0 => X
 | f + 1 => match X.texts[i]?, X.ends[i]? with
  | some t, some E => (match E.nextKept with
   | some m => (X.stepA i t E m).takesA i f
   | none => X)
  | _, _ => X
def IRoom.takesB (X : IRoom) (i : Nat) : Nat → IRoom
 | 0 => X
 | f + 1 => match X.sends[i]? with
  | some S => (match S.nextKept with
   | some m => (X.stepB i S m).takesB i f
   | none => X)
  | _ => X
theorem IRoom.takesA_none {X : IRoom} {i : Nat} {t : List UInt8} {E : IEnd} (h1 : X.texts[i]? = some t) (h2 : X.ends[i]? = some E) (h : E.nextKept = none) (f : Nat) : X.takesA i f = X := by
 cases f with
 | zero => rfl
 | succ f => simp only [IRoom.takesA, h1, h2, h]
theorem IRoom.takesA_some {X : IRoom} {i : Nat} {t : List UInt8} {E : IEnd} {m : IMsg} (h1 : X.texts[i]? = some t) (h2 : X.ends[i]? = some E) (h : E.nextKept = some m) (f : Nat) : X.takesA i (f + 1) = (X.stepA i t E m).takesA i f := by
 simp only [IRoom.takesA, h1, h2, h]
theorem IRoom.takesB_none {X : IRoom} {i : Nat} {S : IEnd} (h2 : X.sends[i]? = some S) (h : S.nextKept = none) (f : Nat) : X.takesB i f = X := by
 cases f with
 | zero => rfl
 | succ f => simp only [IRoom.takesB, h2, h]
theorem IRoom.takesB_some {X : IRoom} {i : Nat} {S : IEnd} {m : IMsg} (h2 : X.sends[i]? = some S) (h : S.nextKept = some m) (f : Nat) : X.takesB i (f + 1) = (X.stepB i S m).takesB i f := by
 simp only [IRoom.takesB, h2, h]
theorem IEnd.nextKept_some {E : IEnd} {m : IMsg} (h : E.nextKept = some m) : m ∈ E.kept ∧ m.number = E.taken + 1 := by
 have h1 := List.mem_of_find?_eq_some h
 have h2 := List.find?_some h
 exact ⟨h1, by simpa using h2⟩
theorem IEnd.nextKept_of {E : IEnd} {m : IMsg} (hn : (E.kept.map IMsg.number).Nodup) (hm : m ∈ E.kept) (h : m.number = E.taken + 1) : E.nextKept = some m := by
 unfold IEnd.nextKept
 generalize E.kept = l at *
 induction l with
 | nil => simp at hm
 | cons a l ih =>
  rw [List.find?_cons]
  rcases List.mem_cons.1 hm with rfl | hm'
  ·simp [h]
  ·rw [List.map_cons, List.nodup_cons] at hn
   have ha : a.number ≠ E.taken + 1 := fun e => hn.1 (by rw [e, ← h]; exact List.mem_map_of_mem hm')
   simp only [ha, decide_false]
   exact ih hn.2 hm'
theorem IEnd.nextKept_none {E : IEnd} (h : ∀ m ∈ E.kept, m.number ≠ E.taken + 1) : E.nextKept = none := by
 unfold IEnd.nextKept
 rw [List.find?_eq_none]
 intro m hm
 simpa using h m hm

/-- What taking asks for. -/
structure Ready (E : IEnd) (m : IMsg) (t : List UInt8) : Prop where
 seen : E.seen ≤ m.ctx
 len : m.ctx - E.seen ≤ E.opn.length
 norm : m.op.Norm
 place : m.op.place ≤ 1000
 opn : ∀ x ∈ E.opn, x.Norm ∧ x.place ≤ 1000 ∧ m.op.client ≠ x.client
 ol : E.opn.length ≤ 240
 on : (E.taking m).1.Norm
 fits : (E.taking m).1.fits t.length
 tl : t.length ≤ 240
theorem form_place {us ds : List GMsg} {T : Nat → Nat → List UInt8} (g : Grid us ds T) (hu : Norms us) (hd : Norms ds) {j k : Nat} (h1 : 1 ≤ j) (h2 : j ≤ us.length) (h3 : k ≤ ds.length) (hc : (gmsg us j).ctx ≤ k) (hk : 1 ≤ k → (gmsg ds k).ctx ≤ j - 1) : (form us ds j k).place ≤ j + k := by
 have p1 : Pt us ds j k := ⟨h2, h3, fun _ => hc, fun h => by have := hk h; omega⟩
 have p2 : Pt us ds (j - 1) k := ⟨by omega, h3, fun h => Nat.le_trans (g.hist.mu (j - 1) j h (by omega) h2) hc, hk⟩
 obtain ⟨f, _⟩ := g.u j k h1 p1 p2
 have := f.place (form_norm hu hd h1 h2 h3)
 have := g.len _ _ _ rfl p2
 omega
section
variable {X : IRoom} {us ds : Nat → List GMsg} {T : Nat → Nat → Nat → List UInt8}
theorem RInv.readyA (h : RInv X us ds T) {i : Nat} {t : List UInt8} {E S : IEnd} (h1 : X.texts[i]? = some t) (h2 : X.ends[i]? = some E) (h3 : X.sends[i]? = some S) {n : Nat} (hn : n = E.taken + 1) (hd : n ≤ (ds i).length) : Ready E (imsg (ds i) n) t := by
 obtain ⟨hl, g1, g2, g3, g4⟩ := h.line i t E S h1 h2 h3
 obtain ⟨e, _, s1, s2⟩ := hl.a.took hl.g.hist hn hd
 obtain ⟨⟨f1, _⟩, _⟩ := hl.takeA hn hd
 have hds := h.ds180 (List.getElem?_eq_some_iff.1 h1).1
 have hp := (g4 n (by omega) hd)
 refine ⟨s1, s2, hp.1, by show (gmsg (ds i) n).op.place ≤ 1000; omega, ?_, by rw [hl.a.opn, formsOf_length]; omega, ?_, f1, h.text240 h1 h2 h3⟩
 ·intro x hx
  rw [hl.a.opn] at hx
  simp only [formsOf, List.mem_map, List.mem_range] at hx
  obtain ⟨j, hj, rfl⟩ := hx
  have hc := hl.a.ctx (E.seen + j + 1) (by omega) (by omega)
  have hpl := form_place hl.g g3 g4 (j := E.seen + j + 1) (k := E.taken) (by omega) (by omega) hl.a.tk hc (fun hk => by
   have := hl.a.seen
   rw [if_neg (by omega)] at this
   omega)
  refine ⟨form_norm g3 g4 (by omega) (by omega) hl.a.tk, by have := hl.a.tk; omega, ?_⟩
  rw [form_client _ _ _ (by omega), hl.cu _ (by omega) (by omega)]
  exact hl.cd n (by omega) hd
 ·rw [e]; exact form_norm g4 g3 (by omega) hd (Nat.le_refl _)
theorem RInv.readyB (h : RInv X us ds T) {i : Nat} {t : List UInt8} {E S : IEnd} (h1 : X.texts[i]? = some t) (h2 : X.ends[i]? = some E) (h3 : X.sends[i]? = some S) {n : Nat} (hn : n = S.taken + 1) (hd : n ≤ (us i).length) : Ready S (imsg (us i) n) X.server := by
 obtain ⟨hl, g1, g2, g3, g4⟩ := h.line i t E S h1 h2 h3
 obtain ⟨e, _, s1, s2⟩ := hl.b.took hl.g.hist.swap hn hd
 obtain ⟨⟨f1, _⟩, _⟩ := hl.takeB hn hd
 have hds := h.ds180 (List.getElem?_eq_some_iff.1 h1).1
 have hp := (g3 n (by omega) hd)
 refine ⟨s1, s2, hp.1, by show (gmsg (us i) n).op.place ≤ 1000; omega, ?_, by rw [hl.b.opn, formsOf_length]; omega, ?_, f1, h.server240⟩
 ·intro x hx
  rw [hl.b.opn] at hx
  simp only [formsOf, List.mem_map, List.mem_range] at hx
  obtain ⟨j, hj, rfl⟩ := hx
  have hc := hl.b.ctx (S.seen + j + 1) (by omega) (by omega)
  have hpl := form_place hl.g.swap g4 g3 (j := S.seen + j + 1) (k := S.taken) (by omega) (by omega) hl.b.tk hc (fun hk => by
   have := hl.b.seen
   rw [if_neg (by omega)] at this
   omega)
  refine ⟨form_norm g4 g3 (by omega) (by omega) hl.b.tk, by have := hl.b.tk; omega, ?_⟩
  rw [form_client _ _ _ (by omega)]
  show (gmsg (us i) n).op.client ≠ _
  rw [hl.cu n (by omega) hd]
  exact fun e => hl.cd _ (by omega) (by omega) e.symm
 ·rw [e]; exact form_norm g3 g4 (by omega) hd (Nat.le_refl _)
/-- The ends of the other lines, when the server takes. -/
theorem RInv.others (h : RInv X us ds T) : ∀ (j : Nat) (Z : IEnd), X.sends[j]? = some Z → Z.made < 240 ∧ Z.taken ≤ 240 ∧ Z.flying.length ≤ 12 ∧ Z.opn.length ≤ 240 := by
 intro j Z hZ
 have hj : j < X.texts.length := by have := (List.getElem?_eq_some_iff.1 hZ).1; have := h.ls; omega
 obtain ⟨t, E, S, a1, a2, a3⟩ := h.get hj
 obtain rfl : S = Z := by rw [hZ] at a3; simpa using a3.symm
 obtain ⟨hl, g1, g2, g3, g4⟩ := h.line j t E S a1 a2 a3
 have hds := h.ds180 hj
 have := hl.b.tk
 refine ⟨by rw [hl.b.made]; omega, by omega, hl.b.fly, by rw [hl.b.opn, formsOf_length]; omega⟩
theorem Ready.small {E : IEnd} {m : IMsg} {t : List UInt8} (h : Ready E m t) : (E.taking m).1.Small := by
 have hp := h.fits.place h.on
 have ht := h.tl
 obtain ⟨⟨c1, c2⟩, hv⟩ := h.on
 refine ⟨⟨c1, by omega⟩, ⟨by omega, by omega⟩, ⟨by omega, by omega⟩, ⟨by omega, by omega⟩⟩
/-- A kept one is one of the other row's. -/
theorem RInv.keptA (h : RInv X us ds T) {i : Nat} {t : List UInt8} {E S : IEnd} (h1 : X.texts[i]? = some t) (h2 : X.ends[i]? = some E) (h3 : X.sends[i]? = some S) {m : IMsg} (hm : m ∈ E.kept) : E.taken < m.number ∧ m.number ≤ (ds i).length ∧ m = imsg (ds i) m.number := by
 obtain ⟨hl, _⟩ := h.line i t E S h1 h2 h3
 obtain ⟨n, a1, a2, rfl⟩ := hl.a.kept m hm
 exact ⟨a1, a2, rfl⟩
theorem RInv.keptB (h : RInv X us ds T) {i : Nat} {t : List UInt8} {E S : IEnd} (h1 : X.texts[i]? = some t) (h2 : X.ends[i]? = some E) (h3 : X.sends[i]? = some S) {m : IMsg} (hm : m ∈ S.kept) : S.taken < m.number ∧ m.number ≤ (us i).length ∧ m = imsg (us i) m.number := by
 obtain ⟨hl, _⟩ := h.line i t E S h1 h2 h3
 obtain ⟨n, a1, a2, rfl⟩ := hl.b.kept m hm
 exact ⟨a1, a2, rfl⟩
theorem RInv.nodupA (h : RInv X us ds T) {i : Nat} {t : List UInt8} {E S : IEnd} (h1 : X.texts[i]? = some t) (h2 : X.ends[i]? = some E) (h3 : X.sends[i]? = some S) : (E.kept.map IMsg.number).Nodup ∧ E.taken ≤ 180 := by
 obtain ⟨hl, _⟩ := h.line i t E S h1 h2 h3
 have := hl.a.tk
 have := h.ds180 (List.getElem?_eq_some_iff.1 h1).1
 exact ⟨hl.a.kept1, by omega⟩
theorem RInv.nodupB (h : RInv X us ds T) {i : Nat} {t : List UInt8} {E S : IEnd} (h1 : X.texts[i]? = some t) (h2 : X.ends[i]? = some E) (h3 : X.sends[i]? = some S) : (S.kept.map IMsg.number).Nodup ∧ S.taken ≤ 60 := by
 obtain ⟨hl, _, g2, _⟩ := h.line i t E S h1 h2 h3
 have := hl.b.tk
 exact ⟨hl.b.kept1, by omega⟩
end
end Go.Proofs.Ytemkgikncmhoaaa

