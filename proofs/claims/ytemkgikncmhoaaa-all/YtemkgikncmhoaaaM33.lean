import Derived.Test.YtemkgikncmhoaaaM29
import Derived.Test.YtemkgikncmhoaaaM32
import Derived.Deep.DeepCutAuto
namespace Go.Proofs.Ytemkgikncmhoaaa
open Go.RowKit
attribute [local go_sem ↓] Go.wp_at_zero Go.wp_at_succ

/-- A contract of Form, of one line. -/
def FormOk (rid i lb : Nat) (L : RLine) (row : Int) (n k : Nat) (o : ROp) : Prop := ∀ own W, LineAt own rid i W lb L → Calls Try.prog 104 #[.pointer (some ⟨lb, 0, none⟩), .int .i64 row, .int .i64 ((n : Int) + 1), .int .i64 k] W fun e w' =>
 e = .returned (.agg #[.int .i64 o.client, .int .i64 o.verb, .int .i64 o.place, .int .u8 o.letter]) ∧ ∃ own' ra rb, Rows (histOf L.a.rows) (histOf L.b.rows) ra rb ∧ LineAt own' rid i w' lb (L.withRows ra rb) ∧ Upd own own' (inLine rid i) W w'
def RLine.tookA (L : RLine) : RLine := { L with a := { L.a with taken := L.a.taken + 1 } }
def RLine.tookB (L : RLine) : RLine := { L with b := { L.b with taken := L.b.taken + 1 } }

set_option maxRecDepth 100000 in
set_option maxHeartbeats 1600000 in
theorem rtake_0 (A : List Nat) (own : Nat → Tag) (rid b : Nat) (R : RRoom) (i : Nat) (t : List UInt8) (L : RLine) (o : ROp) (w : World) (h : RoomB A own rid w b R) (ht : R.texts[i]? = some t) (hL : R.lines[i]? = some L) (htk : L.a.taken ≤ 240) (_hra : L.a.rows.length ≤ 240)
  (hform : ∀ lb, FormOk rid i lb L 1 L.a.taken L.a.rows.length o) (hf : o.fits t.length) (htl : t.length ≤ 1000) (hlt : 0 ≤ o.letter ∧ o.letter ≤ 255) :
  Calls Try.prog 95 #[.pointer (some ⟨b, 0, none⟩), .int .i64 i, .int .i64 0] w fun e w' => e = .returned (.tuple #[]) ∧ ∃ own' ra rb, Rows (histOf L.a.rows) (histOf L.b.rows) ra rb ∧ RoomB A own' rid w' b ((R.setLine i (L.withRows ra rb).tookA).setText i (o.does t)) ∧ Upd own own' (inRoom rid) w w' := by
 have hR0 := h
 have hn4 : R.texts.length ≤ 4 := h.lens.1
 obtain ⟨tg, tc, lg, lc, lb, c0, c2, c3, c4, c5, f4, hLA, t1, t2, t3, l1, l2, l3, hi⟩ := h.room.get ht hL
 obtain ⟨ra, rc, d0⟩ : ∃ ra rc, w.cell? ⟨lb, 0, none⟩ = some (.slice ra L.a.rows.length rc) := by
  obtain ⟨r0, r1, k0, k1, o0, o1, s0, s1, hc, ⟨⟨fs, hfl, hro, hfs⟩, _⟩, _⟩ := hLA
  obtain ⟨ra, rc, rfl, _, _⟩ := hro.shape
  exact ⟨ra, rc, by rw [hc.cell]; rfl⟩
 have d2 : w.cell? ⟨lb, 2, none⟩ = some (.int .i64 L.a.taken) := hLA.cells.1
 have l4 := hLA.lt.1
 have hi1 : (i : Int) < (R.texts.length : Int) := by omega
 have hi2 : (0 : Int) ≤ (i : Int) := by omega
 have hwt : IntKind.i64.wrap ((L.a.taken : Int) + 1) = (L.a.taken : Int) + 1 := by rw [IntKind.wrap_i64]; omega
 have HDO : Hid (∀ w, Calls Try.prog 97 #[.string ⟨t.toArray⟩, .agg #[.int .i64 o.client, .int .i64 o.verb, .int .i64 o.place, .int .u8 o.letter]] w fun e w' => e = .returned (.string ⟨(o.does t).toArray⟩) ∧ Below w.heap.size w w') := hide (fun w => do_any t o w htl hf hlt)
 have HFO := hide (fun W hW => hform lb own W hW)
 have HLA := hide hLA
 have HR := hide hR0
 clear hform hLA hR0 h
 go_enter Try.func95, Try.ntmps95
 go_wp2_with fail
 refine (unhide HFO w (unhide HLA)).mono ?_
 rintro e w1 ⟨rfl, own1, ra1, rb1, hRw, hL1, hU1⟩
 clear HFO
 obtain ⟨x1, x2⟩ := hL1.set2 (L.a.taken + 1)
 rw [show ((L.a.taken + 1 : Nat) : Int) = (L.a.taken : Int) + 1 from rfl] at x1 x2
 have es : (w1.setCell ⟨lb, 2, none⟩ (.int .i64 ((L.a.taken : Int) + 1))).heap.size = w1.heap.size := by simp [World.setCell]
 have V : Upd own1 (retag own1 (w1.setCell ⟨lb, 2, none⟩ (.int .i64 ((L.a.taken : Int) + 1))).heap.size (rid + 1, 0, 0)) (fun _ => False) (w1.setCell ⟨lb, 2, none⟩ (.int .i64 ((L.a.taken : Int) + 1))) ((w1.setCell ⟨lb, 2, none⟩ (.int .i64 ((L.a.taken : Int) + 1))).alloc (Obj.cells #[Value.int IntKind.i64 o.client, Value.int IntKind.i64 o.verb, Value.int IntKind.i64 o.place, Value.int IntKind.u8 o.letter] 149)) := Upd.retag ((Upd.refl own1 (fun _ => False) _).alloc _) _ _ (Nat.le_refl _)
 have hU2 := (hU1.trans x2).trans (V.mono (fun _ h => h.elim))
 have hR2 := RoomB.line (unhide HR) (by omega) hi c3 c5 hU2 (x1.upd V (fun _ h => h))
 have CB := CellsT.new (w1.setCell ⟨lb, 2, none⟩ (.int .i64 ((L.a.taken : Int) + 1))) #[Value.int IntKind.i64 o.client, Value.int IntKind.i64 o.verb, Value.int IntKind.i64 o.place, Value.int IntKind.u8 o.letter] 149 own1 (rid + 1, 0, 0)
 rw [es] at hU2 hR2 CB
 have sz := hU1.size
 have nlb : ¬ (lb = w1.heap.size) := by omega
 have fz := hL1.cells.2.2.2.2.2.2 2
 have hlb1 := hL1.lt.1
 have dt : w1.cell? ⟨lb, 2, none⟩ = some (.int .i64 L.a.taken) := hL1.cells.1
 clear HLA HR hU1 hL1 V x1 x2
 have hRw' := hide hRw
 clear hRw
 have n0 : ∀ k, ¬ inLine rid i (rid, 100, k) := fun k hk => by have := hk.2; simp at this; omega
 have c2' := hU2.cell c2 (by rw [t2]; exact n0 _)
 have c4' := hU2.cell c4 (by rw [t1]; exact n0 _)
 have f4' := hU2.frozen l2 (by rw [t1]; exact n0 _) f4
 have q0 := CB.cell 0
 have q1 := CB.cell 1
 have q2 := CB.cell 2
 have q3 := CB.cell 3
 simp only [List.getElem?_toArray, List.getElem?_cons_zero, List.getElem?_cons_succ] at q0 q1 q2 q3
 have HR2 := hide hR2
 have HU2 := hide hU2
 clear hR2 hU2 CB
 go_wp2_with fail
 generalize (w1.setCell ⟨lb, 2, none⟩ (.int .i64 ((L.a.taken : Int) + 1))).alloc (Obj.cells #[Value.int IntKind.i64 o.client, Value.int IntKind.i64 o.verb, Value.int IntKind.i64 o.place, Value.int IntKind.u8 o.letter] 149) = W2 at *
 have l1' : b < W2.heap.size := Nat.lt_of_lt_of_le l1 (unhide HU2).size
 have l2' : tg < W2.heap.size := Nat.lt_of_lt_of_le l2 (unhide HU2).size
 have FIN : Hid (∀ w3, Below W2.heap.size W2 w3 → ∃ own' ra rb, Rows (histOf L.a.rows) (histOf L.b.rows) ra rb ∧ RoomB A own' rid (w3.setCell ⟨tg, i, none⟩ (.string ⟨(o.does t).toArray⟩)) b ((R.setLine i (L.withRows ra rb).tookA).setText i (o.does t)) ∧ Upd own own' (inRoom rid) w (w3.setCell ⟨tg, i, none⟩ (.string ⟨(o.does t).toArray⟩))) := by
  apply hide
  intro w3 hb
  have B := Upd.of_below (retag own1 w1.heap.size (rid + 1, 0, 0)) (fun _ => False) hb
  obtain ⟨y1, y2⟩ := ((unhide HR2).upd B (fun _ _ h => h)).text (i := i) (B.cell c2' (fun h => h)) (o.does t)
  exact ⟨_, ra1, rb1, unhide hRw', y1, ((unhide HU2).mono (fun t h => h.1)).trans ((B.mono (fun _ h => h.elim)).trans y2)⟩
 clear HR2 HU2 hRw'
 go_cut [] (fun wc => ∃ w3, Below W2.heap.size W2 w3 ∧ wc = w3.setCell ⟨tg, i, none⟩ (.string ⟨(o.does t).toArray⟩))
 case first =>
  go_region_with (first | (go_at_call 97; refine (unhide HDO _).mono ?_; rintro e w3 ⟨rfl, hb3⟩; have k2 := (hb3.cell (p := ⟨b, 2, none⟩) l1').trans c2'; have k4 := (hb3.cell (p := ⟨tg, i, none⟩) l2').trans c4'; have g4 := (hb3.frozen (p := ⟨tg, i, none⟩) l2').trans f4'))
  all_goals
   go_wp2
   go_meet
   case rel => exact ⟨w3, (Below.refl _ _).drew.trans hb3, rfl⟩
 case rest =>
  obtain ⟨w3, hb3, rfl⟩ := hcut
  have HF := hide (unhide FIN _ hb3)
  clear FIN hb3
  go_wp2
  go_returns
  exact ⟨rfl, unhide HF⟩
end Go.Proofs.Ytemkgikncmhoaaa

namespace Go.Proofs.Ytemkgikncmhoaaa
open Go.RowKit
attribute [local go_sem ↓] Go.wp_at_zero Go.wp_at_succ

/-- The server's ends of the lines below j have made one more, but for line c's. -/
def RRoom.told (R : RRoom) (c : Nat) (o : ROp) (j : Nat) : RRoom := { R with lines := R.lines.mapIdx fun k L => if k < j ∧ k ≠ c then { L with b := L.b.make o R.window } else L }
theorem RRoom.told_0 (R : RRoom) (c : Nat) (o : ROp) : R.told c o 0 = R := by
 unfold RRoom.told
 have : (R.lines.mapIdx fun k L => if k < 0 ∧ k ≠ c then ({ L with b := L.b.make o R.window } : RLine) else L) = R.lines := by
  apply List.ext_getElem?
  intro k
  rw [List.getElem?_mapIdx]
  cases R.lines[k]? <;> simp
 rw [this]
theorem RRoom.told_get {R : RRoom} {c : Nat} {o : ROp} {j k : Nat} {L : RLine} (h : R.lines[k]? = some L) (hk : j ≤ k) : (R.told c o j).lines[k]? = some L := by
 show (R.lines.mapIdx _)[k]? = _
 rw [List.getElem?_mapIdx, h]
 simp; omega
theorem RRoom.told_same (R : RRoom) (c : Nat) (o : ROp) : R.told c o (c + 1) = R.told c o c := by
 unfold RRoom.told
 congr 1
 apply List.ext_getElem?
 intro k
 rw [List.getElem?_mapIdx, List.getElem?_mapIdx]
 cases R.lines[k]? with
 | none => rfl
 | some L =>
  simp only [Option.map_some, Option.some.injEq]
  by_cases h : k = c
  ·simp [h]
  ·by_cases h2 : k < c
   ·simp [h, h2, show k < c + 1 by omega]
   ·simp [h, h2, show ¬ k < c + 1 by omega]
theorem RRoom.told_step {R : RRoom} {c : Nat} {o : ROp} {j : Nat} {L : RLine} (h : R.lines[j]? = some L) (hj : j ≠ c) : (R.told c o j).setLine j { L with b := L.b.make o R.window } = R.told c o (j + 1) := by
 unfold RRoom.told RRoom.setLine
 congr 1
 apply List.ext_getElem?
 intro k
 rw [List.getElem?_set, List.getElem?_mapIdx, List.getElem?_mapIdx]
 have hl := (List.getElem?_eq_some_iff.1 h).1
 by_cases hk : j = k
 ·subst hk
  rw [if_pos rfl, h]
  simp [hl, hj]
 ·rw [if_neg hk]
  cases R.lines[k]? with
  | none => rfl
  | some M =>
   simp only [Option.map_some, Option.some.injEq]
   by_cases h2 : k < j
   ·simp [h2, show k < j + 1 by omega]
   ·simp [h2, show ¬ k < j + 1 by omega]

set_option maxRecDepth 100000 in
set_option maxHeartbeats 1600000 in
theorem rtake_1 (A : List Nat) (own : Nat → Tag) (rid b : Nat) (R : RRoom) (i : Nat) (t : List UInt8) (L : RLine) (o : ROp) (w : World) (h : RoomB A own rid w b R) (ht : R.texts[i]? = some t) (hL : R.lines[i]? = some L) (htk : L.b.taken ≤ 240) (_hra : L.b.rows.length ≤ 240) (hwin : R.window ≤ 4)
  (hform : ∀ lb, FormOk rid i lb L 0 L.b.taken L.b.rows.length o) (hf : o.fits R.server.length) (htl : R.server.length ≤ 1000) (hlt : 0 ≤ o.letter ∧ o.letter ≤ 255)
  (hmk : ∀ k M, R.lines[k]? = some M → k ≠ i → ({ M.b with rows := M.b.rows ++ [(⟨M.b.taken, [o]⟩ : RMsg)] } : REnd).Ok ∧ M.b.sent ≤ min (M.b.known + R.window) (M.b.rows.length + 1)) :
  Calls Try.prog 95 #[.pointer (some ⟨b, 0, none⟩), .int .i64 i, .int .i64 1] w fun e w' => e = .returned (.tuple #[]) ∧ ∃ own' ra rb, Rows (histOf L.a.rows) (histOf L.b.rows) ra rb ∧ RoomB A own' rid w' b (((R.setLine i (L.withRows ra rb).tookB).setServer (o.does R.server)).told i o R.texts.length) ∧ Upd own own' (inRoom rid) w w' := by
 have hR0 := h
 have hn4 : R.texts.length ≤ 4 := h.lens.1
 have hll : R.lines.length = R.texts.length := h.lens.2
 obtain ⟨tg, tc, lg, lc, lb, c0, c2, c3, c4, c5, f4, hLA, t1, t2, t3, l1, l2, l3, hi⟩ := h.room.get ht hL
 obtain ⟨tx, lx, _, s1, _, _, _, _, sf, _⟩ := h.room.heads
 have sf1 := sf 1
 clear sf
 unfold bstr at s1
 obtain ⟨ra, rc, d0⟩ : ∃ ra rc, w.cell? ⟨lb, 1, none⟩ = some (.slice ra L.b.rows.length rc) := by
  obtain ⟨r0, r1, k0, k1, o0, o1, s0, s1, hc, _, ⟨⟨fs, hfl, hro, hfs⟩, _⟩⟩ := hLA
  obtain ⟨ra, rc, rfl, _, _⟩ := hro.shape
  exact ⟨ra, rc, by rw [hc.cell]; rfl⟩
 have d2 : w.cell? ⟨lb, 3, none⟩ = some (.int .i64 L.b.taken) := hLA.cells.2.1
 have l4 := hLA.lt.1
 have hi1 : (i : Int) < (R.texts.length : Int) := by omega
 have hi2 : (0 : Int) ≤ (i : Int) := by omega
 have hwt : IntKind.i64.wrap ((L.b.taken : Int) + 1) = (L.b.taken : Int) + 1 := by rw [IntKind.wrap_i64]; omega
 have HDO : Hid (∀ w, Calls Try.prog 97 #[.string ⟨R.server.toArray⟩, .agg #[.int .i64 o.client, .int .i64 o.verb, .int .i64 o.place, .int .u8 o.letter]] w fun e w' => e = .returned (.string ⟨(o.does R.server).toArray⟩) ∧ Below w.heap.size w w') := hide (fun w => do_any R.server o w htl hf hlt)
 have HFO := hide (fun W hW => hform lb own W hW)
 have HLA := hide hLA
 have HR := hide hR0
 have HMK := hide hmk
 clear hform hLA hR0 h hmk
 go_enter Try.func95, Try.ntmps95
 go_wp2_with fail
 refine (unhide HFO w (unhide HLA)).mono ?_
 rintro e w1 ⟨rfl, own1, ra1, rb1, hRw, hL1, hU1⟩
 clear HFO
 obtain ⟨x1, x2⟩ := hL1.set3 (L.b.taken + 1)
 rw [show ((L.b.taken + 1 : Nat) : Int) = (L.b.taken : Int) + 1 from rfl] at x1 x2
 have es : (w1.setCell ⟨lb, 3, none⟩ (.int .i64 ((L.b.taken : Int) + 1))).heap.size = w1.heap.size := by simp [World.setCell]
 have V : Upd own1 (retag own1 (w1.setCell ⟨lb, 3, none⟩ (.int .i64 ((L.b.taken : Int) + 1))).heap.size (rid + 1, 0, 0)) (fun _ => False) (w1.setCell ⟨lb, 3, none⟩ (.int .i64 ((L.b.taken : Int) + 1))) ((w1.setCell ⟨lb, 3, none⟩ (.int .i64 ((L.b.taken : Int) + 1))).alloc (Obj.cells #[Value.int IntKind.i64 o.client, Value.int IntKind.i64 o.verb, Value.int IntKind.i64 o.place, Value.int IntKind.u8 o.letter] 149)) := Upd.retag ((Upd.refl own1 (fun _ => False) _).alloc _) _ _ (Nat.le_refl _)
 have hU2 := (hU1.trans x2).trans (V.mono (fun _ h => h.elim))
 have hR2 := RoomB.line (unhide HR) (by omega) hi c3 c5 hU2 (x1.upd V (fun _ h => h))
 have CB := CellsT.new (w1.setCell ⟨lb, 3, none⟩ (.int .i64 ((L.b.taken : Int) + 1))) #[Value.int IntKind.i64 o.client, Value.int IntKind.i64 o.verb, Value.int IntKind.i64 o.place, Value.int IntKind.u8 o.letter] 149 own1 (rid + 1, 0, 0)
 rw [es] at hU2 hR2 CB
 have sz := hU1.size
 have nlb : ¬ (lb = w1.heap.size) := by omega
 have fz := hL1.cells.2.2.2.2.2.2 3
 have hlb1 := hL1.lt.1
 have dt : w1.cell? ⟨lb, 3, none⟩ = some (.int .i64 L.b.taken) := hL1.cells.2.1
 clear HLA HR hU1 hL1 V x1 x2
 have hRw' := hide hRw
 clear hRw
 have n0 : ∀ k, ¬ inLine rid i (rid, 100, k) := fun k hk => by have := hk.2; simp at this; omega
 have c1' := hU2.cell s1 (by rw [t2]; exact n0 _)
 have f1' := hU2.frozen (p := ⟨b, 1, none⟩) l1 (by rw [t2]; exact n0 _) sf1
 have HCB := hide CB
 have q0 := CB.cell 0
 have q1 := CB.cell 1
 have q2 := CB.cell 2
 have q3 := CB.cell 3
 simp only [List.getElem?_toArray, List.getElem?_cons_zero, List.getElem?_cons_succ] at q0 q1 q2 q3
 have HR2 := hide hR2
 have HU2 := hide hU2
 have tN : retag own1 w1.heap.size (rid + 1, 0, 0) w1.heap.size = (rid + 1, 0, 0) := retag_ge (Nat.le_refl _)
 clear hR2 hU2 CB
 go_wp2_with fail
 generalize (w1.setCell ⟨lb, 3, none⟩ (.int .i64 ((L.b.taken : Int) + 1))).alloc (Obj.cells #[Value.int IntKind.i64 o.client, Value.int IntKind.i64 o.verb, Value.int IntKind.i64 o.place, Value.int IntKind.u8 o.letter] 149) = W2 at *
 have l1' : b < W2.heap.size := Nat.lt_of_lt_of_le l1 (unhide HU2).size
 clear fz dt nlb hlb1
 generalize retag own1 w1.heap.size (rid + 1, 0, 0) = own2 at *
 generalize w1.heap.size = N at *
 have hwin' := hwin
 go_cut [] (fun wc => ∃ own3, RoomB A own3 rid wc b ((R.setLine i (L.withRows ra1 rb1).tookB).setServer (o.does R.server)) ∧ Upd own own3 (inRoom rid) w wc ∧ CellsT own3 (rid + 1, 0, 0) wc N #[Value.int IntKind.i64 o.client, Value.int IntKind.i64 o.verb, Value.int IntKind.i64 o.place, Value.int IntKind.u8 o.letter] 149)
 case first =>
  have FIN : Hid (∀ w3, Below W2.heap.size W2 w3 → ∃ own3, RoomB A own3 rid (w3.setCell ⟨b, 1, none⟩ (.string ⟨(o.does R.server).toArray⟩)) b ((R.setLine i (L.withRows ra1 rb1).tookB).setServer (o.does R.server)) ∧ Upd own own3 (inRoom rid) w (w3.setCell ⟨b, 1, none⟩ (.string ⟨(o.does R.server).toArray⟩)) ∧ CellsT own3 (rid + 1, 0, 0) (w3.setCell ⟨b, 1, none⟩ (.string ⟨(o.does R.server).toArray⟩)) N #[Value.int IntKind.i64 o.client, Value.int IntKind.i64 o.verb, Value.int IntKind.i64 o.place, Value.int IntKind.u8 o.letter] 149) := by
   apply hide
   intro w3 hb
   have B := Upd.of_below own2 (fun _ => False) hb
   obtain ⟨y1, y2⟩ := ((unhide HR2).upd B (fun _ _ h => h)).serve (o.does R.server)
   exact ⟨_, y1, ((unhide HU2).mono (fun t h => h.1)).trans ((B.mono (fun _ h => h.elim)).trans y2), ((unhide HCB).upd B (fun h => h)).upd y2 (by simp [inRoom])⟩
  go_region_with (first | (go_at_call 97; refine (unhide HDO _).mono ?_; rintro e w3 ⟨rfl, hb3⟩; have k2 := (hb3.cell (p := ⟨b, 1, none⟩) l1').trans c1'; have g4 := (hb3.frozen (p := ⟨b, 1, none⟩) l1').trans f1'))
  all_goals
   go_wp2
   go_meet
   case rel => exact unhide FIN _ ((Below.refl _ _).drew.trans hb3)
 case rest =>
  obtain ⟨own3, hR3, hU3, hC3⟩ := hcut
  clear HR2 HU2 HCB c1' f1' q0 q1 q2 q3 tN c0 c2 c3 c4 c5 f4 d0 d2 s1 sf1
  have HW : Hid (((R.setLine i (L.withRows ra1 rb1).tookB).setServer (o.does R.server)).window = R.window) := rfl
  have HT : Hid (((R.setLine i (L.withRows ra1 rb1).tookB).setServer (o.does R.server)).texts = R.texts) := rfl
  have HM : Hid (∀ k M, ((R.setLine i (L.withRows ra1 rb1).tookB).setServer (o.does R.server)).lines[k]? = some M → k ≠ i → ({ M.b with rows := M.b.rows ++ [(⟨M.b.taken, [o]⟩ : RMsg)] } : REnd).Ok ∧ M.b.sent ≤ min (M.b.known + R.window) (M.b.rows.length + 1)) := by
   apply hide
   intro k M hM hk
   refine unhide HMK k M ?_ hk
   have : (R.lines.set i (L.withRows ra1 rb1).tookB)[k]? = some M := hM
   rwa [List.getElem?_set_ne (fun h => hk h.symm)] at this
  have HLL : Hid (((R.setLine i (L.withRows ra1 rb1).tookB).setServer (o.does R.server)).lines.length = R.texts.length) := by
   apply hide
   show (R.lines.set i _).length = _
   rw [List.length_set]; exact hll
  clear HMK
  generalize hR1 : (R.setLine i (L.withRows ra1 rb1).tookB).setServer (o.does R.server) = R1 at *
  go_wp2_with fail
  go_loopw [9] (fun v9 wr => ∃ j : Nat, j ≤ R.texts.length ∧ v9 = .int .i64 j ∧ ∃ own4, RoomB A own4 rid wr b (R1.told i o j) ∧ Upd own own4 (inRoom rid) w wr ∧ CellsT own4 (rid + 1, 0, 0) wr N #[Value.int IntKind.i64 o.client, Value.int IntKind.i64 o.verb, Value.int IntKind.i64 o.place, Value.int IntKind.u8 o.letter] 149) (fun v9 _ => R.texts.length - (intOf v9).toNat)
  case atStart => exact ⟨0, by omega, rfl, own3, by rw [RRoom.told_0]; exact hR3, hU3, hC3⟩
  case round =>
   obtain ⟨j, hj, rfl, own4, hR4, hU4, hC4⟩ := hrel
   clear hR3 hU3 hC3
   have hT4 : (R1.told i o j).texts = R.texts := unhide HT
   have hW4 : (R1.told i o j).window = R.window := unhide HW
   by_cases hlt2 : j < R.texts.length
   ·have hlt' : (j : Int) < (R.texts.length : Int) := by omega
    obtain ⟨M, hM⟩ : ∃ M, R1.lines[j]? = some M := ⟨_, List.getElem?_eq_getElem (by rw [unhide HLL]; exact hlt2)⟩
    obtain ⟨tt, htt⟩ : ∃ tt, R.texts[j]? = some tt := ⟨_, List.getElem?_eq_getElem hlt2⟩
    obtain ⟨tg4, tc4, lg4, lc4, lb4, c0, c2, c3, c4, c5, f4, hLA, _, _, _, g1, g2, g3, _⟩ := hR4.room.get (i := j) (by rw [hT4]; exact htt) (RRoom.told_get hM (Nat.le_refl _))
    rw [hT4] at c2 c3
    rw [hW4] at c0
    by_cases hji : j = i
    ·subst hji
     have HN : Hid (RoomB A own4 rid wr b (R1.told j o (j + 1)) ∧ Upd own own4 (inRoom rid) w wr ∧ CellsT own4 (rid + 1, 0, 0) wr N #[Value.int IntKind.i64 o.client, Value.int IntKind.i64 o.verb, Value.int IntKind.i64 o.place, Value.int IntKind.u8 o.letter] 149) := ⟨by rw [RRoom.told_same]; exact hR4, hU4, hC4⟩
     clear hR4 hU4 hC4 hLA
     go_wp2
     go_roundw
     case rel => exact ⟨j + 1, by omega, by go_num, own4, unhide HN⟩
     case measure => simp [intOf]; omega
    ·have hji' : ((j : Int) == (i : Int)) = false := by rw [beq_eq_false_iff_ne]; omega
     have q0 := hC4.cell 0
     have q1 := hC4.cell 1
     have q2 := hC4.cell 2
     have q3 := hC4.cell 3
     simp only [List.getElem?_toArray, List.getElem?_cons_zero, List.getElem?_cons_succ] at q0 q1 q2 q3
     have HCALL : Hid (∀ W, W = wr ∨ W = wr.drew → Calls Try.prog 98 #[.pointer (some ⟨lb4, 0, none⟩), .int .i64 1, .agg #[.int .i64 o.client, .int .i64 o.verb, .int .i64 o.place, .int .u8 o.letter], .int .i64 R.window] W fun e w' => e = .returned (.tuple #[]) ∧
       ∃ own5, RoomB A own5 rid w' b (R1.told i o (j + 1)) ∧ Upd own own5 (inRoom rid) w w' ∧ CellsT own5 (rid + 1, 0, 0) w' N #[Value.int IntKind.i64 o.client, Value.int IntKind.i64 o.verb, Value.int IntKind.i64 o.place, Value.int IntKind.u8 o.letter] 149) := by
      apply hide
      intro W hW
      obtain ⟨m1, m2⟩ := unhide HM j M hM hji
      have U0 : Upd own4 own4 (fun _ => False) wr W := by
       rcases hW with rfl | rfl
       ·exact Upd.refl _ _ _
       ·exact (Upd.refl _ _ _).drew
      refine (make_1 own4 rid j lb4 M o R.window W (hLA.upd U0 (fun _ h => h)) m1 hwin m2).mono ?_
      rintro e w' ⟨rfl, own5, z1, z2⟩
      have hR5 := RoomB.line (hR4.upd U0 (fun _ _ h => h)) (by omega) (by rw [hT4]; exact hlt2) (by rw [hT4]; exact U0.cell c3 (fun h => h)) (U0.cell c5 (fun h => h)) z2 z1
      have es : (R1.told i o j).setLine j { M with b := M.b.make o R.window } = R1.told i o (j + 1) := by
       rw [← RRoom.told_step hM hji, unhide HW]
      rw [es] at hR5
      exact ⟨rfl, own5, hR5, (hU4.trans (U0.mono (fun _ h => h.elim))).trans (z2.mono (fun t h => h.1)), (hC4.upd U0 (fun h => h)).upd z2 (by simp [inLine])⟩
     clear hR4 hU4 hC4 hLA
     go_wp2_with fail
     go_region_with (first | (go_at_call 98; refine (unhide HCALL _ (.inr rfl)).mono ?_; rintro e w5 ⟨rfl, own5, hF5⟩))
     all_goals
      have HF5 := hide hF5
      clear hF5
      go_wp2
      go_roundw
      case rel => exact ⟨j + 1, by omega, by go_num, own5, unhide HF5⟩
      case measure => simp [intOf]; omega
   ·obtain rfl : j = R.texts.length := by omega
    obtain ⟨tx4, lx4, _, _, _, hx3, hx4, hx5, _⟩ := hR4.room.heads
    have hlt' : ¬ (R.texts.length : Int) < (R.texts.length : Int) := by omega
    obtain ⟨la4, lc4, c3⟩ : ∃ la lc, wr.cell? ⟨b, 3, none⟩ = some (.slice la R.texts.length lc) := by
     obtain ⟨tx, lx, hc, htx, hlx, _⟩ := hR4
     rw [hT4] at hlx
     obtain ⟨la, lc, rfl, _, _⟩ := hlx.shape
     exact ⟨la, lc, by rw [hc.cell]; rfl⟩
    have HF : Hid (∃ own' ra rb, Rows (histOf L.a.rows) (histOf L.b.rows) ra rb ∧ RoomB A own' rid wr b (((R.setLine i (L.withRows ra rb).tookB).setServer (o.does R.server)).told i o R.texts.length) ∧ Upd own own' (inRoom rid) w wr) := hide ⟨own4, ra1, rb1, unhide hRw', by rw [hR1]; exact hR4, hU4⟩
    clear hR4 hU4 hC4 hx3
    go_wp2
    go_end0
    exact ⟨rfl, unhide HF⟩
end Go.Proofs.Ytemkgikncmhoaaa

namespace Go.Proofs.Ytemkgikncmhoaaa
open Go.RowKit

structure RSim (K : Nat) (us ds : Nat → List GMsg) (X : IRoom) (R : RRoom) : Prop where
 win : R.window = X.window
 server : R.server = X.server
 texts : R.texts = X.texts
 len : R.lines.length = X.texts.length
 line : ∀ i, i < X.texts.length → ∃ L, R.lines[i]? = some L ∧ EndR X.window K (us i) (ds i) (X.e i) L.a ∧ EndR X.window K (ds i) (us i) (X.s i) L.b
/-- What is so of one line. -/
structure SimAt (K : Nat) (us ds : Nat → List GMsg) (T : Nat → Nat → Nat → List UInt8) (X : IRoom) (R : RRoom) (i : Nat) (L : RLine) : Prop where
 hL : R.lines[i]? = some L
 ht : R.texts[i]? = some (X.tx i)
 a : EndR X.window K (us i) (ds i) (X.e i) L.a
 b : EndR X.window K (ds i) (us i) (X.s i) L.b
 oka : L.a.Ok
 okb : L.b.Ok
 line : Line i (us i) (ds i) (T i) (X.e i) (X.s i) (X.tx i) X.server
 lu : (us i).length ≤ 60
 ld : (ds i).length ≤ 180
 nu : Norms (us i)
 nd : Norms (ds i)
 bu : ∀ n tk, 1 ≤ n → n ≤ (us i).length → tk ≤ 255 → Bytes ((imsg (us i) n).bytes tk)
 bd : ∀ n tk, 1 ≤ n → n ≤ (ds i).length → tk ≤ 255 → Bytes ((imsg (ds i) n).bytes tk)
 wa : (X.e i).waiting.length ≤ X.window
 tl : (X.tx i).length ≤ 240

section
variable {K i : Nat} {us ds : Nat → List GMsg} {T : Nat → Nat → Nat → List UInt8} {X : IRoom} {R : RRoom} {L : RLine}
theorem RSim.at_ (h : RSim K us ds X R) (hr : RInv X us ds T) (hi : i < X.texts.length) : ∃ L, SimAt K us ds T X R i L := by
 obtain ⟨L, h1, h2, h3⟩ := h.line i hi
 obtain ⟨g1, g2, g3⟩ := hr.at' hi
 obtain ⟨hl, hw, hu, n1, n2⟩ := hr.line i _ _ _ g1 g2 g3
 have hd := hr.ds180 hi
 exact ⟨L, h1, by rw [h.texts]; exact g1, h2, h3, h2.ok hl.a n1 (by omega) (by omega), h3.ok hl.b n2 (by omega) (by omega), hl, hu, hd, n1, n2, fun n tk a b c => hr.bytesA g1 g2 g3 a b c, fun n tk a b c => hr.bytesB g1 g2 g3 a b c, hw, hr.text240 g1 g2 g3⟩
theorem RSim.mono (h : RSim K us ds X R) {K' : Nat} (hk : K ≤ K') : RSim K' us ds X R :=
 ⟨h.win, h.server, h.texts, h.len, fun i hi => by obtain ⟨L, a, b, c⟩ := h.line i hi; exact ⟨L, a, b.mono hk, c.mono hk⟩⟩
theorem upd_self {α : Type} (f : Nat → α) (i : Nat) : upd f i (f i) = f := funext fun j => by unfold upd; split <;> simp_all
theorem RSim.setA (h : RSim K us ds X R) (le : X.ends.length = X.texts.length) (hi : i < X.texts.length) {K' : Nat} (hk : K ≤ K') {u' : List GMsg} {t' : List UInt8} {E' : IEnd} {a' b' : REnd}
  (ha : EndR X.window K' u' (ds i) E' a') (hb : EndR X.window K' (ds i) u' (X.s i) b') : RSim K' (upd us i u') ds (X.setA i t' E') (R.put i t' ⟨a', b'⟩) := by
 refine ⟨h.win, h.server, by simp [RRoom.put, IRoom.setA, h.texts], by simp [RRoom.put, IRoom.setA, h.len], fun j hj => ?_⟩
 have hj' : j < X.texts.length := by simpa [IRoom.setA] using hj
 by_cases hji : j = i
 ·subst hji
  refine ⟨⟨a', b'⟩, ?_, ?_, ?_⟩
  ·show (R.lines.set j _)[j]? = _
   rw [List.getElem?_set_self (by rw [h.len]; exact hj')]
  ·rw [e_setA (by rw [le]; exact hj'), if_pos rfl, upd_same]; exact ha
  ·rw [upd_same]; exact hb
 ·obtain ⟨L, h1, h2, h3⟩ := h.line j hj'
  refine ⟨L, ?_, ?_, ?_⟩
  ·show (R.lines.set i _)[j]? = _
   rw [List.getElem?_set_ne (fun h => hji h.symm)]; exact h1
  ·rw [e_setA (by rw [le]; exact hi), if_neg hji, upd_other _ _ hji]; exact h2.mono hk
  ·rw [upd_other _ _ hji]; exact h3.mono hk
theorem RSim.setE (h : RSim K us ds X R) (le : X.ends.length = X.texts.length) (hi : i < X.texts.length) {K' : Nat} (hk : K ≤ K') {t' : List UInt8} {E' : IEnd} {a' b' : REnd}
  (ha : EndR X.window K' (us i) (ds i) E' a') (hb : EndR X.window K' (ds i) (us i) (X.s i) b') : RSim K' us ds (X.setA i t' E') (R.put i t' ⟨a', b'⟩) := by
 have := h.setA (t' := t') le hi hk ha hb
 rwa [upd_self] at this
theorem put_setLine {t : List UInt8} (h : R.texts[i]? = some t) (L' : RLine) : R.put i t L' = R.setLine i L' := by
 unfold RRoom.put RRoom.setLine
 rw [list_set_self h]
theorem RSim.setB (h : RSim K us ds X R) (ls : X.sends.length = X.texts.length) (hi : i < X.texts.length) {K' : Nat} (hk : K ≤ K') {S' : IEnd} {a' b' : REnd}
  (ha : EndR X.window K' (us i) (ds i) (X.e i) a') (hb : EndR X.window K' (ds i) (us i) S' b') : RSim K' us ds (X.setB i S') (R.setLine i ⟨a', b'⟩) := by
 refine ⟨h.win, h.server, h.texts, by simp [RRoom.setLine, IRoom.setB, h.len], fun j hj => ?_⟩
 have hj' : j < X.texts.length := hj
 by_cases hji : j = i
 ·subst hji
  refine ⟨⟨a', b'⟩, ?_, ha, ?_⟩
  ·show (R.lines.set j _)[j]? = _
   rw [List.getElem?_set_self (by rw [h.len]; exact hj')]
  ·rw [s_setB (by rw [ls]; exact hj'), if_pos rfl]; exact hb
 ·obtain ⟨L, h1, h2, h3⟩ := h.line j hj'
  refine ⟨L, ?_, h2.mono hk, ?_⟩
  ·show (R.lines.set i _)[j]? = _
   rw [List.getElem?_set_ne (fun h => hji h.symm)]; exact h1
  ·rw [s_setB (by rw [ls]; exact hi), if_neg hji]; exact h3.mono hk
theorem s_tell {S' : IEnd} {o : ROp} {j : Nat} (hj : j < X.sends.length) : (X.tell i S' o).s j = if j = i then S' else (X.s j).make o X.window := by
 have hg : X.sends[j]? = some (X.s j) := by
  unfold IRoom.s
  rw [List.getD_eq_getElem?_getD, List.getElem?_eq_getElem hj]
  rfl
 show (X.sends.mapIdx _).getD j IEnd.zero = _
 rw [List.getD_eq_getElem?_getD, List.getElem?_mapIdx, hg]
 rfl
theorem told_at {c j k : Nat} {o : ROp} (h : R.lines[k]? = some L) : (R.told c o j).lines[k]? = some (if k < j ∧ k ≠ c then { L with b := L.b.make o R.window } else L) := by
 show (R.lines.mapIdx _)[k]? = _
 rw [List.getElem?_mapIdx, h]
 rfl
theorem RSim.tell (h : RSim K us ds X R) (hr : RInv X us ds T) (hi : i < X.texts.length) {S' : IEnd} {o : ROp} {a' b' : REnd}
  (ha : EndR X.window K (us i) (ds i) (X.e i) a') (hb : EndR X.window K (ds i) (us i) S' b') (hby : ∀ j, j < X.texts.length → j ≠ i → Bytes ((imsg (ds j ++ [⟨X.tk j, o⟩]) ((ds j).length + 1)).bytes (X.tk j))) :
  RSim K us (fun j => if j = i then ds i else ds j ++ [⟨X.tk j, o⟩]) (X.tell i S' o) (((R.setLine i ⟨a', b'⟩).setServer (o.does R.server)).told i o R.texts.length) := by
 refine ⟨h.win, ?_, h.texts, ?_, fun j hj => ?_⟩
 ·show o.does R.server = o.does X.server
  rw [h.server]
 ·show ((R.lines.set i _).mapIdx _).length = _
  rw [List.length_mapIdx, List.length_set, h.len]; rfl
 have hj' : j < X.texts.length := hj
 have hl : ∀ M, (R.lines.set i ⟨a', b'⟩)[j]? = some M → (((R.setLine i ⟨a', b'⟩).setServer (o.does R.server)).told i o R.texts.length).lines[j]? = some (if j < R.texts.length ∧ j ≠ i then { M with b := M.b.make o R.window } else M) := fun M hM => told_at hM
 have hjt : j < R.texts.length := by rw [h.texts]; exact hj'
 by_cases hji : j = i
 ·subst hji
  refine ⟨⟨a', b'⟩, ?_, ?_, ?_⟩
  ·rw [hl _ (List.getElem?_set_self (by rw [h.len]; exact hj')), if_neg (fun h => h.2 rfl)]
  ·simp only [if_true]; exact ha
  ·rw [s_tell (by rw [hr.ls]; exact hj'), if_pos rfl]; simp only [if_true]; exact hb
 ·obtain ⟨L, h1, h2, h3⟩ := h.line j hj'
  have hh := ((hr.line j _ _ _ (hr.at' hj').1 (hr.at' hj').2.1 (hr.at' hj').2.2).1).b
  refine ⟨{ L with b := L.b.make o R.window }, ?_, ?_, ?_⟩
  ·rw [hl L (by rw [List.getElem?_set_ne (fun h => hji h.symm)]; exact h1), if_pos ⟨hjt, hji⟩]
  ·simp only [if_neg hji]; exact h2.other _
  ·rw [s_tell (by rw [hr.ls]; exact hj'), if_neg hji, h.win]
   simp only [if_neg hji]
   exact h3.make hh o (hby j hj' hji)

/-- What the client takes: rows and rooms behind it. -/
theorem SimAt.stepA (h : SimAt K us ds T X R i L) (hs : RSim K us ds X R) (hr : RInv X us ds T) (hi : i < X.texts.length) {m : IMsg} (hm : (X.e i).nextKept = some m) {ra rb : List RMsg} (hR : Rows (us i) (ds i) ra rb) :
  RInv (X.stepA i (X.tx i) (X.e i) m) us ds T ∧ RSim K us ds (X.stepA i (X.tx i) (X.e i) m) ((R.setLine i (L.withRows ra rb).tookA).setText i (((X.e i).taking m).1.does (X.tx i))) := by
 obtain ⟨g1, g2, g3⟩ := hr.at' hi
 obtain ⟨k1, k2⟩ := IEnd.nextKept_some hm
 obtain ⟨q1, q2, q3⟩ := hr.keptA g1 g2 g3 k1
 rw [q3, k2]
 rw [k2] at q2
 have e1 : (imsg (ds i) ((X.e i).taken + 1)).number = (X.e i).taken + 1 := rfl
 unfold IRoom.stepA
 rw [e1]
 refine ⟨hr.takeA g1 g2 g3 rfl q2, ?_⟩
 have := hs.setE (t' := (((X.e i).taking (imsg (ds i) ((X.e i).taken + 1))).1.does (X.tx i))) hr.le hi (Nat.le_refl _) (h.a.take rfl hR.ha hR.ma) (h.b.rows hR.hb hR.mb)
 exact this
theorem SimAt.stepB (h : SimAt K us ds T X R i L) (hs : RSim K us ds X R) (hr : RInv X us ds T) (hi : i < X.texts.length) {m : IMsg} (hm : (X.s i).nextKept = some m) {ra rb : List RMsg} (hR : Rows (us i) (ds i) ra rb) :
  ∃ ds' T', RInv (X.stepB i (X.s i) m) us ds' T' ∧ RSim K us ds' (X.stepB i (X.s i) m) (((R.setLine i (L.withRows ra rb).tookB).setServer (((X.s i).taking m).1.does R.server)).told i ((X.s i).taking m).1 R.texts.length) := by
 obtain ⟨g1, g2, g3⟩ := hr.at' hi
 obtain ⟨k1, k2⟩ := IEnd.nextKept_some hm
 obtain ⟨q1, q2, q3⟩ := hr.keptB g1 g2 g3 k1
 rw [q3, k2]
 rw [k2] at q2
 have e1 : (imsg (us i) ((X.s i).taken + 1)).number = (X.s i).taken + 1 := rfl
 unfold IRoom.stepB
 rw [e1]
 obtain ⟨T', hr'⟩ := hr.takeB g1 g2 g3 rfl q2
 refine ⟨_, T', hr', ?_⟩
 refine hs.tell hr hi (h.a.rows hR.ha hR.ma) (h.b.take rfl hR.hb hR.mb) (fun j hj hji => ?_)
 have hj2 : j < (X.tell i (((X.s i).drop ((X.s i).taken + 1)).take (imsg (us i) ((X.s i).taken + 1))) ((X.s i).taking (imsg (us i) ((X.s i).taken + 1))).1).texts.length := hj
 obtain ⟨p1, p2, p3⟩ := hr'.at' hj2
 have htk := hr.tk60 j
 have := hr'.bytesB p1 p2 p3 (n := (ds j).length + 1) (tk := X.tk j) (by omega) (by simp only [if_neg hji]; simp) (by omega)
 simpa only [if_neg hji] using this
end
end Go.Proofs.Ytemkgikncmhoaaa

namespace Go.Proofs.Ytemkgikncmhoaaa
open Go.RowKit

/-- The two rooms. -/
def InvA (K : Nat) (X : IRoom) (R : RRoom) : Prop := X.Sane ∧ ∃ us ds T, RInv X us ds T ∧ RSim K us ds X R
section
variable {K i : Nat} {us ds : Nat → List GMsg} {T : Nat → Nat → Nat → List UInt8} {X : IRoom} {R : RRoom} {L : RLine}
theorem IRoom.wordA_eq (X : IRoom) (hi : i < X.texts.length) (hr : RInv X us ds T) : X.wordA i = X.setA i (X.tx i) (X.e i).word := by
 obtain ⟨g1, g2, g3⟩ := hr.at' hi
 unfold IRoom.wordA
 rw [g1, g2]
theorem IRoom.wordB_eq (X : IRoom) (hi : i < X.texts.length) (hr : RInv X us ds T) : X.wordB i = X.setB i (X.s i).word := by
 obtain ⟨g1, g2, g3⟩ := hr.at' hi
 unfold IRoom.wordB
 rw [g3]
theorem RInv.wordedA (hr : RInv X us ds T) (hi : i < X.texts.length) : RInv (X.setA i (X.tx i) (X.e i).word) us ds T := by
 obtain ⟨g1, g2, g3⟩ := hr.at' hi
 exact hr.turnA g1 g2 g3 (fun q => q.flew _ (.word _ (Nat.le_refl _))) ((X.e i).fly_fields _).2.2.1 ((X.e i).fly_fields _).1
theorem RInv.wordedB (hr : RInv X us ds T) (hi : i < X.texts.length) : RInv (X.setB i (X.s i).word) us ds T := by
 obtain ⟨g1, g2, g3⟩ := hr.at' hi
 exact hr.turnB g1 g2 g3 (fun q => q.flew _ (.word _ (Nat.le_refl _))) ((X.s i).fly_fields _).2.2.1 ((X.s i).fly_fields _).1
theorem SimAt.taken255 (h : SimAt K us ds T X R i L) : (X.e i).taken ≤ 240 ∧ (X.s i).taken ≤ 240 := by
 have := h.line.a.tk
 have := h.line.b.tk
 have := h.lu
 have := h.ld
 exact ⟨by omega, by omega⟩
theorem EndR.may0 (h : SimAt K us ds T X R i L) (hw : R.window = X.window) (tk : Nat) : L.a.sent ≤ (L.a.know tk).may R.window := by
 have h1 := h.a.2
 have h2 := h.line.a.sentTo_eq (window := X.window)
 have h3 := h.a.1.len
 have h4 := h.a.1.known
 have h5 := h.line.a.kn
 unfold REnd.know REnd.may
 split
 ·show L.a.sent ≤ min (tk + R.window) L.a.rows.length
  omega
 ·omega
theorem EndR.may1 (h : SimAt K us ds T X R i L) (hw : R.window = X.window) (tk : Nat) : L.b.sent ≤ (L.b.know tk).may R.window := by
 have h1 := h.b.2
 have h2 := h.line.b.sentTo_eq (window := X.window)
 have h3 := h.b.1.len
 have h4 := h.b.1.known
 have h5 := h.line.b.kn
 unfold REnd.know REnd.may
 split
 ·show L.b.sent ≤ min (tk + R.window) L.b.rows.length
  omega
 ·omega
/-- A datagram that tells tk, to the client's end: a word. -/
theorem SimAt.hearA (h : SimAt K us ds T X R i L) (hs : RSim K us ds X R) (hr : RInv X us ds T) (hi : i < X.texts.length) {tk : Nat} (ht : tk ≤ (X.s i).taken) :
  RInv (X.setA i (X.tx i) ((X.e i).learn X.window tk)) us ds T ∧ RSim K us ds (X.setA i (X.tx i) ((X.e i).learn X.window tk)) (R.setLine i { L with a := L.a.heard R.window tk }) := by
 obtain ⟨g1, g2, g3⟩ := hr.at' hi
 have hf := Half.learn_fields (X.e i) X.window tk
 have hkn := h.line.ka
 have hse := h.line.a.sentTo_eq (window := X.window)
 have hwl : (X.e i).waiting.length = (us i).length - (X.e i).known := by rw [h.line.a.wait, tailOf_length]
 have hwa := h.wa
 have hkl := h.line.a.kn
 have htk := h.line.b.tk
 refine ⟨hr.setE g1 g2 g3 (h.line.a.learnt tk) hf.1 ?_ ?_, ?_⟩
 ·rw [hf.2.2.2.2]; split <;> omega
 ·rw [hf.2.2.2.2]; split <;> omega
 ·have ha := h.a.heard h.line.a (fun n a b => h.bu n _ a b (by have := h.taken255.1; omega)) tk (by omega)
  rw [hs.win]
  have := hs.setE (t' := X.tx i) hr.le hi (Nat.le_refl _) ha h.b
  rw [put_setLine h.ht] at this
  exact this
theorem SimAt.hearB (h : SimAt K us ds T X R i L) (hs : RSim K us ds X R) (hr : RInv X us ds T) (hi : i < X.texts.length) (hsn : Sane X.window (X.e i) (X.s i)) {tk : Nat} (ht : tk ≤ (X.e i).taken) :
  RInv (X.setB i ((X.s i).learn X.window tk)) us ds T ∧ RSim K us ds (X.setB i ((X.s i).learn X.window tk)) (R.setLine i { L with b := L.b.heard R.window tk }) := by
 obtain ⟨g1, g2, g3⟩ := hr.at' hi
 have hf := Half.learn_fields (X.s i) X.window tk
 have hkn := h.line.kb
 refine ⟨hr.setS g1 g2 g3 (h.line.b.learnt tk) hf.1 ?_, ?_⟩
 ·rw [hf.2.2.2.2]; split <;> omega
 ·have hb := h.b.heard h.line.b (fun n a b => h.bd n _ a b (by have := h.taken255.2; omega)) tk (by have := hsn.tak; omega)
  rw [hs.win]
  exact hs.setB hr.ls hi (Nat.le_refl _) h.a hb
/-- .. and a message with it. -/
theorem SimAt.keepA (h : SimAt K us ds T X R i L) (hs : RSim K us ds X R) (hr : RInv X us ds T) (hi : i < X.texts.length) {tk n : Nat} (ht : tk ≤ (X.s i).taken) (h1 : 1 ≤ n) (h2 : n ≤ (ds i).length) :
  RInv (X.setA i (X.tx i) (((X.e i).learn X.window tk).keep X.window (imsg (ds i) n))) us ds T ∧ RSim (K + 1) us ds (X.setA i (X.tx i) (((X.e i).learn X.window tk).keep X.window (imsg (ds i) n))) (R.setLine i { L with a := (L.a.heard R.window tk).keep R.window n }) := by
 obtain ⟨g1, g2, g3⟩ := hr.at' hi
 have hf := Half.learn_fields (X.e i) X.window tk
 have hk := ((X.e i).learn X.window tk).keep_fields X.window (imsg (ds i) n)
 have hkn := h.line.ka
 have hse := h.line.a.sentTo_eq (window := X.window)
 have hwl : (X.e i).waiting.length = (us i).length - (X.e i).known := by rw [h.line.a.wait, tailOf_length]
 have hwa := h.wa
 have hkl := h.line.a.kn
 have htk := h.line.b.tk
 refine ⟨hr.setE g1 g2 g3 ((h.line.a.learnt tk).keeps h1 h2) (hk.1.trans hf.1) ?_ ?_, ?_⟩
 ·rw [hk.2.1, hf.2.2.2.2]; split <;> omega
 ·rw [hk.2.1, hf.2.2.2.2]; split <;> omega
 ·have ha := (h.a.heard h.line.a (fun n a b => h.bu n _ a b (by have := h.taken255.1; omega)) tk (by omega)).keep (imsg (ds i) n)
  rw [hs.win]
  have := hs.setE (t' := X.tx i) hr.le hi (Nat.le_succ _) ha (h.b.mono (Nat.le_succ _))
  rw [put_setLine h.ht] at this
  exact this
theorem SimAt.keepB (h : SimAt K us ds T X R i L) (hs : RSim K us ds X R) (hr : RInv X us ds T) (hi : i < X.texts.length) (hsn : Sane X.window (X.e i) (X.s i)) {tk n : Nat} (ht : tk ≤ (X.e i).taken) (h1 : 1 ≤ n) (h2 : n ≤ (us i).length) :
  RInv (X.setB i (((X.s i).learn X.window tk).keep X.window (imsg (us i) n))) us ds T ∧ RSim (K + 1) us ds (X.setB i (((X.s i).learn X.window tk).keep X.window (imsg (us i) n))) (R.setLine i { L with b := (L.b.heard R.window tk).keep R.window n }) := by
 obtain ⟨g1, g2, g3⟩ := hr.at' hi
 have hf := Half.learn_fields (X.s i) X.window tk
 have hk := ((X.s i).learn X.window tk).keep_fields X.window (imsg (us i) n)
 have hkn := h.line.kb
 refine ⟨hr.setS g1 g2 g3 ((h.line.b.learnt tk).keeps h1 h2) (hk.1.trans hf.1) ?_, ?_⟩
 ·rw [hk.2.1, hf.2.2.2.2]; split <;> omega
 ·have hb := (h.b.heard h.line.b (fun n a b => h.bd n _ a b (by have := h.taken255.2; omega)) tk (by have := hsn.tak; omega)).keep (imsg (us i) n)
  rw [hs.win]
  exact hs.setB hr.ls hi (Nat.le_succ _) (h.a.mono (Nat.le_succ _)) hb
end
end Go.Proofs.Ytemkgikncmhoaaa

