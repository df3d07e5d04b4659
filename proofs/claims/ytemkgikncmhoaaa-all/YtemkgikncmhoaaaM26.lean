import Derived.Test.YtemkgikncmhoaaaM25
namespace Go.Proofs.Ytemkgikncmhoaaa
open Go.RowKit
attribute [local go_sem ↓] Go.wp_at_zero Go.wp_at_succ

theorem below_cell {w w' : World} (hb : Below w.heap.size w w') {a : Addr} {v : Value} (hc : w.cell? a = some v) : w'.cell? a = some v := (hb.cell (World.block_lt_of_cell? _ _ hc)).trans hc

set_option maxRecDepth 100000 in
set_option maxHeartbeats 1600000 in
theorem xdeliver_0 (A : RAddr) (own : Nat → Tag) (rid b : Nat) (X X2 : IRoom) (i n : Nat) (t : List UInt8) (E S : IEnd) (d : ByteArray) (w : World) (h : RoomF A own rid w b X) (ht : X.texts[i]? = some t) (hE : X.ends[i]? = some E) (hS : X.sends[i]? = some S) (_hi4 : i < 4) (hd : E.flying[n]? = some d) (h12 : E.flying.length ≤ 12)
  (harr : ∀ own1 w1, RoomF A own1 rid w1 b (X.setA i t (E.lose n)) → Calls Try.prog 74 #[.pointer (some ⟨b, 0, none⟩), .agg #[.int .i64 i, .bool true], .string d] w1 fun e w' => e = .returned (.tuple #[]) ∧ ∃ own', RoomF A own' rid w' b X2 ∧ Upd own1 own' (inRoom rid) w1 w') :
  Calls Try.prog 54 #[.agg #[.pointer (some ⟨b, 0, none⟩), .int .i64 i, .bool false, .int .i64 n]] w fun e w' => e = .returned (.int .i64 0) ∧ ∃ own', RoomF A own' rid w' b X2 ∧ Upd own own' (inRoom rid) w w' := by
 have hn := (List.getElem?_eq_some_iff.1 hd).1
 have V : Upd own (retag own w.heap.size (rid + 1, 0, 13)) (fun _ => False) w (w.alloc (Obj.cells #[Value.pointer (some ⟨b, 0, none⟩), Value.int IntKind.i64 i, Value.bool false, Value.int IntKind.i64 n] 99)) := Upd.retag ((Upd.refl own (fun _ => False) w).alloc _) _ _ (Nat.le_refl _)
 have CA := CellsT.new w #[Value.pointer (some ⟨b, 0, none⟩), Value.int IntKind.i64 i, Value.bool false, Value.int IntKind.i64 n] 99 own (rid + 1, 0, 13)
 have hR1 := h.upd V (fun _ _ h => h)
 obtain ⟨mb, eb, sb, tbi, tb, O⟩ := hR1.opened ht hE hS
 generalize retag own w.heap.size (rid + 1, 0, 13) = own1 at *
 obtain ⟨W, HW⟩ : ∃ W, Hid (w.alloc (Obj.cells #[Value.pointer (some ⟨b, 0, none⟩), Value.int IntKind.i64 i, Value.bool false, Value.int IntKind.i64 n] 99) = W) := ⟨_, rfl⟩
 obtain ⟨N, HN⟩ : ∃ N, Hid (w.heap.size = N) := ⟨_, rfl⟩
 rw [unhide HW] at V CA hR1 O
 rw [unhide HN] at CA
 have hmbl := O.mbl
 have SND := xsender b mb eb i n false W.drew O.c1 O.mbl (fun w' hw' => O.lk0w w' hw')
 have hB : Below W.heap.size W (W.drew.alloc (Obj.cells #[Value.pointer (some ⟨b, 0, none⟩), Value.int IntKind.i64 i, Value.bool false, Value.int IntKind.i64 n] 99)).drew := (((Below.refl _ _).drew).alloc (Nat.le_refl _) _).drew
 obtain ⟨W2, HW2⟩ : ∃ W2, Hid ((W.drew.alloc (Obj.cells #[Value.pointer (some ⟨b, 0, none⟩), Value.int IntKind.i64 i, Value.bool false, Value.int IntKind.i64 n] 99)).drew = W2) := ⟨_, rfl⟩
 rw [unhide HW2] at SND hB
 have V2 := Upd.of_below own1 (fun _ => False) hB
 have C2 := CA.upd V2 (fun h => h)
 have R2 := hR1.upd V2 (fun _ _ h => h)
 have s4 : (W.cell? ⟨N, 0, none⟩ = some (.pointer (some ⟨b, 0, none⟩)) ∧ W.cell? ⟨N, 1, none⟩ = some (.int .i64 i) ∧ W.cell? ⟨N, 2, none⟩ = some (.bool false) ∧ W.cell? ⟨N, 3, none⟩ = some (.int .i64 n)) := ⟨CA.cell 0, CA.cell 1, CA.cell 2, CA.cell 3⟩
 obtain ⟨g, m, cap, e8, gn, n1⟩ : ∃ g m cap, W.cell? ⟨eb, 8, none⟩ = some (.slice (some ⟨g, 0, none⟩) (m + 1) cap) ∧ W.cell? ⟨g, n, none⟩ = some (.string d) ∧ (n : Int) < (m : Int) + 1 := by
  obtain ⟨wv, ov, kb, fv, hc, _, _, _, h4⟩ := O.hE
  obtain ⟨g, cap, rfl, _, _, q1, _⟩ := h4.get (i := n) (u := .string d) (by simp [hd])
  exact ⟨g, E.flying.length - 1, cap, by rw [hc.cell, Nat.sub_add_cancel (by omega)]; rfl, q1, by omega⟩
 have sW : ((W.cell? ⟨N, 0, none⟩ = some (.pointer (some ⟨b, 0, none⟩)) ∧ W.cell? ⟨N, 1, none⟩ = some (.int .i64 i) ∧ W.cell? ⟨N, 2, none⟩ = some (.bool false) ∧ W.cell? ⟨N, 3, none⟩ = some (.int .i64 n)) ∧ W.cell? ⟨eb, 8, none⟩ = some (.slice (some ⟨g, 0, none⟩) (m + 1) cap) ∧ W.cell? ⟨g, n, none⟩ = some (.string d)) := ⟨s4, e8, gn⟩
 have sW2 : ((W2.cell? ⟨N, 0, none⟩ = some (.pointer (some ⟨b, 0, none⟩)) ∧ W2.cell? ⟨N, 1, none⟩ = some (.int .i64 i) ∧ W2.cell? ⟨N, 2, none⟩ = some (.bool false) ∧ W2.cell? ⟨N, 3, none⟩ = some (.int .i64 n)) ∧ W2.cell? ⟨eb, 8, none⟩ = some (.slice (some ⟨g, 0, none⟩) (m + 1) cap) ∧ W2.cell? ⟨g, n, none⟩ = some (.string d)) := ⟨⟨below_cell hB s4.1, below_cell hB s4.2.1, below_cell hB s4.2.2.1, below_cell hB s4.2.2.2⟩, below_cell hB e8, below_cell hB gn⟩
 have HS := hide SND
 have HL : Hid (Calls Try.prog 55 #[.agg #[.pointer (some ⟨b, 0, none⟩), .int .i64 i, .bool false, .int .i64 n]] W2 fun e w3 => e = .returned (.int .i64 0) ∧ (w3.cell? ⟨N, 0, none⟩ = some (.pointer (some ⟨b, 0, none⟩)) ∧ w3.cell? ⟨N, 1, none⟩ = some (.int .i64 i) ∧ w3.cell? ⟨N, 2, none⟩ = some (.bool false) ∧ w3.cell? ⟨N, 3, none⟩ = some (.int .i64 n)) ∧ Hid (CellsT own1 (rid + 1, 0, 13) w3 N #[Value.pointer (some ⟨b, 0, none⟩), Value.int IntKind.i64 i, Value.bool false, Value.int IntKind.i64 n] 99 ∧ RoomF A own1 rid w3 b (X.setA i t (E.lose n)) ∧ Upd own own1 (inRoom rid) w w3)) := by
  apply hide
  obtain ⟨mb', eb', sb', _, _, O2⟩ := R2.opened ht hE hS
  obtain ⟨p1, _, _, p4⟩ := O2.at_
  obtain ⟨r1, _, _, r4⟩ := O.at_
  rw [r1] at p1
  rw [r4] at p4
  obtain ⟨rfl, rfl⟩ : eb = eb' ∧ sb = sb' := by simpa using p1
  subst p4
  refine (xlose own1 rid (2 * i) b mb eb _ X.window i n false E W2 O2.c1 O2.mbl O2.lk0w O2.hE hn h12).mono ?_
  rintro e w3 ⟨rfl, a1, a2⟩
  have c3 := C2.upd a2 (fun h => by rcases h with h | h <;> simp at h)
  exact ⟨rfl, ⟨c3.cell 0, c3.cell 1, c3.cell 2, c3.cell 3⟩, hide ⟨c3, O2.setE (a2.mono fun _ h => h.inEnd) a1, ((V.trans V2).mono fun _ h => h.elim).trans (a2.mono fun _ h => h.inEnd.1)⟩⟩
 have HA : Hid (∀ w3, Hid (CellsT own1 (rid + 1, 0, 13) w3 N #[Value.pointer (some ⟨b, 0, none⟩), Value.int IntKind.i64 i, Value.bool false, Value.int IntKind.i64 n] 99 ∧ RoomF A own1 rid w3 b (X.setA i t (E.lose n)) ∧ Upd own own1 (inRoom rid) w w3) → Calls Try.prog 75 #[.agg #[.int .i64 i, .bool false]] w3.drew fun e w4 => e = .returned (.agg #[.int .i64 i, .bool true]) ∧ (w4.cell? ⟨N, 0, none⟩ = some (.pointer (some ⟨b, 0, none⟩)) ∧ w4.cell? ⟨N, 1, none⟩ = some (.int .i64 i) ∧ w4.cell? ⟨N, 2, none⟩ = some (.bool false) ∧ w4.cell? ⟨N, 3, none⟩ = some (.int .i64 n)) ∧ Hid (CellsT own1 (rid + 1, 0, 13) w4 N #[Value.pointer (some ⟨b, 0, none⟩), Value.int IntKind.i64 i, Value.bool false, Value.int IntKind.i64 n] 99 ∧ RoomF A own1 rid w4 b (X.setA i t (E.lose n)) ∧ Upd own own1 (inRoom rid) w w4)) := by
  apply hide
  rintro w3 hst
  obtain ⟨z1, z2, z3⟩ := unhide hst
  refine (xacross i false w3.drew).mono ?_
  rintro e w4 ⟨rfl, hb⟩
  have V4 := Upd.of_below own1 (fun _ => False) (Below.trans (Below.drew (Below.refl w3.heap.size w3)) hb)
  have c4 := z1.upd V4 (fun h => h)
  exact ⟨rfl, ⟨c4.cell 0, c4.cell 1, c4.cell 2, c4.cell 3⟩, hide ⟨c4, RoomF.upd z2 V4 (fun _ _ h => h), z3.trans (V4.mono fun _ h => h.elim)⟩⟩
 have HR : Hid (∀ w4, Hid (CellsT own1 (rid + 1, 0, 13) w4 N #[Value.pointer (some ⟨b, 0, none⟩), Value.int IntKind.i64 i, Value.bool false, Value.int IntKind.i64 n] 99 ∧ RoomF A own1 rid w4 b (X.setA i t (E.lose n)) ∧ Upd own own1 (inRoom rid) w w4) → Calls Try.prog 74 #[.pointer (some ⟨b, 0, none⟩), .agg #[.int .i64 i, .bool true], .string d] w4 fun e w5 => e = .returned (.tuple #[]) ∧ (w5.cell? ⟨N, 0, none⟩ = some (.pointer (some ⟨b, 0, none⟩)) ∧ w5.cell? ⟨N, 1, none⟩ = some (.int .i64 i) ∧ w5.cell? ⟨N, 2, none⟩ = some (.bool false) ∧ w5.cell? ⟨N, 3, none⟩ = some (.int .i64 n)) ∧ ∃ own', RoomF A own' rid w5 b X2 ∧ Upd own own' (inRoom rid) w w5) := by
  apply hide
  rintro w4 hst
  obtain ⟨z0, z1, z2⟩ := unhide hst
  refine (harr own1 w4 z1).mono ?_
  rintro e w' ⟨rfl, own', a1, a2⟩
  have c5 := z0.upd a2 (fun h => absurd h (by simp [inRoom]))
  exact ⟨rfl, ⟨c5.cell 0, c5.cell 1, c5.cell 2, c5.cell 3⟩, own', a1, z2.trans a2⟩
 obtain ⟨⟨u0, u1, u2, u3⟩, u8, ug⟩ := sW
 clear h hR1 V CA O SND hB V2 C2 R2 s4 harr hd ht hE hS h12 e8 gn hn hmbl
 go_enter Try.func54, Try.ntmps54
 go_wp2_with fail
 rw [unhide HW, unhide HN]
 have HSW2 := hide sW2
 clear sW2
 go_region_held3 (fun w' => ((w'.cell? ⟨N, 0, none⟩ = some (.pointer (some ⟨b, 0, none⟩)) ∧ w'.cell? ⟨N, 1, none⟩ = some (.int .i64 i) ∧ w'.cell? ⟨N, 2, none⟩ = some (.bool false) ∧ w'.cell? ⟨N, 3, none⟩ = some (.int .i64 n)) ∧ w'.cell? ⟨eb, 8, none⟩ = some (.slice (some ⟨g, 0, none⟩) (m + 1) cap) ∧ w'.cell? ⟨g, n, none⟩ = some (.string d))) (first | exact ⟨⟨u0, u1, u2, u3⟩, u8, ug⟩ | exact unhide HSW2) (first | (go_at_call 73; with_reducible refine (unhide HS).mono ?_; rintro e w1 ⟨rfl, hw1⟩; obtain rfl := hw1.symm))
 clear u0 u1 u2 u3 u8 ug
 obtain ⟨⟨u0, u1, u2, u3⟩, u8, ug⟩ := unhide HSW2
 all_goals go_wp2_with (first | (go_at_call 55; with_reducible refine (unhide HL).mono ?_; rintro e w3 ⟨rfl, s3, hst⟩))
 clear u0 u1 u2 u3 u8 ug
 obtain ⟨u0, u1, u2, u3⟩ := s3
 have HA3 := hide (unhide HA _ hst)
 all_goals go_region_held3 (fun w' => w'.cell? ⟨N, 0, none⟩ = some (.pointer (some ⟨b, 0, none⟩)) ∧ w'.cell? ⟨N, 1, none⟩ = some (.int .i64 i) ∧ w'.cell? ⟨N, 2, none⟩ = some (.bool false) ∧ w'.cell? ⟨N, 3, none⟩ = some (.int .i64 n)) (first | exact ⟨u0, u1, u2, u3⟩ | exact s4 | exact s5) (first | (go_at_call 75; with_reducible refine (unhide HA3).mono ?_; rintro e w4 ⟨rfl, s4, hst4⟩) | (go_at_call 74; with_reducible refine (unhide HR _ hst4).mono ?_; rintro e w5 ⟨rfl, s5, hF⟩))
 all_goals go_wp2_with fail
 all_goals
  go_ret
  exact ⟨rfl, hF⟩
set_option maxRecDepth 100000 in
set_option maxHeartbeats 1600000 in
theorem xdeliver_1 (A : RAddr) (own : Nat → Tag) (rid b : Nat) (X X2 : IRoom) (i n : Nat) (t : List UInt8) (E S : IEnd) (d : ByteArray) (w : World) (h : RoomF A own rid w b X) (ht : X.texts[i]? = some t) (hE : X.ends[i]? = some E) (hS : X.sends[i]? = some S) (hi4 : i < 4) (hd : S.flying[n]? = some d) (h12 : S.flying.length ≤ 12)
  (harr : ∀ own1 w1, RoomF A own1 rid w1 b (X.setB i (S.lose n)) → Calls Try.prog 74 #[.pointer (some ⟨b, 0, none⟩), .agg #[.int .i64 i, .bool false], .string d] w1 fun e w' => e = .returned (.tuple #[]) ∧ ∃ own', RoomF A own' rid w' b X2 ∧ Upd own1 own' (inRoom rid) w1 w') :
  Calls Try.prog 54 #[.agg #[.pointer (some ⟨b, 0, none⟩), .int .i64 i, .bool true, .int .i64 n]] w fun e w' => e = .returned (.int .i64 0) ∧ ∃ own', RoomF A own' rid w' b X2 ∧ Upd own own' (inRoom rid) w w' := by
 have hn := (List.getElem?_eq_some_iff.1 hd).1
 have V : Upd own (retag own w.heap.size (rid + 1, 0, 13)) (fun _ => False) w (w.alloc (Obj.cells #[Value.pointer (some ⟨b, 0, none⟩), Value.int IntKind.i64 i, Value.bool true, Value.int IntKind.i64 n] 99)) := Upd.retag ((Upd.refl own (fun _ => False) w).alloc _) _ _ (Nat.le_refl _)
 have CA := CellsT.new w #[Value.pointer (some ⟨b, 0, none⟩), Value.int IntKind.i64 i, Value.bool true, Value.int IntKind.i64 n] 99 own (rid + 1, 0, 13)
 have hR1 := h.upd V (fun _ _ h => h)
 obtain ⟨mb, eb, sb, tbi, tb, O⟩ := hR1.opened ht hE hS
 generalize retag own w.heap.size (rid + 1, 0, 13) = own1 at *
 obtain ⟨W, HW⟩ : ∃ W, Hid (w.alloc (Obj.cells #[Value.pointer (some ⟨b, 0, none⟩), Value.int IntKind.i64 i, Value.bool true, Value.int IntKind.i64 n] 99) = W) := ⟨_, rfl⟩
 obtain ⟨N, HN⟩ : ∃ N, Hid (w.heap.size = N) := ⟨_, rfl⟩
 rw [unhide HW] at V CA hR1 O
 rw [unhide HN] at CA
 have hmbl := O.mbl
 have SND := xsender b mb sb i n true W.drew O.c1 O.mbl (fun w' hw' => O.lk1w w' hw')
 have hB : Below W.heap.size W (W.drew.alloc (Obj.cells #[Value.pointer (some ⟨b, 0, none⟩), Value.int IntKind.i64 i, Value.bool true, Value.int IntKind.i64 n] 99)).drew := (((Below.refl _ _).drew).alloc (Nat.le_refl _) _).drew
 obtain ⟨W2, HW2⟩ : ∃ W2, Hid ((W.drew.alloc (Obj.cells #[Value.pointer (some ⟨b, 0, none⟩), Value.int IntKind.i64 i, Value.bool true, Value.int IntKind.i64 n] 99)).drew = W2) := ⟨_, rfl⟩
 rw [unhide HW2] at SND hB
 have V2 := Upd.of_below own1 (fun _ => False) hB
 have C2 := CA.upd V2 (fun h => h)
 have R2 := hR1.upd V2 (fun _ _ h => h)
 have s4 : (W.cell? ⟨N, 0, none⟩ = some (.pointer (some ⟨b, 0, none⟩)) ∧ W.cell? ⟨N, 1, none⟩ = some (.int .i64 i) ∧ W.cell? ⟨N, 2, none⟩ = some (.bool true) ∧ W.cell? ⟨N, 3, none⟩ = some (.int .i64 n)) := ⟨CA.cell 0, CA.cell 1, CA.cell 2, CA.cell 3⟩
 obtain ⟨g, m, cap, e8, gn, n1⟩ : ∃ g m cap, W.cell? ⟨sb, 8, none⟩ = some (.slice (some ⟨g, 0, none⟩) (m + 1) cap) ∧ W.cell? ⟨g, n, none⟩ = some (.string d) ∧ (n : Int) < (m : Int) + 1 := by
  obtain ⟨wv, ov, kb, fv, hc, _, _, _, h4⟩ := O.hS
  obtain ⟨g, cap, rfl, _, _, q1, _⟩ := h4.get (i := n) (u := .string d) (by simp [hd])
  exact ⟨g, S.flying.length - 1, cap, by rw [hc.cell, Nat.sub_add_cancel (by omega)]; rfl, q1, by omega⟩
 have sW : ((W.cell? ⟨N, 0, none⟩ = some (.pointer (some ⟨b, 0, none⟩)) ∧ W.cell? ⟨N, 1, none⟩ = some (.int .i64 i) ∧ W.cell? ⟨N, 2, none⟩ = some (.bool true) ∧ W.cell? ⟨N, 3, none⟩ = some (.int .i64 n)) ∧ W.cell? ⟨sb, 8, none⟩ = some (.slice (some ⟨g, 0, none⟩) (m + 1) cap) ∧ W.cell? ⟨g, n, none⟩ = some (.string d)) := ⟨s4, e8, gn⟩
 have sW2 : ((W2.cell? ⟨N, 0, none⟩ = some (.pointer (some ⟨b, 0, none⟩)) ∧ W2.cell? ⟨N, 1, none⟩ = some (.int .i64 i) ∧ W2.cell? ⟨N, 2, none⟩ = some (.bool true) ∧ W2.cell? ⟨N, 3, none⟩ = some (.int .i64 n)) ∧ W2.cell? ⟨sb, 8, none⟩ = some (.slice (some ⟨g, 0, none⟩) (m + 1) cap) ∧ W2.cell? ⟨g, n, none⟩ = some (.string d)) := ⟨⟨below_cell hB s4.1, below_cell hB s4.2.1, below_cell hB s4.2.2.1, below_cell hB s4.2.2.2⟩, below_cell hB e8, below_cell hB gn⟩
 have HS := hide SND
 have HL : Hid (Calls Try.prog 55 #[.agg #[.pointer (some ⟨b, 0, none⟩), .int .i64 i, .bool true, .int .i64 n]] W2 fun e w3 => e = .returned (.int .i64 0) ∧ (w3.cell? ⟨N, 0, none⟩ = some (.pointer (some ⟨b, 0, none⟩)) ∧ w3.cell? ⟨N, 1, none⟩ = some (.int .i64 i) ∧ w3.cell? ⟨N, 2, none⟩ = some (.bool true) ∧ w3.cell? ⟨N, 3, none⟩ = some (.int .i64 n)) ∧ Hid (CellsT own1 (rid + 1, 0, 13) w3 N #[Value.pointer (some ⟨b, 0, none⟩), Value.int IntKind.i64 i, Value.bool true, Value.int IntKind.i64 n] 99 ∧ RoomF A own1 rid w3 b (X.setB i (S.lose n)) ∧ Upd own own1 (inRoom rid) w w3)) := by
  apply hide
  obtain ⟨mb', eb', sb', _, _, O2⟩ := R2.opened ht hE hS
  obtain ⟨p1, _, _, p4⟩ := O2.at_
  obtain ⟨r1, _, _, r4⟩ := O.at_
  rw [r1] at p1
  rw [r4] at p4
  obtain ⟨rfl, rfl⟩ : eb = eb' ∧ sb = sb' := by simpa using p1
  subst p4
  refine (xlose own1 rid (2 * i + 1) b mb sb _ X.window i n true S W2 O2.c1 O2.mbl O2.lk1w O2.hS hn h12).mono ?_
  rintro e w3 ⟨rfl, a1, a2⟩
  have c3 := C2.upd a2 (fun h => by rcases h with h | h <;> simp at h)
  exact ⟨rfl, ⟨c3.cell 0, c3.cell 1, c3.cell 2, c3.cell 3⟩, hide ⟨c3, O2.setS hi4 (a2.mono fun _ h => h.inEnd) a1, ((V.trans V2).mono fun _ h => h.elim).trans (a2.mono fun _ h => h.inEnd.1)⟩⟩
 have HA : Hid (∀ w3, Hid (CellsT own1 (rid + 1, 0, 13) w3 N #[Value.pointer (some ⟨b, 0, none⟩), Value.int IntKind.i64 i, Value.bool true, Value.int IntKind.i64 n] 99 ∧ RoomF A own1 rid w3 b (X.setB i (S.lose n)) ∧ Upd own own1 (inRoom rid) w w3) → Calls Try.prog 75 #[.agg #[.int .i64 i, .bool true]] w3.drew fun e w4 => e = .returned (.agg #[.int .i64 i, .bool false]) ∧ (w4.cell? ⟨N, 0, none⟩ = some (.pointer (some ⟨b, 0, none⟩)) ∧ w4.cell? ⟨N, 1, none⟩ = some (.int .i64 i) ∧ w4.cell? ⟨N, 2, none⟩ = some (.bool true) ∧ w4.cell? ⟨N, 3, none⟩ = some (.int .i64 n)) ∧ Hid (CellsT own1 (rid + 1, 0, 13) w4 N #[Value.pointer (some ⟨b, 0, none⟩), Value.int IntKind.i64 i, Value.bool true, Value.int IntKind.i64 n] 99 ∧ RoomF A own1 rid w4 b (X.setB i (S.lose n)) ∧ Upd own own1 (inRoom rid) w w4)) := by
  apply hide
  rintro w3 hst
  obtain ⟨z1, z2, z3⟩ := unhide hst
  refine (xacross i true w3.drew).mono ?_
  rintro e w4 ⟨rfl, hb⟩
  have V4 := Upd.of_below own1 (fun _ => False) (Below.trans (Below.drew (Below.refl w3.heap.size w3)) hb)
  have c4 := z1.upd V4 (fun h => h)
  exact ⟨rfl, ⟨c4.cell 0, c4.cell 1, c4.cell 2, c4.cell 3⟩, hide ⟨c4, RoomF.upd z2 V4 (fun _ _ h => h), z3.trans (V4.mono fun _ h => h.elim)⟩⟩
 have HR : Hid (∀ w4, Hid (CellsT own1 (rid + 1, 0, 13) w4 N #[Value.pointer (some ⟨b, 0, none⟩), Value.int IntKind.i64 i, Value.bool true, Value.int IntKind.i64 n] 99 ∧ RoomF A own1 rid w4 b (X.setB i (S.lose n)) ∧ Upd own own1 (inRoom rid) w w4) → Calls Try.prog 74 #[.pointer (some ⟨b, 0, none⟩), .agg #[.int .i64 i, .bool false], .string d] w4 fun e w5 => e = .returned (.tuple #[]) ∧ (w5.cell? ⟨N, 0, none⟩ = some (.pointer (some ⟨b, 0, none⟩)) ∧ w5.cell? ⟨N, 1, none⟩ = some (.int .i64 i) ∧ w5.cell? ⟨N, 2, none⟩ = some (.bool true) ∧ w5.cell? ⟨N, 3, none⟩ = some (.int .i64 n)) ∧ ∃ own', RoomF A own' rid w5 b X2 ∧ Upd own own' (inRoom rid) w w5) := by
  apply hide
  rintro w4 hst
  obtain ⟨z0, z1, z2⟩ := unhide hst
  refine (harr own1 w4 z1).mono ?_
  rintro e w' ⟨rfl, own', a1, a2⟩
  have c5 := z0.upd a2 (fun h => absurd h (by simp [inRoom]))
  exact ⟨rfl, ⟨c5.cell 0, c5.cell 1, c5.cell 2, c5.cell 3⟩, own', a1, z2.trans a2⟩
 obtain ⟨⟨u0, u1, u2, u3⟩, u8, ug⟩ := sW
 clear h hR1 V CA O SND hB V2 C2 R2 s4 harr hd ht hE hS h12 e8 gn hn hmbl
 go_enter Try.func54, Try.ntmps54
 go_wp2_with fail
 rw [unhide HW, unhide HN]
 have HSW2 := hide sW2
 clear sW2
 go_region_held3 (fun w' => ((w'.cell? ⟨N, 0, none⟩ = some (.pointer (some ⟨b, 0, none⟩)) ∧ w'.cell? ⟨N, 1, none⟩ = some (.int .i64 i) ∧ w'.cell? ⟨N, 2, none⟩ = some (.bool true) ∧ w'.cell? ⟨N, 3, none⟩ = some (.int .i64 n)) ∧ w'.cell? ⟨sb, 8, none⟩ = some (.slice (some ⟨g, 0, none⟩) (m + 1) cap) ∧ w'.cell? ⟨g, n, none⟩ = some (.string d))) (first | exact ⟨⟨u0, u1, u2, u3⟩, u8, ug⟩ | exact unhide HSW2) (first | (go_at_call 73; with_reducible refine (unhide HS).mono ?_; rintro e w1 ⟨rfl, hw1⟩; obtain rfl := hw1.symm))
 clear u0 u1 u2 u3 u8 ug
 obtain ⟨⟨u0, u1, u2, u3⟩, u8, ug⟩ := unhide HSW2
 all_goals go_wp2_with (first | (go_at_call 55; with_reducible refine (unhide HL).mono ?_; rintro e w3 ⟨rfl, s3, hst⟩))
 clear u0 u1 u2 u3 u8 ug
 obtain ⟨u0, u1, u2, u3⟩ := s3
 have HA3 := hide (unhide HA _ hst)
 all_goals go_region_held3 (fun w' => w'.cell? ⟨N, 0, none⟩ = some (.pointer (some ⟨b, 0, none⟩)) ∧ w'.cell? ⟨N, 1, none⟩ = some (.int .i64 i) ∧ w'.cell? ⟨N, 2, none⟩ = some (.bool true) ∧ w'.cell? ⟨N, 3, none⟩ = some (.int .i64 n)) (first | exact ⟨u0, u1, u2, u3⟩ | exact s4 | exact s5) (first | (go_at_call 75; with_reducible refine (unhide HA3).mono ?_; rintro e w4 ⟨rfl, s4, hst4⟩) | (go_at_call 74; with_reducible refine (unhide HR _ hst4).mono ?_; rintro e w5 ⟨rfl, s5, hF⟩))
 all_goals go_wp2_with fail
 all_goals
  go_ret
  exact ⟨rfl, hF⟩
end Go.Proofs.Ytemkgikncmhoaaa

namespace Go.Proofs.Ytemkgikncmhoaaa
open Go.RowKit
attribute [local go_sem ↓] Go.wp_at_zero Go.wp_at_succ

theorem run_makeFates (w : World) : (Instr.makeMap 96 none).run Try.prog w = .ok (.map (some w.heap.size)) (w.alloc (.map #[] 0)) := by kernel_rfl
def fateFn : Nat → Value
 | 0 => .func (.func 54) #[] #[]
 | 1 => .func (.func 55) #[] #[]
 | 2 => .func (.func 56) #[] #[]
 | 3 => .func (.func 57) #[] #[]
 | _ => .nilFunc
def fateEnts : Nat → Array MapEntry
 | 0 => #[]
 | n + 1 => (fateEnts n).push ⟨.int .i64 n, fateFn n, n⟩
theorem putFate {w : World} {mb : Nat} {ents : Array MapEntry} {clock : Nat} (hm : w.heap[mb]? = some (.map ents clock)) (x : Int) (v : Value) (hf : Instr.findNow (.int .i64) (.int .i64 x) ents.toList 0 = some none) :
  (Instr.mapUpdate 96 (.map (some mb)) (.int .i64 x) v).run Try.prog w = .ok () (ChangeMaps.setBlock w mb (.map (ents.push ⟨.int .i64 x, v, clock⟩) (clock + 1))) := by
 simp [Instr.mapUpdate, run_underlying Try.underlying96, MapKept.run_getObj_map hm, run_checkInt, run_findKey hf, Result.andThen, MapKept.run_setObj_map _ hm]
 rfl
theorem lookFate {w : World} {mb : Nat} {ents : Array MapEntry} {clock : Nat} (hm : w.heap[mb]? = some (.map ents clock)) (x : Int) (r : Option (Nat × Value)) (hf : Instr.findNow (.int .i64) (.int .i64 x) ents.toList 0 = some r) :
  (Instr.lookup 96 (.map (some mb)) (.int .i64 x) false).run Try.prog w = .ok (match r with | some p => p.2 | none => .nilFunc) w := by
 cases r <;> simp [Instr.lookup, run_underlying Try.underlying96, MapKept.run_getObj_map hm, run_checkInt, run_findKey hf, Result.andThen]
theorem look4 (k : Int) : Instr.findNow (.int .i64) (.int .i64 k) (fateEnts 4).toList 0 = some (if k = 0 then some (0, fateFn 0) else if k = 1 then some (1, fateFn 1) else if k = 2 then some (2, fateFn 2) else if k = 3 then some (3, fateFn 3) else none) := by
 by_cases k0 : k = 0
 ·subst k0; rfl
 by_cases k1 : k = 1
 ·subst k1; rfl
 by_cases k2 : k = 2
 ·subst k2; rfl
 by_cases k3 : k = 3
 ·subst k3; rfl
 rw [if_neg k0, if_neg k1, if_neg k2, if_neg k3]
 have e0 := beq_eq_false_iff_ne.2 k0
 have e1 := beq_eq_false_iff_ne.2 k1
 have e2 := beq_eq_false_iff_ne.2 k2
 have e3 := beq_eq_false_iff_ne.2 k3
 simp [fateEnts, Instr.findNow, Instr.sameNow, e0, e1, e2, e3]
/-- The table, so far. -/
def FatesTo (w : World) (n : Nat) (w' : World) : Prop := Below w.heap.size w w' ∧ w'.heap[w.heap.size]? = some (.map (fateEnts n) n)
theorem FatesTo.next {w w' : World} {n : Nat} (h : FatesTo w n w') (hf : Instr.findNow (.int .i64) (.int .i64 n) (fateEnts n).toList 0 = some none) :
  ∃ w2, (Instr.mapUpdate 96 (.map (some w.heap.size)) (.int .i64 n) (fateFn n)).run Try.prog w' = .ok () w2 ∧ FatesTo w (n + 1) w2 := by
 refine ⟨_, putFate h.2 n (fateFn n) hf, ?_, heap_setBlock_same _ _ _ (Array.getElem?_eq_some_iff.1 h.2).1⟩
 exact ⟨h.1.os, h.1.tape, h.1.output, by rw [size_setBlock]; exact h.1.size, fun k hk => (heap_setBlock_other _ _ _ _ (by omega)).trans (h.1.block k hk)⟩

set_option maxRecDepth 100000 in
set_option maxHeartbeats 1600000 in
theorem xfates (w : World) :
  Calls Try.prog 42 #[] w fun e w' => e = .returned (.map (some w.heap.size)) ∧ FatesTo w 4 w' := by
 have mk := run_makeFates w
 have h0 : FatesTo w 0 (w.alloc (.map #[] 0)) := ⟨(Below.refl _ _).alloc (Nat.le_refl _) _, heap_alloc_new w _⟩
 obtain ⟨W1, p0, h1⟩ := h0.next rfl
 obtain ⟨W2, p1, h2⟩ := h1.next rfl
 obtain ⟨W3, p2, h3⟩ := h2.next rfl
 obtain ⟨W4, p3, h4⟩ := h3.next rfl
 replace p0 : (Instr.mapUpdate 96 (.map (some w.heap.size)) (.int .i64 0) (.func (.func 54) #[] #[])).run Try.prog (w.alloc (.map #[] 0)) = .ok () W1 := p0
 replace p1 : (Instr.mapUpdate 96 (.map (some w.heap.size)) (.int .i64 1) (.func (.func 55) #[] #[])).run Try.prog W1 = .ok () W2 := p1
 replace p2 : (Instr.mapUpdate 96 (.map (some w.heap.size)) (.int .i64 2) (.func (.func 56) #[] #[])).run Try.prog W2 = .ok () W3 := p2
 replace p3 : (Instr.mapUpdate 96 (.map (some w.heap.size)) (.int .i64 3) (.func (.func 57) #[] #[])).run Try.prog W3 = .ok () W4 := p3
 have H4 := hide h4
 clear h0 h1 h2 h3 h4
 go_enter Try.func42, Try.ntmps42
 go_wp2_with fail
 go_ret
 exact ⟨rfl, unhide H4⟩
end Go.Proofs.Ytemkgikncmhoaaa

namespace Go.Proofs.Ytemkgikncmhoaaa
open Go.RowKit
attribute [local go_sem ↓] Go.wp_at_zero Go.wp_at_succ

theorem eqNil (w : World) : (binOp BinOp.eql 95 .nilFunc .nilFunc).run Try.prog w = .ok (.bool true) w := by kernel_rfl
theorem eqFn (f : Nat) (w : World) : (binOp BinOp.eql 95 (.func (.func f) #[] #[]) .nilFunc).run Try.prog w = .ok (.bool false) w := by kernel_rfl
theorem lookOdd {w : World} {mb n : Nat} (hm : w.heap[mb]? = some (.map (fateEnts 4) n)) {k : Int} (hk : k < 0 ∨ 3 < k) :
  (Instr.lookup 96 (.map (some mb)) (.int .i64 k) false).run Try.prog w = .ok .nilFunc w := by
 have h := look4 k
 rw [if_neg (by omega), if_neg (by omega), if_neg (by omega), if_neg (by omega)] at h
 exact lookFate hm k none h
theorem lookYes {w : World} {mb n : Nat} (hm : w.heap[mb]? = some (.map (fateEnts 4) n)) {k : Nat} (hk : k < 4) :
  (Instr.lookup 96 (.map (some mb)) (.int .i64 k) false).run Try.prog w = .ok (fateFn k) w := by
 have h : Instr.findNow (.int .i64) (.int .i64 k) (fateEnts 4).toList 0 = some (some (k, fateFn k)) := by
  match k, hk with
  | 0, _ => rfl
  | 1, _ => rfl
  | 2, _ => rfl
  | 3, _ => rfl
 exact lookFate hm k _ h
attribute [local go_sem] eqNil eqFn

set_option maxRecDepth 100000 in
set_option maxHeartbeats 1600000 in
/-- No such client. -/
theorem xFate_none (b mb : Nat) (c n k : Int) (s : Bool) (w : World) (c1 : w.cell? ⟨b, 1, none⟩ = some (.map (some mb))) (hmb : mb < w.heap.size)
  (lk : ∀ w' : World, w'.heap[mb]? = w.heap[mb]? → (Instr.lookup 74 (.map (some mb)) (.agg #[.int .i64 c, .bool s]) false).run Try.prog w' = .ok (.pointer none) w') :
  Calls Try.prog 27 #[.pointer (some ⟨b, 0, none⟩), .int .i64 c, .bool s, .int .i64 n, .int .i64 k] w fun e w' => e = .returned (.int .i64 2) ∧ Below w.heap.size w w' := by
 have hB : Below w.heap.size w (w.alloc (Obj.cells #[Value.int IntKind.i64 c, Value.bool s] 80)) := (Below.refl _ _).alloc (Nat.le_refl _) _
 have hh := heap_alloc_new w (Obj.cells #[Value.int IntKind.i64 c, Value.bool s] 80)
 obtain ⟨W, HW⟩ : ∃ W, Hid (w.alloc (Obj.cells #[Value.int IntKind.i64 c, Value.bool s] 80) = W) := ⟨_, rfl⟩
 obtain ⟨N, HN⟩ : ∃ N, Hid (w.heap.size = N) := ⟨_, rfl⟩
 rw [unhide HW] at hh hB
 rw [unhide HN] at hh
 have b1 := below_cell hB c1
 have x0 : W.cell? ⟨N, 0, none⟩ = some (.int .i64 c) := by simp [World.cell?, hh]
 have x1 : W.cell? ⟨N, 1, none⟩ = some (.bool s) := by simp [World.cell?, hh]
 have lkW := lk W.drew (hB.block mb hmb)
 have HB := hide hB.drew
 clear hh hB lk c1 hmb
 go_enter Try.func27, Try.ntmps27
 go_wp2_with fail
 rw [unhide HW, unhide HN]
 clear HW
 go_region_held3 (fun w' => w'.cell? ⟨b, 1, none⟩ = some (.map (some mb)) ∧ w'.cell? ⟨N, 0, none⟩ = some (.int .i64 c) ∧ w'.cell? ⟨N, 1, none⟩ = some (.bool s)) (first | exact ⟨b1, x0, x1⟩) (fail)
 all_goals go_wp2_with fail
 all_goals
  go_ret
  exact ⟨rfl, unhide HB⟩

set_option maxRecDepth 100000 in
set_option maxHeartbeats 1600000 in
/-- No such datagram. -/
theorem xFate_far (b mb eb i L cap : Nat) (a : Option Addr) (n k : Int) (s : Bool) (w : World) (c1 : w.cell? ⟨b, 1, none⟩ = some (.map (some mb))) (hmb : mb < w.heap.size)
  (lk : ∀ w' : World, w'.heap[mb]? = w.heap[mb]? → (Instr.lookup 74 (.map (some mb)) (.agg #[.int .i64 i, .bool s]) false).run Try.prog w' = .ok (.pointer (some ⟨eb, 0, none⟩)) w') (c8 : w.cell? ⟨eb, 8, none⟩ = some (.slice a L cap)) (hn : n < 0 ∨ (L : Int) ≤ n) :
  Calls Try.prog 27 #[.pointer (some ⟨b, 0, none⟩), .int .i64 i, .bool s, .int .i64 n, .int .i64 k] w fun e w' => e = .returned (.int .i64 7) ∧ Below w.heap.size w w' := by
 have hB : Below w.heap.size w (w.alloc (Obj.cells #[Value.int IntKind.i64 i, Value.bool s] 80)) := (Below.refl _ _).alloc (Nat.le_refl _) _
 have hh := heap_alloc_new w (Obj.cells #[Value.int IntKind.i64 i, Value.bool s] 80)
 obtain ⟨W, HW⟩ : ∃ W, Hid (w.alloc (Obj.cells #[Value.int IntKind.i64 i, Value.bool s] 80) = W) := ⟨_, rfl⟩
 obtain ⟨N, HN⟩ : ∃ N, Hid (w.heap.size = N) := ⟨_, rfl⟩
 rw [unhide HW] at hh hB
 rw [unhide HN] at hh
 have b1 := below_cell hB c1
 have x0 : W.cell? ⟨N, 0, none⟩ = some (.int .i64 i) := by simp [World.cell?, hh]
 have x1 : W.cell? ⟨N, 1, none⟩ = some (.bool s) := by simp [World.cell?, hh]
 have lkW := lk W.drew (hB.block mb hmb)
 have HB := hide hB.drew
 have e8 := below_cell hB c8
 clear hh hB lk c1 hmb c8
 go_enter Try.func27, Try.ntmps27
 go_wp2_with fail
 rw [unhide HW, unhide HN]
 clear HW
 go_region_held3 (fun w' => w'.cell? ⟨b, 1, none⟩ = some (.map (some mb)) ∧ w'.cell? ⟨N, 0, none⟩ = some (.int .i64 i) ∧ w'.cell? ⟨N, 1, none⟩ = some (.bool s)) (first | exact ⟨b1, x0, x1⟩) (fail)
 all_goals
  by_cases hn0 : n < 0
  ·go_wp2_with fail
   go_ret
   exact ⟨rfl, unhide HB⟩
  ·have hn1 : (L : Int) ≤ n := by omega
   go_wp2_with fail
   go_ret
   exact ⟨rfl, unhide HB⟩

set_option maxRecDepth 100000 in
set_option maxHeartbeats 1600000 in
/-- No such fate. -/
theorem xFate_odd (b mb eb i L cap : Nat) (a : Option Addr) (n k : Int) (s : Bool) (w : World) (c1 : w.cell? ⟨b, 1, none⟩ = some (.map (some mb))) (hmb : mb < w.heap.size)
  (lk : ∀ w' : World, w'.heap[mb]? = w.heap[mb]? → (Instr.lookup 74 (.map (some mb)) (.agg #[.int .i64 i, .bool s]) false).run Try.prog w' = .ok (.pointer (some ⟨eb, 0, none⟩)) w') (c8 : w.cell? ⟨eb, 8, none⟩ = some (.slice a L cap)) (hn0 : 0 ≤ n) (hn1 : n < (L : Int)) (hk : k < 0 ∨ 3 < k) :
  Calls Try.prog 27 #[.pointer (some ⟨b, 0, none⟩), .int .i64 i, .bool s, .int .i64 n, .int .i64 k] w fun e w' => e = .returned (.int .i64 1) ∧ Below w.heap.size w w' := by
 have hB : Below w.heap.size w (w.alloc (Obj.cells #[Value.int IntKind.i64 i, Value.bool s] 80)) := (Below.refl _ _).alloc (Nat.le_refl _) _
 have hh := heap_alloc_new w (Obj.cells #[Value.int IntKind.i64 i, Value.bool s] 80)
 obtain ⟨W, HW⟩ : ∃ W, Hid (w.alloc (Obj.cells #[Value.int IntKind.i64 i, Value.bool s] 80) = W) := ⟨_, rfl⟩
 obtain ⟨N, HN⟩ : ∃ N, Hid (w.heap.size = N) := ⟨_, rfl⟩
 rw [unhide HW] at hh hB
 rw [unhide HN] at hh
 have b1 := below_cell hB c1
 have x0 : W.cell? ⟨N, 0, none⟩ = some (.int .i64 i) := by simp [World.cell?, hh]
 have x1 : W.cell? ⟨N, 1, none⟩ = some (.bool s) := by simp [World.cell?, hh]
 have lkW := lk W.drew (hB.block mb hmb)
 have HB := hide hB.drew
 have e8 := below_cell hB c8
 have HFT : Hid (Calls Try.prog 42 #[] W.drew fun e w' => e = .returned (.map (some W.heap.size)) ∧ ((Instr.lookup 96 (.map (some W.heap.size)) (.int .i64 k) false).run Try.prog w' = .ok .nilFunc w') ∧ ((Instr.lookup 96 (.map (some W.heap.size)) (.int .i64 k) false).run Try.prog w'.drew = .ok .nilFunc w'.drew) ∧ (w'.cell? ⟨N, 0, none⟩ = some (.int .i64 i) ∧ w'.cell? ⟨N, 1, none⟩ = some (.bool s)) ∧ Hid (Below w.heap.size w w')) := by
  apply hide
  refine (xfates W.drew).mono ?_
  rintro e w' ⟨rfl, hf⟩
  have hb : Below W.heap.size W w' := ((Below.refl W.heap.size W).drew).trans hf.1
  exact ⟨rfl, lookOdd hf.2 hk, lookOdd (w := w'.drew) hf.2 hk, ⟨below_cell hb x0, below_cell hb x1⟩, hide (hB.trans (hb.mono hB.size))⟩
 clear hh hB lk c1 hmb c8
 go_enter Try.func27, Try.ntmps27
 go_wp2_with fail
 rw [unhide HW, unhide HN]
 clear HW
 go_region_held3 (fun w' => w'.cell? ⟨b, 1, none⟩ = some (.map (some mb)) ∧ w'.cell? ⟨N, 0, none⟩ = some (.int .i64 i) ∧ w'.cell? ⟨N, 1, none⟩ = some (.bool s)) (first | exact ⟨b1, x0, x1⟩) (fail)
 all_goals go_wp2_with (first | (go_at_call 42; with_reducible refine (unhide HFT).mono ?_; rintro e w2 ⟨rfl, l1, l2, ⟨y0, y1⟩, hb2⟩))
 all_goals
  go_ret
  exact ⟨rfl, unhide hb2⟩

set_option maxRecDepth 100000 in
set_option maxHeartbeats 1600000 in
theorem xFate_0 (b mb eb i n L cap : Nat) (a : Option Addr) (s : Bool) (w : World) (code : Int) (P : World → Prop) (c1 : w.cell? ⟨b, 1, none⟩ = some (.map (some mb))) (hmb : mb < w.heap.size)
  (lk : ∀ w' : World, w'.heap[mb]? = w.heap[mb]? → (Instr.lookup 74 (.map (some mb)) (.agg #[.int .i64 i, .bool s]) false).run Try.prog w' = .ok (.pointer (some ⟨eb, 0, none⟩)) w') (c8 : w.cell? ⟨eb, 8, none⟩ = some (.slice a L cap)) (hn : n < L)
  (hcall : ∀ w1, Below w.heap.size w w1 → Calls Try.prog 54 #[.agg #[.pointer (some ⟨b, 0, none⟩), .int .i64 i, .bool s, .int .i64 n]] w1 fun e w' => e = .returned (.int .i64 code) ∧ P w') :
  Calls Try.prog 27 #[.pointer (some ⟨b, 0, none⟩), .int .i64 i, .bool s, .int .i64 n, .int .i64 0] w fun e w' => e = .returned (.int .i64 code) ∧ P w' := by
 have hn0 : (0 : Int) ≤ (n : Int) := by omega
 have hn1 : (n : Int) < (L : Int) := by omega
 have hB : Below w.heap.size w (w.alloc (Obj.cells #[Value.int IntKind.i64 i, Value.bool s] 80)) := (Below.refl _ _).alloc (Nat.le_refl _) _
 have hh := heap_alloc_new w (Obj.cells #[Value.int IntKind.i64 i, Value.bool s] 80)
 obtain ⟨W, HW⟩ : ∃ W, Hid (w.alloc (Obj.cells #[Value.int IntKind.i64 i, Value.bool s] 80) = W) := ⟨_, rfl⟩
 obtain ⟨N, HN⟩ : ∃ N, Hid (w.heap.size = N) := ⟨_, rfl⟩
 rw [unhide HW] at hh hB
 rw [unhide HN] at hh
 have b1 := below_cell hB c1
 have x0 : W.cell? ⟨N, 0, none⟩ = some (.int .i64 i) := by simp [World.cell?, hh]
 have x1 : W.cell? ⟨N, 1, none⟩ = some (.bool s) := by simp [World.cell?, hh]
 have lkW := lk W.drew (hB.block mb hmb)
 have HB := hide hB.drew
 have e8 := below_cell hB c8
 have HFT : Hid (Calls Try.prog 42 #[] W.drew fun e w' => e = .returned (.map (some W.heap.size)) ∧ ((Instr.lookup 96 (.map (some W.heap.size)) (.int .i64 0) false).run Try.prog w' = .ok (.func (.func 54) #[] #[]) w') ∧ ((Instr.lookup 96 (.map (some W.heap.size)) (.int .i64 0) false).run Try.prog w'.drew = .ok (.func (.func 54) #[] #[]) w'.drew) ∧ (w'.cell? ⟨N, 0, none⟩ = some (.int .i64 i) ∧ w'.cell? ⟨N, 1, none⟩ = some (.bool s)) ∧ Hid (Below w.heap.size w w')) := by
  apply hide
  refine (xfates W.drew).mono ?_
  rintro e w' ⟨rfl, hf⟩
  have hb : Below W.heap.size W w' := ((Below.refl W.heap.size W).drew).trans hf.1
  exact ⟨rfl, lookYes (k := 0) hf.2 (by omega), lookYes (w := w'.drew) (k := 0) hf.2 (by omega), ⟨below_cell hb x0, below_cell hb x1⟩, hide (hB.trans (hb.mono hB.size))⟩
 have HC : Hid (∀ w2, Hid (Below w.heap.size w w2) → Calls Try.prog 54 #[.agg #[.pointer (some ⟨b, 0, none⟩), .int .i64 i, .bool s, .int .i64 n]] w2 fun e w' => e = .returned (.int .i64 code) ∧ P w') := hide fun w2 h2 => hcall w2 (unhide h2)
 have HCd : Hid (∀ w2, Hid (Below w.heap.size w w2) → Calls Try.prog 54 #[.agg #[.pointer (some ⟨b, 0, none⟩), .int .i64 i, .bool s, .int .i64 n]] w2.drew fun e w' => e = .returned (.int .i64 code) ∧ P w') := hide fun w2 h2 => hcall w2.drew (unhide h2).drew
 clear hh hB lk c1 hmb c8 hcall
 go_enter Try.func27, Try.ntmps27
 go_wp2_with fail
 rw [unhide HW, unhide HN]
 clear HW
 go_region_held3 (fun w' => w'.cell? ⟨b, 1, none⟩ = some (.map (some mb)) ∧ w'.cell? ⟨N, 0, none⟩ = some (.int .i64 i) ∧ w'.cell? ⟨N, 1, none⟩ = some (.bool s)) (first | exact ⟨b1, x0, x1⟩) (fail)
 all_goals go_wp2_with (first | (go_at_call 42; with_reducible refine (unhide HFT).mono ?_; rintro e w2 ⟨rfl, l1, l2, ⟨y0, y1⟩, hb2⟩) | (go_at_call 54; with_reducible refine (unhide HC _ hb2).mono ?_; rintro e w3 ⟨rfl, hF⟩) | (go_at_call 54; with_reducible refine (unhide HCd _ hb2).mono ?_; rintro e w3 ⟨rfl, hF⟩))
 all_goals
  go_ret
  exact ⟨rfl, hF⟩

set_option maxRecDepth 100000 in
set_option maxHeartbeats 1600000 in
theorem xFate_1 (b mb eb i n L cap : Nat) (a : Option Addr) (s : Bool) (w : World) (code : Int) (P : World → Prop) (c1 : w.cell? ⟨b, 1, none⟩ = some (.map (some mb))) (hmb : mb < w.heap.size)
  (lk : ∀ w' : World, w'.heap[mb]? = w.heap[mb]? → (Instr.lookup 74 (.map (some mb)) (.agg #[.int .i64 i, .bool s]) false).run Try.prog w' = .ok (.pointer (some ⟨eb, 0, none⟩)) w') (c8 : w.cell? ⟨eb, 8, none⟩ = some (.slice a L cap)) (hn : n < L)
  (hcall : ∀ w1, Below w.heap.size w w1 → Calls Try.prog 55 #[.agg #[.pointer (some ⟨b, 0, none⟩), .int .i64 i, .bool s, .int .i64 n]] w1 fun e w' => e = .returned (.int .i64 code) ∧ P w') :
  Calls Try.prog 27 #[.pointer (some ⟨b, 0, none⟩), .int .i64 i, .bool s, .int .i64 n, .int .i64 1] w fun e w' => e = .returned (.int .i64 code) ∧ P w' := by
 have hn0 : (0 : Int) ≤ (n : Int) := by omega
 have hn1 : (n : Int) < (L : Int) := by omega
 have hB : Below w.heap.size w (w.alloc (Obj.cells #[Value.int IntKind.i64 i, Value.bool s] 80)) := (Below.refl _ _).alloc (Nat.le_refl _) _
 have hh := heap_alloc_new w (Obj.cells #[Value.int IntKind.i64 i, Value.bool s] 80)
 obtain ⟨W, HW⟩ : ∃ W, Hid (w.alloc (Obj.cells #[Value.int IntKind.i64 i, Value.bool s] 80) = W) := ⟨_, rfl⟩
 obtain ⟨N, HN⟩ : ∃ N, Hid (w.heap.size = N) := ⟨_, rfl⟩
 rw [unhide HW] at hh hB
 rw [unhide HN] at hh
 have b1 := below_cell hB c1
 have x0 : W.cell? ⟨N, 0, none⟩ = some (.int .i64 i) := by simp [World.cell?, hh]
 have x1 : W.cell? ⟨N, 1, none⟩ = some (.bool s) := by simp [World.cell?, hh]
 have lkW := lk W.drew (hB.block mb hmb)
 have HB := hide hB.drew
 have e8 := below_cell hB c8
 have HFT : Hid (Calls Try.prog 42 #[] W.drew fun e w' => e = .returned (.map (some W.heap.size)) ∧ ((Instr.lookup 96 (.map (some W.heap.size)) (.int .i64 1) false).run Try.prog w' = .ok (.func (.func 55) #[] #[]) w') ∧ ((Instr.lookup 96 (.map (some W.heap.size)) (.int .i64 1) false).run Try.prog w'.drew = .ok (.func (.func 55) #[] #[]) w'.drew) ∧ (w'.cell? ⟨N, 0, none⟩ = some (.int .i64 i) ∧ w'.cell? ⟨N, 1, none⟩ = some (.bool s)) ∧ Hid (Below w.heap.size w w')) := by
  apply hide
  refine (xfates W.drew).mono ?_
  rintro e w' ⟨rfl, hf⟩
  have hb : Below W.heap.size W w' := ((Below.refl W.heap.size W).drew).trans hf.1
  exact ⟨rfl, lookYes (k := 1) hf.2 (by omega), lookYes (w := w'.drew) (k := 1) hf.2 (by omega), ⟨below_cell hb x0, below_cell hb x1⟩, hide (hB.trans (hb.mono hB.size))⟩
 have HC : Hid (∀ w2, Hid (Below w.heap.size w w2) → Calls Try.prog 55 #[.agg #[.pointer (some ⟨b, 0, none⟩), .int .i64 i, .bool s, .int .i64 n]] w2 fun e w' => e = .returned (.int .i64 code) ∧ P w') := hide fun w2 h2 => hcall w2 (unhide h2)
 have HCd : Hid (∀ w2, Hid (Below w.heap.size w w2) → Calls Try.prog 55 #[.agg #[.pointer (some ⟨b, 0, none⟩), .int .i64 i, .bool s, .int .i64 n]] w2.drew fun e w' => e = .returned (.int .i64 code) ∧ P w') := hide fun w2 h2 => hcall w2.drew (unhide h2).drew
 clear hh hB lk c1 hmb c8 hcall
 go_enter Try.func27, Try.ntmps27
 go_wp2_with fail
 rw [unhide HW, unhide HN]
 clear HW
 go_region_held3 (fun w' => w'.cell? ⟨b, 1, none⟩ = some (.map (some mb)) ∧ w'.cell? ⟨N, 0, none⟩ = some (.int .i64 i) ∧ w'.cell? ⟨N, 1, none⟩ = some (.bool s)) (first | exact ⟨b1, x0, x1⟩) (fail)
 all_goals go_wp2_with (first | (go_at_call 42; with_reducible refine (unhide HFT).mono ?_; rintro e w2 ⟨rfl, l1, l2, ⟨y0, y1⟩, hb2⟩) | (go_at_call 55; with_reducible refine (unhide HC _ hb2).mono ?_; rintro e w3 ⟨rfl, hF⟩) | (go_at_call 55; with_reducible refine (unhide HCd _ hb2).mono ?_; rintro e w3 ⟨rfl, hF⟩))
 all_goals
  go_ret
  exact ⟨rfl, hF⟩

set_option maxRecDepth 100000 in
set_option maxHeartbeats 1600000 in
theorem xFate_2 (b mb eb i n L cap : Nat) (a : Option Addr) (s : Bool) (w : World) (code : Int) (P : World → Prop) (c1 : w.cell? ⟨b, 1, none⟩ = some (.map (some mb))) (hmb : mb < w.heap.size)
  (lk : ∀ w' : World, w'.heap[mb]? = w.heap[mb]? → (Instr.lookup 74 (.map (some mb)) (.agg #[.int .i64 i, .bool s]) false).run Try.prog w' = .ok (.pointer (some ⟨eb, 0, none⟩)) w') (c8 : w.cell? ⟨eb, 8, none⟩ = some (.slice a L cap)) (hn : n < L)
  (hcall : ∀ w1, Below w.heap.size w w1 → Calls Try.prog 56 #[.agg #[.pointer (some ⟨b, 0, none⟩), .int .i64 i, .bool s, .int .i64 n]] w1 fun e w' => e = .returned (.int .i64 code) ∧ P w') :
  Calls Try.prog 27 #[.pointer (some ⟨b, 0, none⟩), .int .i64 i, .bool s, .int .i64 n, .int .i64 2] w fun e w' => e = .returned (.int .i64 code) ∧ P w' := by
 have hn0 : (0 : Int) ≤ (n : Int) := by omega
 have hn1 : (n : Int) < (L : Int) := by omega
 have hB : Below w.heap.size w (w.alloc (Obj.cells #[Value.int IntKind.i64 i, Value.bool s] 80)) := (Below.refl _ _).alloc (Nat.le_refl _) _
 have hh := heap_alloc_new w (Obj.cells #[Value.int IntKind.i64 i, Value.bool s] 80)
 obtain ⟨W, HW⟩ : ∃ W, Hid (w.alloc (Obj.cells #[Value.int IntKind.i64 i, Value.bool s] 80) = W) := ⟨_, rfl⟩
 obtain ⟨N, HN⟩ : ∃ N, Hid (w.heap.size = N) := ⟨_, rfl⟩
 rw [unhide HW] at hh hB
 rw [unhide HN] at hh
 have b1 := below_cell hB c1
 have x0 : W.cell? ⟨N, 0, none⟩ = some (.int .i64 i) := by simp [World.cell?, hh]
 have x1 : W.cell? ⟨N, 1, none⟩ = some (.bool s) := by simp [World.cell?, hh]
 have lkW := lk W.drew (hB.block mb hmb)
 have HB := hide hB.drew
 have e8 := below_cell hB c8
 have HFT : Hid (Calls Try.prog 42 #[] W.drew fun e w' => e = .returned (.map (some W.heap.size)) ∧ ((Instr.lookup 96 (.map (some W.heap.size)) (.int .i64 2) false).run Try.prog w' = .ok (.func (.func 56) #[] #[]) w') ∧ ((Instr.lookup 96 (.map (some W.heap.size)) (.int .i64 2) false).run Try.prog w'.drew = .ok (.func (.func 56) #[] #[]) w'.drew) ∧ (w'.cell? ⟨N, 0, none⟩ = some (.int .i64 i) ∧ w'.cell? ⟨N, 1, none⟩ = some (.bool s)) ∧ Hid (Below w.heap.size w w')) := by
  apply hide
  refine (xfates W.drew).mono ?_
  rintro e w' ⟨rfl, hf⟩
  have hb : Below W.heap.size W w' := ((Below.refl W.heap.size W).drew).trans hf.1
  exact ⟨rfl, lookYes (k := 2) hf.2 (by omega), lookYes (w := w'.drew) (k := 2) hf.2 (by omega), ⟨below_cell hb x0, below_cell hb x1⟩, hide (hB.trans (hb.mono hB.size))⟩
 have HC : Hid (∀ w2, Hid (Below w.heap.size w w2) → Calls Try.prog 56 #[.agg #[.pointer (some ⟨b, 0, none⟩), .int .i64 i, .bool s, .int .i64 n]] w2 fun e w' => e = .returned (.int .i64 code) ∧ P w') := hide fun w2 h2 => hcall w2 (unhide h2)
 have HCd : Hid (∀ w2, Hid (Below w.heap.size w w2) → Calls Try.prog 56 #[.agg #[.pointer (some ⟨b, 0, none⟩), .int .i64 i, .bool s, .int .i64 n]] w2.drew fun e w' => e = .returned (.int .i64 code) ∧ P w') := hide fun w2 h2 => hcall w2.drew (unhide h2).drew
 clear hh hB lk c1 hmb c8 hcall
 go_enter Try.func27, Try.ntmps27
 go_wp2_with fail
 rw [unhide HW, unhide HN]
 clear HW
 go_region_held3 (fun w' => w'.cell? ⟨b, 1, none⟩ = some (.map (some mb)) ∧ w'.cell? ⟨N, 0, none⟩ = some (.int .i64 i) ∧ w'.cell? ⟨N, 1, none⟩ = some (.bool s)) (first | exact ⟨b1, x0, x1⟩) (fail)
 all_goals go_wp2_with (first | (go_at_call 42; with_reducible refine (unhide HFT).mono ?_; rintro e w2 ⟨rfl, l1, l2, ⟨y0, y1⟩, hb2⟩) | (go_at_call 56; with_reducible refine (unhide HC _ hb2).mono ?_; rintro e w3 ⟨rfl, hF⟩) | (go_at_call 56; with_reducible refine (unhide HCd _ hb2).mono ?_; rintro e w3 ⟨rfl, hF⟩))
 all_goals
  go_ret
  exact ⟨rfl, hF⟩

set_option maxRecDepth 100000 in
set_option maxHeartbeats 1600000 in
theorem xFate_3 (b mb eb i n L cap : Nat) (a : Option Addr) (s : Bool) (w : World) (code : Int) (P : World → Prop) (c1 : w.cell? ⟨b, 1, none⟩ = some (.map (some mb))) (hmb : mb < w.heap.size)
  (lk : ∀ w' : World, w'.heap[mb]? = w.heap[mb]? → (Instr.lookup 74 (.map (some mb)) (.agg #[.int .i64 i, .bool s]) false).run Try.prog w' = .ok (.pointer (some ⟨eb, 0, none⟩)) w') (c8 : w.cell? ⟨eb, 8, none⟩ = some (.slice a L cap)) (hn : n < L)
  (hcall : ∀ w1, Below w.heap.size w w1 → Calls Try.prog 57 #[.agg #[.pointer (some ⟨b, 0, none⟩), .int .i64 i, .bool s, .int .i64 n]] w1 fun e w' => e = .returned (.int .i64 code) ∧ P w') :
  Calls Try.prog 27 #[.pointer (some ⟨b, 0, none⟩), .int .i64 i, .bool s, .int .i64 n, .int .i64 3] w fun e w' => e = .returned (.int .i64 code) ∧ P w' := by
 have hn0 : (0 : Int) ≤ (n : Int) := by omega
 have hn1 : (n : Int) < (L : Int) := by omega
 have hB : Below w.heap.size w (w.alloc (Obj.cells #[Value.int IntKind.i64 i, Value.bool s] 80)) := (Below.refl _ _).alloc (Nat.le_refl _) _
 have hh := heap_alloc_new w (Obj.cells #[Value.int IntKind.i64 i, Value.bool s] 80)
 obtain ⟨W, HW⟩ : ∃ W, Hid (w.alloc (Obj.cells #[Value.int IntKind.i64 i, Value.bool s] 80) = W) := ⟨_, rfl⟩
 obtain ⟨N, HN⟩ : ∃ N, Hid (w.heap.size = N) := ⟨_, rfl⟩
 rw [unhide HW] at hh hB
 rw [unhide HN] at hh
 have b1 := below_cell hB c1
 have x0 : W.cell? ⟨N, 0, none⟩ = some (.int .i64 i) := by simp [World.cell?, hh]
 have x1 : W.cell? ⟨N, 1, none⟩ = some (.bool s) := by simp [World.cell?, hh]
 have lkW := lk W.drew (hB.block mb hmb)
 have HB := hide hB.drew
 have e8 := below_cell hB c8
 have HFT : Hid (Calls Try.prog 42 #[] W.drew fun e w' => e = .returned (.map (some W.heap.size)) ∧ ((Instr.lookup 96 (.map (some W.heap.size)) (.int .i64 3) false).run Try.prog w' = .ok (.func (.func 57) #[] #[]) w') ∧ ((Instr.lookup 96 (.map (some W.heap.size)) (.int .i64 3) false).run Try.prog w'.drew = .ok (.func (.func 57) #[] #[]) w'.drew) ∧ (w'.cell? ⟨N, 0, none⟩ = some (.int .i64 i) ∧ w'.cell? ⟨N, 1, none⟩ = some (.bool s)) ∧ Hid (Below w.heap.size w w')) := by
  apply hide
  refine (xfates W.drew).mono ?_
  rintro e w' ⟨rfl, hf⟩
  have hb : Below W.heap.size W w' := ((Below.refl W.heap.size W).drew).trans hf.1
  exact ⟨rfl, lookYes (k := 3) hf.2 (by omega), lookYes (w := w'.drew) (k := 3) hf.2 (by omega), ⟨below_cell hb x0, below_cell hb x1⟩, hide (hB.trans (hb.mono hB.size))⟩
 have HC : Hid (∀ w2, Hid (Below w.heap.size w w2) → Calls Try.prog 57 #[.agg #[.pointer (some ⟨b, 0, none⟩), .int .i64 i, .bool s, .int .i64 n]] w2 fun e w' => e = .returned (.int .i64 code) ∧ P w') := hide fun w2 h2 => hcall w2 (unhide h2)
 have HCd : Hid (∀ w2, Hid (Below w.heap.size w w2) → Calls Try.prog 57 #[.agg #[.pointer (some ⟨b, 0, none⟩), .int .i64 i, .bool s, .int .i64 n]] w2.drew fun e w' => e = .returned (.int .i64 code) ∧ P w') := hide fun w2 h2 => hcall w2.drew (unhide h2).drew
 clear hh hB lk c1 hmb c8 hcall
 go_enter Try.func27, Try.ntmps27
 go_wp2_with fail
 rw [unhide HW, unhide HN]
 clear HW
 go_region_held3 (fun w' => w'.cell? ⟨b, 1, none⟩ = some (.map (some mb)) ∧ w'.cell? ⟨N, 0, none⟩ = some (.int .i64 i) ∧ w'.cell? ⟨N, 1, none⟩ = some (.bool s)) (first | exact ⟨b1, x0, x1⟩) (fail)
 all_goals go_wp2_with (first | (go_at_call 42; with_reducible refine (unhide HFT).mono ?_; rintro e w2 ⟨rfl, l1, l2, ⟨y0, y1⟩, hb2⟩) | (go_at_call 57; with_reducible refine (unhide HC _ hb2).mono ?_; rintro e w3 ⟨rfl, hF⟩) | (go_at_call 57; with_reducible refine (unhide HCd _ hb2).mono ?_; rintro e w3 ⟨rfl, hF⟩))
 all_goals
  go_ret
  exact ⟨rfl, hF⟩
end Go.Proofs.Ytemkgikncmhoaaa

