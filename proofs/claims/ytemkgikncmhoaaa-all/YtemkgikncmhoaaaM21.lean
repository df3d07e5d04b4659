import Derived.Test.YtemkgikncmhoaaaM20
import Derived.WalkMore
namespace Go.Proofs.Ytemkgikncmhoaaa
open Go.RowKit
attribute [local go_sem ↓] Go.wp_at_zero Go.wp_at_succ

theorem Upd.newBlock {own own' : Nat → Tag} {may : Tag → Prop} {w w' : World} (h : Upd own own' may w w') {b : Nat} (hb : w.heap.size ≤ b) (o : Obj) : Upd own own' may w (ChangeMaps.setBlock w' b o) :=
 ⟨h.os, h.tape, h.output, by rw [size_setBlock]; exact h.size, fun k hk hn => (heap_setBlock_other w' b k o (by omega)).trans (h.block k hk hn), h.tags⟩
/-- How many the iterator has still to hand out. -/
def leftNum (W : World) (r : Nat) (ents : Array MapEntry) : Nat := match W.heap[r]? with | some (.mapIter _ _ seen _) => (leftOf ents seen).size | _ => 0
theorem leftNum_eq {W : World} {r : Nat} {m : Option Nat} {s c : Nat} {seen : Array Nat} (h : W.heap[r]? = some (.mapIter m s seen c)) (ents : Array MapEntry) : leftNum W r ents = (leftOf ents seen).size := by simp [leftNum, h]
theorem EndX.c7 {own : Nat → Tag} {rid k b tb window : Nat} {E : IEnd} {w : World} (h : EndX own rid k w b tb window E) : ∃ kb, w.cell? ⟨b, 7, none⟩ = some (.map (some kb)) ∧ KeptX own (rid, k, 6) w kb E.kept := by
 obtain ⟨_, _, kb, _, hc, _, _, hk, _⟩ := h
 exact ⟨kb, by rw [hc.cell]; rfl, hk⟩
theorem born_inj : ∀ (l : List MapEntry), (l.map (·.born)).Nodup → ∀ a ∈ l, ∀ c ∈ l, a.born = c.born → a = c
 | [], _, a, ha, _, _, _ => by simp at ha
 | x :: l, h, a, ha, c, hc, e => by
  rw [List.map_cons, List.nodup_cons] at h
  rcases List.mem_cons.1 ha with rfl | ha'
  ·rcases List.mem_cons.1 hc with rfl | hc'
   ·rfl
   ·exact absurd (by rw [e]; exact List.mem_map_of_mem (f := fun y : MapEntry => y.born) hc') h.1
  ·rcases List.mem_cons.1 hc with rfl | hc'
   ·exact absurd (by rw [← e]; exact List.mem_map_of_mem (f := fun y : MapEntry => y.born) ha') h.1
   ·exact born_inj l h.2 a ha' c hc' e
/-- How many are kept. -/
def boxKept (W : World) (eb : Nat) : Nat := match W.cell? ⟨eb, 7, none⟩ with | some (.map (some kb)) => (match W.heap[kb]? with | some (.map ents _) => ents.size | _ => 0) | _ => 0
theorem boxKept_eq {own : Nat → Tag} {rid k b tb window : Nat} {E : IEnd} {w : World} (h : EndX own rid k w b tb window E) : boxKept w b = E.kept.length := by
 obtain ⟨kb, h1, _, ents, clock, h2, h3, _⟩ := h.c7
 have := congrArg List.length h3
 simp only [List.length_map, Array.length_toList] at this
 simp [boxKept, h1, h2, this]
theorem setA_setA (X : IRoom) (i : Nat) (t t' : List UInt8) (E E' : IEnd) : (X.setA i t E).setA i t' E' = X.setA i t' E' := by simp [IRoom.setA]
theorem tell_setB (X : IRoom) (i : Nat) (S S' : IEnd) (o : ROp) : (X.setB i S).tell i S' o = X.tell i S' o := by
 unfold IRoom.tell IRoom.setB
 congr 1
 apply List.ext_getElem?
 intro q
 rw [List.getElem?_mapIdx, List.getElem?_mapIdx]
 by_cases hq : q = i
 ·subst hq
  by_cases hl : q < X.sends.length
  ·rw [List.getElem?_set_self hl]; simp [hl]
  ·rw [List.getElem?_eq_none (by simp; omega), List.getElem?_eq_none (by omega)]
 ·rw [List.getElem?_set_ne (fun h => hq h.symm)]

set_option maxRecDepth 100000 in
set_option maxHeartbeats 3200000 in
theorem xTK_0 (A : RAddr) (own : Nat → Tag) (rid b : Nat) (X : IRoom) (us ds : Nat → List GMsg) (T : Nat → Nat → Nat → List UInt8) (hI : RInv X us ds T) (i : Nat) (t : List UInt8) (E S : IEnd) (w : World) (h : RoomF A own rid w b X) (ht : X.texts[i]? = some t) (hE : X.ends[i]? = some E) (hS : X.sends[i]? = some S) :
  Calls Try.prog 92 #[.pointer (some ⟨b, 0, none⟩), .agg #[.int .i64 i, .bool false]] w fun e w' => e = .returned (.tuple #[]) ∧ ∃ own', RoomF A own' rid w' b (X.takesA i E.kept.length) ∧ Upd own own' (inRoom rid) w w' := by
 have V : Upd own (retag own w.heap.size (rid + 1, 0, 9)) (fun _ => False) w (w.alloc (Obj.cells #[Value.int IntKind.i64 i, Value.bool false] 80)) := Upd.retag ((Upd.refl own (fun _ => False) w).alloc _) _ _ (Nat.le_refl _)
 have CA := CellsT.new w #[Value.int IntKind.i64 i, Value.bool false] 80 own (rid + 1, 0, 9)
 have hR1 := h.upd V (fun _ _ h => h)
 obtain ⟨mb, eb, sb, tbi, tb, O⟩ := hR1.opened ht hE hS
 have c1 := O.c1
 obtain ⟨hae, hat, _, _⟩ := O.at_
 have lk0 := O.lk0w (w.alloc (Obj.cells #[Value.int IntKind.i64 i, Value.bool false] 80)).drew rfl
 have a0 := CA.cell 0
 have a1 := CA.cell 1
 simp only [List.getElem?_toArray, List.getElem?_cons_zero, List.getElem?_cons_succ] at a0 a1
 have START : Hid (∃ own', RoomF A own' rid (w.alloc (Obj.cells #[Value.int IntKind.i64 i, Value.bool false] 80)).drew b X ∧ Upd own own' (inRoom rid) w (w.alloc (Obj.cells #[Value.int IntKind.i64 i, Value.bool false] 80)).drew ∧ CellsT own' (rid + 1, 0, 9) (w.alloc (Obj.cells #[Value.int IntKind.i64 i, Value.bool false] 80)).drew w.heap.size #[Value.int IntKind.i64 i, Value.bool false] 80) := hide ⟨_, hR1.upd ((Upd.refl _ (fun _ => False) _).drew) (fun _ _ h => h), (V.mono fun _ h => h.elim).drew, CA.drew⟩
 have HI := hide hI
 clear h V CA hR1 O hI
 go_enter Try.func92, Try.ntmps92
 go_wp2_with fail
 go_step3
 go_wp2_with fail
 go_region_held3 (fun w' => w'.cell? ⟨b, 1, none⟩ = some (.map (some mb)) ∧ w'.cell? ⟨w.heap.size, 0, none⟩ = some (.int .i64 i) ∧ w'.cell? ⟨w.heap.size, 1, none⟩ = some (.bool false)) (first | exact ⟨c1, a0, a1⟩) (fail)
 all_goals go_wp2_with fail
 go_step3
 go_wp2_with fail
 clear c1 lk0 a0 a1
 have HW0 := hide (show w.heap.size ≤ w.heap.size from Nat.le_refl _)
 generalize hN : w.heap.size = N at START HW0 ⊢
 have HN := hide hN
 clear hN
 go_loopw [] (fun wr => ∃ X' us' ds' T' t' E' S' f own', RInv X' us' ds' T' ∧ X'.texts[i]? = some t' ∧ X'.ends[i]? = some E' ∧ X'.sends[i]? = some S' ∧ E'.kept.length ≤ f ∧ X.takesA i E.kept.length = X'.takesA i f ∧ RoomF A own' rid wr b X' ∧ Upd own own' (inRoom rid) w wr ∧ CellsT own' (rid + 1, 0, 9) wr N #[Value.int IntKind.i64 i, Value.bool false] 80) (fun wr => boxKept wr eb)
 case atStart =>
  obtain ⟨own', s1, s2, s3⟩ := unhide START
  exact ⟨X, us, ds, T, t, E, S, _, own', unhide HI, ht, hE, hS, Nat.le_refl _, rfl, s1, s2, s3⟩
 case round =>
  obtain ⟨X', us', ds', T', t', E', S', f, own', i1, i2, i3, i4, i5, i6, i7, i8, i9⟩ := hrel
  rename World => wo
  obtain ⟨mb', eb', sb', tbi', tb', O⟩ := i7.opened i2 i3 i4
  obtain ⟨o1, o2, _, _⟩ := O.at_
  have hes : (eb, sb) = (eb', sb') := by rw [hae] at o1; simpa using o1
  obtain ⟨rfl, rfl⟩ : eb = eb' ∧ sb = sb' := by simpa using hes
  have hEnd := O.hE
  obtain ⟨kb, e7, hKX⟩ := hEnd.c7
  obtain ⟨k1, ents, clock, k2, k3, k4, k5⟩ := id hKX
  have e4 := hEnd.c4
  have hrange := run_range_map (P := Try.prog) wo 83 3 139 kb ents clock Try.underlying83 k2
  obtain ⟨tk, HTK⟩ : ∃ tk, Hid (tk = E'.taken) := ⟨_, rfl⟩
  rw [← HTK.out] at e4
  have htk : tk ≤ 180 := by rw [HTK.out]; have := (i1.nodupA i2 i3 i4).2; omega
  have V2 : Upd own' (retag own' wo.heap.size (rid + 1, 0, 10)) (fun _ => False) wo (wo.alloc (.mapIter (some kb) clock #[] clock)) := Upd.retag ((Upd.refl own' (fun _ => False) wo).alloc _) _ _ (Nat.le_refl _)
  have START2 : Hid (∃ (own2 : Nat → Tag) (seen : Array Nat) (c0 : Nat), RoomF A own2 rid (wo.alloc (.mapIter (some kb) clock #[] clock)) b X' ∧ Upd own own2 (inRoom rid) w (wo.alloc (.mapIter (some kb) clock #[] clock)) ∧ CellsT own2 (rid + 1, 0, 9) (wo.alloc (.mapIter (some kb) clock #[] clock)) N #[Value.int IntKind.i64 i, Value.bool false] 80 ∧ (wo.alloc (.mapIter (some kb) clock #[] clock)).heap[wo.heap.size]? = some (.mapIter (some kb) clock seen c0) ∧ own2 wo.heap.size = (rid + 1, 0, 10) ∧ clock ≤ c0 ∧ (wo.alloc (.mapIter (some kb) clock #[] clock)).heap[kb]? = some (.map ents clock) ∧ (wo.alloc (.mapIter (some kb) clock #[] clock)).cell? ⟨eb, 7, none⟩ = some (.map (some kb)) ∧ (wo.alloc (.mapIter (some kb) clock #[] clock)).cell? ⟨eb, 4, none⟩ = some (.int .i64 tk) ∧ (∀ x ∈ ents.toList, seen.contains x.born = true → x.key ≠ .int .i64 ((tk : Int) + 1)) ∧ wo.heap.size < (wo.alloc (.mapIter (some kb) clock #[] clock)).heap.size) := by
   apply hide
   exact ⟨_, #[], clock, i7.upd V2 (fun _ _ h => h), i8.trans (V2.mono fun _ h => h.elim), i9.upd V2 (fun h => h), heap_alloc_new _ _, retag_ge (Nat.le_refl _), Nat.le_refl _, (V2.block kb (Array.getElem?_eq_some_iff.1 k2).1 (fun h => h)).trans k2, V2.cell e7 (fun h => h), V2.cell e4 (fun h => h), by simp, by simp⟩
  have HKEPT : Hid (∀ x ∈ ents.toList, ∃ q ∈ E'.kept, x.key = .int .i64 q.number ∧ x.val = .agg #[Value.int IntKind.i64 q.number, Value.int IntKind.i64 q.ctx, Value.int IntKind.i64 q.op.client, Value.int IntKind.i64 q.op.verb, Value.int IntKind.i64 q.op.place, Value.int IntKind.u8 q.op.letter]) := by
   apply hide
   intro x hx
   have h1 : (x.key, x.val) ∈ ents.toList.map (fun e => (e.key, e.val)) := List.mem_map_of_mem (f := fun e : MapEntry => (e.key, e.val)) hx
   rw [k3] at h1
   obtain ⟨q, hq, he⟩ := List.mem_map.1 h1
   simp only [Prod.mk.injEq] at he
   exact ⟨q, hq, he.1.symm, he.2.symm⟩
  have HALLK : Hid (∀ q ∈ E'.kept, ∃ x ∈ ents.toList, x.key = .int .i64 q.number) := by
   apply hide
   intro q hq
   have h1 : (Value.int .i64 q.number, Value.agg q.cells.toArray) ∈ E'.kept.map (fun m => (Value.int .i64 m.number, Value.agg m.cells.toArray)) := List.mem_map_of_mem (f := fun m : IMsg => (Value.int .i64 m.number, Value.agg m.cells.toArray)) hq
   rw [← k3] at h1
   obtain ⟨x, hx, he⟩ := List.mem_map.1 h1
   simp only [Prod.mk.injEq] at he
   exact ⟨x, hx, he.1⟩
  have i8s : w.heap.size ≤ wo.heap.size := i8.size
  have ebt : ∀ (own2 : Nat → Tag) (W : World), RoomF A own2 rid W b X' → own2 eb = (rid, (2 * i), 0) := by
   intro own2 W hh
   obtain ⟨_, e2, s2, _, _, O2⟩ := hh.opened i2 i3 i4
   obtain ⟨p1, _, _, _⟩ := O2.at_
   rw [hae] at p1
   obtain ⟨rfl, rfl⟩ : eb = e2 ∧ sb = s2 := by simpa using p1
   obtain ⟨_, _, _, _, hc, _⟩ := O2.hE
   exact hc.2
  have HI1 := hide i1
  have HI6 := hide i6
  have HK4 := hide k4
  have HK5 := hide k5
  have HMS : Hid (boxKept wo eb = E'.kept.length) := hide (boxKept_eq hEnd)
  clear START V2 i1 i6 i7 i8 i9 O hEnd hKX k1 k3 k4 k5 hes o1
  go_wp2_with fail
  go_loopw [] (fun wq => ∃ (own2 : Nat → Tag) (seen : Array Nat) (c0 : Nat), RoomF A own2 rid wq b X' ∧ Upd own own2 (inRoom rid) w wq ∧ CellsT own2 (rid + 1, 0, 9) wq N #[Value.int IntKind.i64 i, Value.bool false] 80 ∧ wq.heap[wo.heap.size]? = some (.mapIter (some kb) clock seen c0) ∧ own2 wo.heap.size = (rid + 1, 0, 10) ∧ clock ≤ c0 ∧ wq.heap[kb]? = some (.map ents clock) ∧ wq.cell? ⟨eb, 7, none⟩ = some (.map (some kb)) ∧ wq.cell? ⟨eb, 4, none⟩ = some (.int .i64 tk) ∧ (∀ x ∈ ents.toList, seen.contains x.born = true → x.key ≠ .int .i64 ((tk : Int) + 1)) ∧ wo.heap.size < wq.heap.size) (fun wq => leftNum wq wo.heap.size ents)
  case atStart => exact unhide START2
  case round =>
   rename World => wq
   obtain ⟨own2, seen, c0, r1, r2, r3, r4, r5, r6, r7, r8, r9, r10, r11⟩ := hrel
   have hN := r3.lt
   have na0 := r3.cell 0
   have na1 := r3.cell 1
   simp only [List.getElem?_toArray, List.getElem?_cons_zero, List.getElem?_cons_succ] at na0 na1
   have htw : IntKind.i64.wrap ((tk : Int) + 1) = (tk : Int) + 1 := by rw [IntKind.wrap_i64]; omega
   rcases run_next_at (P := Try.prog) wq 0 wo.heap.size kb clock c0 seen ents clock r4 r7 (unhide HK4) r6 with ⟨hl0, hrun⟩ | ⟨x, hx, w1, hw1, hrun⟩
   ·have hdone : X'.takesA i f = X' := by
     refine IRoom.takesA_none i2 i3 (IEnd.nextKept_none ?_) f
     intro q hq
     obtain ⟨x, hx, hk⟩ := unhide HALLK q hq
     have := r10 x hx (all_seen ents seen hl0 x hx)
     rw [hk, HTK.out] at this
     intro e
     exact this (by rw [e]; rfl)
    have HD : Hid (∃ own', RoomF A own' rid wq b (X.takesA i E.kept.length) ∧ Upd own own' (inRoom rid) w wq) := hide ⟨own2, by rw [unhide HI6, hdone]; exact r1, r2⟩
    clear r1 r2 r3 r4 r5 r6 r7 r10 START2 hdone
    go_wp2_with fail
    rw [Exit.noGoto_normal]
    go_end0
    exact ⟨rfl, unhide HD⟩
   ·obtain ⟨hxe, hxs⟩ := mem_left hx
    obtain ⟨q, hq, hkey, hval⟩ := unhide HKEPT x hxe
    have hshr := left_shrinks ents seen x hx
    have hh1 : w1.heap = wq.heap := by rcases hw1 with rfl | rfl <;> rfl
    have Uw : Upd own2 own2 (fun _ => False) wq w1 := by rcases hw1 with rfl | rfl; exact Upd.refl _ _ _; exact (Upd.refl _ _ _).drew
    have hkr : kb ≠ wo.heap.size := by intro e; rw [e] at r7; rw [r4] at r7; simp at r7
    have U2 : Upd own2 own2 (fun t => t = (rid + 1, 0, 10)) wq (ChangeMaps.setBlock w1 wo.heap.size (.mapIter (some kb) clock (seen.push x.born) clock)) := Upd.setBlock (may := fun t => t = (rid + 1, 0, 10)) (Uw.mono fun _ h => h.elim) (b := wo.heap.size) r5 _
    have hr2 : (ChangeMaps.setBlock w1 wo.heap.size (.mapIter (some kb) clock (seen.push x.born) clock)).heap[wo.heap.size]? = some (.mapIter (some kb) clock (seen.push x.born) clock) := heap_setBlock_same _ _ _ (by rw [hh1]; exact r11)
    have hb2 : (ChangeMaps.setBlock w1 wo.heap.size (.mapIter (some kb) clock (seen.push x.born) clock)).heap[kb]? = some (.map ents clock) := by rw [heap_setBlock_other _ _ _ _ hkr, hh1]; exact r7
    have hent := run_entry_at (P := Try.prog) _ wo.heap.size kb clock seen ents clock x hr2 hb2 hxe (unhide HK5)
    have s1 := r1.upd U2 (by intro a c; simp)
    have s2 : Upd own own2 (inRoom rid) w (ChangeMaps.setBlock w1 wo.heap.size (.mapIter (some kb) clock (seen.push x.born) clock)) := Upd.newBlock (r2.trans (Uw.mono fun _ h => h.elim)) (Nat.le_trans i8s (Nat.le_refl _)) _
    have s3 := r3.upd U2 (by simp)
    have s8 := U2.cell r8 (by rw [ebt own2 wq r1]; simp)
    have s9 := U2.cell r9 (by rw [ebt own2 wq r1]; simp)
    have hsz2 : wo.heap.size < (ChangeMaps.setBlock w1 wo.heap.size (.mapIter (some kb) clock (seen.push x.born) clock)).heap.size := by rw [size_setBlock, hh1]; exact r11
    rw [hkey, hval] at hrun hent
    clear r1 r2 r3 r7 r8 r9 na0 na1 hw1 START2
    generalize ChangeMaps.setBlock w1 wo.heap.size (.mapIter (some kb) clock (seen.push x.born) clock) = W2 at *
    by_cases hqn : q.number = tk + 1
    ·have hqi : (q.number : Int) = (tk : Int) + 1 := by omega
     have hqb : ((q.number : Int) != (tk : Int) + 1) = false := by rw [hqi]; exact bne_self_eq_false _
     have HQI := hide hqi
     clear hqi
     have I1 := unhide HI1
     have V3 : Upd own2 (retag own2 W2.heap.size (rid + 1, 0, 11)) (fun _ => False) W2 (W2.alloc (Obj.cells #[Value.int IntKind.i64 q.number, Value.int IntKind.i64 q.ctx, Value.int IntKind.i64 q.op.client, Value.int IntKind.i64 q.op.verb, Value.int IntKind.i64 q.op.place, Value.int IntKind.u8 q.op.letter] 139)) := Upd.retag ((Upd.refl own2 (fun _ => False) W2).alloc _) _ _ (Nat.le_refl _)
     have CB := CellsT.new W2 #[Value.int IntKind.i64 q.number, Value.int IntKind.i64 q.ctx, Value.int IntKind.i64 q.op.client, Value.int IntKind.i64 q.op.verb, Value.int IntKind.i64 q.op.place, Value.int IntKind.u8 q.op.letter] 139 own2 (rid + 1, 0, 11)
     have t1 := s1.upd V3 (fun _ _ h => h)
     have t2 := s2.trans (V3.mono fun _ h => h.elim)
     have t3 := s3.upd V3 (fun h => h)
     have s8a := V3.cell s8 (fun h => h)
     have s9a := V3.cell s9 (fun h => h)
     clear V3 s1 s2 s3 r10 r4 r5 hr2 hb2 hshr s8 s9
     obtain ⟨W3, hW3⟩ : ∃ W3, W3 = W2.alloc (Obj.cells #[Value.int IntKind.i64 q.number, Value.int IntKind.i64 q.ctx, Value.int IntKind.i64 q.op.client, Value.int IntKind.i64 q.op.verb, Value.int IntKind.i64 q.op.place, Value.int IntKind.u8 q.op.letter] 139) := ⟨_, rfl⟩
     have HW3 := hide hW3
     rw [← hW3] at CB t1 t2 t3 s8a s9a
     obtain ⟨own3, hown3⟩ : ∃ own3, own3 = retag own2 W2.heap.size (rid + 1, 0, 11) := ⟨_, rfl⟩
     rw [← hown3] at CB t1 t2 t3
     clear hW3 hown3
     obtain ⟨mb3, eb3, sb3, tbi3, tb3, O3⟩ := t1.opened i2 i3 i4
     obtain ⟨p1, _, _, _⟩ := O3.at_
     rw [hae] at p1
     obtain ⟨rfl, rfl⟩ : eb = eb3 ∧ sb = sb3 := by simpa using p1
     obtain ⟨wv, ov, kb3, fv, hc3, hm3, hop3, hk3, hf3⟩ := O3.hE
     obtain rfl : kb = kb3 := by
      have := hc3.cell 7
      rw [s8a] at this
      simpa using this
     obtain ⟨ob, hdel, hk4⟩ := hk3.cut (I1.nodupA i2 i3 i4).1 (x := q.number) ⟨q, hq, rfl⟩ 0
     have U4 : Upd own3 own3 (fun t => t = (rid, (2 * i), 6)) W3 (ChangeMaps.setBlock W3 kb ob) := Upd.setBlock (may := fun t => t = (rid, (2 * i), 6)) (Upd.refl own3 _ W3) (b := kb) hk3.1 ob
     have hE4 : EndX own3 rid (2 * i) (ChangeMaps.setBlock W3 kb ob) eb tbi3 X'.window (E'.drop q.number) := ⟨wv, ov, kb, fv, hc3.upd U4 (by simp), hm3.upd U4 (by simp), hop3.upd U4 (by simp), hk4, hf3.upd U4 (by simp)⟩
     have hi4 : i < 4 := by have := I1.n4; have := (List.getElem?_eq_some_iff.1 i2).1; omega
     have R4 := O3.setE (U4.mono (by rintro x rfl; exact inEnd.mk _ _ (by decide) (by decide))) hE4
     have C4 := t3.upd U4 (by simp)
     have B4 := CB.upd U4 (by simp)
     have T4 := t2.trans (U4.mono (by rintro x rfl; rfl))
     have hnum : q.number = E'.taken + 1 := by rw [hqn, HTK.out]
     obtain ⟨j1, j2, j3⟩ := I1.keptA i2 i3 i4 hq
     have RD := I1.readyA i2 i3 i4 hnum j2
     rw [← j3] at RD
     have hlx := RoomXAt.lenX R4
     have hx1 : (X'.setA i t' (E'.drop q.number)).texts[i]? = some t' := by simp [IRoom.setA, (List.getElem?_eq_some_iff.1 i2).1]
     have hx2 : (X'.setA i t' (E'.drop q.number)).ends[i]? = some (E'.drop q.number) := by simp [IRoom.setA, (List.getElem?_eq_some_iff.1 i3).1]
     have hx3 : (X'.setA i t' (E'.drop q.number)).sends[i]? = some S' := by exact i4
     have HTAKE : Hid (Calls Try.prog 101 #[.pointer (some ⟨b, 0, none⟩), .agg #[.int .i64 i, .bool false], .agg #[Value.int IntKind.i64 q.number, Value.int IntKind.i64 q.ctx, Value.int IntKind.i64 q.op.client, Value.int IntKind.i64 q.op.verb, Value.int IntKind.i64 q.op.place, Value.int IntKind.u8 q.op.letter]] (ChangeMaps.setBlock W3 kb ob) fun e w5 => e = .returned (.tuple #[]) ∧ ∃ own5, RoomF A own5 rid w5 b (X'.stepA i t' E' q) ∧ Upd own own5 (inRoom rid) w w5 ∧ CellsT own5 (rid + 1, 0, 9) w5 N #[Value.int IntKind.i64 i, Value.bool false] 80) := by
      apply hide
      have hh := xRtake_0 A own3 rid b (X'.setA i t' (E'.drop q.number)) i q t' (E'.drop q.number) S' _ R4 hx1 hx2 hx3 RD.seen RD.len RD.norm RD.place RD.opn (Nat.le_trans RD.ol (by omega)) RD.on RD.fits (Nat.le_trans RD.tl (by omega))
      refine hh.mono ?_
      rintro e w5 ⟨rfl, own5, a1, a2⟩
      refine ⟨rfl, own5, ?_, T4.trans a2, C4.upd a2 (fun h => by have : rid + 1 = rid := h; omega)⟩
      rw [setA_setA] at a1; exact a1
     have y0 := B4.cell 0
     have y1 := B4.cell 1
     have y2 := B4.cell 2
     have y3 := B4.cell 3
     have y4 := B4.cell 4
     have y5 := B4.cell 5
     have v0 := C4.cell 0
     have v1 := C4.cell 1
     simp only [List.getElem?_toArray, List.getElem?_cons_zero, List.getElem?_cons_succ] at y0 y1 y2 y3 y4 y5 v0 v1
     rw [unhide HW3] at hdel y0 y1 y2 y3 y4 y5 v0 v1 s8a s9a HTAKE
     clear O3 hc3 hm3 hop3 hk3 hf3 hk4 U4 hE4 R4 C4 B4 T4 t1 t2 t3 CB RD
     have J := hide (And.intro j2 (And.intro j3 hnum))
     clear j1 j2 j3 hx1 hx2 hx3 hlx hnum hqn p1 I1 hi4
     go_wp2_with (first | (go_at_call 101; with_reducible refine (unhide HTAKE).mono ?_; rintro e w5 ⟨rfl, own5, z1, z2, z3⟩))
     obtain ⟨j2, j3, hnum⟩ := unhide J
     have I1 := unhide HI1
     have hnext : E'.nextKept = some q := IEnd.nextKept_of (I1.nodupA i2 i3 i4).1 hq hnum
     have hlen : (E'.kept.filter fun m => decide (m.number ≠ q.number)).length < E'.kept.length := List.length_filter_lt_length_iff_exists.2 ⟨q, hq, by simp⟩
     have RI := I1.takeA i2 i3 i4 hnum j2
     rw [← j3] at RI
     have w1' : (X'.stepA i t' E' q).texts[i]? = some ((E'.taking q).1.does t') := by simp [IRoom.stepA, IRoom.setA, (List.getElem?_eq_some_iff.1 i2).1]
     have w2' : (X'.stepA i t' E' q).ends[i]? = some ((E'.drop q.number).take q) := by simp [IRoom.stepA, IRoom.setA, (List.getElem?_eq_some_iff.1 i3).1]
     have w3' : (X'.stepA i t' E' q).sends[i]? = some S' := by exact i4
     obtain ⟨f', rfl⟩ : ∃ f', f = f' + 1 := ⟨f - 1, by omega⟩
     refine ⟨⟨_, us', _, _, _, _, _, f', own5, RI, w1', w2', w3', ?_, ?_, z1, z2, z3⟩, ?_⟩
     ·show (E'.kept.filter fun m => decide (m.number ≠ q.number)).length ≤ f'
      omega
     ·rw [unhide HI6, IRoom.takesA_some i2 i3 hnext]
      rfl
     ·obtain ⟨_, eb5, sb5, _, _, O5⟩ := RoomF.opened z1 w1' w2' w3'
      obtain ⟨p5, _, _, _⟩ := O5.at_
      rw [hae] at p5
      obtain ⟨rfl, rfl⟩ : eb = eb5 ∧ sb = sb5 := by simpa using p5
      rw [boxKept_eq O5.hE, unhide HMS]
      exact hlen
    ·have hqi : (q.number : Int) ≠ (tk : Int) + 1 := by omega
     have hqb : ((q.number : Int) == (tk : Int) + 1) = false := by rw [beq_eq_false_iff_ne]; exact hqi
     have V3 : Upd own2 (retag own2 W2.heap.size (rid + 1, 0, 11)) (fun _ => False) W2 (W2.alloc (Obj.cells #[Value.int IntKind.i64 q.number, Value.int IntKind.i64 q.ctx, Value.int IntKind.i64 q.op.client, Value.int IntKind.i64 q.op.verb, Value.int IntKind.i64 q.op.place, Value.int IntKind.u8 q.op.letter] 139)) := Upd.retag ((Upd.refl own2 (fun _ => False) W2).alloc _) _ _ (Nat.le_refl _)
     have HNX : Hid (∃ (own2 : Nat → Tag) (seen : Array Nat) (c0 : Nat), RoomF A own2 rid (W2.alloc (Obj.cells #[Value.int IntKind.i64 q.number, Value.int IntKind.i64 q.ctx, Value.int IntKind.i64 q.op.client, Value.int IntKind.i64 q.op.verb, Value.int IntKind.i64 q.op.place, Value.int IntKind.u8 q.op.letter] 139)) b X' ∧ Upd own own2 (inRoom rid) w (W2.alloc (Obj.cells #[Value.int IntKind.i64 q.number, Value.int IntKind.i64 q.ctx, Value.int IntKind.i64 q.op.client, Value.int IntKind.i64 q.op.verb, Value.int IntKind.i64 q.op.place, Value.int IntKind.u8 q.op.letter] 139)) ∧ CellsT own2 (rid + 1, 0, 9) (W2.alloc (Obj.cells #[Value.int IntKind.i64 q.number, Value.int IntKind.i64 q.ctx, Value.int IntKind.i64 q.op.client, Value.int IntKind.i64 q.op.verb, Value.int IntKind.i64 q.op.place, Value.int IntKind.u8 q.op.letter] 139)) N #[Value.int IntKind.i64 i, Value.bool false] 80 ∧ (W2.alloc (Obj.cells #[Value.int IntKind.i64 q.number, Value.int IntKind.i64 q.ctx, Value.int IntKind.i64 q.op.client, Value.int IntKind.i64 q.op.verb, Value.int IntKind.i64 q.op.place, Value.int IntKind.u8 q.op.letter] 139)).heap[wo.heap.size]? = some (.mapIter (some kb) clock seen c0) ∧ own2 wo.heap.size = (rid + 1, 0, 10) ∧ clock ≤ c0 ∧ (W2.alloc (Obj.cells #[Value.int IntKind.i64 q.number, Value.int IntKind.i64 q.ctx, Value.int IntKind.i64 q.op.client, Value.int IntKind.i64 q.op.verb, Value.int IntKind.i64 q.op.place, Value.int IntKind.u8 q.op.letter] 139)).heap[kb]? = some (.map ents clock) ∧ (W2.alloc (Obj.cells #[Value.int IntKind.i64 q.number, Value.int IntKind.i64 q.ctx, Value.int IntKind.i64 q.op.client, Value.int IntKind.i64 q.op.verb, Value.int IntKind.i64 q.op.place, Value.int IntKind.u8 q.op.letter] 139)).cell? ⟨eb, 7, none⟩ = some (.map (some kb)) ∧ (W2.alloc (Obj.cells #[Value.int IntKind.i64 q.number, Value.int IntKind.i64 q.ctx, Value.int IntKind.i64 q.op.client, Value.int IntKind.i64 q.op.verb, Value.int IntKind.i64 q.op.place, Value.int IntKind.u8 q.op.letter] 139)).cell? ⟨eb, 4, none⟩ = some (.int .i64 tk) ∧ (∀ x ∈ ents.toList, seen.contains x.born = true → x.key ≠ .int .i64 ((tk : Int) + 1)) ∧ wo.heap.size < (W2.alloc (Obj.cells #[Value.int IntKind.i64 q.number, Value.int IntKind.i64 q.ctx, Value.int IntKind.i64 q.op.client, Value.int IntKind.i64 q.op.verb, Value.int IntKind.i64 q.op.place, Value.int IntKind.u8 q.op.letter] 139)).heap.size) := by
      apply hide
      refine ⟨_, seen.push x.born, clock, s1.upd V3 (fun _ _ h => h), s2.trans (V3.mono fun _ h => h.elim), s3.upd V3 (fun h => h), (V3.block _ hsz2 (fun h => h)).trans hr2, (V3.tags _ hsz2).trans r5, Nat.le_refl _, (V3.block _ (Array.getElem?_eq_some_iff.1 hb2).1 (fun h => h)).trans hb2, V3.cell s8 (fun h => h), V3.cell s9 (fun h => h), ?_, by simp; omega⟩
      intro y hy hyc
      have hyc' : y.born = x.born ∨ seen.contains y.born = true := by
       simp only [Array.contains_push, Bool.or_eq_true, beq_iff_eq] at hyc
       first | exact hyc | exact hyc.symm
      rcases hyc' with hyc | hyc
      ·obtain rfl := born_inj _ (unhide HK5) y hy x hxe hyc
       rw [hkey]
       intro he
       exact hqi (by injection he)
      ·exact r10 y hy hyc
     have HLN : Hid (leftNum (W2.alloc (Obj.cells #[Value.int IntKind.i64 q.number, Value.int IntKind.i64 q.ctx, Value.int IntKind.i64 q.op.client, Value.int IntKind.i64 q.op.verb, Value.int IntKind.i64 q.op.place, Value.int IntKind.u8 q.op.letter] 139)) wo.heap.size ents < leftNum wq wo.heap.size ents) := by
      apply hide
      rw [leftNum_eq r4, leftNum_eq ((V3.block _ hsz2 (fun h => h)).trans hr2)]
      exact hshr
     have s9a := V3.cell s9 (fun h => h)
     clear V3 s1 s2 s3 hr2 hb2 r10 r4 r5
     go_wp2_with fail
     exact ⟨unhide HNX, unhide HLN⟩
end Go.Proofs.Ytemkgikncmhoaaa

