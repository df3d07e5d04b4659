import Derived.Test.YtemkgikncmhoaaaM12
import Derived.Test.YtemkgikncmhoaaaM13
import Derived.Test.YtemkgikncmhoaaaM17
import Derived.Test.YtemkgikncmhoaaaM18
import Derived.Maps.RangeRun
import Derived.Deep.RegionHeld3
namespace Go.Proofs.Ytemkgikncmhoaaa
open Go.RowKit
attribute [local go_sem ↓] Go.wp_at_zero Go.wp_at_succ

def IMsg.val (m : IMsg) : Value := .agg m.cells.toArray
/-- A number among the kept ones. -/
theorem findNow_kept (x : Nat) : ∀ (es : List MapEntry) (ms : List IMsg) (i : Nat), es.map (fun e => (e.key, e.val)) = ms.map (fun m => (Value.int .i64 m.number, Value.agg m.cells.toArray)) →
  ((∀ m ∈ ms, m.number ≠ x) ∧ Instr.findNow (.int .i64) (.int .i64 x) es i = some none) ∨ ∃ j m, ms[j]? = some m ∧ m.number = x ∧ (∀ j', j' < j → ∀ m', ms[j']? = some m' → m'.number ≠ x) ∧ Instr.findNow (.int .i64) (.int .i64 x) es i = some (some (i + j, m.val))
 | [], [], i, _ => .inl ⟨by simp, rfl⟩
 | [], m :: ms, i, h => by simp at h
 | e :: es, [], i, h => by simp at h
 | e :: es, m :: ms, i, h => by
  simp only [List.map_cons, List.cons.injEq, Prod.mk.injEq] at h
  obtain ⟨⟨hk, hv⟩, ht⟩ := h
  by_cases hx : m.number = x
  ·refine .inr ⟨0, m, rfl, hx, by omega, ?_⟩
   simp only [Instr.findNow, Instr.sameNow, hk, hx, if_true, beq_self_eq_true]
   rw [hv]; rfl
  ·have hne : (((x : Int) == (m.number : Int)) = false) := by rw [beq_eq_false_iff_ne]; omega
   rcases findNow_kept x es ms (i + 1) ht with ⟨h1, h2⟩ | ⟨j, m', h1, h2, h4, h3⟩
   ·refine .inl ⟨fun q hq => ?_, ?_⟩
    ·rcases List.mem_cons.1 hq with rfl | hq
     ·exact hx
     ·exact h1 q hq
    ·simp only [Instr.findNow, Instr.sameNow, hk, if_true, hne]
     exact h2
   ·refine .inr ⟨j + 1, m', by simpa using h1, h2, ?_, ?_⟩
    ·intro j' hj' q hq
     match j', hq with
     | 0, hq =>
      obtain rfl : m = q := by simpa using hq
      exact hx
     | j' + 1, hq => exact h4 j' (by omega) q (by simpa using hq)
    ·simp only [Instr.findNow, Instr.sameNow, hk, if_true, hne]
     rw [h3, show i + 1 + j = i + (j + 1) by omega]
theorem run_checkInt (em : Bool) (x : Int) (w : World) : (Instr.checkKey em 10000 3 (.int .i64 x)).run Try.prog w = .ok () w := by
 rw [show (10000 : Nat) = 9999 + 1 from rfl, Instr.checkKey]
 simp [run_underlying Try.underlying3]
theorem run_findKey {x : Int} {es : List MapEntry} {r : Option (Nat × Value)} (h : Instr.findNow (.int .i64) (.int .i64 x) es 0 = some r) (w : World) : (Instr.findKey 3 (.int .i64 x) es).run Try.prog w = .ok r w := by
 unfold Instr.findKey
 simp [run_underlying Try.underlying3, h]

section
variable {own : Nat → Tag} {t : Tag} {w : World} {kb : Nat} {kept : List IMsg}
theorem KeptX.no (h : KeptX own t w kb kept) {x : Nat} (hn : ∀ m ∈ kept, m.number ≠ x) : (Instr.lookup 83 (.map (some kb)) (.int .i64 x) true).run Try.prog w = .ok (.tuple #[.agg #[.int .i64 0, .int .i64 0, .int .i64 0, .int .i64 0, .int .i64 0, .int .u8 0], .bool false]) w := by
 obtain ⟨_, ents, clock, h2, h3, _⟩ := h
 rcases findNow_kept x ents.toList kept 0 h3 with ⟨_, h4⟩ | ⟨j, m, h5, h6, _⟩
 ·simp [Instr.lookup, run_underlying Try.underlying83, MapKept.run_getObj_map h2, run_checkInt, run_findKey h4, Result.andThen]
 ·exact absurd h6 (hn m (List.mem_of_getElem? h5))
theorem KeptX.yes (h : KeptX own t w kb kept) {x : Nat} (hn : ∃ m ∈ kept, m.number = x) : ∃ q : IMsg, q ∈ kept ∧ q.number = x ∧ (Instr.lookup 83 (.map (some kb)) (.int .i64 x) true).run Try.prog w = .ok (.tuple #[.agg #[.int .i64 q.number, .int .i64 q.ctx, .int .i64 q.op.client, .int .i64 q.op.verb, .int .i64 q.op.place, .int .u8 q.op.letter], .bool true]) w := by
 obtain ⟨_, ents, clock, h2, h3, _⟩ := h
 rcases findNow_kept x ents.toList kept 0 h3 with ⟨h4, _⟩ | ⟨j, m, h5, h6, _, h7⟩
 ·obtain ⟨m, hm, hx⟩ := hn
  exact absurd hx (h4 m hm)
 ·exact ⟨m, List.mem_of_getElem? h5, h6, by simp [Instr.lookup, run_underlying Try.underlying83, MapKept.run_getObj_map h2, run_checkInt, run_findKey h7, Result.andThen, IMsg.val, IMsg.cells]⟩
/-- One more is kept. -/
theorem KeptX.put (h : KeptX own t w kb kept) (m : IMsg) (hn : ∀ q ∈ kept, q.number ≠ m.number) : ∃ o, (Instr.mapUpdate 83 (.map (some kb)) (.int .i64 m.number) (.agg m.cells.toArray)).run Try.prog w = .ok () (ChangeMaps.setBlock w kb o) ∧ KeptX own t (ChangeMaps.setBlock w kb o) kb (kept ++ [m]) := by
 obtain ⟨h1, ents, clock, h2, h3, h4, h5⟩ := h
 have hl := (Array.getElem?_eq_some_iff.1 h2).1
 rcases findNow_kept m.number ents.toList kept 0 h3 with ⟨_, h6⟩ | ⟨j, q, h7, h8, _⟩
 ·refine ⟨.map (ents.push ⟨.int .i64 m.number, .agg m.cells.toArray, clock⟩) (clock + 1), ?_, h1, _, _, heap_setBlock_same _ _ _ hl, ?_, ?_, ?_⟩
  ·simp [Instr.mapUpdate, run_underlying Try.underlying83, MapKept.run_getObj_map h2, run_checkInt, run_findKey h6, Result.andThen, MapKept.run_setObj_map _ h2]
   rfl
  ·simp [h3]
  ·intro e he
   simp only [Array.toList_push, List.mem_append, List.mem_singleton] at he
   rcases he with he | rfl
   ·have := h4 e he; omega
   ·exact Nat.lt_succ_self _
  ·simp only [Array.toList_push, List.map_append, List.map_cons, List.map_nil]
   rw [List.nodup_append]
   refine ⟨h5, by simp, ?_⟩
   intro a ha b hb
   obtain rfl : b = clock := by simpa using hb
   rintro rfl
   obtain ⟨e, he, hb⟩ := List.mem_map.1 ha
   have := h4 e he
   omega
 ·exact absurd h8 (hn q (List.mem_of_getElem? h7))
end

set_option maxRecDepth 100000 in
set_option maxHeartbeats 800000 in
theorem xkeep (own : Nat → Tag) (rid k b tb window : Nat) (E : IEnd) (m : IMsg) (w : World) (h : EndX own rid k w b tb window E) (ht : E.taken ≤ 1000) (hm : m.number ≤ 1000) :
  Calls Try.prog 90 #[.pointer (some ⟨b, 0, none⟩), .agg m.cells.toArray] w fun e w' => e = .returned (.tuple #[]) ∧ ∃ own', EndX own' rid k w' b tb window (E.keep window m) ∧ Upd own own' (inEnd rid k) w w' := by
 have V : Upd own (retag own w.heap.size (rid + 1, 0, 4)) (fun _ => False) w (w.alloc (Obj.cells #[Value.int IntKind.i64 m.number, Value.int IntKind.i64 m.ctx, Value.int IntKind.i64 m.op.client, Value.int IntKind.i64 m.op.verb, Value.int IntKind.i64 m.op.place, Value.int IntKind.u8 m.op.letter] 139)) := Upd.retag ((Upd.refl own (fun _ => False) w).alloc _) _ _ (Nat.le_refl _)
 have CM := CellsT.new w #[Value.int IntKind.i64 m.number, Value.int IntKind.i64 m.ctx, Value.int IntKind.i64 m.op.client, Value.int IntKind.i64 m.op.verb, Value.int IntKind.i64 m.op.place, Value.int IntKind.u8 m.op.letter] 139 own (rid + 1, 0, 4)
 have hE1 := h.upd V (fun _ _ _ h => h)
 have HV := hide V
 unfold IMsg.cells
 clear h V
 generalize retag own w.heap.size (rid + 1, 0, 4) = own1 at *
 have e4 := hE1.c4
 have e1 := hE1.c1
 have m0 := CM.cell 0
 have m1 := CM.cell 1
 have m2 := CM.cell 2
 have m3 := CM.cell 3
 have m4 := CM.cell 4
 have m5 := CM.cell 5
 simp only [List.getElem?_toArray, List.getElem?_cons_zero, List.getElem?_cons_succ] at m0 m1 m2 m3 m4 m5
 have hw1 : IntKind.i64.wrap ((E.taken : Int) + 1) = (E.taken : Int) + 1 := by rw [IntKind.wrap_i64]; omega
 have hw2 : IntKind.i64.wrap ((m.number : Int) - ((E.taken : Int) + 1)) = (m.number : Int) - ((E.taken : Int) + 1) := by rw [IntKind.wrap_i64]; omega
 have HK : Hid (E.keep window m = if m.number < E.taken + 1 ∨ E.taken + 1 + window ≤ m.number ∨ m.number ∈ E.kept.map IMsg.number then E else { E with kept := E.kept ++ [m] }) := rfl
 obtain ⟨kb, e7, hkp, HPUT⟩ : ∃ kb, (w.alloc (Obj.cells #[Value.int IntKind.i64 m.number, Value.int IntKind.i64 m.ctx, Value.int IntKind.i64 m.op.client, Value.int IntKind.i64 m.op.verb, Value.int IntKind.i64 m.op.place, Value.int IntKind.u8 m.op.letter] 139)).cell? ⟨b, 7, none⟩ = some (.map (some kb)) ∧ KeptX own1 (rid, k, 6) (w.alloc (Obj.cells #[Value.int IntKind.i64 m.number, Value.int IntKind.i64 m.ctx, Value.int IntKind.i64 m.op.client, Value.int IntKind.i64 m.op.verb, Value.int IntKind.i64 m.op.place, Value.int IntKind.u8 m.op.letter] 139)) kb E.kept ∧
   Hid (∀ w2 o, Upd own1 own1 (fun _ => False) (w.alloc (Obj.cells #[Value.int IntKind.i64 m.number, Value.int IntKind.i64 m.ctx, Value.int IntKind.i64 m.op.client, Value.int IntKind.i64 m.op.verb, Value.int IntKind.i64 m.op.place, Value.int IntKind.u8 m.op.letter] 139)) w2 → KeptX own1 (rid, k, 6) (ChangeMaps.setBlock w2 kb o) kb (E.kept ++ [m]) → EndX own1 rid k (ChangeMaps.setBlock w2 kb o) b tb window { E with kept := E.kept ++ [m] } ∧ Upd own own1 (inEnd rid k) w (ChangeMaps.setBlock w2 kb o)) := by
  obtain ⟨wv, ov, kb, fv, hc, hmr, hop, hkp, hfr⟩ := hE1
  refine ⟨kb, by rw [hc.cell]; rfl, hkp, hide fun w2 o U hk2 => ?_⟩
  have hU : Upd own1 own1 (fun t => t = (rid, k, 6)) (w.alloc (Obj.cells #[Value.int IntKind.i64 m.number, Value.int IntKind.i64 m.ctx, Value.int IntKind.i64 m.op.client, Value.int IntKind.i64 m.op.verb, Value.int IntKind.i64 m.op.place, Value.int IntKind.u8 m.op.letter] 139)) (ChangeMaps.setBlock w2 kb o) := Upd.setBlock (may := fun t => t = (rid, k, 6)) (U.mono fun _ h => h.elim) (b := kb) hkp.1 o
  exact ⟨⟨wv, ov, kb, fv, hc.upd hU (by simp), hmr.upd hU (by simp), hop.upd hU (by simp), hk2, hfr.upd hU (by simp)⟩, ((unhide HV).mono fun _ h => h.elim).trans (hU.mono (by rintro t rfl; exact inEnd.mk _ _ (by decide) (by decide)))⟩
 have HE1 := hide hE1
 have KS : Hid (∀ o, ((w.alloc (Obj.cells #[Value.int IntKind.i64 m.number, Value.int IntKind.i64 m.ctx, Value.int IntKind.i64 m.op.client, Value.int IntKind.i64 m.op.verb, Value.int IntKind.i64 m.op.place, Value.int IntKind.u8 m.op.letter] 139)).alloc o).cell? ⟨b, 7, none⟩ = some (.map (some kb)) ∧ ((w.alloc (Obj.cells #[Value.int IntKind.i64 m.number, Value.int IntKind.i64 m.ctx, Value.int IntKind.i64 m.op.client, Value.int IntKind.i64 m.op.verb, Value.int IntKind.i64 m.op.place, Value.int IntKind.u8 m.op.letter] 139)).alloc o).cell? ⟨w.heap.size, 0, none⟩ = some (.int .i64 m.number)) := hide fun o => ⟨(World.cell?_alloc_lt _ _ _ (World.block_lt_of_cell? _ _ e7)).trans e7, (World.cell?_alloc_lt _ _ _ (World.block_lt_of_cell? _ _ m0)).trans m0⟩
 by_cases c1 : m.number < E.taken + 1
 ·have c1' : (m.number : Int) - ((E.taken : Int) + 1) < 0 := by omega
  have hc1' : (m.number : Int) < (E.taken : Int) + 1 := by omega
  rw [if_pos (.inl c1)] at HK
  clear hE1 CM hkp HPUT
  go_enter Try.func90, Try.ntmps90
  go_wp2_with fail
  go_region
  all_goals
   go_wp2_with fail
   exact bodyPost_ret (results_none rfl _ _ _) rfl ⟨rfl, own1, by rw [HK.out]; exact (unhide HE1).upd ((Upd.refl own1 (fun _ => False) _).drew) (fun _ _ _ h => h), ((unhide HV).mono fun _ h => h.elim).drew⟩
 have c1' : ¬ (m.number : Int) - ((E.taken : Int) + 1) < 0 := by omega
 have hc1' : ¬ (m.number : Int) < (E.taken : Int) + 1 := by omega
 by_cases c2 : E.taken + 1 + window ≤ m.number
 ·have c2' : (window : Int) ≤ (m.number : Int) - ((E.taken : Int) + 1) := by omega
  rw [if_pos (.inr (.inl c2))] at HK
  clear hE1 CM hkp HPUT
  go_enter Try.func90, Try.ntmps90
  go_wp2_with fail
  go_region
  all_goals
   go_wp2_with fail
   exact bodyPost_ret (results_none rfl _ _ _) rfl ⟨rfl, own1, by rw [HK.out]; exact (unhide HE1).upd ((Upd.refl own1 (fun _ => False) _).drew) (fun _ _ _ h => h), ((unhide HV).mono fun _ h => h.elim).drew⟩
 have c2' : ¬ (window : Int) ≤ (m.number : Int) - ((E.taken : Int) + 1) := by omega
 by_cases c3 : m.number ∈ E.kept.map IMsg.number
 ·rw [if_pos (.inr (.inr c3))] at HK
  have hex : ∃ q ∈ E.kept, q.number = m.number := by obtain ⟨q, hq, he⟩ := List.mem_map.1 c3; exact ⟨q, hq, he⟩
  have U0 : Upd own1 own1 (fun _ => False) (w.alloc (Obj.cells #[Value.int IntKind.i64 m.number, Value.int IntKind.i64 m.ctx, Value.int IntKind.i64 m.op.client, Value.int IntKind.i64 m.op.verb, Value.int IntKind.i64 m.op.place, Value.int IntKind.u8 m.op.letter] 139)) (w.alloc (Obj.cells #[Value.int IntKind.i64 m.number, Value.int IntKind.i64 m.ctx, Value.int IntKind.i64 m.op.client, Value.int IntKind.i64 m.op.verb, Value.int IntKind.i64 m.op.place, Value.int IntKind.u8 m.op.letter] 139)).drew.drew := ((Upd.refl own1 (fun _ => False) _).drew).drew
  have U1 : Upd own1 own1 (fun _ => False) (w.alloc (Obj.cells #[Value.int IntKind.i64 m.number, Value.int IntKind.i64 m.ctx, Value.int IntKind.i64 m.op.client, Value.int IntKind.i64 m.op.verb, Value.int IntKind.i64 m.op.place, Value.int IntKind.u8 m.op.letter] 139)) ((w.alloc (Obj.cells #[Value.int IntKind.i64 m.number, Value.int IntKind.i64 m.ctx, Value.int IntKind.i64 m.op.client, Value.int IntKind.i64 m.op.verb, Value.int IntKind.i64 m.op.place, Value.int IntKind.u8 m.op.letter] 139)).alloc (Obj.cells #[Value.int IntKind.i64 0, Value.int IntKind.i64 0, Value.int IntKind.i64 0, Value.int IntKind.i64 0, Value.int IntKind.i64 0, Value.int IntKind.u8 0] 139)).drew.drew := (((Upd.refl own1 (fun _ => False) _).alloc _).drew).drew
  obtain ⟨q0, _, _, hlk0⟩ := (hkp.upd U0 (fun h => h)).yes hex
  obtain ⟨q1, _, _, hlk1⟩ := (hkp.upd U1 (fun h => h)).yes hex
  clear hE1 CM hkp HPUT c3 U0 U1 hex
  go_enter Try.func90, Try.ntmps90
  go_wp2_with fail
  go_region
  all_goals
   go_wp2_with fail
   go_region_held3 (fun w' => w'.cell? ⟨b, 7, none⟩ = some (.map (some kb)) ∧ w'.cell? ⟨w.heap.size, 0, none⟩ = some (.int .i64 m.number)) (first | exact ⟨e7, m0⟩ | exact unhide KS _) (fail)
   all_goals
    go_wp2_with fail
    go_end0
    exact ⟨rfl, own1, by rw [HK.out]; exact (unhide HE1).upd ((((Upd.refl own1 (fun _ => False) _).alloc _).drew).drew) (fun _ _ _ h => h), ((((unhide HV).mono fun _ h => h.elim).alloc _).drew).drew⟩
 ·have hno : ∀ q ∈ E.kept, q.number ≠ m.number := fun q hq he => c3 (List.mem_map.2 ⟨q, hq, he⟩)
  rw [if_neg (by rintro (h | h | h) <;> contradiction)] at HK
  have U0 : Upd own1 own1 (fun _ => False) (w.alloc (Obj.cells #[Value.int IntKind.i64 m.number, Value.int IntKind.i64 m.ctx, Value.int IntKind.i64 m.op.client, Value.int IntKind.i64 m.op.verb, Value.int IntKind.i64 m.op.place, Value.int IntKind.u8 m.op.letter] 139)) (w.alloc (Obj.cells #[Value.int IntKind.i64 m.number, Value.int IntKind.i64 m.ctx, Value.int IntKind.i64 m.op.client, Value.int IntKind.i64 m.op.verb, Value.int IntKind.i64 m.op.place, Value.int IntKind.u8 m.op.letter] 139)).drew.drew := ((Upd.refl own1 (fun _ => False) _).drew).drew
  have U1 : Upd own1 own1 (fun _ => False) (w.alloc (Obj.cells #[Value.int IntKind.i64 m.number, Value.int IntKind.i64 m.ctx, Value.int IntKind.i64 m.op.client, Value.int IntKind.i64 m.op.verb, Value.int IntKind.i64 m.op.place, Value.int IntKind.u8 m.op.letter] 139)) ((w.alloc (Obj.cells #[Value.int IntKind.i64 m.number, Value.int IntKind.i64 m.ctx, Value.int IntKind.i64 m.op.client, Value.int IntKind.i64 m.op.verb, Value.int IntKind.i64 m.op.place, Value.int IntKind.u8 m.op.letter] 139)).alloc (Obj.cells #[Value.int IntKind.i64 0, Value.int IntKind.i64 0, Value.int IntKind.i64 0, Value.int IntKind.i64 0, Value.int IntKind.i64 0, Value.int IntKind.u8 0] 139)).drew.drew := (((Upd.refl own1 (fun _ => False) _).alloc _).drew).drew
  have U2 : Upd own1 own1 (fun _ => False) (w.alloc (Obj.cells #[Value.int IntKind.i64 m.number, Value.int IntKind.i64 m.ctx, Value.int IntKind.i64 m.op.client, Value.int IntKind.i64 m.op.verb, Value.int IntKind.i64 m.op.place, Value.int IntKind.u8 m.op.letter] 139)) ((w.alloc (Obj.cells #[Value.int IntKind.i64 m.number, Value.int IntKind.i64 m.ctx, Value.int IntKind.i64 m.op.client, Value.int IntKind.i64 m.op.verb, Value.int IntKind.i64 m.op.place, Value.int IntKind.u8 m.op.letter] 139)).alloc (Obj.cells #[Value.int IntKind.i64 0, Value.int IntKind.i64 0, Value.int IntKind.i64 0, Value.int IntKind.i64 0, Value.int IntKind.i64 0, Value.int IntKind.u8 0] 139)).drew.drew.drew := ((((Upd.refl own1 (fun _ => False) _).alloc _).drew).drew).drew
  have hlk0 := (hkp.upd U0 (fun h => h)).no (x := m.number) hno
  have hlk1 := (hkp.upd U1 (fun h => h)).no (x := m.number) hno
  obtain ⟨ob, hup, hk2⟩ := (hkp.upd U2 (fun h => h)).put m hno
  have HF := hide (unhide HPUT _ ob U2 hk2)
  have n7 : ((w.alloc (Obj.cells #[Value.int IntKind.i64 m.number, Value.int IntKind.i64 m.ctx, Value.int IntKind.i64 m.op.client, Value.int IntKind.i64 m.op.verb, Value.int IntKind.i64 m.op.place, Value.int IntKind.u8 m.op.letter] 139)).alloc (Obj.cells #[Value.int IntKind.i64 0, Value.int IntKind.i64 0, Value.int IntKind.i64 0, Value.int IntKind.i64 0, Value.int IntKind.i64 0, Value.int IntKind.u8 0] 139)).cell? ⟨b, 7, none⟩ = some (.map (some kb)) := (unhide KS _).1
  have CM2 := CM.upd U2 (fun h => h)
  have n0 := CM2.cell 0
  have n1 := CM2.cell 1
  have n2 := CM2.cell 2
  have n3 := CM2.cell 3
  have n4 := CM2.cell 4
  have n5 := CM2.cell 5
  simp only [List.getElem?_toArray, List.getElem?_cons_zero, List.getElem?_cons_succ] at n0 n1 n2 n3 n4 n5
  have HS4 : Hid (((w.alloc (Obj.cells #[Value.int IntKind.i64 m.number, Value.int IntKind.i64 m.ctx, Value.int IntKind.i64 m.op.client, Value.int IntKind.i64 m.op.verb, Value.int IntKind.i64 m.op.place, Value.int IntKind.u8 m.op.letter] 139)).alloc (Obj.cells #[Value.int IntKind.i64 0, Value.int IntKind.i64 0, Value.int IntKind.i64 0, Value.int IntKind.i64 0, Value.int IntKind.i64 0, Value.int IntKind.u8 0] 139)).drew.drew.drew.cell? ⟨b, 7, none⟩ = some (.map (some kb)) ∧ ((w.alloc (Obj.cells #[Value.int IntKind.i64 m.number, Value.int IntKind.i64 m.ctx, Value.int IntKind.i64 m.op.client, Value.int IntKind.i64 m.op.verb, Value.int IntKind.i64 m.op.place, Value.int IntKind.u8 m.op.letter] 139)).alloc (Obj.cells #[Value.int IntKind.i64 0, Value.int IntKind.i64 0, Value.int IntKind.i64 0, Value.int IntKind.i64 0, Value.int IntKind.i64 0, Value.int IntKind.u8 0] 139)).drew.drew.drew.cell? ⟨w.heap.size, 0, none⟩ = some (.int .i64 m.number) ∧ ((w.alloc (Obj.cells #[Value.int IntKind.i64 m.number, Value.int IntKind.i64 m.ctx, Value.int IntKind.i64 m.op.client, Value.int IntKind.i64 m.op.verb, Value.int IntKind.i64 m.op.place, Value.int IntKind.u8 m.op.letter] 139)).alloc (Obj.cells #[Value.int IntKind.i64 0, Value.int IntKind.i64 0, Value.int IntKind.i64 0, Value.int IntKind.i64 0, Value.int IntKind.i64 0, Value.int IntKind.u8 0] 139)).drew.drew.drew.cell? ⟨w.heap.size, 1, none⟩ = some (.int .i64 m.ctx) ∧ ((w.alloc (Obj.cells #[Value.int IntKind.i64 m.number, Value.int IntKind.i64 m.ctx, Value.int IntKind.i64 m.op.client, Value.int IntKind.i64 m.op.verb, Value.int IntKind.i64 m.op.place, Value.int IntKind.u8 m.op.letter] 139)).alloc (Obj.cells #[Value.int IntKind.i64 0, Value.int IntKind.i64 0, Value.int IntKind.i64 0, Value.int IntKind.i64 0, Value.int IntKind.i64 0, Value.int IntKind.u8 0] 139)).drew.drew.drew.cell? ⟨w.heap.size, 2, none⟩ = some (.int .i64 m.op.client) ∧ ((w.alloc (Obj.cells #[Value.int IntKind.i64 m.number, Value.int IntKind.i64 m.ctx, Value.int IntKind.i64 m.op.client, Value.int IntKind.i64 m.op.verb, Value.int IntKind.i64 m.op.place, Value.int IntKind.u8 m.op.letter] 139)).alloc (Obj.cells #[Value.int IntKind.i64 0, Value.int IntKind.i64 0, Value.int IntKind.i64 0, Value.int IntKind.i64 0, Value.int IntKind.i64 0, Value.int IntKind.u8 0] 139)).drew.drew.drew.cell? ⟨w.heap.size, 3, none⟩ = some (.int .i64 m.op.verb) ∧ ((w.alloc (Obj.cells #[Value.int IntKind.i64 m.number, Value.int IntKind.i64 m.ctx, Value.int IntKind.i64 m.op.client, Value.int IntKind.i64 m.op.verb, Value.int IntKind.i64 m.op.place, Value.int IntKind.u8 m.op.letter] 139)).alloc (Obj.cells #[Value.int IntKind.i64 0, Value.int IntKind.i64 0, Value.int IntKind.i64 0, Value.int IntKind.i64 0, Value.int IntKind.i64 0, Value.int IntKind.u8 0] 139)).drew.drew.drew.cell? ⟨w.heap.size, 4, none⟩ = some (.int .i64 m.op.place) ∧ ((w.alloc (Obj.cells #[Value.int IntKind.i64 m.number, Value.int IntKind.i64 m.ctx, Value.int IntKind.i64 m.op.client, Value.int IntKind.i64 m.op.verb, Value.int IntKind.i64 m.op.place, Value.int IntKind.u8 m.op.letter] 139)).alloc (Obj.cells #[Value.int IntKind.i64 0, Value.int IntKind.i64 0, Value.int IntKind.i64 0, Value.int IntKind.i64 0, Value.int IntKind.i64 0, Value.int IntKind.u8 0] 139)).drew.drew.drew.cell? ⟨w.heap.size, 5, none⟩ = some (.int .u8 m.op.letter)) := hide ⟨n7, n0, n1, n2, n3, n4, n5⟩
  unfold IMsg.cells at hup
  clear hE1 CM hkp HPUT c3 U0 U1 U2 hno hk2 CM2 n0 n1 n2 n3 n4 n5 n7
  go_enter Try.func90, Try.ntmps90
  go_wp2_with fail
  go_region
  all_goals
   go_wp2_with fail
   go_region_held3 (fun w' => w'.cell? ⟨b, 7, none⟩ = some (.map (some kb)) ∧ w'.cell? ⟨w.heap.size, 0, none⟩ = some (.int .i64 m.number)) (first | exact ⟨e7, m0⟩ | exact unhide KS _) (fail)
   all_goals
    go_wp2_with fail
    obtain ⟨n7, n0, n1, n2, n3, n4, n5⟩ := unhide HS4
    go_region
    all_goals
     go_wp2_with fail
     go_end0
     exact ⟨rfl, own1, by rw [HK.out]; exact (unhide HF).1, (unhide HF).2⟩
end Go.Proofs.Ytemkgikncmhoaaa

namespace Go.Proofs.Ytemkgikncmhoaaa
open Go.RowKit
attribute [local go_sem ↓] Go.wp_at_zero Go.wp_at_succ

set_option maxRecDepth 100000 in
set_option maxHeartbeats 1600000 in
theorem xRtake_0 (A : RAddr) (own : Nat → Tag) (rid b : Nat) (X : IRoom) (i : Nat) (m : IMsg) (t : List UInt8) (E S : IEnd) (w : World) (h : RoomF A own rid w b X) (ht : X.texts[i]? = some t) (hE : X.ends[i]? = some E) (hS : X.sends[i]? = some S) (h1 : E.seen ≤ m.ctx) (h2 : m.ctx - E.seen ≤ E.opn.length) (hmn : m.op.Norm) (hmp : m.op.place ≤ 1000) (hbs : ∀ x ∈ E.opn, x.Norm ∧ x.place ≤ 1000 ∧ m.op.client ≠ x.client)
  (hol : E.opn.length ≤ 1000) (hon : (E.taking m).1.Norm) (hof : (E.taking m).1.fits t.length) (htl : t.length ≤ 900) :
  Calls Try.prog 101 #[.pointer (some ⟨b, 0, none⟩), .agg #[.int .i64 i, .bool false], .agg m.cells.toArray] w fun e w' => e = .returned (.tuple #[]) ∧ ∃ own', RoomF A own' rid w' b (X.setA i ((E.taking m).1.does t) (E.take m)) ∧ Upd own own' (inRoom rid) w w' := by
 have V : Upd own (retag (retag own w.heap.size (rid + 1, 0, 5)) (w.heap.size + 1) (rid + 1, 0, 6)) (fun _ => False) w ((w.alloc (Obj.cells #[Value.int IntKind.i64 i, Value.bool false] 80)).alloc (Obj.cells #[Value.int IntKind.i64 m.number, Value.int IntKind.i64 m.ctx, Value.int IntKind.i64 m.op.client, Value.int IntKind.i64 m.op.verb, Value.int IntKind.i64 m.op.place, Value.int IntKind.u8 m.op.letter] 139)) := Upd.retag (Upd.retag (((Upd.refl own (fun _ => False) w).alloc _).alloc _) _ _ (Nat.le_refl _)) _ _ (by omega)
 have CA : CellsT (retag (retag own w.heap.size (rid + 1, 0, 5)) (w.heap.size + 1) (rid + 1, 0, 6)) (rid + 1, 0, 5) ((w.alloc (Obj.cells #[Value.int IntKind.i64 i, Value.bool false] 80)).alloc (Obj.cells #[Value.int IntKind.i64 m.number, Value.int IntKind.i64 m.ctx, Value.int IntKind.i64 m.op.client, Value.int IntKind.i64 m.op.verb, Value.int IntKind.i64 m.op.place, Value.int IntKind.u8 m.op.letter] 139)) w.heap.size #[Value.int IntKind.i64 i, Value.bool false] 80 := ⟨(Below.heap_alloc _ _ _ (by simp)).trans (heap_alloc_new w _), by rw [retag_lt (by omega)]; exact retag_ge (Nat.le_refl _)⟩
 have CM : CellsT (retag (retag own w.heap.size (rid + 1, 0, 5)) (w.heap.size + 1) (rid + 1, 0, 6)) (rid + 1, 0, 6) ((w.alloc (Obj.cells #[Value.int IntKind.i64 i, Value.bool false] 80)).alloc (Obj.cells #[Value.int IntKind.i64 m.number, Value.int IntKind.i64 m.ctx, Value.int IntKind.i64 m.op.client, Value.int IntKind.i64 m.op.verb, Value.int IntKind.i64 m.op.place, Value.int IntKind.u8 m.op.letter] 139)) (w.heap.size + 1) #[Value.int IntKind.i64 m.number, Value.int IntKind.i64 m.ctx, Value.int IntKind.i64 m.op.client, Value.int IntKind.i64 m.op.verb, Value.int IntKind.i64 m.op.place, Value.int IntKind.u8 m.op.letter] 139 := ⟨heap_alloc_two _ _ _, retag_ge (Nat.le_refl _)⟩
 have hR1 := h.upd V (fun _ _ h => h)
 unfold IMsg.cells
 go_enter Try.func101, Try.ntmps101
 go_wp2_with fail
 have HV := hide V
 clear h V
 generalize ((w.alloc (Obj.cells #[Value.int IntKind.i64 i, Value.bool false] 80)).alloc (Obj.cells #[Value.int IntKind.i64 m.number, Value.int IntKind.i64 m.ctx, Value.int IntKind.i64 m.op.client, Value.int IntKind.i64 m.op.verb, Value.int IntKind.i64 m.op.place, Value.int IntKind.u8 m.op.letter] 139)) = W at *
 generalize (retag (retag own w.heap.size (rid + 1, 0, 5)) (w.heap.size + 1) (rid + 1, 0, 6)) = own1 at *
 generalize w.heap.size = N at *
 obtain ⟨o, HO⟩ : ∃ o, Hid (o = (E.taking m).1) := ⟨_, rfl⟩
 rw [← HO.out] at hon hof
 have hi4 : i < 4 := by have := RoomXAt.le4 hR1; have := (List.getElem?_eq_some_iff.1 ht).1; omega
 obtain ⟨mb, eb, sb, tbi, tb, O⟩ := hR1.opened ht hE hS
 have KS : Hid (∀ W' : World, (∀ q, q < W.heap.size → W'.heap[q]? = W.heap[q]?) → W'.cell? ⟨b, 1, none⟩ = some (.map (some mb)) ∧ W'.cell? ⟨N, 0, none⟩ = some (.int .i64 i) ∧ W'.cell? ⟨N, 1, none⟩ = some (.bool false) ∧ W'.cell? ⟨N + 1, 0, none⟩ = some (.int .i64 m.number) ∧ W'.cell? ⟨N + 1, 1, none⟩ = some (.int .i64 m.ctx) ∧ W'.cell? ⟨N + 1, 2, none⟩ = some (.int .i64 m.op.client) ∧ W'.cell? ⟨N + 1, 3, none⟩ = some (.int .i64 m.op.verb) ∧ W'.cell? ⟨N + 1, 4, none⟩ = some (.int .i64 m.op.place) ∧ W'.cell? ⟨N + 1, 5, none⟩ = some (.int .u8 m.op.letter)) := by
  apply hide
  intro W' hf'
  have e1 : ∀ {p : Addr} {u : Value}, W.cell? p = some u → W'.cell? p = some u := fun {p u} hu => (World.cell?_of_block (hf' p.block (World.block_lt_of_cell? W p hu))).trans hu
  exact ⟨e1 O.c1, e1 (CA.cell 0), e1 (CA.cell 1), e1 (CM.cell 0), e1 (CM.cell 1), e1 (CM.cell 2), e1 (CM.cell 3), e1 (CM.cell 4), e1 (CM.cell 5)⟩
 have POST : Hid (∀ (W' : World) (own1' : Nat → Tag), Upd own1 own1' (fun _ => False) W W' → Calls Try.prog 106 #[.pointer (some ⟨eb, 0, none⟩), .agg #[Value.int IntKind.i64 m.number, Value.int IntKind.i64 m.ctx, Value.int IntKind.i64 m.op.client, Value.int IntKind.i64 m.op.verb, Value.int IntKind.i64 m.op.place, Value.int IntKind.u8 m.op.letter]] W' fun e w2 => e = .returned (.agg #[Value.int IntKind.i64 o.client, Value.int IntKind.i64 o.verb, Value.int IntKind.i64 o.place, Value.int IntKind.u8 o.letter]) ∧ (w2.cell? ⟨b, 1, none⟩ = some (.map (some mb)) ∧ w2.cell? ⟨N, 0, none⟩ = some (.int .i64 i) ∧ w2.cell? ⟨N, 1, none⟩ = some (.bool false) ∧ w2.cell? ⟨N + 1, 0, none⟩ = some (.int .i64 m.number) ∧ w2.cell? ⟨N + 1, 1, none⟩ = some (.int .i64 m.ctx) ∧ w2.cell? ⟨N + 1, 2, none⟩ = some (.int .i64 m.op.client) ∧ w2.cell? ⟨N + 1, 3, none⟩ = some (.int .i64 m.op.verb) ∧ w2.cell? ⟨N + 1, 4, none⟩ = some (.int .i64 m.op.place) ∧ w2.cell? ⟨N + 1, 5, none⟩ = some (.int .u8 m.op.letter)) ∧ ∃ own2, RoomF A own2 rid w2 b (X.setA i (o.does t) (E.take m)) ∧ Upd own own2 (inRoom rid) w w2 ∧ (∀ q, q < W'.heap.size → own1' q = (rid + 1, 0, 7) → w2.heap[q]? = W'.heap[q]? ∧ own2 q = (rid + 1, 0, 7)) ∧ W.heap.size ≤ w2.heap.size) := by
  apply hide
  intro W' own1' U
  have hh := xtake own1' rid (2 * i) (2 * i) eb tbi X.window E m t W' (O.hE.upd U (fun _ _ _ h => h)) (O.hT.upd U (fun h => h) (fun h => h)) h1 h2 hmn hmp hbs hol (by rw [← HO.out]; exact hon) (by rw [← HO.out]; exact hof) htl
  rw [← HO.out] at hh
  unfold IMsg.cells ROp.val at hh
  refine hh.mono ?_
  rintro e w2 ⟨rfl, own2, hE2, hT2, hU2'⟩
  have hU2 := (U.mono (may' := fun x => inEnd rid (2 * i) x ∨ inText rid (2 * i) x) (fun _ h => h.elim)).trans hU2'
  have CA2 := CA.upd hU2 (by rintro (h | h); exact absurd h.1 (by simp); rcases h with h | h <;> simp at h)
  have CM2 := CM.upd hU2 (by rintro (h | h); exact absurd h.1 (by simp); rcases h with h | h <;> simp at h)
  have hR2 : RoomF A own2 rid w2 b (X.setA i (o.does t) (E.take m)) := by
   refine O.putA own2 w2 _ _ (hU2.mono ?_) hE2 hT2
   rintro x (hx | hx); exact hx.client; exact hx.client
  have hb1 : w2.cell? ⟨b, 1, none⟩ = some (.map (some mb)) := hU2.cell O.c1 (by rw [O.bt]; rintro (h | h); exact absurd h.2.1 (by simp; omega); rcases h with h | h <;> (simp at h))
  refine ⟨rfl, ⟨hb1, CA2.cell 0, CA2.cell 1, CM2.cell 0, CM2.cell 1, CM2.cell 2, CM2.cell 3, CM2.cell 4, CM2.cell 5⟩, own2, hR2, ((unhide HV).mono fun _ h => h.elim).trans (hU2.mono (by rintro x (hx | hx); exact hx.1; rcases hx with rfl | rfl <;> rfl)), fun q hq ht => ⟨hU2'.block q hq (by rw [ht]; rintro (h | h); exact absurd h.1 (by simp); rcases h with h | h <;> simp at h), (hU2'.tags q hq).trans ht⟩, hU2.size⟩
 have HW : Hid (w.heap.size ≤ W.heap.size) := hide (unhide HV).size
 have HT0 : Hid (Calls Try.prog 106 #[.pointer (some ⟨eb, 0, none⟩), .agg #[Value.int IntKind.i64 m.number, Value.int IntKind.i64 m.ctx, Value.int IntKind.i64 m.op.client, Value.int IntKind.i64 m.op.verb, Value.int IntKind.i64 m.op.place, Value.int IntKind.u8 m.op.letter]] W.drew fun e w2 => e = .returned (.agg #[Value.int IntKind.i64 o.client, Value.int IntKind.i64 o.verb, Value.int IntKind.i64 o.place, Value.int IntKind.u8 o.letter]) ∧ Hid (w2.cell? ⟨b, 1, none⟩ = some (.map (some mb)) ∧ w2.cell? ⟨N, 0, none⟩ = some (.int .i64 i) ∧ w2.cell? ⟨N, 1, none⟩ = some (.bool false) ∧ w2.cell? ⟨N + 1, 0, none⟩ = some (.int .i64 m.number) ∧ w2.cell? ⟨N + 1, 1, none⟩ = some (.int .i64 m.ctx) ∧ w2.cell? ⟨N + 1, 2, none⟩ = some (.int .i64 m.op.client) ∧ w2.cell? ⟨N + 1, 3, none⟩ = some (.int .i64 m.op.verb) ∧ w2.cell? ⟨N + 1, 4, none⟩ = some (.int .i64 m.op.place) ∧ w2.cell? ⟨N + 1, 5, none⟩ = some (.int .u8 m.op.letter)) ∧ Hid (∀ x, (w2.alloc x).cell? ⟨b, 1, none⟩ = some (.map (some mb)) ∧ (w2.alloc x).cell? ⟨N, 0, none⟩ = some (.int .i64 i) ∧ (w2.alloc x).cell? ⟨N, 1, none⟩ = some (.bool false) ∧ (w2.alloc x).cell? ⟨N + 1, 0, none⟩ = some (.int .i64 m.number) ∧ (w2.alloc x).cell? ⟨N + 1, 1, none⟩ = some (.int .i64 m.ctx) ∧ (w2.alloc x).cell? ⟨N + 1, 2, none⟩ = some (.int .i64 m.op.client) ∧ (w2.alloc x).cell? ⟨N + 1, 3, none⟩ = some (.int .i64 m.op.verb) ∧ (w2.alloc x).cell? ⟨N + 1, 4, none⟩ = some (.int .i64 m.op.place) ∧ (w2.alloc x).cell? ⟨N + 1, 5, none⟩ = some (.int .u8 m.op.letter)) ∧ Hid (∃ own3, RoomF A own3 rid (w2.alloc (Obj.cells #[Value.int IntKind.i64 o.client, Value.int IntKind.i64 o.verb, Value.int IntKind.i64 o.place, Value.int IntKind.u8 o.letter] 94)) b (X.setA i (o.does t) (E.take m)) ∧ Upd own own3 (inRoom rid) w (w2.alloc (Obj.cells #[Value.int IntKind.i64 o.client, Value.int IntKind.i64 o.verb, Value.int IntKind.i64 o.place, Value.int IntKind.u8 o.letter] 94)) ∧ CellsT own3 (rid + 1, 0, 7) (w2.alloc (Obj.cells #[Value.int IntKind.i64 o.client, Value.int IntKind.i64 o.verb, Value.int IntKind.i64 o.place, Value.int IntKind.u8 o.letter] 94)) w2.heap.size #[Value.int IntKind.i64 o.client, Value.int IntKind.i64 o.verb, Value.int IntKind.i64 o.place, Value.int IntKind.u8 o.letter] 94)) := by
  apply hide
  refine (unhide POST W.drew own1 ((Upd.refl own1 _ W).drew)).mono ?_
  rintro e w2 ⟨rfl, hs, own2, hR2, hU2, _, hsz⟩
  refine ⟨rfl, hide hs, hide fun x => ?_, hide ⟨retag own2 w2.heap.size (rid + 1, 0, 7), ?_, ?_, CellsT.new _ _ _ _ _⟩⟩
  ·have e1 : ∀ {p : Addr} {u : Value}, w2.cell? p = some u → (w2.alloc x).cell? p = some u := fun {p u} hu => (World.cell?_alloc_lt _ _ _ (World.block_lt_of_cell? w2 p hu)).trans hu
   obtain ⟨a0, a1, a2, a3, a4, a5, a6, a7, a8⟩ := hs
   exact ⟨e1 a0, e1 a1, e1 a2, e1 a3, e1 a4, e1 a5, e1 a6, e1 a7, e1 a8⟩
  ·exact hR2.upd (Upd.retag ((Upd.refl own2 (fun _ => False) w2).alloc _) _ _ (Nat.le_refl _)) (fun _ _ h => h)
  ·exact Upd.retag (hU2.alloc _) _ _ (Nat.le_trans (unhide HW) hsz)
 have HT1 : Hid (Calls Try.prog 106 #[.pointer (some ⟨eb, 0, none⟩), .agg #[Value.int IntKind.i64 m.number, Value.int IntKind.i64 m.ctx, Value.int IntKind.i64 m.op.client, Value.int IntKind.i64 m.op.verb, Value.int IntKind.i64 m.op.place, Value.int IntKind.u8 m.op.letter]] (W.alloc (Obj.cells #[Value.int IntKind.i64 0, Value.int IntKind.i64 0, Value.int IntKind.i64 0, Value.int IntKind.u8 0] 94)).drew fun e w2 => e = .returned (.agg #[Value.int IntKind.i64 o.client, Value.int IntKind.i64 o.verb, Value.int IntKind.i64 o.place, Value.int IntKind.u8 o.letter]) ∧ Hid (w2.cell? ⟨b, 1, none⟩ = some (.map (some mb)) ∧ w2.cell? ⟨N, 0, none⟩ = some (.int .i64 i) ∧ w2.cell? ⟨N, 1, none⟩ = some (.bool false) ∧ w2.cell? ⟨N + 1, 0, none⟩ = some (.int .i64 m.number) ∧ w2.cell? ⟨N + 1, 1, none⟩ = some (.int .i64 m.ctx) ∧ w2.cell? ⟨N + 1, 2, none⟩ = some (.int .i64 m.op.client) ∧ w2.cell? ⟨N + 1, 3, none⟩ = some (.int .i64 m.op.verb) ∧ w2.cell? ⟨N + 1, 4, none⟩ = some (.int .i64 m.op.place) ∧ w2.cell? ⟨N + 1, 5, none⟩ = some (.int .u8 m.op.letter)) ∧ Hid (((((w2.setCell ⟨W.heap.size, 0, none⟩ (.int .i64 o.client)).setCell ⟨W.heap.size, 1, none⟩ (.int .i64 o.verb)).setCell ⟨W.heap.size, 2, none⟩ (.int .i64 o.place)).setCell ⟨W.heap.size, 3, none⟩ (.int .u8 o.letter)).cell? ⟨b, 1, none⟩ = some (.map (some mb)) ∧ ((((w2.setCell ⟨W.heap.size, 0, none⟩ (.int .i64 o.client)).setCell ⟨W.heap.size, 1, none⟩ (.int .i64 o.verb)).setCell ⟨W.heap.size, 2, none⟩ (.int .i64 o.place)).setCell ⟨W.heap.size, 3, none⟩ (.int .u8 o.letter)).cell? ⟨N, 0, none⟩ = some (.int .i64 i) ∧ ((((w2.setCell ⟨W.heap.size, 0, none⟩ (.int .i64 o.client)).setCell ⟨W.heap.size, 1, none⟩ (.int .i64 o.verb)).setCell ⟨W.heap.size, 2, none⟩ (.int .i64 o.place)).setCell ⟨W.heap.size, 3, none⟩ (.int .u8 o.letter)).cell? ⟨N, 1, none⟩ = some (.bool false) ∧ ((((w2.setCell ⟨W.heap.size, 0, none⟩ (.int .i64 o.client)).setCell ⟨W.heap.size, 1, none⟩ (.int .i64 o.verb)).setCell ⟨W.heap.size, 2, none⟩ (.int .i64 o.place)).setCell ⟨W.heap.size, 3, none⟩ (.int .u8 o.letter)).cell? ⟨N + 1, 0, none⟩ = some (.int .i64 m.number) ∧ ((((w2.setCell ⟨W.heap.size, 0, none⟩ (.int .i64 o.client)).setCell ⟨W.heap.size, 1, none⟩ (.int .i64 o.verb)).setCell ⟨W.heap.size, 2, none⟩ (.int .i64 o.place)).setCell ⟨W.heap.size, 3, none⟩ (.int .u8 o.letter)).cell? ⟨N + 1, 1, none⟩ = some (.int .i64 m.ctx) ∧ ((((w2.setCell ⟨W.heap.size, 0, none⟩ (.int .i64 o.client)).setCell ⟨W.heap.size, 1, none⟩ (.int .i64 o.verb)).setCell ⟨W.heap.size, 2, none⟩ (.int .i64 o.place)).setCell ⟨W.heap.size, 3, none⟩ (.int .u8 o.letter)).cell? ⟨N + 1, 2, none⟩ = some (.int .i64 m.op.client) ∧ ((((w2.setCell ⟨W.heap.size, 0, none⟩ (.int .i64 o.client)).setCell ⟨W.heap.size, 1, none⟩ (.int .i64 o.verb)).setCell ⟨W.heap.size, 2, none⟩ (.int .i64 o.place)).setCell ⟨W.heap.size, 3, none⟩ (.int .u8 o.letter)).cell? ⟨N + 1, 3, none⟩ = some (.int .i64 m.op.verb) ∧ ((((w2.setCell ⟨W.heap.size, 0, none⟩ (.int .i64 o.client)).setCell ⟨W.heap.size, 1, none⟩ (.int .i64 o.verb)).setCell ⟨W.heap.size, 2, none⟩ (.int .i64 o.place)).setCell ⟨W.heap.size, 3, none⟩ (.int .u8 o.letter)).cell? ⟨N + 1, 4, none⟩ = some (.int .i64 m.op.place) ∧ ((((w2.setCell ⟨W.heap.size, 0, none⟩ (.int .i64 o.client)).setCell ⟨W.heap.size, 1, none⟩ (.int .i64 o.verb)).setCell ⟨W.heap.size, 2, none⟩ (.int .i64 o.place)).setCell ⟨W.heap.size, 3, none⟩ (.int .u8 o.letter)).cell? ⟨N + 1, 5, none⟩ = some (.int .u8 m.op.letter)) ∧ (w2.cell? ⟨W.heap.size, 0, none⟩ = some (.int .i64 0) ∧ w2.cell? ⟨W.heap.size, 1, none⟩ = some (.int .i64 0) ∧ w2.cell? ⟨W.heap.size, 2, none⟩ = some (.int .i64 0) ∧ w2.cell? ⟨W.heap.size, 3, none⟩ = some (.int .u8 0)) ∧ (w2.frozen? ⟨W.heap.size, 0, none⟩ = false ∧ w2.frozen? ⟨W.heap.size, 1, none⟩ = false ∧ w2.frozen? ⟨W.heap.size, 2, none⟩ = false ∧ w2.frozen? ⟨W.heap.size, 3, none⟩ = false) ∧ Hid (∃ own3, RoomF A own3 rid ((((w2.setCell ⟨W.heap.size, 0, none⟩ (.int .i64 o.client)).setCell ⟨W.heap.size, 1, none⟩ (.int .i64 o.verb)).setCell ⟨W.heap.size, 2, none⟩ (.int .i64 o.place)).setCell ⟨W.heap.size, 3, none⟩ (.int .u8 o.letter)) b (X.setA i (o.does t) (E.take m)) ∧ Upd own own3 (inRoom rid) w ((((w2.setCell ⟨W.heap.size, 0, none⟩ (.int .i64 o.client)).setCell ⟨W.heap.size, 1, none⟩ (.int .i64 o.verb)).setCell ⟨W.heap.size, 2, none⟩ (.int .i64 o.place)).setCell ⟨W.heap.size, 3, none⟩ (.int .u8 o.letter)) ∧ CellsT own3 (rid + 1, 0, 7) ((((w2.setCell ⟨W.heap.size, 0, none⟩ (.int .i64 o.client)).setCell ⟨W.heap.size, 1, none⟩ (.int .i64 o.verb)).setCell ⟨W.heap.size, 2, none⟩ (.int .i64 o.place)).setCell ⟨W.heap.size, 3, none⟩ (.int .u8 o.letter)) W.heap.size #[Value.int IntKind.i64 o.client, Value.int IntKind.i64 o.verb, Value.int IntKind.i64 o.place, Value.int IntKind.u8 o.letter] 94)) := by
  apply hide
  have U1 : Upd own1 (retag own1 W.heap.size (rid + 1, 0, 7)) (fun _ => False) W (W.alloc (Obj.cells #[Value.int IntKind.i64 0, Value.int IntKind.i64 0, Value.int IntKind.i64 0, Value.int IntKind.u8 0] 94)).drew := Upd.retag (((Upd.refl own1 _ W).alloc _).drew) _ _ (Nat.le_refl _)
  refine (unhide POST _ _ U1).mono ?_
  rintro e w2 ⟨rfl, hs, own2, hR2, hU2, hq, hsz⟩
  obtain ⟨q1, q2⟩ := hq W.heap.size (by show _ < (W.alloc _).heap.size; simp) (retag_ge (Nat.le_refl _))
  have c0 : CellsT own2 (rid + 1, 0, 7) w2 W.heap.size #[Value.int IntKind.i64 0, Value.int IntKind.i64 0, Value.int IntKind.i64 0, Value.int IntKind.u8 0] 94 := ⟨q1.trans (heap_alloc_new W _), q2⟩
  have U4 : Upd own2 own2 (fun t => t = (rid + 1, 0, 7)) w2 ((((w2.setCell ⟨W.heap.size, 0, none⟩ (.int .i64 o.client)).setCell ⟨W.heap.size, 1, none⟩ (.int .i64 o.verb)).setCell ⟨W.heap.size, 2, none⟩ (.int .i64 o.place)).setCell ⟨W.heap.size, 3, none⟩ (.int .u8 o.letter)) := Upd.setCell (p := ⟨W.heap.size, 3, none⟩) (Upd.setCell (p := ⟨W.heap.size, 2, none⟩) (Upd.setCell (p := ⟨W.heap.size, 1, none⟩) (Upd.setCell (p := ⟨W.heap.size, 0, none⟩) (Upd.refl own2 _ w2) q2 _) q2 _) q2 _) q2 _
  refine ⟨rfl, hide hs, hide ?_, ⟨c0.cell 0, c0.cell 1, c0.cell 2, c0.cell 3⟩, ⟨c0.frozen 0, c0.frozen 1, c0.frozen 2, c0.frozen 3⟩, hide ⟨own2, hR2.upd U4 (by intro a b; simp), ?_, (((c0.set 0 _).set 1 _).set 2 _).set 3 _⟩⟩
  ·have e1 : ∀ {p : Addr} {u : Value}, p.block < W.heap.size → w2.cell? p = some u → ((((w2.setCell ⟨W.heap.size, 0, none⟩ (.int .i64 o.client)).setCell ⟨W.heap.size, 1, none⟩ (.int .i64 o.verb)).setCell ⟨W.heap.size, 2, none⟩ (.int .i64 o.place)).setCell ⟨W.heap.size, 3, none⟩ (.int .u8 o.letter)).cell? p = some u := fun {p u} hp hu => by
    refine (World.cell?_of_block ?_).trans hu
    rw [Below.heap_setCell _ _ _ _ (by show p.block ≠ W.heap.size; omega), Below.heap_setCell _ _ _ _ (by show p.block ≠ W.heap.size; omega), Below.heap_setCell _ _ _ _ (by show p.block ≠ W.heap.size; omega), Below.heap_setCell _ _ _ _ (by show p.block ≠ W.heap.size; omega)]
   obtain ⟨a0, a1, a2, a3, a4, a5, a6, a7, a8⟩ := hs
   have l0 := World.block_lt_of_cell? W _ O.c1
   have l1 := CA.lt
   have l2 := CM.lt
   exact ⟨e1 l0 a0, e1 l1 a1, e1 l1 a2, e1 l2 a3, e1 l2 a4, e1 l2 a5, e1 l2 a6, e1 l2 a7, e1 l2 a8⟩
  ·have hp := unhide HW
   exact Upd.setNew (p := ⟨W.heap.size, 3, none⟩) (Upd.setNew (p := ⟨W.heap.size, 2, none⟩) (Upd.setNew (p := ⟨W.heap.size, 1, none⟩) (Upd.setNew (p := ⟨W.heap.size, 0, none⟩) hU2 hp _) hp _) hp _) hp _
 have lk := O.lk0w
 have lkA : (Instr.lookup 74 (.map (some mb)) (.agg #[.int .i64 i, .bool false]) false).run Try.prog W.drew = .ok (.pointer (some ⟨eb, 0, none⟩)) W.drew := lk _ rfl
 have lkB : (Instr.lookup 74 (.map (some mb)) (.agg #[.int .i64 i, .bool false]) false).run Try.prog (W.alloc (Obj.cells #[Value.int IntKind.i64 0, Value.int IntKind.i64 0, Value.int IntKind.i64 0, Value.int IntKind.u8 0] 94)).drew = .ok (.pointer (some ⟨eb, 0, none⟩)) (W.alloc (Obj.cells #[Value.int IntKind.i64 0, Value.int IntKind.i64 0, Value.int IntKind.i64 0, Value.int IntKind.u8 0] 94)).drew := lk _ (Below.heap_alloc _ _ _ O.mbl)
 have FD0 : Hid (∀ q, q < W.heap.size → W.drew.heap[q]? = W.heap[q]?) := hide fun _ _ => rfl
 have FD1 : Hid (∀ x, ∀ q, q < W.heap.size → (W.alloc x).drew.heap[q]? = W.heap[q]?) := hide fun x q hq => Below.heap_alloc _ _ _ hq
 clear lk POST O CA CM hR1 hbs
 go_region_held3 (fun w' => w'.cell? ⟨b, 1, none⟩ = some (.map (some mb)) ∧ w'.cell? ⟨N, 0, none⟩ = some (.int .i64 i) ∧ w'.cell? ⟨N, 1, none⟩ = some (.bool false) ∧ w'.cell? ⟨N + 1, 0, none⟩ = some (.int .i64 m.number) ∧ w'.cell? ⟨N + 1, 1, none⟩ = some (.int .i64 m.ctx) ∧ w'.cell? ⟨N + 1, 2, none⟩ = some (.int .i64 m.op.client) ∧ w'.cell? ⟨N + 1, 3, none⟩ = some (.int .i64 m.op.verb) ∧ w'.cell? ⟨N + 1, 4, none⟩ = some (.int .i64 m.op.place) ∧ w'.cell? ⟨N + 1, 5, none⟩ = some (.int .u8 m.op.letter)) (first | with_reducible exact unhide KS _ (unhide FD0) | with_reducible exact unhide KS _ (unhide FD1 _) | with_reducible exact unhide hs | with_reducible exact unhide hs2 | with_reducible exact unhide hs2 _) (first | (go_at_call 106; with_reducible refine (unhide HT0).mono ?_; rintro e w2 ⟨rfl, hs, hs2, hfin⟩) | (go_at_call 106; with_reducible refine (unhide HT1).mono ?_; rintro e w2 ⟨rfl, hs, hs2, ⟨z0, z1, z2, z3⟩, ⟨y0, y1, y2, y3⟩, hfin⟩))
 all_goals go_wp2_with fail
 all_goals
  obtain ⟨own3, r1, r2, _⟩ := unhide hfin
  exact bodyPost_ret (results_none rfl _ _ _) rfl ⟨rfl, own3, by rw [← HO.out]; exact r1, r2⟩
end Go.Proofs.Ytemkgikncmhoaaa

