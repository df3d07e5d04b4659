import Derived.Test.YtemkgikncmhoaaaM15
import Derived.Test.YtemkgikncmhoaaaM21
import Derived.Maps.RangeRun
import Derived.Deep.RegionHeld3
/-
  weave: the map of what came too early; (*end).keep. Own work.
-/
namespace Go.Proofs.Ytemkgikncmhoaaa
open Go.RowKit
attribute [local go_sem ↓] Go.wp_at_zero Go.wp_at_succ

def IMsg.val (m : IMsg) : Value := .agg m.cells.toArray
/-- A number among the kept ones. -/
theorem findNow_kept (x : Nat) : ∀ (es : List MapEntry) (ms : List IMsg) (i : Nat), es.map (fun e => (e.key, e.val)) = ms.map (fun m => (Value.int .i64 m.number, Value.agg m.cells.toArray)) →
    ((∀ m ∈ ms, m.number ≠ x) ∧ Instr.findNow (.int .i64) (.int .i64 x) es i = some none) ∨ ∃ j m, ms[j]? = some m ∧ m.number = x ∧ (∀ j', j' < j → ∀ m', ms[j']? = some m' → m'.number ≠ x) ∧ Instr.findNow (.int .i64) (.int .i64 x) es i = some (some (i + j, m.val))
  | [], [], i, _ => .inl ⟨by simp, rfl⟩
  | [], m :: ms, i, h => by simp at h
  | e :: es, [], i, h => by simp at h
  | e :: es, m :: ms, i, h => by
    simp only [List.map_cons, List.cons.injEq, Prod.mk.injEq] at h
    obtain ⟨⟨hk, hv⟩, ht⟩ := h
    by_cases hx : m.number = x
    · refine .inr ⟨0, m, rfl, hx, by omega, ?_⟩
      simp only [Instr.findNow, Instr.sameNow, hk, hx, if_true, beq_self_eq_true]
      rw [hv]; rfl
    · have hne : (((x : Int) == (m.number : Int)) = false) := by rw [beq_eq_false_iff_ne]; omega
      rcases findNow_kept x es ms (i + 1) ht with ⟨h1, h2⟩ | ⟨j, m', h1, h2, h4, h3⟩
      · refine .inl ⟨fun q hq => ?_, ?_⟩
        · rcases List.mem_cons.1 hq with rfl | hq
          · exact hx
          · exact h1 q hq
        · simp only [Instr.findNow, Instr.sameNow, hk, if_true, hne]
          exact h2
      · refine .inr ⟨j + 1, m', by simpa using h1, h2, ?_, ?_⟩
        · intro j' hj' q hq
          match j', hq with
          | 0, hq => obtain rfl : m = q := by simpa using hq
                     exact hx
          | j' + 1, hq => exact h4 j' (by omega) q (by simpa using hq)
        · simp only [Instr.findNow, Instr.sameNow, hk, if_true, hne]
          rw [h3, show i + 1 + j = i + (j + 1) by omega]
theorem Try.zeroMsg (w : World) : (zeroValue 139).run Try.prog w = .ok (.agg #[.int .i64 0, .int .i64 0, .int .i64 0, .int .i64 0, .int .i64 0, .int .u8 0]) w := by kernel_rfl
theorem run_checkInt (em : Bool) (x : Int) (w : World) : (Instr.checkKey em 10000 3 (.int .i64 x)).run Try.prog w = .ok () w := by
  rw [show (10000 : Nat) = 9999 + 1 from rfl, Instr.checkKey]
  simp [run_underlying Try.underlying3]
theorem run_findKey {x : Int} {es : List MapEntry} {r : Option (Nat × Value)} (h : Instr.findNow (.int .i64) (.int .i64 x) es 0 = some r) (w : World) : (Instr.findKey 3 (.int .i64 x) es).run Try.prog w = .ok r w := by
  unfold Instr.findKey
  simp [run_underlying Try.underlying3, h]

section
variable {own : Nat → Tag} {t : Tag} {w : World} {kb : Nat} {kept : List IMsg}
theorem KeptX.no (h : KeptX own t w kb kept) {x : Nat} (hn : ∀ m ∈ kept, m.number ≠ x) : (Instr.lookup 83 (.map (some kb)) (.int .i64 x) true).run Try.prog w = .ok (.tuple #[.agg #[.int .i64 0, .int .i64 0, .int .i64 0, .int .i64 0, .int .i64 0, .int .u8 0], .bool false]) w := by
  obtain ⟨_, ents, clock, h2, h3, _⟩ := h
  rcases findNow_kept x ents.toList kept 0 h3 with ⟨_, h4⟩ | ⟨j, m, h5, h6, _⟩
  · simp [Instr.lookup, run_underlying Try.underlying83, MapKept.run_getObj_map h2, run_checkInt, run_findKey h4, Result.andThen]
  · exact absurd h6 (hn m (List.mem_of_getElem? h5))
theorem KeptX.yes (h : KeptX own t w kb kept) {x : Nat} (hn : ∃ m ∈ kept, m.number = x) : ∃ q : IMsg, q ∈ kept ∧ q.number = x ∧ (Instr.lookup 83 (.map (some kb)) (.int .i64 x) true).run Try.prog w = .ok (.tuple #[.agg #[.int .i64 q.number, .int .i64 q.ctx, .int .i64 q.op.client, .int .i64 q.op.verb, .int .i64 q.op.place, .int .u8 q.op.letter], .bool true]) w := by
  obtain ⟨_, ents, clock, h2, h3, _⟩ := h
  rcases findNow_kept x ents.toList kept 0 h3 with ⟨h4, _⟩ | ⟨j, m, h5, h6, _, h7⟩
  · obtain ⟨m, hm, hx⟩ := hn
    exact absurd hx (h4 m hm)
  · exact ⟨m, List.mem_of_getElem? h5, h6, by simp [Instr.lookup, run_underlying Try.underlying83, MapKept.run_getObj_map h2, run_checkInt, run_findKey h7, Result.andThen, IMsg.val, IMsg.cells]⟩
/-- One more is kept. -/
theorem KeptX.put (h : KeptX own t w kb kept) (m : IMsg) (hn : ∀ q ∈ kept, q.number ≠ m.number) : ∃ o, (Instr.mapUpdate 83 (.map (some kb)) (.int .i64 m.number) (.agg m.cells.toArray)).run Try.prog w = .ok () (ChangeMaps.setBlock w kb o) ∧ KeptX own t (ChangeMaps.setBlock w kb o) kb (kept ++ [m]) := by
  obtain ⟨h1, ents, clock, h2, h3, h4, h5⟩ := h
  have hl := (Array.getElem?_eq_some_iff.1 h2).1
  rcases findNow_kept m.number ents.toList kept 0 h3 with ⟨_, h6⟩ | ⟨j, q, h7, h8, _⟩
  · refine ⟨.map (ents.push ⟨.int .i64 m.number, .agg m.cells.toArray, clock⟩) (clock + 1), ?_, h1, _, _, heap_setBlock_same _ _ _ hl, ?_, ?_, ?_⟩
    · simp [Instr.mapUpdate, run_underlying Try.underlying83, MapKept.run_getObj_map h2, run_checkInt, run_findKey h6, Result.andThen, MapKept.run_setObj_map _ h2]
      rfl
    · simp [h3]
    · intro e he
      simp only [Array.toList_push, List.mem_append, List.mem_singleton] at he
      rcases he with he | rfl
      · have := h4 e he; omega
      · exact Nat.lt_succ_self _
    · simp only [Array.toList_push, List.map_append, List.map_cons, List.map_nil]
      rw [List.nodup_append]
      refine ⟨h5, by simp, ?_⟩
      intro a ha b hb
      obtain rfl : b = clock := by simpa using hb
      rintro rfl
      obtain ⟨e, he, hb⟩ := List.mem_map.1 ha
      have := h4 e he
      omega
  · exact absurd h8 (hn q (List.mem_of_getElem? h7))
end

set_option maxRecDepth 100000 in
set_option maxHeartbeats 800000 in
theorem xkeep (own : Nat → Tag) (rid k b tb window : Nat) (E : IEnd) (m : IMsg) (w : World) (h : EndX own rid k w b tb window E) (ht : E.taken ≤ 1000) (hm : m.number ≤ 1000) :
    Calls Try.prog 90 #[.pointer (some ⟨b, 0, none⟩), .agg m.cells.toArray] w fun e w' => e = .returned (.tuple #[]) ∧ ∃ own', EndX own' rid k w' b tb window (E.keep window m) ∧ Upd own own' (inEnd rid k) w w' := by
  have V : Upd own (retag own w.heap.size (rid + 1, 0, 4)) (fun _ => False) w (w.alloc (Obj.cells #[Value.int IntKind.i64 m.number, Value.int IntKind.i64 m.ctx, Value.int IntKind.i64 m.op.client, Value.int IntKind.i64 m.op.verb, Value.int IntKind.i64 m.op.place, Value.int IntKind.u8 m.op.letter] 139)) := Upd.retag ((Upd.refl own (fun _ => False) w).alloc _) _ _ (Nat.le_refl _)
  have CM := CellsT.new w #[Value.int IntKind.i64 m.number, Value.int IntKind.i64 m.ctx, Value.int IntKind.i64 m.op.client, Value.int IntKind.i64 m.op.verb, Value.int IntKind.i64 m.op.place, Value.int IntKind.u8 m.op.letter] 139 own (rid + 1, 0, 4)
  have hE1 := h.upd V (fun _ _ _ h => h)
  have HV := hide V
  unfold IMsg.cells
  clear h V
  generalize retag own w.heap.size (rid + 1, 0, 4) = own1 at *
  have e4 := hE1.c4
  have e1 := hE1.c1
  have m0 := CM.cell 0
  have m1 := CM.cell 1
  have m2 := CM.cell 2
  have m3 := CM.cell 3
  have m4 := CM.cell 4
  have m5 := CM.cell 5
  simp only [List.getElem?_toArray, List.getElem?_cons_zero, List.getElem?_cons_succ] at m0 m1 m2 m3 m4 m5
  have hw1 : IntKind.i64.wrap ((E.taken : Int) + 1) = (E.taken : Int) + 1 := by rw [IntKind.wrap_i64]; omega
  have hw2 : IntKind.i64.wrap ((m.number : Int) - ((E.taken : Int) + 1)) = (m.number : Int) - ((E.taken : Int) + 1) := by rw [IntKind.wrap_i64]; omega
  have HK : Hid (E.keep window m = if m.number < E.taken + 1 ∨ E.taken + 1 + window ≤ m.number ∨ m.number ∈ E.kept.map IMsg.number then E else { E with kept := E.kept ++ [m] }) := rfl
  obtain ⟨kb, e7, hkp, HPUT⟩ : ∃ kb, (w.alloc (Obj.cells #[Value.int IntKind.i64 m.number, Value.int IntKind.i64 m.ctx, Value.int IntKind.i64 m.op.client, Value.int IntKind.i64 m.op.verb, Value.int IntKind.i64 m.op.place, Value.int IntKind.u8 m.op.letter] 139)).cell? ⟨b, 7, none⟩ = some (.map (some kb)) ∧ KeptX own1 (rid, k, 6) (w.alloc (Obj.cells #[Value.int IntKind.i64 m.number, Value.int IntKind.i64 m.ctx, Value.int IntKind.i64 m.op.client, Value.int IntKind.i64 m.op.verb, Value.int IntKind.i64 m.op.place, Value.int IntKind.u8 m.op.letter] 139)) kb E.kept ∧
      Hid (∀ w2 o, Upd own1 own1 (fun _ => False) (w.alloc (Obj.cells #[Value.int IntKind.i64 m.number, Value.int IntKind.i64 m.ctx, Value.int IntKind.i64 m.op.client, Value.int IntKind.i64 m.op.verb, Value.int IntKind.i64 m.op.place, Value.int IntKind.u8 m.op.letter] 139)) w2 → KeptX own1 (rid, k, 6) (ChangeMaps.setBlock w2 kb o) kb (E.kept ++ [m]) → EndX own1 rid k (ChangeMaps.setBlock w2 kb o) b tb window { E with kept := E.kept ++ [m] } ∧ Upd own own1 (inEnd rid k) w (ChangeMaps.setBlock w2 kb o)) := by
    obtain ⟨wv, ov, kb, fv, hc, hmr, hop, hkp, hfr⟩ := hE1
    refine ⟨kb, by rw [hc.cell]; rfl, hkp, hide fun w2 o U hk2 => ?_⟩
    have hU : Upd own1 own1 (fun t => t = (rid, k, 6)) (w.alloc (Obj.cells #[Value.int IntKind.i64 m.number, Value.int IntKind.i64 m.ctx, Value.int IntKind.i64 m.op.client, Value.int IntKind.i64 m.op.verb, Value.int IntKind.i64 m.op.place, Value.int IntKind.u8 m.op.letter] 139)) (ChangeMaps.setBlock w2 kb o) := Upd.setBlock (may := fun t => t = (rid, k, 6)) (U.mono fun _ h => h.elim) (b := kb) hkp.1 o
    exact ⟨⟨wv, ov, kb, fv, hc.upd hU (by simp), hmr.upd hU (by simp), hop.upd hU (by simp), hk2, hfr.upd hU (by simp)⟩, ((unhide HV).mono fun _ h => h.elim).trans (hU.mono (by rintro t rfl; exact inEnd.mk _ _ (by decide) (by decide)))⟩
  have HE1 := hide hE1
  have KS : Hid (∀ o, ((w.alloc (Obj.cells #[Value.int IntKind.i64 m.number, Value.int IntKind.i64 m.ctx, Value.int IntKind.i64 m.op.client, Value.int IntKind.i64 m.op.verb, Value.int IntKind.i64 m.op.place, Value.int IntKind.u8 m.op.letter] 139)).alloc o).cell? ⟨b, 7, none⟩ = some (.map (some kb)) ∧ ((w.alloc (Obj.cells #[Value.int IntKind.i64 m.number, Value.int IntKind.i64 m.ctx, Value.int IntKind.i64 m.op.client, Value.int IntKind.i64 m.op.verb, Value.int IntKind.i64 m.op.place, Value.int IntKind.u8 m.op.letter] 139)).alloc o).cell? ⟨w.heap.size, 0, none⟩ = some (.int .i64 m.number)) := hide fun o => ⟨(World.cell?_alloc_lt _ _ _ (World.block_lt_of_cell? _ _ e7)).trans e7, (World.cell?_alloc_lt _ _ _ (World.block_lt_of_cell? _ _ m0)).trans m0⟩
  by_cases c1 : m.number < E.taken + 1
  · have c1' : (m.number : Int) - ((E.taken : Int) + 1) < 0 := by omega
    have hc1' : (m.number : Int) < (E.taken : Int) + 1 := by omega
    rw [if_pos (.inl c1)] at HK
    clear hE1 CM hkp HPUT
    go_enter Try.func90, Try.ntmps90
    go_wp2_with fail
    go_region
    all_goals
      go_wp2_with fail
      exact bodyPost_ret (results_none rfl _ _ _) rfl ⟨rfl, own1, by rw [HK.out]; exact (unhide HE1).upd ((Upd.refl own1 (fun _ => False) _).drew) (fun _ _ _ h => h), ((unhide HV).mono fun _ h => h.elim).drew⟩
  have c1' : ¬ (m.number : Int) - ((E.taken : Int) + 1) < 0 := by omega
  have hc1' : ¬ (m.number : Int) < (E.taken : Int) + 1 := by omega
  by_cases c2 : E.taken + 1 + window ≤ m.number
  · have c2' : (window : Int) ≤ (m.number : Int) - ((E.taken : Int) + 1) := by omega
    rw [if_pos (.inr (.inl c2))] at HK
    clear hE1 CM hkp HPUT
    go_enter Try.func90, Try.ntmps90
    go_wp2_with fail
    go_region
    all_goals
      go_wp2_with fail
      exact bodyPost_ret (results_none rfl _ _ _) rfl ⟨rfl, own1, by rw [HK.out]; exact (unhide HE1).upd ((Upd.refl own1 (fun _ => False) _).drew) (fun _ _ _ h => h), ((unhide HV).mono fun _ h => h.elim).drew⟩
  have c2' : ¬ (window : Int) ≤ (m.number : Int) - ((E.taken : Int) + 1) := by omega
  by_cases c3 : m.number ∈ E.kept.map IMsg.number
  · rw [if_pos (.inr (.inr c3))] at HK
    have hex : ∃ q ∈ E.kept, q.number = m.number := by obtain ⟨q, hq, he⟩ := List.mem_map.1 c3; exact ⟨q, hq, he⟩
    have U0 : Upd own1 own1 (fun _ => False) (w.alloc (Obj.cells #[Value.int IntKind.i64 m.number, Value.int IntKind.i64 m.ctx, Value.int IntKind.i64 m.op.client, Value.int IntKind.i64 m.op.verb, Value.int IntKind.i64 m.op.place, Value.int IntKind.u8 m.op.letter] 139)) (w.alloc (Obj.cells #[Value.int IntKind.i64 m.number, Value.int IntKind.i64 m.ctx, Value.int IntKind.i64 m.op.client, Value.int IntKind.i64 m.op.verb, Value.int IntKind.i64 m.op.place, Value.int IntKind.u8 m.op.letter] 139)).drew.drew := ((Upd.refl own1 (fun _ => False) _).drew).drew
    have U1 : Upd own1 own1 (fun _ => False) (w.alloc (Obj.cells #[Value.int IntKind.i64 m.number, Value.int IntKind.i64 m.ctx, Value.int IntKind.i64 m.op.client, Value.int IntKind.i64 m.op.verb, Value.int IntKind.i64 m.op.place, Value.int IntKind.u8 m.op.letter] 139)) ((w.alloc (Obj.cells #[Value.int IntKind.i64 m.number, Value.int IntKind.i64 m.ctx, Value.int IntKind.i64 m.op.client, Value.int IntKind.i64 m.op.verb, Value.int IntKind.i64 m.op.place, Value.int IntKind.u8 m.op.letter] 139)).alloc (Obj.cells #[Value.int IntKind.i64 0, Value.int IntKind.i64 0, Value.int IntKind.i64 0, Value.int IntKind.i64 0, Value.int IntKind.i64 0, Value.int IntKind.u8 0] 139)).drew.drew := (((Upd.refl own1 (fun _ => False) _).alloc _).drew).drew
    obtain ⟨q0, _, _, hlk0⟩ := (hkp.upd U0 (fun h => h)).yes hex
    obtain ⟨q1, _, _, hlk1⟩ := (hkp.upd U1 (fun h => h)).yes hex
    clear hE1 CM hkp HPUT c3 U0 U1 hex
    go_enter Try.func90, Try.ntmps90
    go_wp2_with fail
    go_region
    all_goals
      go_wp2_with fail
      go_region_held3 (fun w' => w'.cell? ⟨b, 7, none⟩ = some (.map (some kb)) ∧ w'.cell? ⟨w.heap.size, 0, none⟩ = some (.int .i64 m.number)) (first | exact ⟨e7, m0⟩ | exact unhide KS _) (fail)
      all_goals
        go_wp2_with fail
        go_end0
        exact ⟨rfl, own1, by rw [HK.out]; exact (unhide HE1).upd ((((Upd.refl own1 (fun _ => False) _).alloc _).drew).drew) (fun _ _ _ h => h), ((((unhide HV).mono fun _ h => h.elim).alloc _).drew).drew⟩
  · have hno : ∀ q ∈ E.kept, q.number ≠ m.number := fun q hq he => c3 (List.mem_map.2 ⟨q, hq, he⟩)
    rw [if_neg (by rintro (h | h | h) <;> contradiction)] at HK
    have U0 : Upd own1 own1 (fun _ => False) (w.alloc (Obj.cells #[Value.int IntKind.i64 m.number, Value.int IntKind.i64 m.ctx, Value.int IntKind.i64 m.op.client, Value.int IntKind.i64 m.op.verb, Value.int IntKind.i64 m.op.place, Value.int IntKind.u8 m.op.letter] 139)) (w.alloc (Obj.cells #[Value.int IntKind.i64 m.number, Value.int IntKind.i64 m.ctx, Value.int IntKind.i64 m.op.client, Value.int IntKind.i64 m.op.verb, Value.int IntKind.i64 m.op.place, Value.int IntKind.u8 m.op.letter] 139)).drew.drew := ((Upd.refl own1 (fun _ => False) _).drew).drew
    have U1 : Upd own1 own1 (fun _ => False) (w.alloc (Obj.cells #[Value.int IntKind.i64 m.number, Value.int IntKind.i64 m.ctx, Value.int IntKind.i64 m.op.client, Value.int IntKind.i64 m.op.verb, Value.int IntKind.i64 m.op.place, Value.int IntKind.u8 m.op.letter] 139)) ((w.alloc (Obj.cells #[Value.int IntKind.i64 m.number, Value.int IntKind.i64 m.ctx, Value.int IntKind.i64 m.op.client, Value.int IntKind.i64 m.op.verb, Value.int IntKind.i64 m.op.place, Value.int IntKind.u8 m.op.letter] 139)).alloc (Obj.cells #[Value.int IntKind.i64 0, Value.int IntKind.i64 0, Value.int IntKind.i64 0, Value.int IntKind.i64 0, Value.int IntKind.i64 0, Value.int IntKind.u8 0] 139)).drew.drew := (((Upd.refl own1 (fun _ => False) _).alloc _).drew).drew
    have U2 : Upd own1 own1 (fun _ => False) (w.alloc (Obj.cells #[Value.int IntKind.i64 m.number, Value.int IntKind.i64 m.ctx, Value.int IntKind.i64 m.op.client, Value.int IntKind.i64 m.op.verb, Value.int IntKind.i64 m.op.place, Value.int IntKind.u8 m.op.letter] 139)) ((w.alloc (Obj.cells #[Value.int IntKind.i64 m.number, Value.int IntKind.i64 m.ctx, Value.int IntKind.i64 m.op.client, Value.int IntKind.i64 m.op.verb, Value.int IntKind.i64 m.op.place, Value.int IntKind.u8 m.op.letter] 139)).alloc (Obj.cells #[Value.int IntKind.i64 0, Value.int IntKind.i64 0, Value.int IntKind.i64 0, Value.int IntKind.i64 0, Value.int IntKind.i64 0, Value.int IntKind.u8 0] 139)).drew.drew.drew := ((((Upd.refl own1 (fun _ => False) _).alloc _).drew).drew).drew
    have hlk0 := (hkp.upd U0 (fun h => h)).no (x := m.number) hno
    have hlk1 := (hkp.upd U1 (fun h => h)).no (x := m.number) hno
    obtain ⟨ob, hup, hk2⟩ := (hkp.upd U2 (fun h => h)).put m hno
    have HF := hide (unhide HPUT _ ob U2 hk2)
    have n7 : ((w.alloc (Obj.cells #[Value.int IntKind.i64 m.number, Value.int IntKind.i64 m.ctx, Value.int IntKind.i64 m.op.client, Value.int IntKind.i64 m.op.verb, Value.int IntKind.i64 m.op.place, Value.int IntKind.u8 m.op.letter] 139)).alloc (Obj.cells #[Value.int IntKind.i64 0, Value.int IntKind.i64 0, Value.int IntKind.i64 0, Value.int IntKind.i64 0, Value.int IntKind.i64 0, Value.int IntKind.u8 0] 139)).cell? ⟨b, 7, none⟩ = some (.map (some kb)) := (unhide KS _).1
    have CM2 := CM.upd U2 (fun h => h)
    have n0 := CM2.cell 0
    have n1 := CM2.cell 1
    have n2 := CM2.cell 2
    have n3 := CM2.cell 3
    have n4 := CM2.cell 4
    have n5 := CM2.cell 5
    simp only [List.getElem?_toArray, List.getElem?_cons_zero, List.getElem?_cons_succ] at n0 n1 n2 n3 n4 n5
    have HS4 : Hid (((w.alloc (Obj.cells #[Value.int IntKind.i64 m.number, Value.int IntKind.i64 m.ctx, Value.int IntKind.i64 m.op.client, Value.int IntKind.i64 m.op.verb, Value.int IntKind.i64 m.op.place, Value.int IntKind.u8 m.op.letter] 139)).alloc (Obj.cells #[Value.int IntKind.i64 0, Value.int IntKind.i64 0, Value.int IntKind.i64 0, Value.int IntKind.i64 0, Value.int IntKind.i64 0, Value.int IntKind.u8 0] 139)).drew.drew.drew.cell? ⟨b, 7, none⟩ = some (.map (some kb)) ∧ ((w.alloc (Obj.cells #[Value.int IntKind.i64 m.number, Value.int IntKind.i64 m.ctx, Value.int IntKind.i64 m.op.client, Value.int IntKind.i64 m.op.verb, Value.int IntKind.i64 m.op.place, Value.int IntKind.u8 m.op.letter] 139)).alloc (Obj.cells #[Value.int IntKind.i64 0, Value.int IntKind.i64 0, Value.int IntKind.i64 0, Value.int IntKind.i64 0, Value.int IntKind.i64 0, Value.int IntKind.u8 0] 139)).drew.drew.drew.cell? ⟨w.heap.size, 0, none⟩ = some (.int .i64 m.number) ∧ ((w.alloc (Obj.cells #[Value.int IntKind.i64 m.number, Value.int IntKind.i64 m.ctx, Value.int IntKind.i64 m.op.client, Value.int IntKind.i64 m.op.verb, Value.int IntKind.i64 m.op.place, Value.int IntKind.u8 m.op.letter] 139)).alloc (Obj.cells #[Value.int IntKind.i64 0, Value.int IntKind.i64 0, Value.int IntKind.i64 0, Value.int IntKind.i64 0, Value.int IntKind.i64 0, Value.int IntKind.u8 0] 139)).drew.drew.drew.cell? ⟨w.heap.size, 1, none⟩ = some (.int .i64 m.ctx) ∧ ((w.alloc (Obj.cells #[Value.int IntKind.i64 m.number, Value.int IntKind.i64 m.ctx, Value.int IntKind.i64 m.op.client, Value.int IntKind.i64 m.op.verb, Value.int IntKind.i64 m.op.place, Value.int IntKind.u8 m.op.letter] 139)).alloc (Obj.cells #[Value.int IntKind.i64 0, Value.int IntKind.i64 0, Value.int IntKind.i64 0, Value.int IntKind.i64 0, Value.int IntKind.i64 0, Value.int IntKind.u8 0] 139)).drew.drew.drew.cell? ⟨w.heap.size, 2, none⟩ = some (.int .i64 m.op.client) ∧ ((w.alloc (Obj.cells #[Value.int IntKind.i64 m.number, Value.int IntKind.i64 m.ctx, Value.int IntKind.i64 m.op.client, Value.int IntKind.i64 m.op.verb, Value.int IntKind.i64 m.op.place, Value.int IntKind.u8 m.op.letter] 139)).alloc (Obj.cells #[Value.int IntKind.i64 0, Value.int IntKind.i64 0, Value.int IntKind.i64 0, Value.int IntKind.i64 0, Value.int IntKind.i64 0, Value.int IntKind.u8 0] 139)).drew.drew.drew.cell? ⟨w.heap.size, 3, none⟩ = some (.int .i64 m.op.verb) ∧ ((w.alloc (Obj.cells #[Value.int IntKind.i64 m.number, Value.int IntKind.i64 m.ctx, Value.int IntKind.i64 m.op.client, Value.int IntKind.i64 m.op.verb, Value.int IntKind.i64 m.op.place, Value.int IntKind.u8 m.op.letter] 139)).alloc (Obj.cells #[Value.int IntKind.i64 0, Value.int IntKind.i64 0, Value.int IntKind.i64 0, Value.int IntKind.i64 0, Value.int IntKind.i64 0, Value.int IntKind.u8 0] 139)).drew.drew.drew.cell? ⟨w.heap.size, 4, none⟩ = some (.int .i64 m.op.place) ∧ ((w.alloc (Obj.cells #[Value.int IntKind.i64 m.number, Value.int IntKind.i64 m.ctx, Value.int IntKind.i64 m.op.client, Value.int IntKind.i64 m.op.verb, Value.int IntKind.i64 m.op.place, Value.int IntKind.u8 m.op.letter] 139)).alloc (Obj.cells #[Value.int IntKind.i64 0, Value.int IntKind.i64 0, Value.int IntKind.i64 0, Value.int IntKind.i64 0, Value.int IntKind.i64 0, Value.int IntKind.u8 0] 139)).drew.drew.drew.cell? ⟨w.heap.size, 5, none⟩ = some (.int .u8 m.op.letter)) := hide ⟨n7, n0, n1, n2, n3, n4, n5⟩
    unfold IMsg.cells at hup
    clear hE1 CM hkp HPUT c3 U0 U1 U2 hno hk2 CM2 n0 n1 n2 n3 n4 n5 n7
    go_enter Try.func90, Try.ntmps90
    go_wp2_with fail
    go_region
    all_goals
      go_wp2_with fail
      go_region_held3 (fun w' => w'.cell? ⟨b, 7, none⟩ = some (.map (some kb)) ∧ w'.cell? ⟨w.heap.size, 0, none⟩ = some (.int .i64 m.number)) (first | exact ⟨e7, m0⟩ | exact unhide KS _) (fail)
      all_goals
        go_wp2_with fail
        obtain ⟨n7, n0, n1, n2, n3, n4, n5⟩ := unhide HS4
        go_region
        all_goals
          go_wp2_with fail
          go_end0
          exact ⟨rfl, own1, by rw [HK.out]; exact (unhide HF).1, (unhide HF).2⟩
end Go.Proofs.Ytemkgikncmhoaaa

