import Derived.Test.YtemkgikncmhoaaaM11
namespace Go.Proofs.Ytemkgikncmhoaaa
open Go.RowKit
attribute [local go_sem ↓] Go.wp_at_zero Go.wp_at_succ

def IEnd.empty : IEnd := ⟨0, [], 0, 0, [], [], []⟩
def IRoom.fresh (n window : Nat) : IRoom := ⟨window, [], List.replicate n [], List.replicate n IEnd.empty, List.replicate n IEnd.empty⟩

set_option maxRecDepth 100000 in
set_option maxHeartbeats 400000 in
theorem xnew_no (c d : Int) (w : World) (h : ¬ (1 ≤ c ∧ c ≤ 4 ∧ 1 ≤ d ∧ d ≤ 4)) :
  Calls Try.prog 33 #[.int .i64 c, .int .i64 d] w fun e w' => e = .returned (.tuple #[.pointer none, .int .i64 1]) ∧ w' = w := by
 by_cases h1 : c < 1
 ·go_enter Try.func33, Try.ntmps33
  go_wp2
  go_ret2
  exact ⟨rfl, rfl⟩
 by_cases h2 : 4 < c
 ·go_enter Try.func33, Try.ntmps33
  go_wp2
  go_ret2
  exact ⟨rfl, rfl⟩
 by_cases h3 : d < 1
 ·go_enter Try.func33, Try.ntmps33
  go_wp2
  go_ret2
  exact ⟨rfl, rfl⟩
 have h4 : 4 < d := by omega
 clear h
 go_enter Try.func33, Try.ntmps33
 go_wp2
 go_ret2
 exact ⟨rfl, rfl⟩

theorem heap_setBlock_other (w : World) (b k : Nat) (o : Obj) (h : k ≠ b) : (ChangeMaps.setBlock w b o).heap[k]? = w.heap[k]? := by
 simp [ChangeMaps.setBlock, Ne.symm h]
theorem heap_setBlock_same (w : World) (b : Nat) (o : Obj) (h : b < w.heap.size) : (ChangeMaps.setBlock w b o).heap[b]? = some o := by
 simp [ChangeMaps.setBlock, h]
theorem size_setBlock (w : World) (b : Nat) (o : Obj) : (ChangeMaps.setBlock w b o).heap.size = w.heap.size := by simp [ChangeMaps.setBlock]
theorem Upd.setBlock {own own' : Nat → Tag} {may : Tag → Prop} {w w' : World} (h : Upd own own' may w w') {b : Nat} (hb : may (own' b)) (o : Obj) : Upd own own' may w (ChangeMaps.setBlock w' b o) :=
 ⟨h.os, h.tape, h.output, by rw [size_setBlock]; exact h.size, fun k hk hn => (heap_setBlock_other w' b k o (fun e => hn (by rw [← h.tags k hk, e]; exact hb))).trans (h.block k hk hn), h.tags⟩
theorem run_makeMap (w : World) : (Instr.makeMap 74 none).run Try.prog w = .ok (.map (some w.heap.size)) (w.alloc (.map #[] 0)) := by kernel_rfl

theorem run_makeKept (w : World) : (Instr.makeMap 83 none).run Try.prog w = .ok (.map (some w.heap.size)) (w.alloc (.map #[] 0)) := by kernel_rfl
theorem EndX.empty {own : Nat → Tag} {rid k b kb tb d : Nat} {w : World} (h : CellsT own (rid, k, 0) w b #[ptr tb, .int .i64 d, .int .i64 0, .slice none 0 0, .int .i64 0, .int .i64 0, .slice none 0 0, .map (some kb), .slice none 0 0] 86) (hk : own kb = (rid, k, 6)) (hm : w.heap[kb]? = some (.map #[] 0)) : EndX own rid k w b tb d IEnd.empty :=
 ⟨_, _, _, _, h, RowO.nil _ _ _ _ _, OwnsT.nil _ _ _ _ _, ⟨hk, _, _, hm, rfl, by simp, by simp⟩, OwnsT.nil _ _ _ _ _⟩
theorem TextX.empty {own : Nat → Tag} {rid k tb : Nat} {w : World} (h : CellsT own (rid, k, 1) w tb #[.slice none 0 0] 111) : TextX own rid k w tb [] := ⟨_, h, OwnsT.nil _ _ _ _ _⟩

theorem Ends.push {ents : List MapEntry} {es : List (Nat × Nat)} (h : Ends ents es) (e s : Nat) (b1 b2 : Nat) :
  Ends (ents ++ [⟨sideKey es.length false, ptr e, b1⟩] ++ [⟨sideKey es.length true, ptr s, b2⟩]) (es ++ [(e, s)]) := by
 refine ⟨fun x hx => ?_, fun i p q hi => ?_⟩
 ·simp only [List.mem_append, List.mem_singleton] at hx
  rcases hx with (hx | rfl) | rfl
  ·obtain ⟨i, q, p, h1, h2, h3⟩ := h.1 x hx
   exact ⟨i, q, p, by rw [List.getElem?_append_left (List.getElem?_eq_some_iff.1 h1).1]; exact h1, h2, h3⟩
  ·exact ⟨es.length, false, (e, s), by simp, rfl, rfl⟩
  ·exact ⟨es.length, true, (e, s), by simp, rfl, rfl⟩
 ·by_cases hlt : i < es.length
  ·rw [List.getElem?_append_left hlt] at hi
   obtain ⟨x, hx, hk⟩ := h.2 i p q hi
   exact ⟨x, by simp [hx], hk⟩
  ·obtain rfl : i = es.length := by have := (List.getElem?_eq_some_iff.1 hi).1; simp at this; omega
   cases q
   ·exact ⟨⟨sideKey es.length false, ptr e, b1⟩, by simp, rfl⟩
   ·exact ⟨⟨sideKey es.length true, ptr s, b2⟩, by simp, rfl⟩
theorem Ends.fresh {ents : List MapEntry} {es : List (Nat × Nat)} (h : Ends ents es) (q : Bool) : ∀ e ∈ ents, e.key ≠ sideKey es.length q := by
 intro e he hk
 obtain ⟨i, s, p, h1, h2, _⟩ := h.1 e he
 have := sideKey_inj (h2.symm.trans hk)
 have := (List.getElem?_eq_some_iff.1 h1).1
 omega


set_option maxRecDepth 100000 in
set_option maxHeartbeats 400000 in
theorem xnewEnd (tb d : Nat) (w : World) :
  Calls Try.prog 49 #[.pointer (some ⟨tb, 0, none⟩), .int .i64 d] w fun e w' => e = .returned (.pointer (some ⟨w.heap.size + 1, 0, none⟩)) ∧ w' = (w.alloc (.map #[] 0)).alloc (.cells #[.pointer (some ⟨tb, 0, none⟩), .int .i64 d, .int .i64 0, .slice none 0 0, .int .i64 0, .int .i64 0, .slice none 0 0, .map (some w.heap.size), .slice none 0 0] 86) := by
 have hm := run_makeKept w
 go_enter Try.func49, Try.ntmps49
 go_wp2
 go_ret
 exact ⟨rfl, rfl⟩

set_option maxRecDepth 100000 in
set_option maxHeartbeats 1600000 in
theorem xnew_yes (own : Nat → Tag) (rid n d : Nat) (w : World) (h1 : 1 ≤ n) (h2 : n ≤ 4) (h3 : 1 ≤ d) (h4 : d ≤ 4) :
  Calls Try.prog 33 #[.int .i64 n, .int .i64 d] w fun e w' => ∃ b own', e = .returned (.tuple #[.pointer (some ⟨b, 0, none⟩), .int .i64 0]) ∧ RoomX own' rid w' b (IRoom.fresh n d) ∧ Upd own own' (inRoom rid) w w' := by
 have g1 : ¬ (n : Int) < 1 := by omega
 have g2 : ¬ (4 : Int) < (n : Int) := by omega
 have g3 : ¬ (d : Int) < 1 := by omega
 have g4 : ¬ (4 : Int) < (d : Int) := by omega
 have hmk := run_makeMap
 go_enter Try.func33, Try.ntmps33
 go_wp2
 clear hmk
 go_loopw [28] (fun v28 wr => ∃ (k : Nat) (own1 : Nat → Tag) (ents : Array MapEntry) (clock : Nat) (es : List (Nat × Nat)) (ts : List Nat), k ≤ n ∧ v28 = .int .i64 k ∧ RoomXAt own1 rid wr (w.heap.size + 1 + 1) (IRoom.fresh k d) w.heap.size (w.heap.size + 1) ents clock es ts ∧ Upd own own1 (inRoom rid) w wr) (fun v28 _ => n - (intOf v28).toNat)
 case atStart =>
  have U0 : Upd own (retag (retag (retag own w.heap.size (rid, 100, 1)) (w.heap.size + 1) (rid, 100, 5)) (w.heap.size + 1 + 1) (rid, 100, 0)) (inRoom rid) w (((w.alloc (Obj.cells #[.slice none 0 0] 111)).alloc (Obj.map #[] 0)).alloc (Obj.cells #[.pointer (some ⟨w.heap.size, 0, none⟩), .map (some (w.heap.size + 1))] 76)) :=
   Upd.retag (Upd.retag (Upd.retag ((((Upd.refl own (inRoom rid) w).alloc _).alloc _).alloc _) _ _ (Nat.le_refl _)) _ _ (by omega)) _ _ (by omega)
  refine ⟨0, _, #[], 0, [], [], Nat.zero_le _, rfl, ⟨⟨?_, retag_ge (Nat.le_refl _)⟩, TextX.empty ⟨?_, ?_⟩, ?_, ?_, ⟨by simp, by simp⟩, rfl, rfl, rfl, rfl, by simp [IRoom.fresh], fun i p => by simp⟩, U0⟩
  ·have := heap_alloc_new ((w.alloc (Obj.cells #[.slice none 0 0] 111)).alloc (Obj.map #[] 0)) (Obj.cells #[.pointer (some ⟨w.heap.size, 0, none⟩), .map (some (w.heap.size + 1))] 76)
   rw [World.size_alloc, World.size_alloc] at this
   exact this
  ·rw [Below.heap_alloc _ _ _ (by simp; omega), Below.heap_alloc _ _ _ (by simp)]; exact heap_alloc_new w _
  ·rw [retag_lt (by omega), retag_lt (by omega)]; exact retag_ge (Nat.le_refl _)
  ·rw [Below.heap_alloc _ _ _ (by simp)]
   have := heap_alloc_new (w.alloc (Obj.cells #[.slice none 0 0] 111)) (Obj.map #[] 0)
   simpa using this
  ·rw [retag_lt (by omega)]; exact retag_ge (Nat.le_refl _)
 case round =>
  obtain ⟨k, own1, ents, clock, es, ts, hk, rfl, hR, hU⟩ := hrel
  by_cases hlt : k < n
  ·have hlt' : (k : Int) < (n : Int) := by omega
   have ek : es.length = k := by rw [hR.lenE]; simp [IRoom.fresh]
   have hkl : k < 4 := by omega
   have HU := hide hU
   clear hU
   generalize hTB : w.heap.size = TB at *
   clear hTB
   have c1 : wr.cell? ⟨TB + 1 + 1, 1, none⟩ = some (.map (some (TB + 1))) := by rw [hR.cells.cell]; rfl
   have c0 : wr.cell? ⟨TB + 1 + 1, 0, none⟩ = some (.pointer (some ⟨TB, 0, none⟩)) := by rw [hR.cells.cell]; rfl
   have rbl := hR.cells.lt
   have mbl : TB + 1 < wr.heap.size := by omega
   have nm : ¬ (TB + 1 + 1 = wr.heap.size) := by omega
   have hkeys := hR.ends.keys (by omega)
   have hi64 : I64 (k : Int) := ⟨by omega, by omega⟩
   have VA : Upd own1 (retag (retag (retag own1 wr.heap.size (rid, 2 * k, 1)) (wr.heap.size + 1) (rid, 2 * k, 6)) (wr.heap.size + 1 + 1) (rid, 2 * k, 0)) (fun _ => False) wr ((((wr.alloc (Obj.cells #[Value.slice none 0 0] 111)).alloc (Obj.map #[] 0)).alloc (Obj.cells #[Value.pointer (some ⟨wr.heap.size, 0, none⟩), Value.int .i64 d, Value.int .i64 0, Value.slice none 0 0, Value.int .i64 0, Value.int .i64 0, Value.slice none 0 0, Value.map (some (wr.heap.size + 1)), Value.slice none 0 0] 86)).drew) := Upd.retag (Upd.retag (Upd.retag ((((Upd.refl own1 (fun _ => False) wr).alloc _).alloc _).alloc _).drew _ _ (Nat.le_refl _)) _ _ (by omega)) _ _ (by omega)
   have map2 : ((((wr.alloc (Obj.cells #[Value.slice none 0 0] 111)).alloc (Obj.map #[] 0)).alloc (Obj.cells #[Value.pointer (some ⟨wr.heap.size, 0, none⟩), Value.int .i64 d, Value.int .i64 0, Value.slice none 0 0, Value.int .i64 0, Value.int .i64 0, Value.slice none 0 0, Value.map (some (wr.heap.size + 1)), Value.slice none 0 0] 86)).drew).heap[TB + 1]? = some (.map ents clock) := (VA.block _ mbl (fun h => h)).trans hR.map
   have hup1 := update_new map2 hkeys hi64 false (.pointer (some ⟨wr.heap.size + 1 + 1, 0, none⟩)) (by have := hR.ends.fresh false; rwa [ek] at this)
   have mt3 : (retag (retag (retag own1 wr.heap.size (rid, 2 * k, 1)) (wr.heap.size + 1) (rid, 2 * k, 6)) (wr.heap.size + 1 + 1) (rid, 2 * k, 0)) (TB + 1) = (rid, 100, 5) := (VA.tags _ mbl).trans hR.mtag
   have U3 : Upd own1 (retag (retag (retag own1 wr.heap.size (rid, 2 * k, 1)) (wr.heap.size + 1) (rid, 2 * k, 6)) (wr.heap.size + 1 + 1) (rid, 2 * k, 0)) (fun t => t = (rid, 100, 5)) wr (ChangeMaps.setBlock ((((wr.alloc (Obj.cells #[Value.slice none 0 0] 111)).alloc (Obj.map #[] 0)).alloc (Obj.cells #[Value.pointer (some ⟨wr.heap.size, 0, none⟩), Value.int .i64 d, Value.int .i64 0, Value.slice none 0 0, Value.int .i64 0, Value.int .i64 0, Value.slice none 0 0, Value.map (some (wr.heap.size + 1)), Value.slice none 0 0] 86)).drew) (TB + 1) (.map (ents.push ⟨sideKey k false, .pointer (some ⟨wr.heap.size + 1 + 1, 0, none⟩), clock⟩) (clock + 1))) :=
    Upd.setBlock (may := fun t => t = (rid, 100, 5)) (VA.mono (fun _ h => h.elim)) (b := TB + 1) mt3 _
   have CT : CellsT (retag (retag (retag own1 wr.heap.size (rid, 2 * k, 1)) (wr.heap.size + 1) (rid, 2 * k, 6)) (wr.heap.size + 1 + 1) (rid, 2 * k, 0)) (rid, 2 * k, 1) ((((wr.alloc (Obj.cells #[Value.slice none 0 0] 111)).alloc (Obj.map #[] 0)).alloc (Obj.cells #[Value.pointer (some ⟨wr.heap.size, 0, none⟩), Value.int .i64 d, Value.int .i64 0, Value.slice none 0 0, Value.int .i64 0, Value.int .i64 0, Value.slice none 0 0, Value.map (some (wr.heap.size + 1)), Value.slice none 0 0] 86)).drew) wr.heap.size #[Value.slice none 0 0] 111 :=
    ⟨(Below.heap_alloc _ _ _ (by simp; omega)).trans ((Below.heap_alloc _ _ _ (by simp)).trans (heap_alloc_new wr _)), by rw [retag_lt (by omega), retag_lt (by omega)]; exact retag_ge (Nat.le_refl _)⟩
   have CK : ((((wr.alloc (Obj.cells #[Value.slice none 0 0] 111)).alloc (Obj.map #[] 0)).alloc (Obj.cells #[Value.pointer (some ⟨wr.heap.size, 0, none⟩), Value.int .i64 d, Value.int .i64 0, Value.slice none 0 0, Value.int .i64 0, Value.int .i64 0, Value.slice none 0 0, Value.map (some (wr.heap.size + 1)), Value.slice none 0 0] 86)).drew).heap[wr.heap.size + 1]? = some (.map #[] 0) := by
    refine (Below.heap_alloc _ _ _ (by simp)).trans ?_
    have := heap_alloc_new (wr.alloc (Obj.cells #[Value.slice none 0 0] 111)) (Obj.map #[] 0)
    rw [World.size_alloc] at this; exact this
   have TK : (retag (retag (retag own1 wr.heap.size (rid, 2 * k, 1)) (wr.heap.size + 1) (rid, 2 * k, 6)) (wr.heap.size + 1 + 1) (rid, 2 * k, 0)) (wr.heap.size + 1) = (rid, 2 * k, 6) := by rw [retag_lt (by omega)]; exact retag_ge (Nat.le_refl _)
   have CE : CellsT (retag (retag (retag own1 wr.heap.size (rid, 2 * k, 1)) (wr.heap.size + 1) (rid, 2 * k, 6)) (wr.heap.size + 1 + 1) (rid, 2 * k, 0)) (rid, 2 * k, 0) ((((wr.alloc (Obj.cells #[Value.slice none 0 0] 111)).alloc (Obj.map #[] 0)).alloc (Obj.cells #[Value.pointer (some ⟨wr.heap.size, 0, none⟩), Value.int .i64 d, Value.int .i64 0, Value.slice none 0 0, Value.int .i64 0, Value.int .i64 0, Value.slice none 0 0, Value.map (some (wr.heap.size + 1)), Value.slice none 0 0] 86)).drew) (wr.heap.size + 1 + 1) #[Value.pointer (some ⟨wr.heap.size, 0, none⟩), Value.int .i64 d, Value.int .i64 0, Value.slice none 0 0, Value.int .i64 0, Value.int .i64 0, Value.slice none 0 0, Value.map (some (wr.heap.size + 1)), Value.slice none 0 0] 86 :=
    ⟨by have := heap_alloc_new ((wr.alloc (Obj.cells #[Value.slice none 0 0] 111)).alloc (Obj.map #[] 0)) (Obj.cells #[Value.pointer (some ⟨wr.heap.size, 0, none⟩), Value.int .i64 d, Value.int .i64 0, Value.slice none 0 0, Value.int .i64 0, Value.int .i64 0, Value.slice none 0 0, Value.map (some (wr.heap.size + 1)), Value.slice none 0 0] 86); rw [World.size_alloc, World.size_alloc] at this; exact this, retag_ge (Nat.le_refl _)⟩
   have UB : Upd (retag (retag (retag own1 wr.heap.size (rid, 2 * k, 1)) (wr.heap.size + 1) (rid, 2 * k, 6)) (wr.heap.size + 1 + 1) (rid, 2 * k, 0)) (retag (retag (retag own1 wr.heap.size (rid, 2 * k, 1)) (wr.heap.size + 1) (rid, 2 * k, 6)) (wr.heap.size + 1 + 1) (rid, 2 * k, 0)) (fun t => t = (rid, 100, 5)) ((((wr.alloc (Obj.cells #[Value.slice none 0 0] 111)).alloc (Obj.map #[] 0)).alloc (Obj.cells #[Value.pointer (some ⟨wr.heap.size, 0, none⟩), Value.int .i64 d, Value.int .i64 0, Value.slice none 0 0, Value.int .i64 0, Value.int .i64 0, Value.slice none 0 0, Value.map (some (wr.heap.size + 1)), Value.slice none 0 0] 86)).drew) (ChangeMaps.setBlock ((((wr.alloc (Obj.cells #[Value.slice none 0 0] 111)).alloc (Obj.map #[] 0)).alloc (Obj.cells #[Value.pointer (some ⟨wr.heap.size, 0, none⟩), Value.int .i64 d, Value.int .i64 0, Value.slice none 0 0, Value.int .i64 0, Value.int .i64 0, Value.slice none 0 0, Value.map (some (wr.heap.size + 1)), Value.slice none 0 0] 86)).drew) (TB + 1) (.map (ents.push ⟨sideKey k false, .pointer (some ⟨wr.heap.size + 1 + 1, 0, none⟩), clock⟩) (clock + 1))) :=
    Upd.setBlock (may := fun t => t = (rid, 100, 5)) (Upd.refl _ _ _) (b := TB + 1) mt3 _
   have CT3 := CT.upd UB (by simp)
   have CE3 := CE.upd UB (by simp)
   have CK3 := (UB.block _ (by simp) (by rw [TK]; simp)).trans CK
   have map3 : (ChangeMaps.setBlock ((((wr.alloc (Obj.cells #[Value.slice none 0 0] 111)).alloc (Obj.map #[] 0)).alloc (Obj.cells #[Value.pointer (some ⟨wr.heap.size, 0, none⟩), Value.int .i64 d, Value.int .i64 0, Value.slice none 0 0, Value.int .i64 0, Value.int .i64 0, Value.slice none 0 0, Value.map (some (wr.heap.size + 1)), Value.slice none 0 0] 86)).drew) (TB + 1) (.map (ents.push ⟨sideKey k false, .pointer (some ⟨wr.heap.size + 1 + 1, 0, none⟩), clock⟩) (clock + 1))).heap[TB + 1]? = _ := heap_setBlock_same _ _ _ (by simp; omega)
   have c1' := U3.cell c1 (by rw [hR.cells.2]; simp)
   have c0' := U3.cell c0 (by rw [hR.cells.2]; simp)
   have hsz3 : (ChangeMaps.setBlock ((((wr.alloc (Obj.cells #[Value.slice none 0 0] 111)).alloc (Obj.map #[] 0)).alloc (Obj.cells #[Value.pointer (some ⟨wr.heap.size, 0, none⟩), Value.int .i64 d, Value.int .i64 0, Value.slice none 0 0, Value.int .i64 0, Value.int .i64 0, Value.slice none 0 0, Value.map (some (wr.heap.size + 1)), Value.slice none 0 0] 86)).drew) (TB + 1) (.map (ents.push ⟨sideKey k false, .pointer (some ⟨wr.heap.size + 1 + 1, 0, none⟩), clock⟩) (clock + 1))).heap.size > wr.heap.size + 1 + 1 := by rw [size_setBlock]; simp
   clear map2 VA CT CE CK UB
   have nm1 : ¬ (TB + 1 + 1 = wr.heap.size + 1) := by omega
   have nm2 : ¬ (TB + 1 + 1 = wr.heap.size + 1 + 1) := by omega
   have K3 : Hid (∀ o o' o'', (((wr.alloc o).alloc o').alloc o'').drew.cell? ⟨TB + 1 + 1, 1, none⟩ = some (.map (some (TB + 1)))) := hide fun o o' o'' => (World.cell?_alloc_lt _ _ _ (by simp; omega)).trans ((World.cell?_alloc_lt _ _ _ (by simp; omega)).trans ((World.cell?_alloc_lt _ _ _ rbl).trans c1))
   have K1 : Hid (∀ o, (wr.alloc o).drew.cell? ⟨TB + 1 + 1, 1, none⟩ = some (.map (some (TB + 1)))) := hide fun o => (World.cell?_alloc_lt _ _ _ rbl).trans c1
   have K0 : Hid (wr.drew.cell? ⟨TB + 1 + 1, 1, none⟩ = some (.map (some (TB + 1)))) := hide c1
   go_wp2_with fail
   go_region_held3 (fun w' => w'.cell? ⟨TB + 1 + 1, 1, none⟩ = some (.map (some (TB + 1)))) (first | exact unhide K3 _ _ _ | exact unhide K1 _ | exact unhide K0 | exact c1') (first | (go_at_call 49; refine (xnewEnd _ _ _).mono ?_; rintro e w' ⟨rfl, hw'⟩; obtain rfl := hw'.symm))
   go_wp2_with fail
   clear K3 K1 K0
   generalize ChangeMaps.setBlock ((((wr.alloc (Obj.cells #[Value.slice none 0 0] 111)).alloc (Obj.map #[] 0)).alloc (Obj.cells #[Value.pointer (some ⟨wr.heap.size, 0, none⟩), Value.int .i64 d, Value.int .i64 0, Value.slice none 0 0, Value.int .i64 0, Value.int .i64 0, Value.slice none 0 0, Value.map (some (wr.heap.size + 1)), Value.slice none 0 0] 86)).drew) (TB + 1) (.map (ents.push ⟨sideKey k false, .pointer (some ⟨wr.heap.size + 1 + 1, 0, none⟩), clock⟩) (clock + 1)) = W3 at *
   generalize retag (retag (retag own1 wr.heap.size (rid, 2 * k, 1)) (wr.heap.size + 1) (rid, 2 * k, 6)) (wr.heap.size + 1 + 1) (rid, 2 * k, 0) = ownA at *
   have W3s := U3.size
   have c1a : ∀ u, (W3.alloc u).cell? ⟨TB + 1 + 1, 1, none⟩ = some (.map (some (TB + 1))) := fun u => by rw [World.cell?_alloc_lt _ _ _ (by simp; omega)]; exact c1'
   have c0a : ∀ u, (W3.alloc u).cell? ⟨TB + 1 + 1, 0, none⟩ = some (.pointer (some ⟨TB, 0, none⟩)) := fun u => by rw [World.cell?_alloc_lt _ _ _ (by simp; omega)]; exact c0'
   have VB : Upd ownA (retag (retag ownA W3.heap.size (rid, 2 * k + 1, 6)) (W3.heap.size + 1) (rid, 2 * k + 1, 0)) (fun _ => False) W3 ((W3.alloc (Obj.map #[] 0)).alloc (Obj.cells #[Value.pointer (some ⟨TB, 0, none⟩), Value.int .i64 d, Value.int .i64 0, Value.slice none 0 0, Value.int .i64 0, Value.int .i64 0, Value.slice none 0 0, Value.map (some W3.heap.size), Value.slice none 0 0] 86)).drew := Upd.retag (Upd.retag ((((Upd.refl ownA (fun _ => False) W3).alloc _).alloc _).drew) _ _ (Nat.le_refl _)) _ _ (by omega)
   have map4 : ((W3.alloc (Obj.map #[] 0)).alloc (Obj.cells #[Value.pointer (some ⟨TB, 0, none⟩), Value.int .i64 d, Value.int .i64 0, Value.slice none 0 0, Value.int .i64 0, Value.int .i64 0, Value.slice none 0 0, Value.map (some W3.heap.size), Value.slice none 0 0] 86)).drew.heap[TB + 1]? = some (.map (ents.push ⟨sideKey k false, .pointer (some ⟨wr.heap.size + 1 + 1, 0, none⟩), clock⟩) (clock + 1)) := (VB.block _ (by omega) (fun h => h)).trans map3
   have hk1 : ∀ e ∈ (ents.push ⟨sideKey k false, .pointer (some ⟨wr.heap.size + 1 + 1, 0, none⟩), clock⟩).toList, ∃ l, keyOf Try.prog 80 e.key = some l := by
    intro e he
    simp only [Array.toList_push, List.mem_append, List.mem_singleton] at he
    rcases he with he | rfl
    ·exact hkeys e he
    ·exact keyOf_side _ _ hi64
   have hup2 := update_new map4 hk1 hi64 true (.pointer (some ⟨W3.heap.size + 1, 0, none⟩)) (by
    intro e he
    simp only [Array.toList_push, List.mem_append, List.mem_singleton] at he
    rcases he with he | rfl
    ·have := hR.ends.fresh true e he; rwa [ek] at this
    ·intro h; have := (sideKey_inj h).2; simp at this)
   have mt4 : retag (retag ownA W3.heap.size (rid, 2 * k + 1, 6)) (W3.heap.size + 1) (rid, 2 * k + 1, 0) (TB + 1) = (rid, 100, 5) := by rw [retag_lt (by omega), retag_lt (by omega)]; exact mt3
   have U4 : Upd ownA (retag (retag ownA W3.heap.size (rid, 2 * k + 1, 6)) (W3.heap.size + 1) (rid, 2 * k + 1, 0)) (fun t => t = (rid, 100, 5)) W3 (ChangeMaps.setBlock ((W3.alloc (Obj.map #[] 0)).alloc (Obj.cells #[Value.pointer (some ⟨TB, 0, none⟩), Value.int .i64 d, Value.int .i64 0, Value.slice none 0 0, Value.int .i64 0, Value.int .i64 0, Value.slice none 0 0, Value.map (some W3.heap.size), Value.slice none 0 0] 86)).drew (TB + 1) (.map ((ents.push ⟨sideKey k false, .pointer (some ⟨wr.heap.size + 1 + 1, 0, none⟩), clock⟩).push ⟨sideKey k true, .pointer (some ⟨W3.heap.size + 1, 0, none⟩), clock + 1⟩) (clock + 1 + 1))) :=
    Upd.setBlock (may := fun t => t = (rid, 100, 5)) (VB.mono (fun _ h => h.elim)) (b := TB + 1) mt4 _
   have CS : CellsT (retag (retag ownA W3.heap.size (rid, 2 * k + 1, 6)) (W3.heap.size + 1) (rid, 2 * k + 1, 0)) (rid, 2 * k + 1, 0) (ChangeMaps.setBlock ((W3.alloc (Obj.map #[] 0)).alloc (Obj.cells #[Value.pointer (some ⟨TB, 0, none⟩), Value.int .i64 d, Value.int .i64 0, Value.slice none 0 0, Value.int .i64 0, Value.int .i64 0, Value.slice none 0 0, Value.map (some W3.heap.size), Value.slice none 0 0] 86)).drew (TB + 1) (.map ((ents.push ⟨sideKey k false, .pointer (some ⟨wr.heap.size + 1 + 1, 0, none⟩), clock⟩).push ⟨sideKey k true, .pointer (some ⟨W3.heap.size + 1, 0, none⟩), clock + 1⟩) (clock + 1 + 1))) (W3.heap.size + 1) #[Value.pointer (some ⟨TB, 0, none⟩), Value.int .i64 d, Value.int .i64 0, Value.slice none 0 0, Value.int .i64 0, Value.int .i64 0, Value.slice none 0 0, Value.map (some W3.heap.size), Value.slice none 0 0] 86 :=
    ⟨by
     rw [heap_setBlock_other _ _ _ _ (by omega)]
     have := heap_alloc_new (W3.alloc (Obj.map #[] 0)) (Obj.cells #[Value.pointer (some ⟨TB, 0, none⟩), Value.int .i64 d, Value.int .i64 0, Value.slice none 0 0, Value.int .i64 0, Value.int .i64 0, Value.slice none 0 0, Value.map (some W3.heap.size), Value.slice none 0 0] 86)
     rw [World.size_alloc] at this; exact this, retag_ge (Nat.le_refl _)⟩
   have KS : (ChangeMaps.setBlock ((W3.alloc (Obj.map #[] 0)).alloc (Obj.cells #[Value.pointer (some ⟨TB, 0, none⟩), Value.int .i64 d, Value.int .i64 0, Value.slice none 0 0, Value.int .i64 0, Value.int .i64 0, Value.slice none 0 0, Value.map (some W3.heap.size), Value.slice none 0 0] 86)).drew (TB + 1) (.map ((ents.push ⟨sideKey k false, .pointer (some ⟨wr.heap.size + 1 + 1, 0, none⟩), clock⟩).push ⟨sideKey k true, .pointer (some ⟨W3.heap.size + 1, 0, none⟩), clock + 1⟩) (clock + 1 + 1))).heap[W3.heap.size]? = some (.map #[] 0) := by
    rw [heap_setBlock_other _ _ _ _ (by omega)]
    exact (Below.heap_alloc _ _ _ (by simp)).trans (heap_alloc_new W3 _)
   have TS : retag (retag ownA W3.heap.size (rid, 2 * k + 1, 6)) (W3.heap.size + 1) (rid, 2 * k + 1, 0) W3.heap.size = (rid, 2 * k + 1, 6) := by rw [retag_lt (by omega)]; exact retag_ge (Nat.le_refl _)
   have map5 : (ChangeMaps.setBlock ((W3.alloc (Obj.map #[] 0)).alloc (Obj.cells #[Value.pointer (some ⟨TB, 0, none⟩), Value.int .i64 d, Value.int .i64 0, Value.slice none 0 0, Value.int .i64 0, Value.int .i64 0, Value.slice none 0 0, Value.map (some W3.heap.size), Value.slice none 0 0] 86)).drew (TB + 1) (.map ((ents.push ⟨sideKey k false, .pointer (some ⟨wr.heap.size + 1 + 1, 0, none⟩), clock⟩).push ⟨sideKey k true, .pointer (some ⟨W3.heap.size + 1, 0, none⟩), clock + 1⟩) (clock + 1 + 1))).heap[TB + 1]? = some (.map ((ents.push ⟨sideKey k false, .pointer (some ⟨wr.heap.size + 1 + 1, 0, none⟩), clock⟩).push ⟨sideKey k true, .pointer (some ⟨W3.heap.size + 1, 0, none⟩), clock + 1⟩) (clock + 1 + 1)) := heap_setBlock_same _ _ _ (by simp; omega)
   have FIN : Hid (RoomXAt (retag (retag ownA W3.heap.size (rid, 2 * k + 1, 6)) (W3.heap.size + 1) (rid, 2 * k + 1, 0)) rid (ChangeMaps.setBlock ((W3.alloc (Obj.map #[] 0)).alloc (Obj.cells #[Value.pointer (some ⟨TB, 0, none⟩), Value.int .i64 d, Value.int .i64 0, Value.slice none 0 0, Value.int .i64 0, Value.int .i64 0, Value.slice none 0 0, Value.map (some W3.heap.size), Value.slice none 0 0] 86)).drew (TB + 1) (.map ((ents.push ⟨sideKey k false, .pointer (some ⟨wr.heap.size + 1 + 1, 0, none⟩), clock⟩).push ⟨sideKey k true, .pointer (some ⟨W3.heap.size + 1, 0, none⟩), clock + 1⟩) (clock + 1 + 1))) (TB + 1 + 1) (IRoom.fresh (k + 1) d) TB (TB + 1) ((ents.push ⟨sideKey k false, .pointer (some ⟨wr.heap.size + 1 + 1, 0, none⟩), clock⟩).push ⟨sideKey k true, .pointer (some ⟨W3.heap.size + 1, 0, none⟩), clock + 1⟩) (clock + 1 + 1) (es ++ [(wr.heap.size + 1 + 1, W3.heap.size + 1)]) (ts ++ [wr.heap.size]) ∧ Upd own (retag (retag ownA W3.heap.size (rid, 2 * k + 1, 6)) (W3.heap.size + 1) (rid, 2 * k + 1, 0)) (inRoom rid) w (ChangeMaps.setBlock ((W3.alloc (Obj.map #[] 0)).alloc (Obj.cells #[Value.pointer (some ⟨TB, 0, none⟩), Value.int .i64 d, Value.int .i64 0, Value.slice none 0 0, Value.int .i64 0, Value.int .i64 0, Value.slice none 0 0, Value.map (some W3.heap.size), Value.slice none 0 0] 86)).drew (TB + 1) (.map ((ents.push ⟨sideKey k false, .pointer (some ⟨wr.heap.size + 1 + 1, 0, none⟩), clock⟩).push ⟨sideKey k true, .pointer (some ⟨W3.heap.size + 1, 0, none⟩), clock + 1⟩) (clock + 1 + 1)))) := by
    apply hide
    have UU := U3.trans U4
    have et : ts.length = k := by rw [hR.lenT]; simp [IRoom.fresh]
    refine ⟨⟨hR.cells.upd UU (by simp), hR.text.upd UU (by simp) (by simp), map5, mt4, ?_, by simp [IRoom.fresh, ek], by simp [IRoom.fresh, et], by simp [IRoom.fresh], by simp [IRoom.fresh], by simp [IRoom.fresh]; omega, ?_⟩, (unhide HU).trans (UU.mono (by rintro t rfl; rfl))⟩
    ·have := hR.ends.push (wr.heap.size + 1 + 1) (W3.heap.size + 1) clock (clock + 1)
     rw [ek] at this
     simpa [ptr] using this
    ·intro i p tbi t E S a1 a2 a3 a4 a5
     by_cases hik : i < k
     ·rw [List.getElem?_append_left (by omega)] at a1 a2
      have g : ∀ {α : Type} (x : α) (y : α), (List.replicate (k + 1) x)[i]? = some y → (List.replicate k x)[i]? = some y := fun x y h => by
       rw [List.getElem?_replicate] at h ⊢
       rw [if_pos hik]; rw [if_pos (by omega)] at h; exact h
      obtain ⟨b1, b2, b3⟩ := hR.each i p tbi t E S a1 a2 (g _ _ a3) (g _ _ a4) (g _ _ a5)
      exact ⟨b1.upd UU (by intro j _ _; simp; omega), b2.upd UU (by simp) (by simp), b3.upd UU (by intro j _ _; simp; omega)⟩
     ·have hi1 : i = k := by have := (List.getElem?_eq_some_iff.1 a1).1; simp [ek] at this; omega
      subst hi1
      have p1 : (wr.heap.size + 1 + 1, W3.heap.size + 1) = p := by rw [← ek] at a1; simpa using a1
      have p2 : wr.heap.size = tbi := by rw [← et] at a2; simpa using a2
      have p3 : t = [] := by simp [IRoom.fresh] at a3; first | exact a3 | exact a3.symm
      have p4 : E = IEnd.empty := by simp [IRoom.fresh] at a4; exact a4.symm
      have p5 : S = IEnd.empty := by simp [IRoom.fresh] at a5; exact a5.symm
      subst p1 p2 p3 p4 p5
      exact ⟨EndX.empty (CE3.upd U4 (by simp)) ((U4.tags _ (by omega)).trans TK) ((U4.block _ (by omega) (by rw [TK]; simp)).trans CK3), TextX.empty (CT3.upd U4 (by simp)), EndX.empty CS TS KS⟩
   have J2 : Hid (∀ o o', ((W3.alloc o).alloc o').drew.cell? ⟨TB + 1 + 1, 1, none⟩ = some (.map (some (TB + 1))) ∧ ((W3.alloc o).alloc o').drew.cell? ⟨TB + 1 + 1, 0, none⟩ = some (.pointer (some ⟨TB, 0, none⟩))) :=
    hide fun o o' => ⟨(World.cell?_alloc_lt _ _ _ (by simp; omega)).trans (c1a o), (World.cell?_alloc_lt _ _ _ (by simp; omega)).trans (c0a o)⟩
   have J0 : Hid (W3.drew.cell? ⟨TB + 1 + 1, 1, none⟩ = some (.map (some (TB + 1))) ∧ W3.drew.cell? ⟨TB + 1 + 1, 0, none⟩ = some (.pointer (some ⟨TB, 0, none⟩))) := hide ⟨c1', c0'⟩
   have J3 := hide (And.intro (U4.cell c1' (by rw [U3.tags _ rbl, hR.cells.2]; simp)) (U4.cell c0' (by rw [U3.tags _ rbl, hR.cells.2]; simp)))
   clear hup1 CT3 CE3 CK3 TK CS KS TS U3 U4 VB map3 map4 map5 hR hkeys hk1 HU c1 c0 mt3 mt4
   go_region_held3 (fun w' => w'.cell? ⟨TB + 1 + 1, 1, none⟩ = some (.map (some (TB + 1))) ∧ w'.cell? ⟨TB + 1 + 1, 0, none⟩ = some (.pointer (some ⟨TB, 0, none⟩))) (first | exact unhide J2 _ _ | exact unhide J0 | exact unhide J3) (first | (go_at_call 49; refine (xnewEnd _ _ _).mono ?_; rintro e w' ⟨rfl, hw'⟩; obtain rfl := hw'.symm))
   all_goals
    go_wp2
    go_roundw
    case rel =>
     obtain ⟨x1, x2⟩ := unhide FIN
     exact ⟨k + 1, _, _, _, _, _, by omega, by go_num, x1, x2⟩
    case measure => simp [intOf]; omega
  ·have hlt' : ¬ (k : Int) < (n : Int) := by omega
   obtain rfl : k = n := by omega
   go_wp2
   go_ret2
   exact ⟨_, rfl, own1, ⟨_, _, _, _, _, _, hR⟩, hU⟩
end Go.Proofs.Ytemkgikncmhoaaa

