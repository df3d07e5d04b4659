/-
  weave: (*text).do, told, length. Own work.
-/
import Derived.Test.YtemkgikncmhoaaaImpIns2
import Derived.Test.YtemkgikncmhoaaaImpDel
import Derived.Test.YtemkgikncmhoaaaRefPut
namespace Go.Proofs.Ytemkgikncmhoaaa
open Go.RowKit
attribute [local go_sem ↓] Go.wp_at_zero Go.wp_at_succ

theorem xins (own : Nat → Tag) (tg : Tag) (lv : Value) (n i vb : Nat) (cs : List Value) (x : Value) (w : World) (h : OwnsT own tg w 5 1 lv n cs) (hi : i ≤ n) (hn : n ≤ 1000)
    (hv : w.heap[vb]? = some (.cells #[x] 5 (0, 0))) (hvt : own vb ≠ tg) (h1c : ∀ v ∈ cs, v.oneCell' = true) (h1x : x.oneCell' = true) :
    Calls Try.prog 71 #[lv, .int .i64 i, .slice (some ⟨vb, 0, none⟩) 1 1] w fun e w' =>
      ∃ a c own', e = .returned (.slice a (n + 1) c) ∧ OwnsT own' tg w' 5 1 (.slice a (n + 1) c) (n + 1) (insV cs i x) ∧ Upd own own' (fun t => t = tg) w w' := by
  have hcl : cs.length = n := by simpa using h.1.1
  by_cases hin : i = n
  · subst hin
    refine (ins_end own tg lv i vb cs x w h hn hv h1x).mono ?_
    rintro e w' ⟨v', rfl, ho, hu⟩
    obtain ⟨a, c, rfl, _, _⟩ := ho.shape
    refine ⟨a, c, _, rfl, ?_, hu⟩
    rw [insV, List.take_of_length_le (by omega), List.drop_of_length_le (by omega), List.append_nil]
    exact ho
  · rcases h.1.2 with ⟨_, h0⟩ | ⟨g, c, cur, rfl, _, _, hnc, _⟩
    · omega
    by_cases hroom : n + 1 ≤ c
    · refine (ins_shift own tg g n c i vb cs x w h (by omega) hroom hv hvt h1c h1x).mono ?_
      rintro e w' ⟨rfl, ho, hu⟩
      exact ⟨_, _, _, rfl, ho, hu⟩
    · refine (ins_grow own tg g n c i vb cs x w h (by omega) hn hnc (by omega) hv h1c h1x).mono ?_
      rintro e w' ⟨v', rfl, ho, hu⟩
      obtain ⟨a, c', rfl, _, _⟩ := ho.shape
      exact ⟨a, c', _, rfl, ho, hu⟩

def inText (rid k : Nat) (t : Tag) : Prop := t = (rid, k, 1) ∨ t = (rid, k, 2)

set_option maxRecDepth 100000 in
set_option maxHeartbeats 400000 in
theorem xlength (own : Nat → Tag) (rid k tb : Nat) (t : List UInt8) (w : World) (h : TextX own rid k w tb t) :
    Calls Try.prog 38 #[.pointer (some ⟨tb, 0, none⟩)] w fun e w' => e = .returned (.int .i64 t.length) ∧ w' = w := by
  obtain ⟨lv, hc, ho⟩ := h
  obtain ⟨a, c, rfl, _, _⟩ := ho.shape
  have c0 : w.cell? ⟨tb, 0, none⟩ = some (.slice a t.length c) := by rw [hc.cell]; rfl
  clear hc ho
  go_enter Try.func38, Try.ntmps38
  go_wp2
  go_ret
  exact ⟨rfl, rfl⟩

theorem strOf_bytes (t : List UInt8) : strOf (t.map fun c => (c.toNat : Int)) = ⟨t.toArray⟩ := by
  unfold strOf
  rw [List.map_map]
  congr 2
  have : (byteOf ∘ fun c : UInt8 => (c.toNat : Int)) = id := by
    funext c; simp [byteOf]
  rw [this, List.map_id]
theorem byteCells_map (t : List UInt8) : t.map byteCell = (t.map fun c => (c.toNat : Int)).map (Value.int .u8) := by
  rw [List.map_map]; rfl

set_option maxRecDepth 100000 in
set_option maxHeartbeats 400000 in
theorem xtold (own : Nat → Tag) (rid k tb : Nat) (t : List UInt8) (w : World) (h : TextX own rid k w tb t) :
    Calls Try.prog 35 #[.pointer (some ⟨tb, 0, none⟩)] w fun e w' => e = .returned (bstr t) ∧ w' = w := by
  obtain ⟨lv, hc, ho⟩ := h
  obtain ⟨a, c, rfl, _, _⟩ := ho.shape
  have c0 : w.cell? ⟨tb, 0, none⟩ = some (.slice a t.length c) := by rw [hc.cell]; rfl
  have hcv := run_string_own w 0 (.slice a t.length c) t.length (t.map fun c => (c.toNat : Int)) (by rw [← byteCells_map]; exact ho.1)
  rw [strOf_bytes] at hcv
  clear hc ho
  go_enter Try.func35, Try.ntmps35
  go_wp2
  go_ret
  exact ⟨rfl, rfl⟩

set_option maxRecDepth 100000 in
set_option maxHeartbeats 800000 in
theorem xdo_put (own : Nat → Tag) (rid k tb : Nat) (t : List UInt8) (cl : Int) (p l : Nat) (w : World) (h : TextX own rid k w tb t) (hp : p ≤ t.length) (hl : l ≤ 255) (ht : t.length ≤ 900) :
    Calls Try.prog 52 #[.pointer (some ⟨tb, 0, none⟩), .agg #[.int .i64 cl, .int .i64 1, .int .i64 p, .int .u8 l]] w fun e w' => e = .returned (.tuple #[]) ∧ ∃ own', TextX own' rid k w' tb (insB t p l) ∧ Upd own own' (inText rid k) w w' := by
  obtain ⟨lv, hc, ho⟩ := h
  obtain ⟨a, c, rfl, _, _⟩ := ho.shape
  have V : Upd own (retag own w.heap.size (rid + 1, 0, 0)) (fun _ => False) w (w.alloc (Obj.cells #[Value.int IntKind.i64 cl, Value.int IntKind.i64 1, Value.int IntKind.i64 p, Value.int IntKind.u8 l] 94)) := Upd.retag ((Upd.refl own (fun _ => False) w).alloc _) _ _ (Nat.le_refl _)
  have CN := CellsT.new w #[Value.int IntKind.i64 cl, Value.int IntKind.i64 1, Value.int IntKind.i64 p, Value.int IntKind.u8 l] 94 own (rid + 1, 0, 0)
  have hc1 := hc.upd V (fun h => h)
  have ho1 := ho.upd V (fun h => h)
  go_enter Try.func52, Try.ntmps52
  go_wp2_with fail
  have HV := hide V
  have hbl := hc.lt
  have hsz1 : (w.alloc (Obj.cells #[Value.int IntKind.i64 cl, Value.int IntKind.i64 1, Value.int IntKind.i64 p, Value.int IntKind.u8 l] 94)).heap.size > w.heap.size := by simp
  clear hc ho V
  generalize w.alloc (Obj.cells #[Value.int IntKind.i64 cl, Value.int IntKind.i64 1, Value.int IntKind.i64 p, Value.int IntKind.u8 l] 94) = W1 at *
  generalize retag own w.heap.size (rid + 1, 0, 0) = own1 at *
  have c0 : W1.cell? ⟨tb, 0, none⟩ = some (.slice a t.length c) := by rw [hc1.cell]; rfl
  have f0 := hc1.frozen 0
  have z2 := CN.cell 2
  have z3 := CN.cell 3
  simp only [List.getElem?_toArray, List.getElem?_cons_zero, List.getElem?_cons_succ] at z2 z3
  have c0a : ∀ u, (W1.alloc u).cell? ⟨tb, 0, none⟩ = some (.slice a t.length c) := fun u => by rw [(hc1.alloc u).cell]; rfl
  have z2a : ∀ u, (W1.alloc u).cell? ⟨w.heap.size, 2, none⟩ = some (.int .i64 p) := fun u => by rw [(CN.alloc u).cell]; rfl
  have n1 : ¬ (tb = W1.heap.size) := by omega
  have htl := hc1.lt
  have hI : ∀ u : Value, u.oneCell' = true → Calls Try.prog 71 #[.slice a t.length c, .int .i64 p, .slice (some ⟨W1.heap.size, 0, none⟩) 1 1] (W1.alloc (Obj.cells #[u] 5)).drew fun e w' =>
      ∃ a' c' own', e = .returned (.slice a' (t.length + 1) c') ∧ OwnsT own' (rid, k, 2) w' 5 1 (.slice a' (t.length + 1) c') (t.length + 1) (insV (t.map byteCell) p u) ∧ Upd (retag own1 W1.heap.size (rid + 1, 0, 0)) own' (fun t => t = (rid, k, 2)) (W1.alloc (Obj.cells #[u] 5)).drew w' := fun u hu => by
    have V2 : Upd own1 (retag own1 W1.heap.size (rid + 1, 0, 0)) (fun _ => False) W1 (W1.alloc (Obj.cells #[u] 5)).drew := Upd.retag (((Upd.refl own1 (fun _ => False) W1).alloc _).drew) _ _ (Nat.le_refl _)
    refine xins _ (rid, k, 2) _ t.length p W1.heap.size _ u _ (ho1.upd V2 (fun h => h)) hp (by omega) (heap_alloc_new W1 _) (by rw [retag_ge (Nat.le_refl _)]; simp) (by intro v hv; simp at hv; obtain ⟨q, _, rfl⟩ := hv; rfl) hu
  have HI := hide (hI (.int .u8 l) rfl)
  have FIN : Hid (∀ a' c' own' w', OwnsT own' (rid, k, 2) w' 5 1 (.slice a' (t.length + 1) c') (t.length + 1) (insV (t.map byteCell) p (.int .u8 l)) → Upd (retag own1 W1.heap.size (rid + 1, 0, 0)) own' (fun t => t = (rid, k, 2)) (W1.alloc (Obj.cells #[.int .u8 l] 5)).drew w' →
      (w'.cell? ⟨tb, 0, none⟩ = some (.slice a t.length c) ∧ w'.frozen? ⟨tb, 0, none⟩ = false) ∧ ∃ own2, TextX own2 rid k (w'.setCell ⟨tb, 0, none⟩ (.slice a' (t.length + 1) c')) tb (insB t p l) ∧ Upd own own2 (inText rid k) w (w'.setCell ⟨tb, 0, none⟩ (.slice a' (t.length + 1) c'))) := by
    apply hide
    intro a' c' own' w' h1 h2
    have V2 : Upd own1 (retag own1 W1.heap.size (rid + 1, 0, 0)) (fun _ => False) W1 (W1.alloc (Obj.cells #[.int .u8 l] 5)).drew := Upd.retag (((Upd.refl own1 (fun _ => False) W1).alloc _).drew) _ _ (Nat.le_refl _)
    have hc2 := hc1.upd V2 (fun h => h)
    have hc3 := hc2.upd h2 (by simp)
    refine ⟨⟨by rw [hc3.cell]; rfl, hc3.frozen 0⟩, ?_⟩
    obtain ⟨C, O, U⟩ := app_store0 (k := 0) hc2 h2 (by simp) h1
    refine ⟨own', ⟨_, C, ?_⟩, (((unhide HV).mono (fun _ h => h.elim)).trans (V2.mono (fun _ h => h.elim))).trans (U.mono (by rintro q (rfl | rfl) <;> simp [inText]))⟩
    have e : (insB t p l).map byteCell = insV (t.map byteCell) p (.int .u8 l) := by
      simp [insB, insV, byteCell, List.map_take, List.map_drop]
      omega
    rw [e, show (insB t p l).length = t.length + 1 from by simp [insB]; omega]
    exact O
  clear hI hc1 ho1 CN HV
  generalize w.heap.size = N at *
  go_region_with (first | (go_at_call 71; refine (unhide HI).mono ?_; rintro e w' ⟨a', c', own', rfl, h1, h2⟩; obtain ⟨⟨k0, g0⟩, hF⟩ := unhide FIN _ _ _ _ h1 h2))
  all_goals
    go_wp2
    go_end0
    exact ⟨rfl, hF⟩
end Go.Proofs.Ytemkgikncmhoaaa
