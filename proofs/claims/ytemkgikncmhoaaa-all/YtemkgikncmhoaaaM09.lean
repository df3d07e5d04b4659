import Derived.Test.YtemkgikncmhoaaaM05
import Derived.Test.YtemkgikncmhoaaaM07
import Derived.Test.YtemkgikncmhoaaaM08
namespace Go.Proofs.Ytemkgikncmhoaaa
open Go.RowKit

def insB (t : List UInt8) (p : Nat) (l : Nat) : List UInt8 := t.take p ++ [UInt8.ofNat l] ++ t.drop p
def delB (t : List UInt8) (p : Nat) : List UInt8 := t.take p ++ t.drop (p + 1)

def RRoom.client (R : RRoom) (c : Int) : Prop := 0 ≤ c ∧ c < R.texts.length
/-- After a message more, all still fits. -/
theorem REnd.Ok.more {E : REnd} (h : E.Ok) (o : ROp) (hl : E.rows.length < 240) (h1 : 0 ≤ o.client ∧ o.client ≤ 255) (h2 : 0 ≤ o.verb ∧ o.verb ≤ 255) (h3 : 0 ≤ o.place ∧ o.place ≤ 255) (h4 : 0 ≤ o.letter ∧ o.letter ≤ 255) :
  ({ E with rows := E.rows ++ [(⟨E.taken, [o]⟩ : RMsg)] } : REnd).Ok := by
 refine ⟨by simp; omega, h.taken, h.known, h.sent, h.out, h.spoilt, fun m hm => ?_⟩
 simp only [List.mem_append, List.mem_singleton] at hm
 rcases hm with hm | rfl
 ·exact h.msgs m hm
 ·exact ⟨h.taken, by simp, h1.1, h1.2, h2.1, h2.2, h3.1, h3.2, h4.1, h4.2⟩

set_option maxRecDepth 100000 in
set_option maxHeartbeats 400000 in
theorem rput_client (own : Nat → Tag) (rid b : Nat) (R : RRoom) (c p l : Int) (w : World) (h : RoomY own rid w b R) (hc : ¬ R.client c) :
  Calls Try.prog 61 #[.pointer (some ⟨b, 0, none⟩), .int .i64 c, .int .i64 p, .int .u8 l] w fun e w' => e = .returned (.int .i64 2) ∧ w' = w := by
 have HT := hide (there_no own rid b R c w h hc)
 clear h hc
 go_enter Try.func61, Try.ntmps61
 go_wp2_with (first | (go_at_call 65; refine (unhide HT).mono ?_; rintro e w' ⟨rfl, rfl⟩))
 go_ret
 exact ⟨rfl, rfl⟩

set_option maxRecDepth 100000 in
set_option maxHeartbeats 400000 in
theorem rput_place (own : Nat → Tag) (rid b : Nat) (R : RRoom) (i : Nat) (p l : Int) (t : List UInt8) (L : RLine) (w : World) (h : RoomY own rid w b R) (ht : R.texts[i]? = some t) (hL : R.lines[i]? = some L) (hp : p < 0 ∨ p > t.length) :
  Calls Try.prog 61 #[.pointer (some ⟨b, 0, none⟩), .int .i64 i, .int .i64 p, .int .u8 l] w fun e w' => e = .returned (.int .i64 3) ∧ w' = w := by
 obtain ⟨tg, tc, lg, lc, lb, c0, c2, c3, c4, c5, f4, hLA, t1, t2, t3, l1, l2, l3, hi⟩ := h.get ht hL
 have hi1 : (i : Int) < (R.texts.length : Int) := by omega
 have hi2 : (0 : Int) ≤ (i : Int) := by omega
 have HT := hide (there_yes own rid b R i w h hi)
 clear h
 by_cases hp0 : p < 0
 ·clear hp
  go_enter Try.func61, Try.ntmps61
  go_wp2_with (first | (go_at_call 65; refine (unhide HT).mono ?_; rintro e w' ⟨rfl, rfl⟩))
  go_ret
  exact ⟨rfl, rfl⟩
 ·have hp1 : (t.length : Int) < p := by omega
  clear hp
  go_enter Try.func61, Try.ntmps61
  go_wp2_with (first | (go_at_call 65; refine (unhide HT).mono ?_; rintro e w' ⟨rfl, rfl⟩))
  go_ret
  exact ⟨rfl, rfl⟩

set_option maxRecDepth 100000 in
set_option maxHeartbeats 400000 in
theorem rput_letter (own : Nat → Tag) (rid b : Nat) (R : RRoom) (i p : Nat) (l : Int) (t : List UInt8) (L : RLine) (w : World) (h : RoomY own rid w b R) (ht : R.texts[i]? = some t) (hL : R.lines[i]? = some L) (hp : p ≤ t.length) (hl : l < 33 ∨ l > 126) :
  Calls Try.prog 61 #[.pointer (some ⟨b, 0, none⟩), .int .i64 i, .int .i64 p, .int .u8 l] w fun e w' => e = .returned (.int .i64 4) ∧ w' = w := by
 obtain ⟨tg, tc, lg, lc, lb, c0, c2, c3, c4, c5, f4, hLA, t1, t2, t3, l1, l2, l3, hi⟩ := h.get ht hL
 have hi1 : (i : Int) < (R.texts.length : Int) := by omega
 have hi2 : (0 : Int) ≤ (i : Int) := by omega
 have hp0 : ¬ (p : Int) < 0 := by omega
 have hp1 : ¬ (t.length : Int) < (p : Int) := by omega
 have HT := hide (there_yes own rid b R i w h hi)
 clear h
 by_cases hl0 : l < 33
 ·clear hl
  go_enter Try.func61, Try.ntmps61
  go_wp2_with (first | (go_at_call 65; refine (unhide HT).mono ?_; rintro e w' ⟨rfl, rfl⟩))
  go_ret
  exact ⟨rfl, rfl⟩
 ·have hp1 : 126 < l := by omega
  clear hl
  go_enter Try.func61, Try.ntmps61
  go_wp2_with (first | (go_at_call 65; refine (unhide HT).mono ?_; rintro e w' ⟨rfl, rfl⟩))
  go_ret
  exact ⟨rfl, rfl⟩

set_option maxRecDepth 100000 in
set_option maxHeartbeats 400000 in
theorem rput_edit (own : Nat → Tag) (rid b : Nat) (R : RRoom) (i p l : Nat) (t : List UInt8) (L : RLine) (w : World) (h : RoomY own rid w b R) (ht : R.texts[i]? = some t) (hL : R.lines[i]? = some L) (hp : p ≤ t.length) (hl : 33 ≤ l ∧ l ≤ 126) (Q : Value → World → Prop)
  (he : Calls Try.prog 81 #[.pointer (some ⟨b, 0, none⟩), .int .i64 i, .agg #[.int .i64 i, .int .i64 1, .int .i64 p, .int .u8 l], .int .i64 t.length] w fun e w' => ∃ n : Int, e = .returned (.int .i64 n) ∧ Q (.int .i64 n) w') :
  Calls Try.prog 61 #[.pointer (some ⟨b, 0, none⟩), .int .i64 i, .int .i64 p, .int .u8 l] w fun e w' => ∃ n : Int, e = .returned (.int .i64 n) ∧ Q (.int .i64 n) w' := by
 obtain ⟨tg, tc, lg, lc, lb, c0, c2, c3, c4, c5, f4, hLA, t1, t2, t3, l1, l2, l3, hi⟩ := h.get ht hL
 have hi1 : (i : Int) < (R.texts.length : Int) := by omega
 have hi2 : (0 : Int) ≤ (i : Int) := by omega
 have hp0 : ¬ (p : Int) < 0 := by omega
 have hp1 : ¬ (t.length : Int) < (p : Int) := by omega
 have hl0 : ¬ (l : Int) < 33 := by omega
 have hl1 : ¬ (126 : Int) < (l : Int) := by omega
 have HT := hide (there_yes own rid b R i w h hi)
 have HE := hide he
 clear h he
 go_enter Try.func61, Try.ntmps61
 go_wp2_with (first | (go_at_call 65; refine (unhide HT).mono ?_; rintro e w' ⟨rfl, rfl⟩) | (go_at_call 81; refine (unhide HE).mono ?_; rintro e w' ⟨n, rfl, hQ⟩))
 go_ret
 exact ⟨n, rfl, hQ⟩

set_option maxRecDepth 100000 in
set_option maxHeartbeats 400000 in
theorem rcut_client (own : Nat → Tag) (rid b : Nat) (R : RRoom) (c p : Int) (w : World) (h : RoomY own rid w b R) (hc : ¬ R.client c) :
  Calls Try.prog 62 #[.pointer (some ⟨b, 0, none⟩), .int .i64 c, .int .i64 p] w fun e w' => e = .returned (.int .i64 2) ∧ w' = w := by
 have HT := hide (there_no own rid b R c w h hc)
 clear h hc
 go_enter Try.func62, Try.ntmps62
 go_wp2_with (first | (go_at_call 65; refine (unhide HT).mono ?_; rintro e w' ⟨rfl, rfl⟩))
 go_ret
 exact ⟨rfl, rfl⟩

set_option maxRecDepth 100000 in
set_option maxHeartbeats 400000 in
theorem rcut_place (own : Nat → Tag) (rid b : Nat) (R : RRoom) (i : Nat) (p : Int) (t : List UInt8) (L : RLine) (w : World) (h : RoomY own rid w b R) (ht : R.texts[i]? = some t) (hL : R.lines[i]? = some L) (hp : p < 0 ∨ p ≥ t.length) :
  Calls Try.prog 62 #[.pointer (some ⟨b, 0, none⟩), .int .i64 i, .int .i64 p] w fun e w' => e = .returned (.int .i64 3) ∧ w' = w := by
 obtain ⟨tg, tc, lg, lc, lb, c0, c2, c3, c4, c5, f4, hLA, t1, t2, t3, l1, l2, l3, hi⟩ := h.get ht hL
 have hi1 : (i : Int) < (R.texts.length : Int) := by omega
 have hi2 : (0 : Int) ≤ (i : Int) := by omega
 have HT := hide (there_yes own rid b R i w h hi)
 clear h
 by_cases hp0 : p < 0
 ·clear hp
  go_enter Try.func62, Try.ntmps62
  go_wp2_with (first | (go_at_call 65; refine (unhide HT).mono ?_; rintro e w' ⟨rfl, rfl⟩))
  go_ret
  exact ⟨rfl, rfl⟩
 ·have hp1 : (t.length : Int) ≤ p := by omega
  clear hp
  go_enter Try.func62, Try.ntmps62
  go_wp2_with (first | (go_at_call 65; refine (unhide HT).mono ?_; rintro e w' ⟨rfl, rfl⟩))
  go_ret
  exact ⟨rfl, rfl⟩

set_option maxRecDepth 100000 in
set_option maxHeartbeats 400000 in
theorem rcut_edit (own : Nat → Tag) (rid b : Nat) (R : RRoom) (i p : Nat) (t : List UInt8) (L : RLine) (w : World) (h : RoomY own rid w b R) (ht : R.texts[i]? = some t) (hL : R.lines[i]? = some L) (hp : p < t.length) (Q : Value → World → Prop)
  (he : Calls Try.prog 81 #[.pointer (some ⟨b, 0, none⟩), .int .i64 i, .agg #[.int .i64 i, .int .i64 2, .int .i64 p, .int .u8 0], .int .i64 0] w fun e w' => ∃ n : Int, e = .returned (.int .i64 n) ∧ Q (.int .i64 n) w') :
  Calls Try.prog 62 #[.pointer (some ⟨b, 0, none⟩), .int .i64 i, .int .i64 p] w fun e w' => ∃ n : Int, e = .returned (.int .i64 n) ∧ Q (.int .i64 n) w' := by
 obtain ⟨tg, tc, lg, lc, lb, c0, c2, c3, c4, c5, f4, hLA, t1, t2, t3, l1, l2, l3, hi⟩ := h.get ht hL
 have hi1 : (i : Int) < (R.texts.length : Int) := by omega
 have hi2 : (0 : Int) ≤ (i : Int) := by omega
 have hp0 : ¬ (p : Int) < 0 := by omega
 have hp1 : ¬ (t.length : Int) ≤ (p : Int) := by omega
 have HT := hide (there_yes own rid b R i w h hi)
 have HE := hide he
 clear h he
 go_enter Try.func62, Try.ntmps62
 go_wp2_with (first | (go_at_call 65; refine (unhide HT).mono ?_; rintro e w' ⟨rfl, rfl⟩) | (go_at_call 81; refine (unhide HE).mono ?_; rintro e w' ⟨n, rfl, hQ⟩))
 go_ret
 exact ⟨n, rfl, hQ⟩
end Go.Proofs.Ytemkgikncmhoaaa

namespace Go.Proofs.Ytemkgikncmhoaaa
open Go.RowKit
attribute [local go_sem ↓] Go.wp_at_zero Go.wp_at_succ

theorem xins (own : Nat → Tag) (tg : Tag) (lv : Value) (n i vb : Nat) (cs : List Value) (x : Value) (w : World) (h : OwnsT own tg w 5 1 lv n cs) (hi : i ≤ n) (hn : n ≤ 1000)
  (hv : w.heap[vb]? = some (.cells #[x] 5 (0, 0))) (hvt : own vb ≠ tg) (h1c : ∀ v ∈ cs, v.oneCell' = true) (h1x : x.oneCell' = true) :
  Calls Try.prog 71 #[lv, .int .i64 i, .slice (some ⟨vb, 0, none⟩) 1 1] w fun e w' =>
   ∃ a c own', e = .returned (.slice a (n + 1) c) ∧ OwnsT own' tg w' 5 1 (.slice a (n + 1) c) (n + 1) (insV cs i x) ∧ Upd own own' (fun t => t = tg) w w' := by
 have hcl : cs.length = n := by simpa using h.1.1
 by_cases hin : i = n
 ·subst hin
  refine (ins_end own tg lv i vb cs x w h hn hv h1x).mono ?_
  rintro e w' ⟨v', rfl, ho, hu⟩
  obtain ⟨a, c, rfl, _, _⟩ := ho.shape
  refine ⟨a, c, _, rfl, ?_, hu⟩
  rw [insV, List.take_of_length_le (by omega), List.drop_of_length_le (by omega), List.append_nil]
  exact ho
 ·rcases h.1.2 with ⟨_, h0⟩ | ⟨g, c, cur, rfl, _, _, hnc, _⟩
  ·omega
  by_cases hroom : n + 1 ≤ c
  ·refine (ins_shift own tg g n c i vb cs x w h (by omega) hroom hv hvt h1c h1x).mono ?_
   rintro e w' ⟨rfl, ho, hu⟩
   exact ⟨_, _, _, rfl, ho, hu⟩
  ·refine (ins_grow own tg g n c i vb cs x w h (by omega) hn hnc (by omega) hv h1c h1x).mono ?_
   rintro e w' ⟨v', rfl, ho, hu⟩
   obtain ⟨a, c', rfl, _, _⟩ := ho.shape
   exact ⟨a, c', _, rfl, ho, hu⟩

def inText (rid k : Nat) (t : Tag) : Prop := t = (rid, k, 1) ∨ t = (rid, k, 2)

set_option maxRecDepth 100000 in
set_option maxHeartbeats 400000 in
theorem xlength (own : Nat → Tag) (rid k tb : Nat) (t : List UInt8) (w : World) (h : TextX own rid k w tb t) :
  Calls Try.prog 38 #[.pointer (some ⟨tb, 0, none⟩)] w fun e w' => e = .returned (.int .i64 t.length) ∧ w' = w := by
 obtain ⟨lv, hc, ho⟩ := h
 obtain ⟨a, c, rfl, _, _⟩ := ho.shape
 have c0 : w.cell? ⟨tb, 0, none⟩ = some (.slice a t.length c) := by rw [hc.cell]; rfl
 clear hc ho
 go_enter Try.func38, Try.ntmps38
 go_wp2
 go_ret
 exact ⟨rfl, rfl⟩

theorem strOf_bytes (t : List UInt8) : strOf (t.map fun c => (c.toNat : Int)) = ⟨t.toArray⟩ := by
 unfold strOf
 rw [List.map_map]
 congr 2
 have : (byteOf ∘ fun c : UInt8 => (c.toNat : Int)) = id := by
  funext c; simp [byteOf]
 rw [this, List.map_id]
theorem byteCells_map (t : List UInt8) : t.map byteCell = (t.map fun c => (c.toNat : Int)).map (Value.int .u8) := by
 rw [List.map_map]; rfl

set_option maxRecDepth 100000 in
set_option maxHeartbeats 400000 in
theorem xtold (own : Nat → Tag) (rid k tb : Nat) (t : List UInt8) (w : World) (h : TextX own rid k w tb t) :
  Calls Try.prog 35 #[.pointer (some ⟨tb, 0, none⟩)] w fun e w' => e = .returned (bstr t) ∧ w' = w := by
 obtain ⟨lv, hc, ho⟩ := h
 obtain ⟨a, c, rfl, _, _⟩ := ho.shape
 have c0 : w.cell? ⟨tb, 0, none⟩ = some (.slice a t.length c) := by rw [hc.cell]; rfl
 have hcv := run_string_own w 0 (.slice a t.length c) t.length (t.map fun c => (c.toNat : Int)) (by rw [← byteCells_map]; exact ho.1)
 rw [strOf_bytes] at hcv
 clear hc ho
 go_enter Try.func35, Try.ntmps35
 go_wp2
 go_ret
 exact ⟨rfl, rfl⟩

set_option maxRecDepth 100000 in
set_option maxHeartbeats 800000 in
theorem xdo_put (own : Nat → Tag) (rid k tb : Nat) (t : List UInt8) (cl : Int) (p l : Nat) (w : World) (h : TextX own rid k w tb t) (hp : p ≤ t.length) (hl : l ≤ 255) (ht : t.length ≤ 900) :
  Calls Try.prog 52 #[.pointer (some ⟨tb, 0, none⟩), .agg #[.int .i64 cl, .int .i64 1, .int .i64 p, .int .u8 l]] w fun e w' => e = .returned (.tuple #[]) ∧ ∃ own', TextX own' rid k w' tb (insB t p l) ∧ Upd own own' (inText rid k) w w' := by
 obtain ⟨lv, hc, ho⟩ := h
 obtain ⟨a, c, rfl, _, _⟩ := ho.shape
 have V : Upd own (retag own w.heap.size (rid + 1, 0, 0)) (fun _ => False) w (w.alloc (Obj.cells #[Value.int IntKind.i64 cl, Value.int IntKind.i64 1, Value.int IntKind.i64 p, Value.int IntKind.u8 l] 94)) := Upd.retag ((Upd.refl own (fun _ => False) w).alloc _) _ _ (Nat.le_refl _)
 have CN := CellsT.new w #[Value.int IntKind.i64 cl, Value.int IntKind.i64 1, Value.int IntKind.i64 p, Value.int IntKind.u8 l] 94 own (rid + 1, 0, 0)
 have hc1 := hc.upd V (fun h => h)
 have ho1 := ho.upd V (fun h => h)
 go_enter Try.func52, Try.ntmps52
 go_wp2_with fail
 have HV := hide V
 have hbl := hc.lt
 have hsz1 : (w.alloc (Obj.cells #[Value.int IntKind.i64 cl, Value.int IntKind.i64 1, Value.int IntKind.i64 p, Value.int IntKind.u8 l] 94)).heap.size > w.heap.size := by simp
 clear hc ho V
 generalize w.alloc (Obj.cells #[Value.int IntKind.i64 cl, Value.int IntKind.i64 1, Value.int IntKind.i64 p, Value.int IntKind.u8 l] 94) = W1 at *
 generalize retag own w.heap.size (rid + 1, 0, 0) = own1 at *
 have c0 : W1.cell? ⟨tb, 0, none⟩ = some (.slice a t.length c) := by rw [hc1.cell]; rfl
 have f0 := hc1.frozen 0
 have z2 := CN.cell 2
 have z3 := CN.cell 3
 simp only [List.getElem?_toArray, List.getElem?_cons_zero, List.getElem?_cons_succ] at z2 z3
 have c0a : ∀ u, (W1.alloc u).cell? ⟨tb, 0, none⟩ = some (.slice a t.length c) := fun u => by rw [(hc1.alloc u).cell]; rfl
 have z2a : ∀ u, (W1.alloc u).cell? ⟨w.heap.size, 2, none⟩ = some (.int .i64 p) := fun u => by rw [(CN.alloc u).cell]; rfl
 have n1 : ¬ (tb = W1.heap.size) := by omega
 have htl := hc1.lt
 have hI : ∀ u : Value, u.oneCell' = true → Calls Try.prog 71 #[.slice a t.length c, .int .i64 p, .slice (some ⟨W1.heap.size, 0, none⟩) 1 1] (W1.alloc (Obj.cells #[u] 5)).drew fun e w' =>
   ∃ a' c' own', e = .returned (.slice a' (t.length + 1) c') ∧ OwnsT own' (rid, k, 2) w' 5 1 (.slice a' (t.length + 1) c') (t.length + 1) (insV (t.map byteCell) p u) ∧ Upd (retag own1 W1.heap.size (rid + 1, 0, 0)) own' (fun t => t = (rid, k, 2)) (W1.alloc (Obj.cells #[u] 5)).drew w' := fun u hu => by
  have V2 : Upd own1 (retag own1 W1.heap.size (rid + 1, 0, 0)) (fun _ => False) W1 (W1.alloc (Obj.cells #[u] 5)).drew := Upd.retag (((Upd.refl own1 (fun _ => False) W1).alloc _).drew) _ _ (Nat.le_refl _)
  refine xins _ (rid, k, 2) _ t.length p W1.heap.size _ u _ (ho1.upd V2 (fun h => h)) hp (by omega) (heap_alloc_new W1 _) (by rw [retag_ge (Nat.le_refl _)]; simp) (by intro v hv; simp at hv; obtain ⟨q, _, rfl⟩ := hv; rfl) hu
 have HI := hide (hI (.int .u8 l) rfl)
 have FIN : Hid (∀ a' c' own' w', OwnsT own' (rid, k, 2) w' 5 1 (.slice a' (t.length + 1) c') (t.length + 1) (insV (t.map byteCell) p (.int .u8 l)) → Upd (retag own1 W1.heap.size (rid + 1, 0, 0)) own' (fun t => t = (rid, k, 2)) (W1.alloc (Obj.cells #[.int .u8 l] 5)).drew w' →
   (w'.cell? ⟨tb, 0, none⟩ = some (.slice a t.length c) ∧ w'.frozen? ⟨tb, 0, none⟩ = false) ∧ ∃ own2, TextX own2 rid k (w'.setCell ⟨tb, 0, none⟩ (.slice a' (t.length + 1) c')) tb (insB t p l) ∧ Upd own own2 (inText rid k) w (w'.setCell ⟨tb, 0, none⟩ (.slice a' (t.length + 1) c'))) := by
  apply hide
  intro a' c' own' w' h1 h2
  have V2 : Upd own1 (retag own1 W1.heap.size (rid + 1, 0, 0)) (fun _ => False) W1 (W1.alloc (Obj.cells #[.int .u8 l] 5)).drew := Upd.retag (((Upd.refl own1 (fun _ => False) W1).alloc _).drew) _ _ (Nat.le_refl _)
  have hc2 := hc1.upd V2 (fun h => h)
  have hc3 := hc2.upd h2 (by simp)
  refine ⟨⟨by rw [hc3.cell]; rfl, hc3.frozen 0⟩, ?_⟩
  obtain ⟨C, O, U⟩ := app_store0 (k := 0) hc2 h2 (by simp) h1
  refine ⟨own', ⟨_, C, ?_⟩, (((unhide HV).mono (fun _ h => h.elim)).trans (V2.mono (fun _ h => h.elim))).trans (U.mono (by rintro q (rfl | rfl) <;> simp [inText]))⟩
  have e : (insB t p l).map byteCell = insV (t.map byteCell) p (.int .u8 l) := by
   simp [insB, insV, byteCell, List.map_take, List.map_drop]
   omega
  rw [e, show (insB t p l).length = t.length + 1 from by simp [insB]; omega]
  exact O
 clear hI hc1 ho1 CN HV
 generalize w.heap.size = N at *
 go_region_with (first | (go_at_call 71; refine (unhide HI).mono ?_; rintro e w' ⟨a', c', own', rfl, h1, h2⟩; obtain ⟨⟨k0, g0⟩, hF⟩ := unhide FIN _ _ _ _ h1 h2))
 all_goals
  go_wp2
  go_end0
  exact ⟨rfl, hF⟩
end Go.Proofs.Ytemkgikncmhoaaa

namespace Go.Proofs.Ytemkgikncmhoaaa
open Go.RowKit
attribute [local go_sem ↓] Go.wp_at_zero Go.wp_at_succ

def IMsg.bytes (m : IMsg) (taken : Nat) : List Int := [1, m.number, m.ctx, taken, m.op.client, m.op.verb, m.op.place, m.op.letter]

def IEnd.sends (E : IEnd) (ms : List IMsg) : IEnd := ms.foldl (fun E m => E.fly (ckd (m.bytes E.taken))) E
theorem IEnd.fly_fields (E : IEnd) (s : ByteArray) : (E.fly s).known = E.known ∧ (E.fly s).waiting = E.waiting ∧ (E.fly s).taken = E.taken ∧ (E.fly s).seen = E.seen ∧ (E.fly s).opn = E.opn ∧ (E.fly s).kept = E.kept := by
 unfold IEnd.fly; split <;> exact ⟨rfl, rfl, rfl, rfl, rfl, rfl⟩
theorem IEnd.fly_le (E : IEnd) (s : ByteArray) (h : E.flying.length ≤ 12) : (E.fly s).flying.length ≤ 12 := by
 unfold IEnd.fly
 split
 ·simp; omega
 ·exact h
theorem IEnd.sends_append (E : IEnd) (ms ns : List IMsg) : E.sends (ms ++ ns) = (E.sends ms).sends ns := by simp [IEnd.sends]
theorem IEnd.sends_fields (ms : List IMsg) : ∀ E : IEnd, (E.sends ms).known = E.known ∧ (E.sends ms).waiting = E.waiting ∧ (E.sends ms).taken = E.taken ∧ (E.sends ms).seen = E.seen ∧ (E.sends ms).opn = E.opn ∧ (E.sends ms).kept = E.kept := by
 induction ms with
 | nil => intro E; exact ⟨rfl, rfl, rfl, rfl, rfl, rfl⟩
 | cons m ms ih =>
  intro E
  obtain ⟨a1, a2, a3, a4, a5, a6⟩ := ih (E.fly (ckd (m.bytes E.taken)))
  obtain ⟨b1, b2, b3, b4, b5, b6⟩ := E.fly_fields (ckd (m.bytes E.taken))
  exact ⟨a1.trans b1, a2.trans b2, a3.trans b3, a4.trans b4, a5.trans b5, a6.trans b6⟩
theorem IEnd.sends_le (ms : List IMsg) : ∀ E : IEnd, E.flying.length ≤ 12 → (E.sends ms).flying.length ≤ 12 := by
 induction ms with
 | nil => intro E h; exact h
 | cons m ms ih => intro E h; exact ih _ (E.fly_le _ h)
theorem IMsg.cells_at {ms : List IMsg} {j : Nat} {m : IMsg} (h : ms[j]? = some m) {i : Nat} (hi : i < 6) : (ms.flatMap IMsg.cells)[j * 6 + i]? = m.cells[i]? := by
 induction ms generalizing j with
 | nil => simp at h
 | cons x xs ih =>
  rw [List.flatMap_cons]
  have hx : x.cells.length = 6 := rfl
  match j, h with
  | 0, h =>
   obtain rfl : x = m := by simpa using h
   rw [List.getElem?_append_left (by rw [hx]; omega)]; simp
  | j + 1, h =>
   rw [List.getElem?_append_right (by rw [hx]; omega), hx, show (j + 1) * 6 + i - 6 = j * 6 + i by omega]
   exact ih (by simpa using h)

set_option maxRecDepth 100000 in
set_option maxHeartbeats 1600000 in
theorem xsends (own : Nat → Tag) (rid k b tb window g off cap : Nat) (E : IEnd) (ms : List IMsg) (w : World) (h : EndX own rid k w b tb window E) (hle : E.flying.length ≤ 12) (hx : ∀ m ∈ ms, Bytes (m.bytes E.taken))
  (hn : ms.length ≤ 1000) (hg : ms ≠ [] → ¬ inFly rid k (own g) ∧ g < w.heap.size) (hm : ∀ j u, (ms.flatMap IMsg.cells)[j]? = some u → w.cell? ⟨g, off + j, none⟩ = some u) :
  Calls Try.prog 67 #[.pointer (some ⟨b, 0, none⟩), .slice (some ⟨g, off, none⟩) ms.length cap] w fun e w' => e = .returned (.tuple #[]) ∧ ∃ own', EndX own' rid k w' b tb window (E.sends ms) ∧ Upd own own' (inFly rid k) w w' := by
 have HM := hide hm
 have HX := hide hx
 have HG := hide hg
 clear hm hx hg
 go_enter Try.func67, Try.ntmps67
 go_wp2_with fail
 go_loopw [8] (fun v8 wr => ∃ j : Nat, j ≤ ms.length ∧ v8 = .int .i64 j ∧ ∃ own', EndX own' rid k wr b tb window (E.sends (ms.take j)) ∧ Upd own own' (inFly rid k) w wr) (fun v8 _ => ms.length - (intOf v8).toNat)
 case atStart => exact ⟨0, Nat.zero_le _, rfl, own, h, Upd.refl _ _ _⟩
 case round =>
  obtain ⟨j, hj, rfl, own', h1, h2⟩ := hrel
  by_cases hlt : j < ms.length
  ·have hlt' : (j : Int) < (ms.length : Int) := by omega
   obtain ⟨m, hmj⟩ : ∃ m, ms[j]? = some m := ⟨ms[j], by simp [hlt]⟩
   have hne : ms ≠ [] := by rintro rfl; simp at hlt
   obtain ⟨g1, g2⟩ := unhide HG hne
   have zz : ∀ i, i < 6 → ∀ u, m.cells[i]? = some u → wr.cell? ⟨g, off + j * 6 + i, none⟩ = some u := fun i hi u hu => by rw [Nat.add_assoc]; exact h2.cell (unhide HM _ _ ((IMsg.cells_at hmj hi).trans hu)) g1
   have m0 : wr.cell? ⟨g, off + j * 6, none⟩ = _ := zz 0 (by decide) _ rfl
   have m1 := zz 1 (by decide) _ rfl
   have m2 := zz 2 (by decide) _ rfl
   have m3 := zz 3 (by decide) _ rfl
   have m4 := zz 4 (by decide) _ rfl
   have m5 := zz 5 (by decide) _ rfl
   have gl : g < wr.heap.size := Nat.lt_of_lt_of_le g2 h2.size
   have ht : (E.sends (ms.take j)).taken = E.taken := (IEnd.sends_fields _ E).2.2.1
   have hle1 := IEnd.sends_le (ms.take j) E hle
   have HB : Hid (m.bytes E.taken = [1, (m.number : Int), m.ctx, E.taken, m.op.client, m.op.verb, m.op.place, m.op.letter]) := rfl
   have hxm := unhide HX m (List.mem_of_getElem? hmj)
   rw [HB.out] at hxm
   have HDG : Hid (∀ w, Calls Try.prog 82 #[.agg #[.int .i64 m.number, .int .i64 m.ctx, .int .i64 m.op.client, .int .i64 m.op.verb, .int .i64 m.op.place, .int .u8 m.op.letter], .int .i64 E.taken] w fun e w' => e = .returned (.string (ckd [1, (m.number : Int), m.ctx, E.taken, m.op.client, m.op.verb, m.op.place, m.op.letter])) ∧ Below w.heap.size w w') :=
    hide fun w => datagram_any _ _ _ _ _ _ _ w hxm
   have HNX : Hid (E.sends (ms.take (j + 1)) = (E.sends (ms.take j)).fly (ckd [1, (m.number : Int), m.ctx, E.taken, m.op.client, m.op.verb, m.op.place, m.op.letter])) := by
    apply hide
    rw [List.take_add_one, hmj, Option.toList_some, IEnd.sends_append]
    show (E.sends (ms.take j)).fly (ckd (m.bytes (E.sends (ms.take j)).taken)) = _
    rw [ht]; rfl
   have hc4 : wr.cell? ⟨b, 4, none⟩ = some (.int .i64 E.taken) := by rw [h1.c4, ht]
   have hbl := h1.lt
   have HU := hide h2
   clear zz hxm HB h2 g1
   generalize (m.number : Int) = q0 at *
   generalize (m.ctx : Int) = q1 at *
   generalize m.op.client = q2 at *
   generalize m.op.verb = q3 at *
   generalize m.op.place = q4 at *
   generalize m.op.letter = q5 at *
   generalize ckd [1, q0, q1, (E.taken : Int), q2, q3, q4, q5] = s at *
   generalize E.sends (ms.take j) = E1 at *
   go_wp2_with fail
   have V : Upd own' (retag own' wr.heap.size (rid + 1, 0, 0)) (fun _ => False) wr (wr.alloc (Obj.cells #[Value.int IntKind.i64 q0, Value.int IntKind.i64 q1, Value.int IntKind.i64 q2, Value.int IntKind.i64 q3, Value.int IntKind.i64 q4, Value.int IntKind.u8 q5] 139)) := Upd.retag ((Upd.refl own' (fun _ => False) wr).alloc _) _ _ (Nat.le_refl _)
   have CN := CellsT.new wr #[Value.int IntKind.i64 q0, Value.int IntKind.i64 q1, Value.int IntKind.i64 q2, Value.int IntKind.i64 q3, Value.int IntKind.i64 q4, Value.int IntKind.u8 q5] 139 own' (rid + 1, 0, 0)
   have z := fun j => CN.cell j
   have z0 := z 0
   have z1 := z 1
   have z2 := z 2
   have z3 := z 3
   have z4 := z 4
   have z5 := z 5
   simp only [List.getElem?_toArray, List.getElem?_cons_zero, List.getElem?_cons_succ] at z0 z1 z2 z3 z4 z5
   have hE1 := h1.upd V (fun _ _ _ h => h)
   have c4' := V.cell hc4 (fun h => h)
   have FIN : Hid (∀ own1 w1, EndX own1 rid k w1 b tb window (E1.fly s) → Upd (retag own' wr.heap.size (rid + 1, 0, 0)) own1 (inFly rid k) (wr.alloc (Obj.cells #[Value.int IntKind.i64 q0, Value.int IntKind.i64 q1, Value.int IntKind.i64 q2, Value.int IntKind.i64 q3, Value.int IntKind.i64 q4, Value.int IntKind.u8 q5] 139)) w1 →
     ∃ own', EndX own' rid k w1 b tb window (E.sends (ms.take (j + 1))) ∧ Upd own own' (inFly rid k) w w1) := hide fun own1 w1 h1 h2 => ⟨own1, by rw [HNX.out]; exact h1, (unhide HU).trans ((V.mono (fun _ h => h.elim)).trans h2)⟩
   clear z CN V hc4 m0 m1 m2 m3 m4 m5 h1 HM HX HG HNX HU
   generalize wr.alloc (Obj.cells #[Value.int IntKind.i64 q0, Value.int IntKind.i64 q1, Value.int IntKind.i64 q2, Value.int IntKind.i64 q3, Value.int IntKind.i64 q4, Value.int IntKind.u8 q5] 139) = W1 at *
   generalize retag own' wr.heap.size (rid + 1, 0, 0) = own2 at *
   go_region_with (first
    | (go_at_call 82; refine (unhide HDG _).mono ?_; rintro e w2 ⟨rfl, hb2⟩)
    | (go_at_call 69; refine (xfly own2 rid k b tb window _ E1 s _ ?_ hle1 ?_).mono ?_; (exact hE1.upd ((((Upd.refl own2 (fun _ => False) W1).drew).trans (Upd.of_below own2 _ hb2)).alloc _) (fun _ _ _ h => h)); (exact World.cell?_alloc_new _ _ _ _); rintro e w4 ⟨rfl, own4, h4, hu4⟩))
   all_goals
    go_wp2
    go_roundw
    case rel => exact ⟨j + 1, by omega, by go_num, unhide FIN own4 w4 h4 (((((Upd.refl own2 (inFly rid k) W1).drew).trans (Upd.of_below own2 _ hb2)).alloc _).trans hu4)⟩
    case measure => simp [intOf]; omega
  ·have hlt' : ¬ (j : Int) < (ms.length : Int) := by omega
   obtain rfl : j = ms.length := by omega
   rw [List.take_length] at h1
   go_wp2
   go_end0
   exact ⟨rfl, own', h1, h2⟩
end Go.Proofs.Ytemkgikncmhoaaa

namespace Go.Proofs.Ytemkgikncmhoaaa
open Go.RowKit
attribute [local go_sem ↓] Go.wp_at_zero Go.wp_at_succ

theorem Try.info94 : (Try.prog.info? 94).map (fun i => (i.zero, i.size, i.bytes)) = some (some (.agg #[.int .i64 0, .int .i64 0, .int .i64 0, .int .u8 0]), 4, 32) := by kernel_rfl
theorem Try.info139 : (Try.prog.info? 139).map (fun i => (i.zero, i.size, i.bytes)) = some (some (.agg #[.int .i64 0, .int .i64 0, .int .i64 0, .int .i64 0, .int .i64 0, .int .u8 0]), 6, 48) := by kernel_rfl

def ROp.Small (o : ROp) : Prop := (0 ≤ o.client ∧ o.client ≤ 255) ∧ (0 ≤ o.verb ∧ o.verb ≤ 255) ∧ (0 ≤ o.place ∧ o.place ≤ 255) ∧ (0 ≤ o.letter ∧ o.letter ≤ 255)
def IEnd.made (E : IEnd) : Nat := E.known + E.waiting.length
def IEnd.next (E : IEnd) (o : ROp) : IMsg := ⟨E.made + 1, E.taken, o⟩
def IEnd.grow (E : IEnd) (o : ROp) : IEnd := { E with waiting := E.waiting ++ [E.next o], opn := E.opn ++ [o] }
def IEnd.make (E : IEnd) (o : ROp) (window : Nat) : IEnd :=
 if E.waiting.length + 1 ≤ window then (E.grow o).sends [E.next o] else E.grow o

set_option maxRecDepth 100000 in
set_option maxHeartbeats 400000 in
theorem xwaits (own : Nat → Tag) (rid k b tb window : Nat) (E : IEnd) (w : World) (h : EndX own rid k w b tb window E) :
  Calls Try.prog 36 #[.pointer (some ⟨b, 0, none⟩)] w fun e w' => e = .returned (.int .i64 E.waiting.length) ∧ w' = w := by
 obtain ⟨a, c, c3⟩ := h.c3
 clear h
 go_enter Try.func36, Try.ntmps36
 go_wp2
 go_ret
 exact ⟨rfl, rfl⟩

set_option maxRecDepth 100000 in
set_option maxHeartbeats 400000 in
theorem xmade (own : Nat → Tag) (rid k b tb window : Nat) (E : IEnd) (w : World) (h : EndX own rid k w b tb window E) (h1 : E.made ≤ 1000) :
  Calls Try.prog 51 #[.pointer (some ⟨b, 0, none⟩)] w fun e w' => e = .returned (.int .i64 E.made) ∧ w' = w.drew := by
 obtain ⟨a, c, c3⟩ := h.c3
 have c2 := h.c2
 have HM : Hid ((E.made : Int) = (E.known : Int) + E.waiting.length) := by apply hide; simp [IEnd.made]
 have h3 : (E.known : Int) + E.waiting.length ≤ 1000 := by rw [← HM.out]; omega
 have hwr : IntKind.i64.wrap ((E.known : Int) + E.waiting.length) = (E.known : Int) + E.waiting.length := by rw [IntKind.wrap_i64]; omega
 clear h h1
 rw [HM.out]
 go_enter Try.func51, Try.ntmps51
 go_wp2_with fail
 go_region
 all_goals go_wp2
 all_goals go_ret
 all_goals exact ⟨rfl, rfl⟩

set_option maxRecDepth 100000 in
set_option maxHeartbeats 1600000 in
theorem xmake (own : Nat → Tag) (rid k b tb window : Nat) (E : IEnd) (o : ROp) (w : World) (h : EndX own rid k w b tb window E) (ho : o.Small) (h1 : E.made < 240) (h2 : E.taken ≤ 240) (h4 : E.flying.length ≤ 12) (h6 : E.opn.length ≤ 240) :
  Calls Try.prog 53 #[.pointer (some ⟨b, 0, none⟩), .agg #[.int .i64 o.client, .int .i64 o.verb, .int .i64 o.place, .int .u8 o.letter]] w fun e w' => e = .returned (.tuple #[]) ∧ ∃ own', EndX own' rid k w' b tb window (E.make o window) ∧ Upd own own' (inEnd rid k) w w' := by
 obtain ⟨i1, hi, hz0, hz1, hz2⟩ := info_parts Try.info139
 obtain ⟨i2, hj, hy0, hy1, hy2⟩ := info_parts Try.info94
 have hx : Bytes ((E.next o).bytes E.taken) := by
  intro q
  obtain ⟨o1, o2, o3, o4⟩ := ho
  match q with
  | 0 | 1 | 2 | 3 | 4 | 5 | 6 | 7 => refine ⟨?_, ?_⟩ <;> simp [IMsg.bytes, IEnd.next] <;> omega
  | q + 8 => simp [IMsg.bytes]
 have HMC : Hid ((E.next o).cells = [.int .i64 ((E.made : Int) + 1), .int .i64 E.taken, .int .i64 o.client, .int .i64 o.verb, .int .i64 o.place, .int .u8 o.letter]) := by
  apply hide; simp [IMsg.cells, IEnd.next]
 have HOC : Hid (o.cells = [.int .i64 o.client, .int .i64 o.verb, .int .i64 o.place, .int .u8 o.letter]) := rfl
 have V : Upd own (retag own w.heap.size (rid + 1, 0, 0)) (fun _ => False) w (w.alloc (Obj.cells #[Value.int IntKind.i64 o.client, Value.int IntKind.i64 o.verb, Value.int IntKind.i64 o.place, Value.int IntKind.u8 o.letter] 94)) := Upd.retag ((Upd.refl own (fun _ => False) w).alloc _) _ _ (Nat.le_refl _)
 have CN := CellsT.new w #[Value.int IntKind.i64 o.client, Value.int IntKind.i64 o.verb, Value.int IntKind.i64 o.place, Value.int IntKind.u8 o.letter] 94 own (rid + 1, 0, 0)
 have hE1 := h.upd V (fun _ _ _ h => h)
 have hsz1 : (w.alloc (Obj.cells #[Value.int IntKind.i64 o.client, Value.int IntKind.i64 o.verb, Value.int IntKind.i64 o.place, Value.int IntKind.u8 o.letter] 94)).heap.size > w.heap.size := by simp
 have hbl := h.lt
 go_enter Try.func53, Try.ntmps53
 go_wp2_with fail
 have HV := hide V
 clear h V
 generalize w.alloc (Obj.cells #[Value.int IntKind.i64 o.client, Value.int IntKind.i64 o.verb, Value.int IntKind.i64 o.place, Value.int IntKind.u8 o.letter] 94) = W1 at *
 generalize retag own w.heap.size (rid + 1, 0, 0) = own1 at *
 have z0 := CN.cell 0
 have z1 := CN.cell 1
 have z2 := CN.cell 2
 have z3 := CN.cell 3
 simp only [List.getElem?_toArray, List.getElem?_cons_zero, List.getElem?_cons_succ] at z0 z1 z2 z3
 have HMD : Hid (∀ w', EndX own1 rid k w' b tb window E → Calls Try.prog 51 #[.pointer (some ⟨b, 0, none⟩)] w' fun e w'' => e = .returned (.int .i64 E.made) ∧ w'' = w'.drew) := hide fun w' h => xmade own1 rid k b tb window E w' h (by omega)
 have c4 := hE1.c4
 have n1 : ¬ (b = W1.heap.size) := by omega
 have n2 : ¬ (w.heap.size = W1.heap.size) := by omega
 have hwr : IntKind.i64.wrap ((E.made : Int) + 1) = (E.made : Int) + 1 := by rw [IntKind.wrap_i64]; omega
 generalize hq2 : o.client = q2 at *
 generalize hq3 : o.verb = q3 at *
 generalize hq4 : o.place = q4 at *
 generalize hq5 : o.letter = q5 at *
 clear hq2 hq3 hq4 hq5
 generalize w.heap.size = N at *
 go_cut [4] (fun v4 wc => v4 = .pointer (some ⟨W1.heap.size, 0, none⟩) ∧ wc = (W1.alloc (Obj.cells #[Value.int IntKind.i64 ((E.made : Int) + 1), Value.int IntKind.i64 E.taken, Value.int IntKind.i64 q2, Value.int IntKind.i64 q3, Value.int IntKind.i64 q4, Value.int IntKind.u8 q5] 139)).drew.drew)
 case first =>
  have HE0 := hide (hE1.upd ((Upd.refl own1 (fun _ => False) W1).drew) (fun _ _ _ h => h))
  have HE1 := hide fun o => hE1.upd (((Upd.refl own1 (fun _ => False) W1).alloc o).drew) (fun _ _ _ h => h)
  have HEA := hide hE1
  have HCN := hide CN
  have c4a : ∀ u, (W1.alloc u).cell? ⟨b, 4, none⟩ = some (.int .i64 E.taken) := fun u => (hE1.upd ((Upd.refl own1 (fun _ => False) W1).alloc u) (fun _ _ _ h => h)).c4
  have z0a : ∀ u, (W1.alloc u).cell? ⟨N, 0, none⟩ = some (.int .i64 q2) := fun u => by rw [(CN.alloc u).cell]; rfl
  have z1a : ∀ u, (W1.alloc u).cell? ⟨N, 1, none⟩ = some (.int .i64 q3) := fun u => by rw [(CN.alloc u).cell]; rfl
  have z2a : ∀ u, (W1.alloc u).cell? ⟨N, 2, none⟩ = some (.int .i64 q4) := fun u => by rw [(CN.alloc u).cell]; rfl
  have z3a : ∀ u, (W1.alloc u).cell? ⟨N, 3, none⟩ = some (.int .u8 q5) := fun u => by rw [(CN.alloc u).cell]; rfl
  clear hE1 CN hx HMC
  go_region_held3 (fun w' => w'.cell? ⟨b, 4, none⟩ = some (.int .i64 E.taken) ∧ w'.cell? ⟨N, 0, none⟩ = some (.int .i64 q2) ∧ w'.cell? ⟨N, 1, none⟩ = some (.int .i64 q3) ∧ w'.cell? ⟨N, 2, none⟩ = some (.int .i64 q4) ∧ w'.cell? ⟨N, 3, none⟩ = some (.int .u8 q5)) (go_keep) (first | (go_at_call 51; refine (unhide HMD _ (by first | exact unhide HE0 | exact unhide HE1 _)).mono ?_; rintro e w' ⟨rfl, hw'⟩; obtain rfl := hw'.symm))
  all_goals
   go_wp2
   go_meet
   case rel => exact ⟨rfl, rfl⟩
 case rest =>
  obtain ⟨rfl, rfl⟩ := hcut
  clear z0 z1 z2 z3 c4 HMD hwr
  go_wp2_with fail
  have V2 : Upd own1 (retag own1 W1.heap.size (rid + 1, 0, 1)) (fun _ => False) W1 ((W1.alloc (Obj.cells #[Value.int IntKind.i64 ((E.made : Int) + 1), Value.int IntKind.i64 E.taken, Value.int IntKind.i64 q2, Value.int IntKind.i64 q3, Value.int IntKind.i64 q4, Value.int IntKind.u8 q5] 139)).drew.drew) := Upd.retag ((((Upd.refl own1 (fun _ => False) W1).alloc _).drew).drew) _ _ (Nat.le_refl _)
  have CM : CellsT (retag own1 W1.heap.size (rid + 1, 0, 1)) (rid + 1, 0, 1) ((W1.alloc (Obj.cells #[Value.int IntKind.i64 ((E.made : Int) + 1), Value.int IntKind.i64 E.taken, Value.int IntKind.i64 q2, Value.int IntKind.i64 q3, Value.int IntKind.i64 q4, Value.int IntKind.u8 q5] 139)).drew.drew) W1.heap.size #[Value.int IntKind.i64 ((E.made : Int) + 1), Value.int IntKind.i64 E.taken, Value.int IntKind.i64 q2, Value.int IntKind.i64 q3, Value.int IntKind.i64 q4, Value.int IntKind.u8 q5] 139 := (CellsT.new W1 #[Value.int IntKind.i64 ((E.made : Int) + 1), Value.int IntKind.i64 E.taken, Value.int IntKind.i64 q2, Value.int IntKind.i64 q3, Value.int IntKind.i64 q4, Value.int IntKind.u8 q5] 139 own1 (rid + 1, 0, 1)).drew.drew
  have CN2 := CN.upd V2 (fun h => h)
  have hE2 := hE1.upd V2 (fun _ _ _ h => h)
  have HU2 : Hid (Upd own (retag own1 W1.heap.size (rid + 1, 0, 1)) (inEnd rid k) w ((W1.alloc (Obj.cells #[Value.int IntKind.i64 ((E.made : Int) + 1), Value.int IntKind.i64 E.taken, Value.int IntKind.i64 q2, Value.int IntKind.i64 q3, Value.int IntKind.i64 q4, Value.int IntKind.u8 q5] 139)).drew.drew)) := hide (((unhide HV).mono (fun _ h => h.elim)).trans (V2.mono (fun _ h => h.elim)))
  clear V2 CN hE1 HV
  generalize (W1.alloc (Obj.cells #[Value.int IntKind.i64 ((E.made : Int) + 1), Value.int IntKind.i64 E.taken, Value.int IntKind.i64 q2, Value.int IntKind.i64 q3, Value.int IntKind.i64 q4, Value.int IntKind.u8 q5] 139)).drew.drew = W2 at *
  generalize retag own1 W1.heap.size (rid + 1, 0, 1) = own2 at *
  generalize W1.heap.size = M at *
  clear hsz1 n1 n2
  go_cut [] (fun wc => ∃ own3, EndX own3 rid k wc b tb window ({ E with waiting := E.waiting ++ [E.next o] } : IEnd) ∧ Upd own2 own3 (inEnd rid k) W2 wc)
  case first =>
   obtain ⟨wv, ov, kb, fv, hc, hm, hop, hk, hf⟩ := hE2
   obtain ⟨wa, wcp, rfl, _, _⟩ := hm.shape
   have y0 := CM.cell 0
   have y1 := CM.cell 1
   have y2 := CM.cell 2
   have y3 := CM.cell 3
   have y4 := CM.cell 4
   have y5 := CM.cell 5
   simp only [List.getElem?_toArray, List.getElem?_cons_zero, List.getElem?_cons_succ] at y0 y1 y2 y3 y4 y5
   have c3 : W2.cell? ⟨b, 3, none⟩ = some (.slice wa E.waiting.length wcp) := by rw [hc.cell]; rfl
   have c3a : ∀ u, (W2.alloc u).cell? ⟨b, 3, none⟩ = some (.slice wa E.waiting.length wcp) := fun u => by rw [(hc.alloc u).cell]; rfl
   have hb2 := hc.2
   have hbl2 := hc.lt
   have hml : E.waiting.length < 240 := by unfold IEnd.made at h1; omega
   have FIN : Hid (∀ na nc own3 w3, RowO own3 (rid, k, 3) w3 139 6 (.slice na (E.waiting.length + 1) nc) (E.waiting.length + 1) (E.waiting.flatMap IMsg.cells ++ #[Value.int IntKind.i64 ((E.made : Int) + 1), Value.int IntKind.i64 E.taken, Value.int IntKind.i64 q2, Value.int IntKind.i64 q3, Value.int IntKind.i64 q4, Value.int IntKind.u8 q5].toList) → Upd own2 own3 (fun x => x = (rid, k, 3)) (W2.alloc (Obj.cells #[Value.int IntKind.i64 ((E.made : Int) + 1), Value.int IntKind.i64 E.taken, Value.int IntKind.i64 q2, Value.int IntKind.i64 q3, Value.int IntKind.i64 q4, Value.int IntKind.u8 q5] 139)).drew w3 →
     ∃ own', EndX own' rid k (w3.setCell ⟨b, 3, none⟩ (.slice na (E.waiting.length + 1) nc)) b tb window ({ E with waiting := E.waiting ++ [E.next o] } : IEnd) ∧ Upd own2 own' (inEnd rid k) W2 (w3.setCell ⟨b, 3, none⟩ (.slice na (E.waiting.length + 1) nc))) := by
    apply hide
    intro na nc own3 w3 ho hu
    obtain ⟨C, O, U⟩ := app_store_O (k := 3) hc hu (by simp) ho
    refine ⟨own3, ⟨_, ov, kb, fv, C, ?_, hop.upd U (by simp), hk.upd U (by simp), hf.upd U (by simp)⟩, U.mono (by rintro t (rfl | rfl) <;> exact inEnd.mk _ _ (by decide) (by decide))⟩
    rw [show ({ E with waiting := E.waiting ++ [E.next o] } : IEnd).waiting = E.waiting ++ [E.next o] from rfl, List.flatMap_append, List.length_append]
    simpa [HMC.out] using O
   have hfit1 : E.waiting.length + 1 ≤ maxLen := by simp [maxLen]; omega
   have hfit2 : (E.waiting.length + 1) * 48 ≤ 140737488355328 := by omega
   have HHC := hide hc
   clear hop hk hf hc CM CN2
   go_region_law ((refine step_append_O _ (by rfl) _ _ _ (by rfl) 139 i1 _ 6 48 Try.underlying81 hi hz0 hz1 hz2 rfl (by omega) _ _ _ own2 (rid, k, 3) (by rfl) (hm.alloc _).drew ⟨W2.heap.size, 0, none⟩ 1 1 #[Value.int IntKind.i64 ((E.made : Int) + 1), Value.int IntKind.i64 E.taken, Value.int IntKind.i64 q2, Value.int IntKind.i64 q3, Value.int IntKind.i64 q4, Value.int IntKind.u8 q5].toList (by rfl) (by rfl) (World.news_of_block (cs := #[Value.int IntKind.i64 ((E.made : Int) + 1), Value.int IntKind.i64 E.taken, Value.int IntKind.i64 q2, Value.int IntKind.i64 q3, Value.int IntKind.i64 q4, Value.int IntKind.u8 q5]) (t := 139) (fr := (0, 0)) (heap_alloc_new W2 _)) (by simp [Value.oneCell']) hfit1 hfit2 (W2.heap.size + 1) (by simp) ?_; intro na nc w3 hown3 hu3; have k2 := hu3.cell (((unhide HHC).alloc _).drew.cell 3) (by simp [hb2]); have e2 := hu3.frozen (by simp; omega) (by simp [hb2]) (((unhide HHC).alloc _).drew.frozen 3)))
   all_goals
    go_wp2
    go_meet
    case rel => exact unhide FIN _ _ _ _ hown3 hu3
  case rest =>
   obtain ⟨own3, hE3, hU3⟩ := hcut
   have CM3 := CM.upd hU3 (by simp [inEnd])
   have CN3 := CN2.upd hU3 (by simp [inEnd])
   have HU3 := hide ((unhide HU2).trans hU3)
   clear CM CN2 hE2 HU2 hU3
   go_wp2_with fail
   go_cut [] (fun wd => ∃ own4, EndX own4 rid k wd b tb window (E.grow o) ∧ Upd own3 own4 (inEnd rid k) wc wd)
   case first =>
    obtain ⟨wv, ov, kb, fv, hc, hm, hop, hk, hf⟩ := hE3
    obtain ⟨oa, oc, rfl, _, _⟩ := hop.shape
    have y0 := CN3.cell 0
    have y1 := CN3.cell 1
    have y2 := CN3.cell 2
    have y3 := CN3.cell 3
    simp only [List.getElem?_toArray, List.getElem?_cons_zero, List.getElem?_cons_succ] at y0 y1 y2 y3
    have c3 : wc.cell? ⟨b, 6, none⟩ = some (.slice oa E.opn.length oc) := by rw [hc.cell]; rfl
    have c3a : ∀ u, (wc.alloc u).cell? ⟨b, 6, none⟩ = some (.slice oa E.opn.length oc) := fun u => by rw [(hc.alloc u).cell]; rfl
    have hb2 := hc.2
    have hbl2 := hc.lt
    have FIN : Hid (∀ na nc own4 w3, OwnsT own4 (rid, k, 5) w3 94 4 (.slice na (E.opn.length + 1) nc) (E.opn.length + 1) (E.opn.flatMap ROp.cells ++ #[Value.int IntKind.i64 q2, Value.int IntKind.i64 q3, Value.int IntKind.i64 q4, Value.int IntKind.u8 q5].toList) → Upd own3 own4 (fun x => x = (rid, k, 5)) (wc.alloc (Obj.cells #[Value.int IntKind.i64 q2, Value.int IntKind.i64 q3, Value.int IntKind.i64 q4, Value.int IntKind.u8 q5] 94)).drew w3 →
      ∃ own', EndX own' rid k (w3.setCell ⟨b, 6, none⟩ (.slice na (E.opn.length + 1) nc)) b tb window (E.grow o) ∧ Upd own3 own' (inEnd rid k) wc (w3.setCell ⟨b, 6, none⟩ (.slice na (E.opn.length + 1) nc))) := by
     apply hide
     intro na nc own4 w3 ho hu
     obtain ⟨C, O, U⟩ := app_store (k := 6) hc hu (by simp) ho
     refine ⟨own4, ⟨wv, _, kb, fv, C, hm.upd U (by simp), ?_, hk.upd U (by simp), hf.upd U (by simp)⟩, U.mono (by rintro t (rfl | rfl) <;> exact inEnd.mk _ _ (by decide) (by decide))⟩
     rw [show (E.grow o).opn = E.opn ++ [o] from rfl, List.flatMap_append, List.length_append]
     simpa [HOC.out] using O
    have hfit1 : E.opn.length + 1 ≤ maxLen := by simp [maxLen]; omega
    have hfit2 : (E.opn.length + 1) * 32 ≤ 140737488355328 := by omega
    have HHC := hide hc
    clear hm hk hf hc CM3 CN3
    go_region_law ((refine step_append_T _ (by rfl) _ _ _ (by rfl) 94 i2 _ 4 32 Try.underlying82 hj hy0 hy1 hy2 rfl (by omega) _ _ _ own3 (rid, k, 5) (by rfl) (hop.alloc _).drew ⟨wc.heap.size, 0, none⟩ 1 1 #[Value.int IntKind.i64 q2, Value.int IntKind.i64 q3, Value.int IntKind.i64 q4, Value.int IntKind.u8 q5].toList (by rfl) (by rfl) (World.news_of_block (cs := #[Value.int IntKind.i64 q2, Value.int IntKind.i64 q3, Value.int IntKind.i64 q4, Value.int IntKind.u8 q5]) (t := 94) (fr := (0, 0)) (heap_alloc_new wc _)) (by simp [Value.oneCell']) hfit1 hfit2 (wc.heap.size + 1) (by simp) ?_; intro na nc w3 hown3 hu3; have k2 := hu3.cell (((unhide HHC).alloc _).drew.cell 6) (by simp [hb2]); have e2 := hu3.frozen (by simp; omega) (by simp [hb2]) (((unhide HHC).alloc _).drew.frozen 6)))
    all_goals
     go_wp2
     go_meet
     case rel => exact unhide FIN _ _ _ _ hown3 hu3
   case rest =>
    obtain ⟨own4, hE4, hU4⟩ := hcut
    have CM4 := CM3.upd hU4 (by simp [inEnd])
    have HU4 := hide ((unhide HU3).trans hU4)
    clear CM3 CN3 hE3 HU3 hU4
    have y0 := CM4.cell 0
    have y1 := CM4.cell 1
    have y2 := CM4.cell 2
    have y3 := CM4.cell 3
    have y4 := CM4.cell 4
    have y5 := CM4.cell 5
    simp only [List.getElem?_toArray, List.getElem?_cons_zero, List.getElem?_cons_succ] at y0 y1 y2 y3 y4 y5
    obtain ⟨wa, wcp, c3⟩ := hE4.c3
    rw [show (E.grow o).waiting.length = E.waiting.length + 1 from by simp [IEnd.grow]] at c3
    have c1 := hE4.c1
    have HMK : Hid (E.make o window = if E.waiting.length + 1 ≤ window then (E.grow o).sends [E.next o] else E.grow o) := rfl
    have HSD : Hid (∀ own5 w' mb, EndX own5 rid k w' b tb window (E.grow o) → own5 mb = (rid + 1, 0, 2) → w'.heap[mb]? = some (.cells #[Value.int IntKind.i64 ((E.made : Int) + 1), Value.int IntKind.i64 E.taken, Value.int IntKind.i64 q2, Value.int IntKind.i64 q3, Value.int IntKind.i64 q4, Value.int IntKind.u8 q5] 139 (0, 0)) → Calls Try.prog 67 #[.pointer (some ⟨b, 0, none⟩), .slice (some ⟨mb, 0, none⟩) 1 1] w' fun e w'' => e = .returned (.tuple #[]) ∧ ∃ own', EndX own' rid k w'' b tb window ((E.grow o).sends [E.next o]) ∧ Upd own5 own' (inFly rid k) w' w'') := by
     apply hide
     intro own5 w' mb hE ht hm
     have hml := (Array.getElem?_eq_some_iff.1 hm).1
     refine xsends own5 rid k b tb window mb 0 1 (E.grow o) [E.next o] w' hE h4 (by intro m hm; obtain rfl : m = E.next o := (by simpa using hm); exact hx) (by simp) (fun _ => ⟨by rw [ht]; simp [inFly], hml⟩) ?_
     intro j u hu
     rw [List.flatMap_singleton, HMC.out] at hu
     rw [Nat.zero_add]
     simp only [World.cell?, hm]
     simpa using hu
    clear hx HMC HOC hi hz0 hz1 hz2 hj hy0 hy1 hy2
    generalize E.waiting.length = wl at *
    have V5 : Upd own4 (retag own4 wc.heap.size (rid + 1, 0, 2)) (fun _ => False) wc ((wc.drew).alloc (Obj.cells #[Value.int IntKind.i64 ((E.made : Int) + 1), Value.int IntKind.i64 E.taken, Value.int IntKind.i64 q2, Value.int IntKind.i64 q3, Value.int IntKind.i64 q4, Value.int IntKind.u8 q5] 139)) := Upd.retag (((Upd.refl own4 (fun _ => False) wc).drew).alloc _) _ _ (Nat.le_refl _)
    have HE5 := hide (hE4.upd V5 (fun _ _ _ h => h))
    have HU5 := hide ((unhide HU4).trans (V5.mono (fun _ h => h.elim)))
    have HM5 : Hid ((retag own4 wc.heap.size (rid + 1, 0, 2)) wc.heap.size = (rid + 1, 0, 2)) := retag_ge (Nat.le_refl _)
    have HN5 : Hid (((wc.drew).alloc (Obj.cells #[Value.int IntKind.i64 ((E.made : Int) + 1), Value.int IntKind.i64 E.taken, Value.int IntKind.i64 q2, Value.int IntKind.i64 q3, Value.int IntKind.i64 q4, Value.int IntKind.u8 q5] 139)).heap[wc.heap.size]? = some (.cells #[Value.int IntKind.i64 ((E.made : Int) + 1), Value.int IntKind.i64 E.taken, Value.int IntKind.i64 q2, Value.int IntKind.i64 q3, Value.int IntKind.i64 q4, Value.int IntKind.u8 q5] 139 (0, 0))) := heap_alloc_new _ _
    have HE4 := hide hE4
    clear V5 hE4 CM4
    by_cases hle : wl + 1 ≤ window
    ·have hle' : (wl : Int) + 1 ≤ (window : Int) := by omega
     rw [if_pos hle] at HMK
     go_wp2_with fail
     go_region
     go_wp2_with fail
     refine (unhide HSD _ _ _ (unhide HE5) (unhide HM5) (unhide HN5)).mono ?_
     rintro e w4 ⟨rfl, own6, hE6, hU6⟩
     go_wp2
     go_end0
     rw [HMK.out]
     exact ⟨rfl, own6, hE6, (unhide HU5).trans (hU6.mono (fun _ h => h.inEnd))⟩
    ·have hle' : ¬ (wl : Int) + 1 ≤ (window : Int) := by omega
     rw [if_neg hle] at HMK
     go_wp2_with fail
     go_region
     go_wp2
     go_end0
     rw [HMK.out]
     exact ⟨rfl, own4, (unhide HE4).upd ((Upd.refl own4 (fun _ => False) wc).drew) (fun _ _ _ h => h), (unhide HU4).drew⟩
end Go.Proofs.Ytemkgikncmhoaaa

