import Derived.Test.YtemkgikncmhoaaaM35
import Derived.Test.YtemkgikncmhoaaaM40
import Derived.Test.YtemkgikncmhoaaaM41
namespace Go.Proofs.Ytemkgikncmhoaaa
open Go.RowKit
attribute [local go_sem ↓] Go.wp_at_zero Go.wp_at_succ

set_option maxRecDepth 100000 in
set_option maxHeartbeats 1600000 in
theorem rFate_double_0 (A : List Nat) (own : Nat → Tag) (rid b : Nat) (R : RRoom) (i n : Nat) (s : ByteArray) (m : Bool) (t : List UInt8) (L : RLine) (w : World) (h : RoomB A own rid w b R) (ht : R.texts[i]? = some t) (hL : R.lines[i]? = some L) (hq : L.a.out[n]? = some s) (hm : L.a.spoilt[n]? = some m) (hlen : L.a.spoilt.length = L.a.out.length) (h12 : L.a.out.length ≤ 12) :
  Calls Try.prog 59 #[.pointer (some ⟨b, 0, none⟩), .int .i64 i, .bool false, .int .i64 n, .int .i64 2] w fun e w' => e = .returned (.int .i64 0) ∧ ∃ own', RoomB A own' rid w' b (R.setLine i { L with a := L.a.double s m }) ∧ Upd own own' (inRoom rid) w w' := by
 have HT := hide (rpeek_0_yes own rid b R i n _ t L w h.room ht hL hq)
 have HE : Hid (∀ w, Calls Try.prog 66 #[.bool false] w fun e w' => e = .returned (.int .i64 0) ∧ w' = w) := hide (fun w => end_any false w)
 obtain ⟨lb, hA⟩ := h.where hL
 have hi : i < R.texts.length := by have := (List.getElem?_eq_some_iff.1 hL).1; have := h.lens.2; omega
 have hi1 : (i : Int) < (R.texts.length : Int) := by omega
 have hi2 : (0 : Int) ≤ (i : Int) := by omega
 have hn2 : (0 : Int) ≤ (n : Int) := by omega
 have hno := (List.getElem?_eq_some_iff.1 hq).1
 have hns := (List.getElem?_eq_some_iff.1 hm).1
 have hn3 : (n : Int) < (L.a.spoilt.length : Int) := by omega
 have hn4 : (n : Int) < (L.a.out.length : Int) := by omega
 have HX : Hid (∀ w1, Below w.heap.size w w1 → RoomB A own rid w1 b R ∧ _) := hide fun w1 hb => ⟨h.upd (Upd.of_below own (fun _ => False) hb) (fun _ _ h => h), (h.upd (Upd.of_below own (fun _ => False) hb) (fun _ _ h => h)).fate0 hL hA hq hm⟩
 obtain ⟨i1, hi0, hz0, hz1, hz2⟩ := info_parts Try.info9
 obtain ⟨i2, hj, hy0, hy1, hy2⟩ := info_parts Try.info4
 have hsl : L.a.spoilt.length ≤ 12 := by omega
 clear h hlen
 go_enter Try.func59, Try.ntmps59
 go_wp2_with fail
 refine (unhide HT).mono ?_
 rintro e w1 ⟨rfl, hb⟩
 obtain ⟨hR1, lg, lc, og, oc, sg, sc, c3, c5, d10, d12, d1, d2⟩ := unhide HX w1 hb
 have HB := hide (Upd.of_below own (inRoom rid) hb)
 clear hb HT HX
 by_cases hlt : L.a.out.length < 12
 ·have hl1 : (L.a.out.length : Int) < 12 := by omega
  obtain ⟨r0, r1, k0, k1, o0, o1, s0, s1, hc, ⟨a1, a2, a3, a4⟩, ⟨b1, b2, b3, b4⟩⟩ := hR1.lineAt hL hA
  have e1 : o0 = .slice (some ⟨og, 0, none⟩) L.a.out.length oc := by
   have := hc.cell 10; rw [d10] at this; simpa using this.symm
  have e2 : s0 = .slice (some ⟨sg, 0, none⟩) L.a.spoilt.length sc := by
   have := hc.cell 12; rw [d12] at this; simpa using this.symm
  subst e1 e2
  have hf10 := hc.frozen 10
  have hf12 := hc.frozen 12
  have hblt := hc.lt
  have hne : ¬ (lb = w1.heap.size) := by omega
  have hb1 := hc.2
  have h10' : ((w1.alloc (Obj.cells #[Value.string s] 9)).drew).cell? ⟨lb, 10, none⟩ = some (.slice (some ⟨og, 0, none⟩) L.a.out.length oc) := (hc.alloc _).drew.cell 10
  have hf10' : ((w1.alloc (Obj.cells #[Value.string s] 9)).drew).frozen? ⟨lb, 10, none⟩ = false := (hc.alloc _).drew.frozen 10
  have hlt' : lb < ((w1.alloc (Obj.cells #[Value.string s] 9)).drew).heap.size := by simp; omega
  have HR1 := hide hR1
  have HC3 := hide c3
  have HC5 := hide c5
  clear hR1
  go_wp2_with (first | (go_at_call 66; refine (unhide HE _).mono ?_; rintro e w' ⟨rfl, hw'⟩; obtain rfl := hw'.symm))
  clear c3 c5 d1 d2
  go_region_law ((refine step_append_T _ (by rfl) _ _ _ (by rfl) 9 i1 _ 1 16 Try.underlying28 hi0 hz0 hz1 hz2 rfl (by omega) _ _ _ own (rid, i, 5) (by rfl) (a3.alloc _).drew ⟨w1.heap.size, 0, none⟩ 1 1 [.string s] (by rfl) (by rfl) (World.news_of_block (cs := #[.string s]) (t := 9) (fr := (0, 0)) (heap_alloc_new w1 _)) (by simp [Value.oneCell']) (by simp [maxLen]; omega) (by omega) (w1.heap.size + 1) (by simp) ?_; intro na nc w2 hown1 hu1; have k0 := hu1.cell h10' (by simp [hb1]); have e0 := hu1.frozen hlt' (by simp [hb1]) hf10'; clear d10 d12 hf10 hf12 h10' hf10' hlt'))
  all_goals
   go_wp2
   obtain ⟨C1, O1, U1⟩ := app_store (k := 10) hc hu1 (by simp) hown1
   have P1 := a4.upd U1 (by simp)
   clear hown1 hu1 k0 e0 a3
   have hsz := U1.size
   generalize retag own (w1.heap.size + 1) (rid, i, 5) = own1 at *
   generalize w2.setCell ⟨lb, 10, none⟩ (Value.slice na (L.a.out.length + 1) nc) = w3 at *
   clear w2
   have h12b : w3.cell? ⟨lb, 12, none⟩ = some (.slice (some ⟨sg, 0, none⟩) L.a.spoilt.length sc) := by rw [C1.cell]; rfl
   have h12' : ((w3.alloc (Obj.cells #[Value.bool m] 4)).drew).cell? ⟨lb, 12, none⟩ = some (.slice (some ⟨sg, 0, none⟩) L.a.spoilt.length sc) := (C1.alloc _).drew.cell 12
   have hf12 := C1.frozen 12
   have hf12' : ((w3.alloc (Obj.cells #[Value.bool m] 4)).drew).frozen? ⟨lb, 12, none⟩ = false := (C1.alloc _).drew.frozen 12
   have hlt2 : lb < ((w3.alloc (Obj.cells #[Value.bool m] 4)).drew).heap.size := by simp; omega
   have hb2 := C1.2
   go_region_law ((refine step_append_T _ (by rfl) _ _ _ (by rfl) 4 i2 _ 1 1 Try.underlying119 hj hy0 hy1 hy2 rfl (by omega) _ _ _ own1 (rid, i, 7) (by rfl) (P1.alloc _).drew ⟨w3.heap.size, 0, none⟩ 1 1 [.bool m] (by rfl) (by rfl) (World.news_of_block (cs := #[.bool m]) (t := 4) (fr := (0, 0)) (heap_alloc_new w3 _)) (by simp [Value.oneCell']) (by simp [maxLen]; omega) (by omega) (w3.heap.size + 1) (by simp) ?_; intro ma mc w4 hown3 hu3; have k0 := hu3.cell h12' (by simp [hb2]); have e0 := hu3.frozen hlt2 (by simp [hb2]) hf12'; clear h12b hf12 h12' hf12' hlt2))
   all_goals
    go_wp2
    go_ret
    refine ⟨rfl, ?_⟩
    obtain ⟨C2, P2, U2⟩ := app_store (k := 12) C1 hu3 (by simp) hown3
    have O2 := O1.upd U2 (by simp)
    have U := (U1.mono (may' := fun t => t = (rid, i, 5) ∨ t = (rid, i, 7) ∨ t = (rid, i, 0)) (fun t h => by rcases h with rfl | rfl <;> simp)).trans (U2.mono (fun t h => by rcases h with rfl | rfl <;> simp))
    have V := U.mono (may' := inLine rid i) (by rintro t (rfl | rfl | rfl) <;> exact ⟨rfl, rfl⟩)
    have X : EndAt _ rid i 0 _ _ _ _ _ { L.a with out := L.a.out ++ [s], spoilt := L.a.spoilt ++ [m] } := ⟨a1.upd U (by simp) (by simp; omega), a2.upd U (by simp), by simpa using O2, by simpa using P2⟩
    have Y : EndAt _ rid i 1 _ _ _ _ _ L.b := ⟨b1.upd U (by simp) (by simp; omega), b2.upd U (by simp), b3.upd U (by simp), b4.upd U (by simp)⟩
    rw [show L.a.double s m = { L.a with out := L.a.out ++ [s], spoilt := L.a.spoilt ++ [m] } from by simp [REnd.double, hlt]]
    exact ⟨_, RoomB.line (unhide HR1) (by have := (unhide HR1).lens.1; omega) hi (unhide HC3) (unhide HC5) V ⟨r0, r1, _, _, _, _, _, _, C2, X, Y⟩, (unhide HB).trans (V.mono (fun t h => h.1))⟩
 ·have hl1 : ¬ (L.a.out.length : Int) < 12 := by omega
  have hset : R.setLine i { L with a := L.a.double s m } = R := by
   have : L.a.double s m = L.a := if_neg hlt
   rw [this]
   unfold RRoom.setLine
   have e3 : R.lines.set i L = R.lines := by
    apply List.ext_getElem?
    intro q
    by_cases hq' : i = q
    ·subst hq'; rw [List.getElem?_set_self (List.getElem?_eq_some_iff.1 hL).1, hL]
    ·rw [List.getElem?_set_ne hq']
   show { R with lines := R.lines.set i L } = R
   rw [e3]
  have HF : Hid (∃ own', RoomB A own' rid w1 b (R.setLine i { L with a := L.a.double s m }) ∧ Upd own own' (inRoom rid) w w1) := hide ⟨own, by rw [hset]; exact hR1, unhide HB⟩
  clear hR1
  go_wp2_with (first | (go_at_call 66; refine (unhide HE _).mono ?_; rintro e w' ⟨rfl, hw'⟩; obtain rfl := hw'.symm))
  go_ret
  exact ⟨rfl, unhide HF⟩
set_option maxRecDepth 100000 in
set_option maxHeartbeats 1600000 in
theorem rFate_double_1 (A : List Nat) (own : Nat → Tag) (rid b : Nat) (R : RRoom) (i n : Nat) (s : ByteArray) (m : Bool) (t : List UInt8) (L : RLine) (w : World) (h : RoomB A own rid w b R) (ht : R.texts[i]? = some t) (hL : R.lines[i]? = some L) (hq : L.b.out[n]? = some s) (hm : L.b.spoilt[n]? = some m) (hlen : L.b.spoilt.length = L.b.out.length) (h12 : L.b.out.length ≤ 12) :
  Calls Try.prog 59 #[.pointer (some ⟨b, 0, none⟩), .int .i64 i, .bool true, .int .i64 n, .int .i64 2] w fun e w' => e = .returned (.int .i64 0) ∧ ∃ own', RoomB A own' rid w' b (R.setLine i { L with b := L.b.double s m }) ∧ Upd own own' (inRoom rid) w w' := by
 have HT := hide (rpeek_1_yes own rid b R i n _ t L w h.room ht hL hq)
 have HE : Hid (∀ w, Calls Try.prog 66 #[.bool true] w fun e w' => e = .returned (.int .i64 1) ∧ w' = w) := hide (fun w => end_any true w)
 obtain ⟨lb, hA⟩ := h.where hL
 have hi : i < R.texts.length := by have := (List.getElem?_eq_some_iff.1 hL).1; have := h.lens.2; omega
 have hi1 : (i : Int) < (R.texts.length : Int) := by omega
 have hi2 : (0 : Int) ≤ (i : Int) := by omega
 have hn2 : (0 : Int) ≤ (n : Int) := by omega
 have hno := (List.getElem?_eq_some_iff.1 hq).1
 have hns := (List.getElem?_eq_some_iff.1 hm).1
 have hn3 : (n : Int) < (L.b.spoilt.length : Int) := by omega
 have hn4 : (n : Int) < (L.b.out.length : Int) := by omega
 have HX : Hid (∀ w1, Below w.heap.size w w1 → RoomB A own rid w1 b R ∧ _) := hide fun w1 hb => ⟨h.upd (Upd.of_below own (fun _ => False) hb) (fun _ _ h => h), (h.upd (Upd.of_below own (fun _ => False) hb) (fun _ _ h => h)).fate1 hL hA hq hm⟩
 obtain ⟨i1, hi0, hz0, hz1, hz2⟩ := info_parts Try.info9
 obtain ⟨i2, hj, hy0, hy1, hy2⟩ := info_parts Try.info4
 have hsl : L.b.spoilt.length ≤ 12 := by omega
 clear h hlen
 go_enter Try.func59, Try.ntmps59
 go_wp2_with fail
 refine (unhide HT).mono ?_
 rintro e w1 ⟨rfl, hb⟩
 obtain ⟨hR1, lg, lc, og, oc, sg, sc, c3, c5, d10, d12, d1, d2⟩ := unhide HX w1 hb
 have HB := hide (Upd.of_below own (inRoom rid) hb)
 clear hb HT HX
 by_cases hlt : L.b.out.length < 12
 ·have hl1 : (L.b.out.length : Int) < 12 := by omega
  obtain ⟨r0, r1, k0, k1, o0, o1, s0, s1, hc, ⟨b1, b2, b3, b4⟩, ⟨a1, a2, a3, a4⟩⟩ := hR1.lineAt hL hA
  have e1 : o1 = .slice (some ⟨og, 0, none⟩) L.b.out.length oc := by
   have := hc.cell 11; rw [d10] at this; simpa using this.symm
  have e2 : s1 = .slice (some ⟨sg, 0, none⟩) L.b.spoilt.length sc := by
   have := hc.cell 13; rw [d12] at this; simpa using this.symm
  subst e1 e2
  have hf10 := hc.frozen 11
  have hf12 := hc.frozen 13
  have hblt := hc.lt
  have hne : ¬ (lb = w1.heap.size) := by omega
  have hb1 := hc.2
  have h10' : ((w1.alloc (Obj.cells #[Value.string s] 9)).drew).cell? ⟨lb, 11, none⟩ = some (.slice (some ⟨og, 0, none⟩) L.b.out.length oc) := (hc.alloc _).drew.cell 11
  have hf10' : ((w1.alloc (Obj.cells #[Value.string s] 9)).drew).frozen? ⟨lb, 11, none⟩ = false := (hc.alloc _).drew.frozen 11
  have hlt' : lb < ((w1.alloc (Obj.cells #[Value.string s] 9)).drew).heap.size := by simp; omega
  have HR1 := hide hR1
  have HC3 := hide c3
  have HC5 := hide c5
  clear hR1
  go_wp2_with (first | (go_at_call 66; refine (unhide HE _).mono ?_; rintro e w' ⟨rfl, hw'⟩; obtain rfl := hw'.symm))
  clear c3 c5 d1 d2
  go_region_law ((refine step_append_T _ (by rfl) _ _ _ (by rfl) 9 i1 _ 1 16 Try.underlying28 hi0 hz0 hz1 hz2 rfl (by omega) _ _ _ own (rid, i, 6) (by rfl) (a3.alloc _).drew ⟨w1.heap.size, 0, none⟩ 1 1 [.string s] (by rfl) (by rfl) (World.news_of_block (cs := #[.string s]) (t := 9) (fr := (0, 0)) (heap_alloc_new w1 _)) (by simp [Value.oneCell']) (by simp [maxLen]; omega) (by omega) (w1.heap.size + 1) (by simp) ?_; intro na nc w2 hown1 hu1; have k0 := hu1.cell h10' (by simp [hb1]); have e0 := hu1.frozen hlt' (by simp [hb1]) hf10'; clear d10 d12 hf10 hf12 h10' hf10' hlt'))
  all_goals
   go_wp2
   obtain ⟨C1, O1, U1⟩ := app_store (k := 11) hc hu1 (by simp) hown1
   have P1 := a4.upd U1 (by simp)
   clear hown1 hu1 k0 e0 a3
   have hsz := U1.size
   generalize retag own (w1.heap.size + 1) (rid, i, 6) = own1 at *
   generalize w2.setCell ⟨lb, 11, none⟩ (Value.slice na (L.b.out.length + 1) nc) = w3 at *
   clear w2
   have h12b : w3.cell? ⟨lb, 13, none⟩ = some (.slice (some ⟨sg, 0, none⟩) L.b.spoilt.length sc) := by rw [C1.cell]; rfl
   have h12' : ((w3.alloc (Obj.cells #[Value.bool m] 4)).drew).cell? ⟨lb, 13, none⟩ = some (.slice (some ⟨sg, 0, none⟩) L.b.spoilt.length sc) := (C1.alloc _).drew.cell 13
   have hf12 := C1.frozen 13
   have hf12' : ((w3.alloc (Obj.cells #[Value.bool m] 4)).drew).frozen? ⟨lb, 13, none⟩ = false := (C1.alloc _).drew.frozen 13
   have hlt2 : lb < ((w3.alloc (Obj.cells #[Value.bool m] 4)).drew).heap.size := by simp; omega
   have hb2 := C1.2
   go_region_law ((refine step_append_T _ (by rfl) _ _ _ (by rfl) 4 i2 _ 1 1 Try.underlying119 hj hy0 hy1 hy2 rfl (by omega) _ _ _ own1 (rid, i, 8) (by rfl) (P1.alloc _).drew ⟨w3.heap.size, 0, none⟩ 1 1 [.bool m] (by rfl) (by rfl) (World.news_of_block (cs := #[.bool m]) (t := 4) (fr := (0, 0)) (heap_alloc_new w3 _)) (by simp [Value.oneCell']) (by simp [maxLen]; omega) (by omega) (w3.heap.size + 1) (by simp) ?_; intro ma mc w4 hown3 hu3; have k0 := hu3.cell h12' (by simp [hb2]); have e0 := hu3.frozen hlt2 (by simp [hb2]) hf12'; clear h12b hf12 h12' hf12' hlt2))
   all_goals
    go_wp2
    go_ret
    refine ⟨rfl, ?_⟩
    obtain ⟨C2, P2, U2⟩ := app_store (k := 13) C1 hu3 (by simp) hown3
    have O2 := O1.upd U2 (by simp)
    have U := (U1.mono (may' := fun t => t = (rid, i, 6) ∨ t = (rid, i, 8) ∨ t = (rid, i, 0)) (fun t h => by rcases h with rfl | rfl <;> simp)).trans (U2.mono (fun t h => by rcases h with rfl | rfl <;> simp))
    have V := U.mono (may' := inLine rid i) (by rintro t (rfl | rfl | rfl) <;> exact ⟨rfl, rfl⟩)
    have X : EndAt _ rid i 1 _ _ _ _ _ { L.b with out := L.b.out ++ [s], spoilt := L.b.spoilt ++ [m] } := ⟨a1.upd U (by simp) (by simp; omega), a2.upd U (by simp), by simpa using O2, by simpa using P2⟩
    have Y : EndAt _ rid i 0 _ _ _ _ _ L.a := ⟨b1.upd U (by simp) (by simp; omega), b2.upd U (by simp), b3.upd U (by simp), b4.upd U (by simp)⟩
    rw [show L.b.double s m = { L.b with out := L.b.out ++ [s], spoilt := L.b.spoilt ++ [m] } from by simp [REnd.double, hlt]]
    exact ⟨_, RoomB.line (unhide HR1) (by have := (unhide HR1).lens.1; omega) hi (unhide HC3) (unhide HC5) V ⟨r0, r1, _, _, _, _, _, _, C2, Y, X⟩, (unhide HB).trans (V.mono (fun t h => h.1))⟩
 ·have hl1 : ¬ (L.b.out.length : Int) < 12 := by omega
  have hset : R.setLine i { L with b := L.b.double s m } = R := by
   have : L.b.double s m = L.b := if_neg hlt
   rw [this]
   unfold RRoom.setLine
   have e3 : R.lines.set i L = R.lines := by
    apply List.ext_getElem?
    intro q
    by_cases hq' : i = q
    ·subst hq'; rw [List.getElem?_set_self (List.getElem?_eq_some_iff.1 hL).1, hL]
    ·rw [List.getElem?_set_ne hq']
   show { R with lines := R.lines.set i L } = R
   rw [e3]
  have HF : Hid (∃ own', RoomB A own' rid w1 b (R.setLine i { L with b := L.b.double s m }) ∧ Upd own own' (inRoom rid) w w1) := hide ⟨own, by rw [hset]; exact hR1, unhide HB⟩
  clear hR1
  go_wp2_with (first | (go_at_call 66; refine (unhide HE _).mono ?_; rintro e w' ⟨rfl, hw'⟩; obtain rfl := hw'.symm))
  go_ret
  exact ⟨rfl, unhide HF⟩
end Go.Proofs.Ytemkgikncmhoaaa

namespace Go.Proofs.Ytemkgikncmhoaaa
open Go.RowKit

theorem RoomX.noW {own : Nat → Tag} {rid b : Nat} {w : World} {X : IRoom} (h : RoomX own rid w b X) {c : Int} (hc : I64 c) (hn : ¬ (0 ≤ c ∧ c < X.texts.length)) (s : Bool) :
  ∃ mb, w.cell? ⟨b, 1, none⟩ = some (.map (some mb)) ∧ mb < w.heap.size ∧ ∀ w' : World, w'.heap[mb]? = w.heap[mb]? → (Instr.lookup 74 (.map (some mb)) (.agg #[.int .i64 c, .bool s]) false).run Try.prog w' = .ok (.pointer none) w' := by
 obtain ⟨tb, mb, ents, clock, es, ts, h⟩ := h
 exact ⟨mb, by rw [h.cells.cell]; rfl, (Array.getElem?_eq_some_iff.1 h.map).1, fun w' hw' => lookup_no (hw'.trans h.map) h.ends (by have := h.lenE; have := h.le4; omega) hc (by rw [h.lenE]; exact hn) s⟩
theorem Flies.whole {own : List GMsg} {taken : Nat} {d : ByteArray} (h : Flies own taken d) (hr : readD d ≠ none) : Dgm own taken d := by
 rcases h with h | ⟨d0, h, rfl⟩
 ·exact h
 ·rcases h with ⟨n, tk, h1, h2, h3⟩ | ⟨tk, h3⟩
  ·exact absurd (readD_msg_spoilt _ _) hr
  ·exact absurd (readD_word_spoilt _) hr
theorem marks_get {fl : List ByteArray} {n : Nat} {d : ByteArray} (h : fl[n]? = some d) : (marks fl)[n]? = some (readD d).isNone := by
 unfold marks
 rw [List.getElem?_map, h]
 rfl
theorem InvA.air {K K' : Nat} {X X' : IRoom} {R R' : RRoom} (h : InvA K X R) (a : Air X X') {us ds : Nat → List GMsg} {T : Nat → Nat → Nat → List UInt8} (hr : RInv X us ds T) (hs' : RSim K' us ds X' R') : InvA K' X' R' := ⟨a.sane h.fit, us, ds, T, a.rows us ds T hr, hs'⟩
section
variable {K : Nat} {own : Nat → Tag} {w : World} {rx ry xb yb : Nat} {X : IRoom} {R : RRoom}
theorem two_fate_0 (hK : K < 10000000000000) (hry : ry ≠ 0) (hX : RoomX own rx w xb X) (hI : InvA K X R) {i : Nat} {us ds : Nat → List GMsg} {T : Nat → Nat → Nat → List UInt8} {L : RLine} (hi : i < X.texts.length) (hr : RInv X us ds T) (hs : RSim K us ds X R) (hL : SimAt K us ds T X R i L) (n k : Int) :
  TwoA (K + 1) own w rx ry xb yb X R 27 59 [.int .i64 i, .bool false, .int .i64 n, .int .i64 k] IsInt := by
 have f := hI.fit
 have hI1 := hI.mono (Nat.le_succ K)
 obtain ⟨g1, g2, g3⟩ := hr.at' hi
 obtain ⟨AX, hXF⟩ := hX.addr
 obtain ⟨mb, eb, sb, tbi, tb, O⟩ := hXF.opened g1 g2 g3
 obtain ⟨fa, cap, c8⟩ := O.hE.c8
 have ho := hL.a.1.out
 have hsp := hL.a.1.spoilt
 have hlen : L.a.spoilt.length = L.a.out.length := hL.oka.spoilt
 have h12 := hL.oka.out
 by_cases h2 : n < 0 ∨ n ≥ L.a.out.length
 ·exact ⟨_, X, ⟨7, rfl⟩, rfl, sideX_below (xFate_far xb mb eb i (X.e i).flying.length cap fa n k false w O.c1 O.mbl O.lk0w c8 (by rw [← ho]; omega)) own rx xb X hX,
   fun own1 w1 hR => sideY_below (rFate_far_0 own1 ry yb R i n k _ L w1 hR hL.ht hL.hL h2) own1 ry yb R hI1 hR⟩
 obtain ⟨q, rfl⟩ := Int.eq_ofNat_of_zero_le (show 0 ≤ n by omega)
 have hq' : q < L.a.out.length := by omega
 obtain ⟨d, hq⟩ : ∃ d, L.a.out[q]? = some d := ⟨_, List.getElem?_eq_getElem hq'⟩
 have hqX : (X.e i).flying[q]? = some d := by rw [← ho]; exact hq
 have hqn : q < (X.e i).flying.length := by rw [← ho]; exact hq'
 have hm : L.a.spoilt[q]? = some (readD d).isNone := by rw [hsp]; exact marks_get hqX
 have hfl : Flies (us i) (X.e i).taken d := hL.line.a.flies d (List.mem_of_getElem? hqX)
 have ht := hL.taken255
 by_cases h3 : k < 0 ∨ k > 3
 ·exact ⟨_, X, ⟨1, rfl⟩, rfl, sideX_below (xFate_odd xb mb eb i (X.e i).flying.length cap fa q k false w O.c1 O.mbl O.lk0w c8 (by omega) (by omega) (by omega)) own rx xb X hX,
   fun own1 w1 hR => sideY_below (rFate_odd_0 own1 ry yb R i q k d _ L w1 hR hL.ht hL.hL hq h3) own1 ry yb R hI1 hR⟩
 have hlose : RSim K us ds (X.setA i (X.tx i) ((X.e i).lose q)) (R.setLine i { L with a := L.a.lose q }) := by
  have := hs.setE (t' := X.tx i) hr.le hi (Nat.le_refl _) (hL.a.lose q) hL.b
  rw [put_setLine hL.ht] at this
  exact this
 have alose := f.loseA hi q
 have hup : X.up i q = (X.setA i (X.tx i) ((X.e i).lose q)).comeB i d := by
  unfold IRoom.up
  rw [hqX]
 obtain rfl | rfl | rfl | rfl : k = 0 ∨ k = 1 ∨ k = 2 ∨ k = 3 := by omega
 ·refine ⟨_, X.up i q, ⟨0, rfl⟩, ?_, (kUp hX f hi hqn).mono (fun e w' h => h), fun own1 w1 hR => ?_⟩
  ·rw [(up_len f hi q).1]
  obtain ⟨A, hB⟩ := hR.addr
  have hfu := (f.up hi q).sane
  refine (rFate_gone_0 A own1 ry yb R i q 0 d (readD d).isNone _ L w1 (fun R' => InvA (K + 1) (X.up i q) R') hB hL.ht hL.hL hq hm hlen h12 (.inl rfl) (fun hn => ?_) (fun hy => ?_)).mono ?_
  ·have hnone : readD d = none := by
    cases hrd : readD d with
    | none => rfl
    | some x => exact absurd ⟨rfl, by rw [hrd]; rfl⟩ hn
   have e1 : X.up i q = X.setA i (X.tx i) ((X.e i).lose q) := by
    rw [hup]
    unfold IRoom.comeB
    rw [hnone]
   rw [e1]
   exact hI.air alose hr (hlose.mono (Nat.le_succ _))
  ·intro own2 w2 hR2
   have hd : Dgm (us i) (X.e i).taken d := hfl.whole (fun hn => by rw [hn] at hy; simp at hy)
   have hr1 := alose.rows us ds T hr
   have hi1 : i < (X.setA i (X.tx i) ((X.e i).lose q)).texts.length := by rw [alose.texts]; exact hi
   obtain ⟨L1, hL1⟩ := hlose.at_ hr1 hi1
   have hsn1 := alose.sane f i hi1
   have htk1 : ((X.setA i (X.tx i) ((X.e i).lose q)).e i).taken = (X.e i).taken := by
    rw [e_setA (by rw [hr.le]; exact hi), if_pos rfl]
    rfl
   refine (comesB hry hL1 hlose hr1 hi1 hsn1 hK (by rw [htk1]; exact hd) own2 w2 hR2).mono ?_
   rintro r w' ⟨rfl, own', R', ⟨us', ds', T', j1, j2⟩, j3, j4⟩
   exact ⟨rfl, own', R', ⟨hfu, us', ds', T', by rw [hup]; exact j1, by rw [hup]; exact j2⟩, j3, j4⟩
  ·rintro e w' ⟨rfl, own', R', j1, j2, j3⟩
   exact ⟨rfl, own', R', j1, j2.room, j3⟩
 ·refine ⟨_, _, ⟨0, rfl⟩, ?_, (kLose_0 hX f hi hqn).mono (fun e w' h => h), fun own1 w1 hR => ?_⟩
  ·rw [alose.texts]
  obtain ⟨A, hB⟩ := hR.addr
  refine (rFate_gone_0 A own1 ry yb R i q 1 d (readD d).isNone _ L w1 (fun R' => InvA (K + 1) (X.setA i (X.tx i) ((X.e i).lose q)) R') hB hL.ht hL.hL hq hm hlen h12 (.inr rfl) (fun _ => hI.air alose hr (hlose.mono (Nat.le_succ _))) (fun hy => absurd hy.1 (by decide))).mono ?_
  rintro e w' ⟨rfl, own', R', j1, j2, j3⟩
  exact ⟨rfl, own', R', j1, j2.room, j3⟩
 ·have adb := f.doubleA hi (List.mem_of_getElem? hqX)
  refine ⟨_, _, ⟨0, rfl⟩, ?_, (kDouble_0 hX f hi hqX).mono (fun e w' h => h), fun own1 w1 hR => ?_⟩
  ·rw [adb.texts]
  obtain ⟨A, hB⟩ := hR.addr
  refine (rFate_double_0 A own1 ry yb R i q d (readD d).isNone _ L w1 hB hL.ht hL.hL hq hm hlen h12).mono ?_
  rintro e w' ⟨rfl, own', j2, j3⟩
  refine ⟨rfl, own', _, hI.air adb hr ?_, j2.room, j3⟩
  have := hs.setE (t' := X.tx i) hr.le hi (Nat.le_succ _) ((hL.a.double d).mono (Nat.le_succ _)) (hL.b.mono (Nat.le_succ _))
  rw [put_setLine hL.ht] at this
  exact this
 ·by_cases hrd : readD d = none
  ·refine ⟨_, X, ⟨8, rfl⟩, rfl, (kSpoil_0 hX f hi hqX).mono ?_, fun own1 w1 hR => ?_⟩
   ·rintro e w' (⟨_, rfl, a⟩ | ⟨r, _, _⟩)
    ·exact ⟨rfl, a⟩
    ·exact absurd hrd r
   obtain ⟨A, hB⟩ := hR.addr
   rw [hrd] at hm
   exact sideY_below (rFate_twice_0 A own1 ry yb R i q d _ L w1 hB hL.ht hL.hL hq hm) own1 ry yb R hI1 hR
  ·have asp := f.spoilA hi hqX hrd
   refine ⟨_, X.setA i (X.tx i) { X.e i with flying := (X.e i).flying.set q (spoil d) }, ⟨0, rfl⟩, ?_, (kSpoil_0 hX f hi hqX).mono ?_, fun own1 w1 hR => ?_⟩
   ·rw [asp.texts]
   ·rintro e w' (⟨r, _, _⟩ | ⟨_, rfl, a⟩)
    ·exact absurd r hrd
    ·exact ⟨rfl, a⟩
   ·obtain ⟨A, hB⟩ := hR.addr
    have hm' : L.a.spoilt[q]? = some false := by
     rw [hm]
     cases hx : readD d with
     | none => exact absurd hx hrd
     | some x => rfl
    have hdm := hfl.whole hrd
    have hspn : readD (spoil d) = none := by
     rcases hdm with ⟨n, tk, h1, h2, h3⟩ | ⟨tk, h3⟩
     ·exact readD_msg_spoilt _ _
     ·exact readD_word_spoilt _
    have key : Calls Try.prog 59 #[.pointer (some ⟨yb, 0, none⟩), .int .i64 i, .bool false, .int .i64 q, .int .i64 3] w1 fun e w' => e = .returned (.int .i64 0) ∧ ∃ own', RoomB A own' ry w' yb (R.setLine i { L with a := L.a.spoil q (spoil d) }) ∧ Upd own1 own' (inRoom ry) w1 w' := by
     rcases hdm with ⟨n, tk, h1, h2, h3⟩ | ⟨tk, h3⟩
     ·obtain ⟨b1, b2, b3, b4, b5, b6, b7, b8, b9, hd, _, _, hsd⟩ := msg_form _ _ (hL.bu n tk h1 h2 (by omega))
      rw [hsd]
      rw [hd] at hq
      exact rFate_spoil10_0 A own1 ry yb R i q (byteOf 1) b1 b2 b3 b4 b5 b6 b7 b8 b9 _ L w1 hB hL.ht hL.hL hq hm'
     ·obtain ⟨b1, b2, b3, hd, _, hsd⟩ := word_form tk (by omega)
      rw [hsd]
      rw [hd] at hq
      exact rFate_spoil4_0 A own1 ry yb R i q (byteOf 2) b1 b2 b3 _ L w1 hB hL.ht hL.hL hq hm'
    refine key.mono ?_
    rintro e w' ⟨rfl, own', j2, j3⟩
    refine ⟨rfl, own', _, hI.air asp hr ?_, j2.room, j3⟩
    have := hs.setE (t' := X.tx i) hr.le hi (Nat.le_succ _) ((hL.a.spoil q hspn).mono (Nat.le_succ _)) (hL.b.mono (Nat.le_succ _))
    rw [put_setLine hL.ht] at this
    exact this
theorem two_fate_1 (hK : K < 10000000000000) (hry : ry ≠ 0) (hX : RoomX own rx w xb X) (hI : InvA K X R) {i : Nat} {us ds : Nat → List GMsg} {T : Nat → Nat → Nat → List UInt8} {L : RLine} (hi : i < X.texts.length) (hr : RInv X us ds T) (hs : RSim K us ds X R) (hL : SimAt K us ds T X R i L) (n k : Int) :
  TwoA (K + 1) own w rx ry xb yb X R 27 59 [.int .i64 i, .bool true, .int .i64 n, .int .i64 k] IsInt := by
 have f := hI.fit
 have hI1 := hI.mono (Nat.le_succ K)
 obtain ⟨g1, g2, g3⟩ := hr.at' hi
 obtain ⟨AX, hXF⟩ := hX.addr
 obtain ⟨mb, eb, sb, tbi, tb, O⟩ := hXF.opened g1 g2 g3
 obtain ⟨fa, cap, c8⟩ := O.hS.c8
 have ho := hL.b.1.out
 have hsp := hL.b.1.spoilt
 have hlen : L.b.spoilt.length = L.b.out.length := hL.okb.spoilt
 have h12 := hL.okb.out
 by_cases h2 : n < 0 ∨ n ≥ L.b.out.length
 ·exact ⟨_, X, ⟨7, rfl⟩, rfl, sideX_below (xFate_far xb mb sb i (X.s i).flying.length cap fa n k true w O.c1 O.mbl O.lk1w c8 (by rw [← ho]; omega)) own rx xb X hX,
   fun own1 w1 hR => sideY_below (rFate_far_1 own1 ry yb R i n k _ L w1 hR hL.ht hL.hL h2) own1 ry yb R hI1 hR⟩
 obtain ⟨q, rfl⟩ := Int.eq_ofNat_of_zero_le (show 0 ≤ n by omega)
 have hq' : q < L.b.out.length := by omega
 obtain ⟨d, hq⟩ : ∃ d, L.b.out[q]? = some d := ⟨_, List.getElem?_eq_getElem hq'⟩
 have hqX : (X.s i).flying[q]? = some d := by rw [← ho]; exact hq
 have hqn : q < (X.s i).flying.length := by rw [← ho]; exact hq'
 have hm : L.b.spoilt[q]? = some (readD d).isNone := by rw [hsp]; exact marks_get hqX
 have hfl : Flies (ds i) (X.s i).taken d := hL.line.b.flies d (List.mem_of_getElem? hqX)
 have ht := hL.taken255
 by_cases h3 : k < 0 ∨ k > 3
 ·exact ⟨_, X, ⟨1, rfl⟩, rfl, sideX_below (xFate_odd xb mb sb i (X.s i).flying.length cap fa q k true w O.c1 O.mbl O.lk1w c8 (by omega) (by omega) (by omega)) own rx xb X hX,
   fun own1 w1 hR => sideY_below (rFate_odd_1 own1 ry yb R i q k d _ L w1 hR hL.ht hL.hL hq h3) own1 ry yb R hI1 hR⟩
 have hlose : RSim K us ds (X.setB i ((X.s i).lose q)) (R.setLine i { L with b := L.b.lose q }) := by
  have := hs.setB hr.ls hi (Nat.le_refl _) hL.a (hL.b.lose q)
  skip
  exact this
 have alose := f.loseB hi q
 have hup : X.down i q = (X.setB i ((X.s i).lose q)).comeA i d := by
  unfold IRoom.down
  rw [hqX]
 obtain rfl | rfl | rfl | rfl : k = 0 ∨ k = 1 ∨ k = 2 ∨ k = 3 := by omega
 ·refine ⟨_, X.down i q, ⟨0, rfl⟩, ?_, (kDown hX f hi hqn).mono (fun e w' h => h), fun own1 w1 hR => ?_⟩
  ·exact (down_len f hi q).1
  obtain ⟨A, hB⟩ := hR.addr
  have hfu := (f.down hi q).sane
  refine (rFate_gone_1 A own1 ry yb R i q 0 d (readD d).isNone _ L w1 (fun R' => InvA (K + 1) (X.down i q) R') hB hL.ht hL.hL hq hm hlen h12 (.inl rfl) (fun hn => ?_) (fun hy => ?_)).mono ?_
  ·have hnone : readD d = none := by
    cases hrd : readD d with
    | none => rfl
    | some x => exact absurd ⟨rfl, by rw [hrd]; rfl⟩ hn
   have e1 : X.down i q = X.setB i ((X.s i).lose q) := by
    rw [hup]
    unfold IRoom.comeA
    rw [hnone]
   rw [e1]
   exact hI.air alose hr (hlose.mono (Nat.le_succ _))
  ·intro own2 w2 hR2
   have hd : Dgm (ds i) (X.s i).taken d := hfl.whole (fun hn => by rw [hn] at hy; simp at hy)
   have hr1 := alose.rows us ds T hr
   have hi1 : i < (X.setB i ((X.s i).lose q)).texts.length := by rw [alose.texts]; exact hi
   obtain ⟨L1, hL1⟩ := hlose.at_ hr1 hi1
   have hsn1 := alose.sane f i hi1
   have htk1 : ((X.setB i ((X.s i).lose q)).s i).taken = (X.s i).taken := by
    rw [s_setB (by rw [hr.ls]; exact hi), if_pos rfl]
    rfl
   refine (comesA hry hL1 hlose hr1 hi1 hsn1 hK (by rw [htk1]; exact hd) own2 w2 hR2).mono ?_
   rintro r w' ⟨rfl, own', R', ⟨us', ds', T', j1, j2⟩, j3, j4⟩
   exact ⟨rfl, own', R', ⟨hfu, us', ds', T', by rw [hup]; exact j1, by rw [hup]; exact j2⟩, j3, j4⟩
  ·rintro e w' ⟨rfl, own', R', j1, j2, j3⟩
   exact ⟨rfl, own', R', j1, j2.room, j3⟩
 ·refine ⟨_, _, ⟨0, rfl⟩, ?_, (kLose_1 hX f hi hqn).mono (fun e w' h => h), fun own1 w1 hR => ?_⟩
  ·rw [alose.texts]
  obtain ⟨A, hB⟩ := hR.addr
  refine (rFate_gone_1 A own1 ry yb R i q 1 d (readD d).isNone _ L w1 (fun R' => InvA (K + 1) (X.setB i ((X.s i).lose q)) R') hB hL.ht hL.hL hq hm hlen h12 (.inr rfl) (fun _ => hI.air alose hr (hlose.mono (Nat.le_succ _))) (fun hy => absurd hy.1 (by decide))).mono ?_
  rintro e w' ⟨rfl, own', R', j1, j2, j3⟩
  exact ⟨rfl, own', R', j1, j2.room, j3⟩
 ·have adb := f.doubleB hi (List.mem_of_getElem? hqX)
  refine ⟨_, _, ⟨0, rfl⟩, ?_, (kDouble_1 hX f hi hqX).mono (fun e w' h => h), fun own1 w1 hR => ?_⟩
  ·rw [adb.texts]
  obtain ⟨A, hB⟩ := hR.addr
  refine (rFate_double_1 A own1 ry yb R i q d (readD d).isNone _ L w1 hB hL.ht hL.hL hq hm hlen h12).mono ?_
  rintro e w' ⟨rfl, own', j2, j3⟩
  refine ⟨rfl, own', _, hI.air adb hr ?_, j2.room, j3⟩
  have := hs.setB hr.ls hi (Nat.le_succ _) (hL.a.mono (Nat.le_succ _)) ((hL.b.double d).mono (Nat.le_succ _))
  skip
  exact this
 ·by_cases hrd : readD d = none
  ·refine ⟨_, X, ⟨8, rfl⟩, rfl, (kSpoil_1 hX f hi hqX).mono ?_, fun own1 w1 hR => ?_⟩
   ·rintro e w' (⟨_, rfl, a⟩ | ⟨r, _, _⟩)
    ·exact ⟨rfl, a⟩
    ·exact absurd hrd r
   obtain ⟨A, hB⟩ := hR.addr
   rw [hrd] at hm
   exact sideY_below (rFate_twice_1 A own1 ry yb R i q d _ L w1 hB hL.ht hL.hL hq hm) own1 ry yb R hI1 hR
  ·have asp := f.spoilB hi hqX hrd
   refine ⟨_, X.setB i { X.s i with flying := (X.s i).flying.set q (spoil d) }, ⟨0, rfl⟩, ?_, (kSpoil_1 hX f hi hqX).mono ?_, fun own1 w1 hR => ?_⟩
   ·rw [asp.texts]
   ·rintro e w' (⟨r, _, _⟩ | ⟨_, rfl, a⟩)
    ·exact absurd r hrd
    ·exact ⟨rfl, a⟩
   ·obtain ⟨A, hB⟩ := hR.addr
    have hm' : L.b.spoilt[q]? = some false := by
     rw [hm]
     cases hx : readD d with
     | none => exact absurd hx hrd
     | some x => rfl
    have hdm := hfl.whole hrd
    have hspn : readD (spoil d) = none := by
     rcases hdm with ⟨n, tk, h1, h2, h3⟩ | ⟨tk, h3⟩
     ·exact readD_msg_spoilt _ _
     ·exact readD_word_spoilt _
    have key : Calls Try.prog 59 #[.pointer (some ⟨yb, 0, none⟩), .int .i64 i, .bool true, .int .i64 q, .int .i64 3] w1 fun e w' => e = .returned (.int .i64 0) ∧ ∃ own', RoomB A own' ry w' yb (R.setLine i { L with b := L.b.spoil q (spoil d) }) ∧ Upd own1 own' (inRoom ry) w1 w' := by
     rcases hdm with ⟨n, tk, h1, h2, h3⟩ | ⟨tk, h3⟩
     ·obtain ⟨b1, b2, b3, b4, b5, b6, b7, b8, b9, hd, _, _, hsd⟩ := msg_form _ _ (hL.bd n tk h1 h2 (by omega))
      rw [hsd]
      rw [hd] at hq
      exact rFate_spoil10_1 A own1 ry yb R i q (byteOf 1) b1 b2 b3 b4 b5 b6 b7 b8 b9 _ L w1 hB hL.ht hL.hL hq hm'
     ·obtain ⟨b1, b2, b3, hd, _, hsd⟩ := word_form tk (by omega)
      rw [hsd]
      rw [hd] at hq
      exact rFate_spoil4_1 A own1 ry yb R i q (byteOf 2) b1 b2 b3 _ L w1 hB hL.ht hL.hL hq hm'
    refine key.mono ?_
    rintro e w' ⟨rfl, own', j2, j3⟩
    refine ⟨rfl, own', _, hI.air asp hr ?_, j2.room, j3⟩
    have := hs.setB hr.ls hi (Nat.le_succ _) (hL.a.mono (Nat.le_succ _)) ((hL.b.spoil q hspn).mono (Nat.le_succ _))
    skip
    exact this
theorem two_fate (hK : K < 10000000000000) (hry : ry ≠ 0) (hX : RoomX own rx w xb X) (hI : InvA K X R) (c : Int) (d : Bool) (n k : Int) (hc : I64 c) :
  TwoA (K + 1) own w rx ry xb yb X R 27 59 [.int .i64 c, .bool d, .int .i64 n, .int .i64 k] IsInt := by
 have el : (X.texts.length : Int) = R.texts.length := by rw [hI.texts]
 by_cases h1 : 0 ≤ c ∧ c < R.texts.length
 ·obtain ⟨i, us, ds, T, L, rfl, hi4, hi, hr, hs, hL, hxt, hE, hS⟩ := hI.client h1
  cases d
  ·exact two_fate_0 hK hry hX hI hi hr hs hL n k
  ·exact two_fate_1 hK hry hX hI hi hr hs hL n k
 ·obtain ⟨mb, c1, hmb, lk⟩ := hX.noW hc (by rw [el]; exact h1) d
  exact ⟨_, X, ⟨2, rfl⟩, rfl, sideX_below (xFate_none xb mb c n k d w c1 hmb lk) own rx xb X hX, fun own1 w1 hR => sideY_same (rFate_no own1 ry yb R c d n k w1 hR h1) own1 ry yb R (hI.mono (Nat.le_succ _)) hR⟩
end
end Go.Proofs.Ytemkgikncmhoaaa

