import Derived.Test.YtemkgikncmhoaaaM30
import Derived.Test.YtemkgikncmhoaaaM32
import Derived.Test.YtemkgikncmhoaaaM33
import Derived.Test.YtemkgikncmhoaaaM34
import Derived.Deep.DeepCutAuto
namespace Go.Proofs.Ytemkgikncmhoaaa
open Go.RowKit
attribute [local go_sem ↓] Go.wp_at_zero Go.wp_at_succ

theorem RoomB.lineAt {A : List Nat} {own : Nat → Tag} {rid b : Nat} {w : World} {R : RRoom} (h : RoomB A own rid w b R) {i lb : Nat} {L : RLine} (hL : R.lines[i]? = some L) (hA : A[i]? = some lb) : LineAt own rid i w lb L := by
 obtain ⟨tx, lx, _, _, _, _, _, _, h4⟩ := h
 exact h4 i L lb hL hA
theorem setLine_get {R : RRoom} {i : Nat} {L : RLine} (hL : R.lines[i]? = some L) (L' : RLine) : (R.setLine i L').lines[i]? = some L' := by
 show (R.lines.set i L')[i]? = _
 rw [List.getElem?_set_self (List.getElem?_eq_some_iff.1 hL).1]
theorem setLine_setLine (R : RRoom) (i : Nat) (L L' : RLine) : (R.setLine i L).setLine i L' = R.setLine i L' := by
 unfold RRoom.setLine
 simp
/-- What a room's heads are, and where its line i lies. -/
theorem RoomB.heads {A : List Nat} {own : Nat → Tag} {rid b : Nat} {w : World} {R : RRoom} (h : RoomB A own rid w b R) {i lb : Nat} {L : RLine} (hL : R.lines[i]? = some L) (hA : A[i]? = some lb) :
  ∃ lg lc, w.cell? ⟨b, 0, none⟩ = some (.int .i64 R.window) ∧ w.cell? ⟨b, 3, none⟩ = some (.slice (some ⟨lg, 0, none⟩) R.texts.length lc) ∧ w.cell? ⟨lg, i, none⟩ = some (.pointer (some ⟨lb, 0, none⟩)) ∧ own b = (rid, 100, 0) ∧ b < w.heap.size ∧ i < R.texts.length ∧ R.texts.length ≤ 4 := by
 have hll := h.lens
 have hi := (List.getElem?_eq_some_iff.1 hL).1
 have ht : R.texts[i]? = some (R.texts[i]'(by omega)) := List.getElem?_eq_getElem (by omega)
 obtain ⟨tg, tc, lg, lc, lb', c0, c2, c3, c4, c5, f4, hLA, t1, t2, t3, l1, l2, l3, hi'⟩ := h.room.get ht hL
 have := h.at_ hi' c3 c5
 rw [hA] at this
 obtain rfl : lb = lb' := by simpa using this
 exact ⟨lg, lc, c0, c3, c5, t2, l1, hi', hll.1⟩
theorem RoomB.where {A : List Nat} {own : Nat → Tag} {rid b : Nat} {w : World} {R : RRoom} (h : RoomB A own rid w b R) {i : Nat} {L : RLine} (hL : R.lines[i]? = some L) : ∃ lb, A[i]? = some lb := by
 have hi := (List.getElem?_eq_some_iff.1 hL).1
 obtain ⟨tx, lx, _, _, _, h1, h2, _, h4⟩ := h
 exact ⟨_, List.getElem?_eq_getElem (by omega)⟩

set_option maxRecDepth 100000 in
set_option maxHeartbeats 400000 in
theorem rTick_no (own : Nat → Tag) (rid b : Nat) (R : RRoom) (c : Int) (d : Bool) (w : World) (h : RoomY own rid w b R) (hc : ¬ R.client c) :
  Calls Try.prog 60 #[.pointer (some ⟨b, 0, none⟩), .int .i64 c, .bool d] w fun e w' => e = .returned (.int .i64 2) ∧ w' = w := by
 have HT := hide (there_no own rid b R c w h hc)
 clear h hc
 go_enter Try.func60, Try.ntmps60
 go_wp2_with (first | (go_at_call 65; refine (unhide HT).mono ?_; rintro e w' ⟨rfl, rfl⟩))
 go_ret
 exact ⟨rfl, rfl⟩
set_option maxRecDepth 100000 in
set_option maxHeartbeats 400000 in
theorem rFate_no (own : Nat → Tag) (rid b : Nat) (R : RRoom) (c : Int) (d : Bool) (n k : Int) (w : World) (h : RoomY own rid w b R) (hc : ¬ R.client c) :
  Calls Try.prog 59 #[.pointer (some ⟨b, 0, none⟩), .int .i64 c, .bool d, .int .i64 n, .int .i64 k] w fun e w' => e = .returned (.int .i64 2) ∧ w' = w := by
 have HT := hide (rpeek_no own rid b R c d n w h hc)
 clear h hc
 go_enter Try.func59, Try.ntmps59
 go_wp2_with (first | (go_at_call 58; refine (unhide HT).mono ?_; rintro e w' ⟨rfl, rfl⟩))
 go_ret
 exact ⟨rfl, rfl⟩
set_option maxRecDepth 100000 in
set_option maxHeartbeats 800000 in
theorem rTick_0 (A : List Nat) (own : Nat → Tag) (rid b : Nat) (R : RRoom) (i : Nat) (L : RLine) (w : World) (h : RoomB A own rid w b R) (hL : R.lines[i]? = some L) (hok : L.a.Ok) (hw : R.window ≤ 4) (hk : L.a.known ≤ L.a.rows.length) :
  Calls Try.prog 60 #[.pointer (some ⟨b, 0, none⟩), .int .i64 i, .bool false] w fun e w' => e = .returned (.int .i64 0) ∧ ∃ own', RoomB A own' rid w' b (R.setLine i { L with a := L.a.tick R.window }) ∧ Upd own own' (inRoom rid) w w' := by
 obtain ⟨lb, hA⟩ := h.where hL
 obtain ⟨lg, lc, c0, c3, c5, t2, l1, hi, hn4⟩ := h.heads hL hA
 have hi1 : (i : Int) < (R.texts.length : Int) := by omega
 have hi2 : (0 : Int) ≤ (i : Int) := by omega
 have HT := hide (there_yes own rid b R i w h.room hi)
 have HE : Hid (∀ w, Calls Try.prog 66 #[.bool false] w fun e w' => e = .returned (.int .i64 0) ∧ w' = w) := hide (fun w => end_any false w)
 have HK : Hid (∀ W, W = w ∨ W = w.drew → Calls Try.prog 80 #[.pointer (some ⟨lb, 0, none⟩), .int .i64 0, .int .i64 R.window] W fun e w' => e = .returned (.tuple #[]) ∧ ∃ own', RoomB A own' rid w' b (R.setLine i { L with a := L.a.tick R.window }) ∧ Upd own own' (inRoom rid) w w') := by
  apply hide
  intro W hW
  have U0 : Upd own own (fun _ => False) w W := by
   rcases hW with rfl | rfl
   ·exact Upd.refl _ _ _
   ·exact (Upd.refl _ _ _).drew
  refine (tick_0 own rid i lb L R.window W ((h.lineAt hL hA).upd U0 (fun _ h => h)) hok hw hk).mono ?_
  rintro e w' ⟨rfl, own', x1, x2⟩
  exact ⟨rfl, own', RoomB.line h (by omega) hi c3 c5 ((U0.mono (fun _ h => h.elim)).trans x2) x1, ((U0.mono (fun _ h => h.elim)).trans x2).mono (fun t h => h.1)⟩
 clear h hok
 go_enter Try.func60, Try.ntmps60
 go_wp2_with (first | (go_at_call 65; refine (unhide HT).mono ?_; rintro e w' ⟨rfl, rfl⟩))
 go_region_with (first | (go_at_call 66; refine (unhide HE _).mono ?_; rintro e w' ⟨rfl, rfl⟩) | (go_at_call 80; with_reducible refine (unhide HK _ (by first | exact .inl rfl | exact .inr rfl)).mono ?_; rintro e w2 ⟨rfl, hF⟩; have HF := hide hF; clear hF))
 all_goals
  go_wp2
  go_ret
  exact ⟨rfl, unhide HF⟩
set_option maxRecDepth 100000 in
set_option maxHeartbeats 400000 in
theorem rFate_far_0 (own : Nat → Tag) (rid b : Nat) (R : RRoom) (i : Nat) (n k : Int) (t : List UInt8) (L : RLine) (w : World) (h : RoomY own rid w b R) (ht : R.texts[i]? = some t) (hL : R.lines[i]? = some L) (hq : n < 0 ∨ n ≥ L.a.out.length) :
  Calls Try.prog 59 #[.pointer (some ⟨b, 0, none⟩), .int .i64 i, .bool false, .int .i64 n, .int .i64 k] w fun e w' => e = .returned (.int .i64 7) ∧ Below w.heap.size w w' := by
 have HT := hide (rpeek_0 own rid b R i n t L w h ht hL hq)
 clear h ht hL hq
 go_enter Try.func59, Try.ntmps59
 go_wp2_with fail
 refine (unhide HT).mono ?_
 rintro e w1 ⟨rfl, hb⟩
 have HB := hide hb
 clear hb HT
 go_wp2
 go_ret
 exact ⟨rfl, unhide HB⟩
set_option maxRecDepth 100000 in
set_option maxHeartbeats 800000 in
theorem rFate_odd_0 (own : Nat → Tag) (rid b : Nat) (R : RRoom) (i n : Nat) (k : Int) (s : ByteArray) (t : List UInt8) (L : RLine) (w : World) (h : RoomY own rid w b R) (ht : R.texts[i]? = some t) (hL : R.lines[i]? = some L) (hq : L.a.out[n]? = some s) (hk : k < 0 ∨ k > 3) :
  Calls Try.prog 59 #[.pointer (some ⟨b, 0, none⟩), .int .i64 i, .bool false, .int .i64 n, .int .i64 k] w fun e w' => e = .returned (.int .i64 1) ∧ Below w.heap.size w w' := by
 have HT := hide (rpeek_0_yes own rid b R i n s t L w h ht hL hq)
 clear h ht hL hq
 by_cases hk1 : k < 0
 ·clear hk
  go_enter Try.func59, Try.ntmps59
  go_wp2_with fail
  refine (unhide HT).mono ?_
  rintro e w1 ⟨rfl, hb⟩
  have HB := hide hb
  clear hb HT
  go_wp2
  go_ret
  exact ⟨rfl, unhide HB⟩
 ·have hk2 : 3 < k := by omega
  clear hk
  go_enter Try.func59, Try.ntmps59
  go_wp2_with fail
  refine (unhide HT).mono ?_
  rintro e w1 ⟨rfl, hb⟩
  have HB := hide hb
  clear hb HT
  go_wp2
  go_ret
  exact ⟨rfl, unhide HB⟩
/-- The cells that a fate looks at. -/
theorem RoomB.fate0 {A : List Nat} {own : Nat → Tag} {rid b : Nat} {w : World} {R : RRoom} (h : RoomB A own rid w b R) {i lb : Nat} {L : RLine} (hL : R.lines[i]? = some L) (hA : A[i]? = some lb) {n : Nat} {s : ByteArray} {m : Bool} (ho : L.a.out[n]? = some s) (hm : L.a.spoilt[n]? = some m) :
  ∃ lg lc og oc sg sc, w.cell? ⟨b, 3, none⟩ = some (.slice (some ⟨lg, 0, none⟩) R.texts.length lc) ∧ w.cell? ⟨lg, i, none⟩ = some (.pointer (some ⟨lb, 0, none⟩)) ∧ w.cell? ⟨lb, 10, none⟩ = some (.slice (some ⟨og, 0, none⟩) L.a.out.length oc) ∧
   w.cell? ⟨lb, 12, none⟩ = some (.slice (some ⟨sg, 0, none⟩) L.a.spoilt.length sc) ∧ w.cell? ⟨og, n, none⟩ = some (.string s) ∧ w.cell? ⟨sg, n, none⟩ = some (.bool m) := by
 obtain ⟨lg, lc, _, c3, c5, _, _, _, _⟩ := h.heads hL hA
 obtain ⟨r0, r1, k0, k1, o0, o1, s0, s1, hc, ⟨_, _, x0, y0⟩, ⟨_, _, x1, y1⟩⟩ := h.lineAt hL hA
 obtain ⟨og, oc, rfl, _, _, d1, _⟩ := x0.get (i := n) (u := .string s) (by simp [ho])
 obtain ⟨sg, sc, rfl, _, _, d2, _⟩ := y0.get (i := n) (u := .bool m) (by simp [hm])
 exact ⟨lg, lc, og, oc, sg, sc, c3, c5, by rw [hc.cell]; rfl, by rw [hc.cell]; rfl, d1, d2⟩
set_option maxRecDepth 100000 in
set_option maxHeartbeats 800000 in
theorem rFate_twice_0 (A : List Nat) (own : Nat → Tag) (rid b : Nat) (R : RRoom) (i n : Nat) (s : ByteArray) (t : List UInt8) (L : RLine) (w : World) (h : RoomB A own rid w b R) (ht : R.texts[i]? = some t) (hL : R.lines[i]? = some L) (hq : L.a.out[n]? = some s) (hm : L.a.spoilt[n]? = some true) :
  Calls Try.prog 59 #[.pointer (some ⟨b, 0, none⟩), .int .i64 i, .bool false, .int .i64 n, .int .i64 3] w fun e w' => e = .returned (.int .i64 8) ∧ Below w.heap.size w w' := by
 have HT := hide (rpeek_0_yes own rid b R i n s t L w h.room ht hL hq)
 have HE : Hid (∀ w, Calls Try.prog 66 #[.bool false] w fun e w' => e = .returned (.int .i64 0) ∧ w' = w) := hide (fun w => end_any false w)
 obtain ⟨lb, hA⟩ := h.where hL
 have hi : i < R.texts.length := by have := (List.getElem?_eq_some_iff.1 hL).1; have := h.lens.2; omega
 have hi1 : (i : Int) < (R.texts.length : Int) := by omega
 have hi2 : (0 : Int) ≤ (i : Int) := by omega
 have hn2 : (0 : Int) ≤ (n : Int) := by omega
 have hn3 : (n : Int) < (L.a.spoilt.length : Int) := by have := (List.getElem?_eq_some_iff.1 hm).1; omega
 have HX : Hid (∀ w1, Below w.heap.size w w1 → _) := hide fun w1 hb => (h.upd (Upd.of_below own (fun _ => False) hb) (fun _ _ h => h)).fate0 hL hA hq hm
 clear h
 go_enter Try.func59, Try.ntmps59
 go_wp2_with fail
 refine (unhide HT).mono ?_
 rintro e w1 ⟨rfl, hb⟩
 have HB := hide hb
 obtain ⟨lg, lc, og, oc, sg, sc, c3, c5, d10, d12, d1, d2⟩ := unhide HX w1 hb
 clear hb HT HX
 go_wp2_with (first | (go_at_call 66; refine (unhide HE _).mono ?_; rintro e w' ⟨rfl, rfl⟩))
 go_ret
 exact ⟨rfl, unhide HB⟩
set_option maxRecDepth 100000 in
set_option maxHeartbeats 800000 in
theorem rTick_1 (A : List Nat) (own : Nat → Tag) (rid b : Nat) (R : RRoom) (i : Nat) (L : RLine) (w : World) (h : RoomB A own rid w b R) (hL : R.lines[i]? = some L) (hok : L.b.Ok) (hw : R.window ≤ 4) (hk : L.b.known ≤ L.b.rows.length) :
  Calls Try.prog 60 #[.pointer (some ⟨b, 0, none⟩), .int .i64 i, .bool true] w fun e w' => e = .returned (.int .i64 0) ∧ ∃ own', RoomB A own' rid w' b (R.setLine i { L with b := L.b.tick R.window }) ∧ Upd own own' (inRoom rid) w w' := by
 obtain ⟨lb, hA⟩ := h.where hL
 obtain ⟨lg, lc, c0, c3, c5, t2, l1, hi, hn4⟩ := h.heads hL hA
 have hi1 : (i : Int) < (R.texts.length : Int) := by omega
 have hi2 : (0 : Int) ≤ (i : Int) := by omega
 have HT := hide (there_yes own rid b R i w h.room hi)
 have HE : Hid (∀ w, Calls Try.prog 66 #[.bool true] w fun e w' => e = .returned (.int .i64 1) ∧ w' = w) := hide (fun w => end_any true w)
 have HK : Hid (∀ W, W = w ∨ W = w.drew → Calls Try.prog 80 #[.pointer (some ⟨lb, 0, none⟩), .int .i64 1, .int .i64 R.window] W fun e w' => e = .returned (.tuple #[]) ∧ ∃ own', RoomB A own' rid w' b (R.setLine i { L with b := L.b.tick R.window }) ∧ Upd own own' (inRoom rid) w w') := by
  apply hide
  intro W hW
  have U0 : Upd own own (fun _ => False) w W := by
   rcases hW with rfl | rfl
   ·exact Upd.refl _ _ _
   ·exact (Upd.refl _ _ _).drew
  refine (tick_1 own rid i lb L R.window W ((h.lineAt hL hA).upd U0 (fun _ h => h)) hok hw hk).mono ?_
  rintro e w' ⟨rfl, own', x1, x2⟩
  exact ⟨rfl, own', RoomB.line h (by omega) hi c3 c5 ((U0.mono (fun _ h => h.elim)).trans x2) x1, ((U0.mono (fun _ h => h.elim)).trans x2).mono (fun t h => h.1)⟩
 clear h hok
 go_enter Try.func60, Try.ntmps60
 go_wp2_with (first | (go_at_call 65; refine (unhide HT).mono ?_; rintro e w' ⟨rfl, rfl⟩))
 go_region_with (first | (go_at_call 66; refine (unhide HE _).mono ?_; rintro e w' ⟨rfl, rfl⟩) | (go_at_call 80; with_reducible refine (unhide HK _ (by first | exact .inl rfl | exact .inr rfl)).mono ?_; rintro e w2 ⟨rfl, hF⟩; have HF := hide hF; clear hF))
 all_goals
  go_wp2
  go_ret
  exact ⟨rfl, unhide HF⟩
set_option maxRecDepth 100000 in
set_option maxHeartbeats 400000 in
theorem rFate_far_1 (own : Nat → Tag) (rid b : Nat) (R : RRoom) (i : Nat) (n k : Int) (t : List UInt8) (L : RLine) (w : World) (h : RoomY own rid w b R) (ht : R.texts[i]? = some t) (hL : R.lines[i]? = some L) (hq : n < 0 ∨ n ≥ L.b.out.length) :
  Calls Try.prog 59 #[.pointer (some ⟨b, 0, none⟩), .int .i64 i, .bool true, .int .i64 n, .int .i64 k] w fun e w' => e = .returned (.int .i64 7) ∧ Below w.heap.size w w' := by
 have HT := hide (rpeek_1 own rid b R i n t L w h ht hL hq)
 clear h ht hL hq
 go_enter Try.func59, Try.ntmps59
 go_wp2_with fail
 refine (unhide HT).mono ?_
 rintro e w1 ⟨rfl, hb⟩
 have HB := hide hb
 clear hb HT
 go_wp2
 go_ret
 exact ⟨rfl, unhide HB⟩
set_option maxRecDepth 100000 in
set_option maxHeartbeats 800000 in
theorem rFate_odd_1 (own : Nat → Tag) (rid b : Nat) (R : RRoom) (i n : Nat) (k : Int) (s : ByteArray) (t : List UInt8) (L : RLine) (w : World) (h : RoomY own rid w b R) (ht : R.texts[i]? = some t) (hL : R.lines[i]? = some L) (hq : L.b.out[n]? = some s) (hk : k < 0 ∨ k > 3) :
  Calls Try.prog 59 #[.pointer (some ⟨b, 0, none⟩), .int .i64 i, .bool true, .int .i64 n, .int .i64 k] w fun e w' => e = .returned (.int .i64 1) ∧ Below w.heap.size w w' := by
 have HT := hide (rpeek_1_yes own rid b R i n s t L w h ht hL hq)
 clear h ht hL hq
 by_cases hk1 : k < 0
 ·clear hk
  go_enter Try.func59, Try.ntmps59
  go_wp2_with fail
  refine (unhide HT).mono ?_
  rintro e w1 ⟨rfl, hb⟩
  have HB := hide hb
  clear hb HT
  go_wp2
  go_ret
  exact ⟨rfl, unhide HB⟩
 ·have hk2 : 3 < k := by omega
  clear hk
  go_enter Try.func59, Try.ntmps59
  go_wp2_with fail
  refine (unhide HT).mono ?_
  rintro e w1 ⟨rfl, hb⟩
  have HB := hide hb
  clear hb HT
  go_wp2
  go_ret
  exact ⟨rfl, unhide HB⟩
/-- The cells that a fate looks at. -/
theorem RoomB.fate1 {A : List Nat} {own : Nat → Tag} {rid b : Nat} {w : World} {R : RRoom} (h : RoomB A own rid w b R) {i lb : Nat} {L : RLine} (hL : R.lines[i]? = some L) (hA : A[i]? = some lb) {n : Nat} {s : ByteArray} {m : Bool} (ho : L.b.out[n]? = some s) (hm : L.b.spoilt[n]? = some m) :
  ∃ lg lc og oc sg sc, w.cell? ⟨b, 3, none⟩ = some (.slice (some ⟨lg, 0, none⟩) R.texts.length lc) ∧ w.cell? ⟨lg, i, none⟩ = some (.pointer (some ⟨lb, 0, none⟩)) ∧ w.cell? ⟨lb, 11, none⟩ = some (.slice (some ⟨og, 0, none⟩) L.b.out.length oc) ∧
   w.cell? ⟨lb, 13, none⟩ = some (.slice (some ⟨sg, 0, none⟩) L.b.spoilt.length sc) ∧ w.cell? ⟨og, n, none⟩ = some (.string s) ∧ w.cell? ⟨sg, n, none⟩ = some (.bool m) := by
 obtain ⟨lg, lc, _, c3, c5, _, _, _, _⟩ := h.heads hL hA
 obtain ⟨r0, r1, k0, k1, o0, o1, s0, s1, hc, ⟨_, _, x0, y0⟩, ⟨_, _, x1, y1⟩⟩ := h.lineAt hL hA
 obtain ⟨og, oc, rfl, _, _, d1, _⟩ := x1.get (i := n) (u := .string s) (by simp [ho])
 obtain ⟨sg, sc, rfl, _, _, d2, _⟩ := y1.get (i := n) (u := .bool m) (by simp [hm])
 exact ⟨lg, lc, og, oc, sg, sc, c3, c5, by rw [hc.cell]; rfl, by rw [hc.cell]; rfl, d1, d2⟩
set_option maxRecDepth 100000 in
set_option maxHeartbeats 800000 in
theorem rFate_twice_1 (A : List Nat) (own : Nat → Tag) (rid b : Nat) (R : RRoom) (i n : Nat) (s : ByteArray) (t : List UInt8) (L : RLine) (w : World) (h : RoomB A own rid w b R) (ht : R.texts[i]? = some t) (hL : R.lines[i]? = some L) (hq : L.b.out[n]? = some s) (hm : L.b.spoilt[n]? = some true) :
  Calls Try.prog 59 #[.pointer (some ⟨b, 0, none⟩), .int .i64 i, .bool true, .int .i64 n, .int .i64 3] w fun e w' => e = .returned (.int .i64 8) ∧ Below w.heap.size w w' := by
 have HT := hide (rpeek_1_yes own rid b R i n s t L w h.room ht hL hq)
 have HE : Hid (∀ w, Calls Try.prog 66 #[.bool true] w fun e w' => e = .returned (.int .i64 1) ∧ w' = w) := hide (fun w => end_any true w)
 obtain ⟨lb, hA⟩ := h.where hL
 have hi : i < R.texts.length := by have := (List.getElem?_eq_some_iff.1 hL).1; have := h.lens.2; omega
 have hi1 : (i : Int) < (R.texts.length : Int) := by omega
 have hi2 : (0 : Int) ≤ (i : Int) := by omega
 have hn2 : (0 : Int) ≤ (n : Int) := by omega
 have hn3 : (n : Int) < (L.b.spoilt.length : Int) := by have := (List.getElem?_eq_some_iff.1 hm).1; omega
 have HX : Hid (∀ w1, Below w.heap.size w w1 → _) := hide fun w1 hb => (h.upd (Upd.of_below own (fun _ => False) hb) (fun _ _ h => h)).fate1 hL hA hq hm
 clear h
 go_enter Try.func59, Try.ntmps59
 go_wp2_with fail
 refine (unhide HT).mono ?_
 rintro e w1 ⟨rfl, hb⟩
 have HB := hide hb
 obtain ⟨lg, lc, og, oc, sg, sc, c3, c5, d10, d12, d1, d2⟩ := unhide HX w1 hb
 clear hb HT HX
 go_wp2_with (first | (go_at_call 66; refine (unhide HE _).mono ?_; rintro e w' ⟨rfl, rfl⟩))
 go_ret
 exact ⟨rfl, unhide HB⟩
end Go.Proofs.Ytemkgikncmhoaaa

namespace Go.Proofs.Ytemkgikncmhoaaa
open Go.RowKit

/-- A call on both: the same answer, and the two still go together. -/
def TwoA (K : Nat) (own : Nat → Tag) (w : World) (rx ry xb yb : Nat) (X : IRoom) (R : RRoom) (fx fy : FuncId) (args : List Value) (V : Value → Prop) : Prop :=
 ∃ v X', V v ∧ X'.texts.length = X.texts.length ∧ (Calls Try.prog fx (.pointer (some ⟨xb, 0, none⟩) :: args).toArray w fun e w' => e = .returned v ∧ ∃ own', RoomX own' rx w' xb X' ∧ Upd own own' (inRoom rx) w w') ∧
  ∀ own1 w1, RoomY own1 ry w1 yb R → Calls Try.prog fy (.pointer (some ⟨yb, 0, none⟩) :: args).toArray w1 fun e w' => e = .returned v ∧ ∃ own' R', InvA K X' R' ∧ RoomY own' ry w' yb R' ∧ Upd own1 own' (inRoom ry) w1 w'
theorem sideX_same {f : FuncId} {args : Array Value} {w : World} {v : Value} (h : Calls Try.prog f args w fun e w' => e = .returned v ∧ w' = w) (own : Nat → Tag) (rid b : Nat) (X : IRoom) (hX : RoomX own rid w b X) :
  Calls Try.prog f args w fun e w' => e = .returned v ∧ ∃ own', RoomX own' rid w' b X ∧ Upd own own' (inRoom rid) w w' := h.mono (by rintro e w' ⟨rfl, rfl⟩; exact ⟨rfl, own, hX, Upd.refl _ _ _⟩)
theorem sideX_below {f : FuncId} {args : Array Value} {w : World} {v : Value} (h : Calls Try.prog f args w fun e w' => e = .returned v ∧ Below w.heap.size w w') (own : Nat → Tag) (rid b : Nat) (X : IRoom) (hX : RoomX own rid w b X) :
  Calls Try.prog f args w fun e w' => e = .returned v ∧ ∃ own', RoomX own' rid w' b X ∧ Upd own own' (inRoom rid) w w' := h.mono (by rintro e w' ⟨rfl, hb⟩; exact ⟨rfl, own, hX.upd (Upd.of_below own (fun _ => False) hb) (fun _ _ h => h), Upd.of_below _ _ hb⟩)
theorem sideY_same {f : FuncId} {args : Array Value} {w : World} {v : Value} (h : Calls Try.prog f args w fun e w' => e = .returned v ∧ w' = w) {K : Nat} {X : IRoom} (own : Nat → Tag) (rid b : Nat) (R : RRoom) (hI : InvA K X R) (hR : RoomY own rid w b R) :
  Calls Try.prog f args w fun e w' => e = .returned v ∧ ∃ own' R', InvA K X R' ∧ RoomY own' rid w' b R' ∧ Upd own own' (inRoom rid) w w' := h.mono (by rintro e w' ⟨rfl, rfl⟩; exact ⟨rfl, own, R, hI, hR, Upd.refl _ _ _⟩)
theorem sideY_below {f : FuncId} {args : Array Value} {w : World} {v : Value} (h : Calls Try.prog f args w fun e w' => e = .returned v ∧ Below w.heap.size w w') {K : Nat} {X : IRoom} (own : Nat → Tag) (rid b : Nat) (R : RRoom) (hI : InvA K X R) (hR : RoomY own rid w b R) :
  Calls Try.prog f args w fun e w' => e = .returned v ∧ ∃ own' R', InvA K X R' ∧ RoomY own' rid w' b R' ∧ Upd own own' (inRoom rid) w w' := h.mono (by rintro e w' ⟨rfl, hb⟩; exact ⟨rfl, own, R, hI, hR.upd (Upd.of_below own (fun _ => False) hb) (fun _ _ h => h), Upd.of_below _ _ hb⟩)
def IsInt (v : Value) : Prop := ∃ n : Int, v = .int .i64 n
def IsInts (v : Value) : Prop := ∃ n m : Int, v = .tuple #[.int .i64 n, .int .i64 m]
def IsStr (v : Value) : Prop := ∃ (s : ByteArray) (m : Int), v = .tuple #[.string s, .int .i64 m]

section
variable {K : Nat} {X : IRoom} {R : RRoom}
theorem InvA.fit (h : InvA K X R) : Fit X := by
 obtain ⟨hs, us, ds, T, hr, _⟩ := h
 exact ⟨⟨us, ds, T, hr⟩, hs⟩
theorem InvA.texts (h : InvA K X R) : X.texts = R.texts := by
 obtain ⟨_, us, ds, T, _, hs⟩ := h
 exact hs.texts.symm
theorem InvA.mono (h : InvA K X R) {K' : Nat} (hk : K ≤ K') : InvA K' X R := by
 obtain ⟨hs, us, ds, T, hr, h⟩ := h
 exact ⟨hs, us, ds, T, hr, h.mono hk⟩
/-- A client's number, and what there is of its line. -/
theorem InvA.client (h : InvA K X R) {c : Int} (hc : 0 ≤ c ∧ c < R.texts.length) : ∃ (i : Nat) (us ds : Nat → List GMsg) (T : Nat → Nat → Nat → List UInt8) (L : RLine), c = i ∧ i < 4 ∧ i < X.texts.length ∧ RInv X us ds T ∧ RSim K us ds X R ∧ SimAt K us ds T X R i L ∧ X.texts[i]? = some (X.tx i) ∧ X.ends[i]? = some (X.e i) ∧ X.sends[i]? = some (X.s i) := by
 have ht := h.texts
 obtain ⟨_, us, ds, T, hr, hs⟩ := h
 obtain ⟨i, rfl⟩ := Int.eq_ofNat_of_zero_le hc.1
 have hi : i < X.texts.length := by rw [ht]; omega
 obtain ⟨L, hL⟩ := hs.at_ hr hi
 obtain ⟨g1, g2, g3⟩ := hr.at' hi
 have := hr.n4
 exact ⟨i, us, ds, T, L, rfl, by omega, hi, hr, hs, hL, g1, g2, g3⟩
theorem InvA.make (h : InvA K X R) {i : Nat} {us ds : Nat → List GMsg} {T : Nat → Nat → Nat → List UInt8} {L : RLine} (hi : i < X.texts.length) (hr : RInv X us ds T) (hs : RSim K us ds X R) (hL : SimAt K us ds T X R i L) (o : ROp) (hc : o.client = i) (hn : o.Norm) (hf : o.fits (X.tx i).length) (hw : (X.e i).waiting.length < X.window) (hu : (X.e i).made < 60) :
  InvA K (X.setA i (o.does (X.tx i)) ((X.e i).make o X.window)) (R.put i (o.does (X.tx i)) { L with a := L.a.make o R.window }) := by
 refine ⟨(h.fit.make hi o hc hn hf hw hu).sane, ?_⟩
 obtain ⟨g1, g2, g3⟩ := hr.at' hi
 obtain ⟨T', hr'⟩ := hr.make g1 g2 g3 o hc hn hf hw hu
 refine ⟨_, _, T', hr', ?_⟩
 have hi' : i < (X.setA i (o.does (X.tx i)) ((X.e i).make o X.window)).texts.length := by simpa [IRoom.setA] using hi
 obtain ⟨p1, p2, p3⟩ := hr'.at' hi'
 have hby := hr'.bytesA p1 p2 p3 (n := (us i).length + 1) (tk := (X.e i).taken) (by omega) (by rw [upd_same]; simp) (by have := hL.taken255.1; omega)
 rw [upd_same] at hby
 rw [hs.win]
 exact hs.setA hr.le hi (Nat.le_refl _) (hL.a.make hL.line.a o hby) (hL.b.other _)
theorem SimAt.refusal {i : Nat} {us ds : Nat → List GMsg} {T : Nat → Nat → Nat → List UInt8} {L : RLine} (h : SimAt K us ds T X R i L) (window : Nat) : (X.e i).refusal window = if (window : Int) ≤ (L.a.rows.length : Int) - L.a.known then 5 else if 60 ≤ L.a.rows.length then 6 else 0 := by
 have h1 : (X.e i).made = L.a.rows.length := by rw [h.line.a.made, h.a.1.len]
 have h2 := h.a.1.known
 have h3 := h.line.a.kn
 have h4 := h.a.1.len
 unfold IEnd.refusal
 rw [h1]
 unfold IEnd.made at h1
 by_cases g : window ≤ (X.e i).waiting.length
 ·rw [if_pos g, if_pos (by omega)]
 ·rw [if_neg g, if_neg (show ¬ ((window : Int) ≤ (L.a.rows.length : Int) - L.a.known) by omega)]
end

theorem two_put (K : Nat) (own : Nat → Tag) (w : World) (rx ry xb yb : Nat) (X : IRoom) (R : RRoom) (hX : RoomX own rx w xb X) (hI : InvA K X R) (c p l : Int) (hc : I64 c) (hl : 0 ≤ l ∧ l ≤ 255) :
  TwoA K own w rx ry xb yb X R 25 61 [.int .i64 c, .int .i64 p, .int .u8 l] IsInt := by
 have el : (X.texts.length : Int) = R.texts.length := by rw [hI.texts]
 by_cases h1 : 0 ≤ c ∧ c < R.texts.length
 ·obtain ⟨i, us, ds, T, L, rfl, hi4, hi, hr, hs, hL, hxt, hE, hS⟩ := hI.client h1
  have hrt := hL.ht
  have f := hI.fit
  have htl := hL.tl
  by_cases h2 : p < 0 ∨ p > (X.tx i).length
  ·exact ⟨_, X, ⟨3, rfl⟩, rfl, sideX_same (xput_place own rx xb X i p l _ _ _ w hX hxt hE hS h2) own rx xb X hX, fun own1 w1 hR => sideY_same (rput_place own1 ry yb R i p l _ L w1 hR hrt hL.hL h2) own1 ry yb R hI hR⟩
  obtain ⟨q, rfl⟩ := Int.eq_ofNat_of_zero_le (show 0 ≤ p by omega)
  have hq : q ≤ (X.tx i).length := by omega
  by_cases h3 : l < 33 ∨ l > 126
  ·exact ⟨_, X, ⟨4, rfl⟩, rfl, sideX_same (xput_letter own rx xb X i q l _ _ _ w hX hxt hE hS hq h3) own rx xb X hX, fun own1 w1 hR => sideY_same (rput_letter own1 ry yb R i q l _ L w1 hR hrt hL.hL hq h3) own1 ry yb R hI hR⟩
  obtain ⟨u, rfl⟩ := Int.eq_ofNat_of_zero_le hl.1
  have hu : 33 ≤ u ∧ u ≤ 126 := by omega
  have hEok := f.ok hi
  have hw4 := f.win.2
  have hwn := hs.win
  have hle : L.a.known ≤ L.a.rows.length := by rw [hL.a.1.known, hL.a.1.len]; exact hL.line.a.kn
  have hrf := hL.refusal X.window
  by_cases h4 : (X.e i).refusal X.window ≠ 0
  ·refine ⟨_, X, ⟨_, rfl⟩, rfl, sideX_below (xput_refused own rx xb X i q u _ _ _ w hX hxt hE hS hq hu hEok hw4 h4) own rx xb X hX, fun own1 w1 hR => ?_⟩
   have hcond : L.a.rows.length - L.a.known ≥ R.window ∨ L.a.rows.length ≥ 60 ∨ ((X.tx i).length : Int) ≥ 60 := by
    rw [hrf] at h4
    by_cases g1 : (X.window : Int) ≤ (L.a.rows.length : Int) - L.a.known
    ·exact .inl (by omega)
    ·rw [if_neg g1] at h4
     by_cases g2 : 60 ≤ L.a.rows.length
     ·exact .inr (.inl g2)
     ·rw [if_neg g2] at h4; exact absurd rfl h4
   have he := edit_refused own1 ry yb R i ⟨i, 1, q, u⟩ (X.tx i).length _ L w1 hR hrt hL.hL hL.oka (by omega) hle hcond
   have hv : (if L.a.rows.length - L.a.known ≥ R.window then (5 : Int) else 6) = (X.e i).refusal X.window := by
    rw [hrf] at h4 ⊢
    by_cases g1 : (X.window : Int) ≤ (L.a.rows.length : Int) - L.a.known
    ·rw [if_pos g1, if_pos (by omega)]
    ·rw [if_neg g1] at h4 ⊢
     rw [if_neg (by omega)]
     by_cases g2 : 60 ≤ L.a.rows.length
     ·rw [if_pos g2]
     ·rw [if_neg g2] at h4; exact absurd rfl h4
   rw [hv] at he
   have hp := rput_edit own1 ry yb R i q u _ L w1 hR hrt hL.hL hq hu (fun v w' => v = .int .i64 ((X.e i).refusal X.window) ∧ Below w1.heap.size w1 w') (he.mono (by rintro e w' ⟨rfl, hb⟩; exact ⟨_, rfl, rfl, hb⟩))
   refine sideY_below (hp.mono ?_) own1 ry yb R hI hR
   rintro e w' ⟨n, rfl, hn, hb⟩
   rw [hn]; exact ⟨rfl, hb⟩
  ·have h4' : (X.e i).refusal X.window = 0 := by simpa using h4
   have hcond : L.a.rows.length - L.a.known < R.window ∧ L.a.rows.length < 60 := by
    rw [hrf] at h4'
    by_cases g1 : (X.window : Int) ≤ (L.a.rows.length : Int) - L.a.known
    ·rw [if_pos g1] at h4'; simp at h4'
    ·rw [if_neg g1] at h4'
     by_cases g2 : 60 ≤ L.a.rows.length
     ·rw [if_pos g2] at h4'; simp at h4'
     ·exact ⟨by omega, by omega⟩
   by_cases h5 : 60 ≤ (X.tx i).length
   ·refine ⟨_, X, ⟨6, rfl⟩, rfl, sideX_below (xput_many own rx xb X i q u _ _ _ w hX hxt hE hS hq hu hEok hw4 h4' h5) own rx xb X hX, fun own1 w1 hR => ?_⟩
    have he := edit_refused own1 ry yb R i ⟨i, 1, q, u⟩ (X.tx i).length _ L w1 hR hrt hL.hL hL.oka (by omega) hle (.inr (.inr (by omega)))
    rw [if_neg (by omega)] at he
    have hp := rput_edit own1 ry yb R i q u _ L w1 hR hrt hL.hL hq hu (fun v w' => v = .int .i64 6 ∧ Below w1.heap.size w1 w') (he.mono (by rintro e w' ⟨rfl, hb⟩; exact ⟨_, rfl, rfl, hb⟩))
    refine sideY_below (hp.mono ?_) own1 ry yb R hI hR
    rintro e w' ⟨n, rfl, hn, hb⟩
    rw [hn]; exact ⟨rfl, hb⟩
   ·have hsmall : ROp.Small ⟨i, 1, q, u⟩ := ⟨⟨by simp, by simp; omega⟩, ⟨by simp, by simp⟩, ⟨by simp, by simp; omega⟩, ⟨by simp, by simp; omega⟩⟩
    have edo : insB (X.tx i) q u = (⟨i, 1, q, u⟩ : ROp).does (X.tx i) := by simp [insB, ROp.does, byteOf]
    have hlen := hL.a.1.len
    have hkn := hL.a.1.known
    have hmd := hL.line.a.made
    have hmk := hI.make hi hr hs hL ⟨i, 1, q, u⟩ rfl ⟨⟨by simp, by simp; omega⟩, by simp; omega⟩ (.inr (.inl ⟨rfl, by simp, by simpa using hq⟩)) (by unfold IEnd.made at hmd; omega) (by omega)
    refine ⟨_, _, ⟨0, rfl⟩, ?_, xput_ok own rx xb X i q u _ _ _ w hX hxt hE hS hq hu hEok hw4 h4' (by omega) hi4, fun own1 w1 hR => ?_⟩
    ·simp
    rw [edo]
    have he := edit_ok own1 ry yb R i ⟨i, 1, q, u⟩ (X.tx i).length _ ((⟨i, 1, q, u⟩ : ROp).does (X.tx i)) L w1 hR hrt hL.hL (by omega) hle hcond.1 hcond.2 (by omega) (hL.oka.more _ (by omega) hsmall.1 hsmall.2.1 hsmall.2.2.1 hsmall.2.2.2) (by have h7 := hL.a.2; have h8 := hL.line.a.sentTo_eq (window := X.window); have h9 := hL.line.a.kn; omega) (fun w2 => by rw [← edo]; exact do_put _ i q u w2 (by omega) hq (by omega))
    have hp := rput_edit own1 ry yb R i q u _ L w1 hR hrt hL.hL hq hu (fun v w' => v = .int .i64 0 ∧ ∃ own', RoomY own' ry w' yb (R.put i ((⟨i, 1, q, u⟩ : ROp).does (X.tx i)) { L with a := L.a.make ⟨i, 1, q, u⟩ R.window }) ∧ Upd own1 own' (inRoom ry) w1 w') (he.mono (by rintro e w' ⟨rfl, hb⟩; exact ⟨_, rfl, rfl, hb⟩))
    refine hp.mono ?_
    rintro e w' ⟨n, rfl, hn, own2, hb1, hb2⟩
    rw [hn]; exact ⟨rfl, own2, _, hmk, hb1, hb2⟩
 ·exact ⟨_, X, ⟨2, rfl⟩, rfl, sideX_same (xput_client own rx xb X c p l w hX hc (by rw [el]; exact h1)) own rx xb X hX, fun own1 w1 hR => sideY_same (rput_client own1 ry yb R c p l w1 hR h1) own1 ry yb R hI hR⟩

theorem two_cut (K : Nat) (own : Nat → Tag) (w : World) (rx ry xb yb : Nat) (X : IRoom) (R : RRoom) (hX : RoomX own rx w xb X) (hI : InvA K X R) (c p : Int) (hc : I64 c) :
  TwoA K own w rx ry xb yb X R 37 62 [.int .i64 c, .int .i64 p] IsInt := by
 have el : (X.texts.length : Int) = R.texts.length := by rw [hI.texts]
 by_cases h1 : 0 ≤ c ∧ c < R.texts.length
 ·obtain ⟨i, us, ds, T, L, rfl, hi4, hi, hr, hs, hL, hxt, hE, hS⟩ := hI.client h1
  have hrt := hL.ht
  have f := hI.fit
  have htl := hL.tl
  by_cases h2 : p < 0 ∨ p ≥ (X.tx i).length
  ·exact ⟨_, X, ⟨3, rfl⟩, rfl, sideX_same (xcut_place own rx xb X i p _ _ _ w hX hxt hE hS h2) own rx xb X hX, fun own1 w1 hR => sideY_same (rcut_place own1 ry yb R i p _ L w1 hR hrt hL.hL h2) own1 ry yb R hI hR⟩
  obtain ⟨q, rfl⟩ := Int.eq_ofNat_of_zero_le (show 0 ≤ p by omega)
  have hq : q < (X.tx i).length := by omega
  have hEok := f.ok hi
  have hw4 := f.win.2
  have hwn := hs.win
  have hle : L.a.known ≤ L.a.rows.length := by rw [hL.a.1.known, hL.a.1.len]; exact hL.line.a.kn
  have hrf := hL.refusal X.window
  by_cases h4 : (X.e i).refusal X.window ≠ 0
  ·refine ⟨_, X, ⟨_, rfl⟩, rfl, sideX_below (xcut_refused own rx xb X i q _ _ _ w hX hxt hE hS hq hEok hw4 h4) own rx xb X hX, fun own1 w1 hR => ?_⟩
   have hcond : L.a.rows.length - L.a.known ≥ R.window ∨ L.a.rows.length ≥ 60 ∨ (0 : Int) ≥ 60 := by
    rw [hrf] at h4
    by_cases g1 : (X.window : Int) ≤ (L.a.rows.length : Int) - L.a.known
    ·exact .inl (by omega)
    ·rw [if_neg g1] at h4
     by_cases g2 : 60 ≤ L.a.rows.length
     ·exact .inr (.inl g2)
     ·rw [if_neg g2] at h4; exact absurd rfl h4
   have he := edit_refused own1 ry yb R i ⟨i, 2, q, 0⟩ 0 _ L w1 hR hrt hL.hL hL.oka (by omega) hle hcond
   have hv : (if L.a.rows.length - L.a.known ≥ R.window then (5 : Int) else 6) = (X.e i).refusal X.window := by
    rw [hrf] at h4 ⊢
    by_cases g1 : (X.window : Int) ≤ (L.a.rows.length : Int) - L.a.known
    ·rw [if_pos g1, if_pos (by omega)]
    ·rw [if_neg g1] at h4 ⊢
     rw [if_neg (by omega)]
     by_cases g2 : 60 ≤ L.a.rows.length
     ·rw [if_pos g2]
     ·rw [if_neg g2] at h4; exact absurd rfl h4
   rw [hv] at he
   have hp := rcut_edit own1 ry yb R i q _ L w1 hR hrt hL.hL hq (fun v w' => v = .int .i64 ((X.e i).refusal X.window) ∧ Below w1.heap.size w1 w') (he.mono (by rintro e w' ⟨rfl, hb⟩; exact ⟨_, rfl, rfl, hb⟩))
   refine sideY_below (hp.mono ?_) own1 ry yb R hI hR
   rintro e w' ⟨n, rfl, hn, hb⟩
   rw [hn]; exact ⟨rfl, hb⟩
  ·have h4' : (X.e i).refusal X.window = 0 := by simpa using h4
   have hcond : L.a.rows.length - L.a.known < R.window ∧ L.a.rows.length < 60 := by
    rw [hrf] at h4'
    by_cases g1 : (X.window : Int) ≤ (L.a.rows.length : Int) - L.a.known
    ·rw [if_pos g1] at h4'; simp at h4'
    ·rw [if_neg g1] at h4'
     by_cases g2 : 60 ≤ L.a.rows.length
     ·rw [if_pos g2] at h4'; simp at h4'
     ·exact ⟨by omega, by omega⟩
   have hsmall : ROp.Small ⟨i, 2, q, 0⟩ := ⟨⟨by simp, by simp; omega⟩, ⟨by simp, by simp⟩, ⟨by simp, by simp; omega⟩, ⟨by simp, by simp⟩⟩
   have edo : delB (X.tx i) q = (⟨i, 2, q, 0⟩ : ROp).does (X.tx i) := by simp [delB, ROp.does]
   have hlen := hL.a.1.len
   have hkn := hL.a.1.known
   have hmd := hL.line.a.made
   have hmk := hI.make hi hr hs hL ⟨i, 2, q, 0⟩ rfl ⟨⟨by simp, by simp; omega⟩, by simp⟩ (.inr (.inr ⟨rfl, by simp, by simpa using hq⟩)) (by unfold IEnd.made at hmd; omega) (by omega)
   refine ⟨_, _, ⟨0, rfl⟩, ?_, xcut_ok own rx xb X i q _ _ _ w hX hxt hE hS hq hEok hw4 h4' htl hi4, fun own1 w1 hR => ?_⟩
   ·simp
   rw [edo]
   have he := edit_ok own1 ry yb R i ⟨i, 2, q, 0⟩ 0 _ ((⟨i, 2, q, 0⟩ : ROp).does (X.tx i)) L w1 hR hrt hL.hL (by omega) hle hcond.1 hcond.2 (by omega) (hL.oka.more _ (by omega) hsmall.1 hsmall.2.1 hsmall.2.2.1 hsmall.2.2.2) (by have h7 := hL.a.2; have h8 := hL.line.a.sentTo_eq (window := X.window); have h9 := hL.line.a.kn; omega) (fun w2 => by rw [← edo]; exact do_cut _ i q 0 w2 (by omega) hq)
   have hp := rcut_edit own1 ry yb R i q _ L w1 hR hrt hL.hL hq (fun v w' => v = .int .i64 0 ∧ ∃ own', RoomY own' ry w' yb (R.put i ((⟨i, 2, q, 0⟩ : ROp).does (X.tx i)) { L with a := L.a.make ⟨i, 2, q, 0⟩ R.window }) ∧ Upd own1 own' (inRoom ry) w1 w') (he.mono (by rintro e w' ⟨rfl, hb⟩; exact ⟨_, rfl, rfl, hb⟩))
   refine hp.mono ?_
   rintro e w' ⟨n, rfl, hn, own2, hb1, hb2⟩
   rw [hn]; exact ⟨rfl, own2, _, hmk, hb1, hb2⟩
 ·exact ⟨_, X, ⟨2, rfl⟩, rfl, sideX_same (xcut_client own rx xb X c p w hX hc (by rw [el]; exact h1)) own rx xb X hX, fun own1 w1 hR => sideY_same (rcut_client own1 ry yb R c p w1 hR h1) own1 ry yb R hI hR⟩

theorem two_read (K : Nat) (own : Nat → Tag) (w : World) (rx ry xb yb : Nat) (X : IRoom) (R : RRoom) (hX : RoomX own rx w xb X) (hI : InvA K X R) (c : Int) (hc : I64 c) :
  TwoA K own w rx ry xb yb X R 15 63 [.int .i64 c] IsStr := by
 have el : (X.texts.length : Int) = R.texts.length := by rw [hI.texts]
 by_cases h0 : c = -1
 ·subst h0
  have hsv : X.server = R.server := by obtain ⟨_, us, ds, T, _, hs⟩ := hI; exact hs.server.symm
  exact ⟨_, X, ⟨⟨X.server.toArray⟩, 0, rfl⟩, rfl, sideX_same (xread_server own rx xb X w hX) own rx xb X hX, fun own1 w1 hR => sideY_same (by rw [hsv]; exact rread_server own1 ry yb R w1 hR) own1 ry yb R hI hR⟩
 by_cases h1 : 0 ≤ c ∧ c < R.texts.length
 ·obtain ⟨i, us, ds, T, L, rfl, hi4, hi, hr, hs, hL, hxt, hE, hS⟩ := hI.client h1
  exact ⟨_, X, ⟨⟨(X.tx i).toArray⟩, 0, rfl⟩, rfl, sideX_same (xread_yes own rx xb X i _ _ _ w hX hxt hE hS) own rx xb X hX, fun own1 w1 hR => sideY_same (rread_yes own1 ry yb R i _ L w1 hR hL.ht hL.hL) own1 ry yb R hI hR⟩
 ·exact ⟨_, X, ⟨⟨#[]⟩, 2, rfl⟩, rfl, sideX_same (xread_no own rx xb X c w hX hc (by rw [el]; exact h1) h0) own rx xb X hX, fun own1 w1 hR => sideY_same (rread_no own1 ry yb R c w1 hR h1 h0) own1 ry yb R hI hR⟩

theorem two_waits (K : Nat) (own : Nat → Tag) (w : World) (rx ry xb yb : Nat) (X : IRoom) (R : RRoom) (hX : RoomX own rx w xb X) (hI : InvA K X R) (c : Int) (hc : I64 c) :
  TwoA K own w rx ry xb yb X R 19 64 [.int .i64 c] IsInts := by
 have el : (X.texts.length : Int) = R.texts.length := by rw [hI.texts]
 by_cases h1 : 0 ≤ c ∧ c < R.texts.length
 ·obtain ⟨i, us, ds, T, L, rfl, hi4, hi, hr, hs, hL, hxt, hE, hS⟩ := hI.client h1
  refine ⟨_, X, ⟨_, 0, rfl⟩, rfl, sideX_same (xwaits_yes own rx xb X i _ _ _ w hX hxt hE hS) own rx xb X hX, fun own1 w1 hR => ?_⟩
  rw [show ((X.e i).waiting.length : Int) = (L.a.rows.length : Int) - L.a.known from by
   have h2 := hL.a.1.len; have h3 := hL.a.1.known; have h4 := hL.line.a.made; have h5 := hL.line.a.kn; unfold IEnd.made at h4; omega]
  exact sideY_below (rwaits_yes own1 ry yb R i _ L w1 hR hL.ht hL.hL hL.oka) own1 ry yb R hI hR
 ·exact ⟨_, X, ⟨0, 2, rfl⟩, rfl, sideX_same (xwaits_no own rx xb X c w hX hc (by rw [el]; exact h1)) own rx xb X hX, fun own1 w1 hR => sideY_same (rwaits_no own1 ry yb R c w1 hR h1) own1 ry yb R hI hR⟩

theorem two_flying (K : Nat) (own : Nat → Tag) (w : World) (rx ry xb yb : Nat) (X : IRoom) (R : RRoom) (hX : RoomX own rx w xb X) (hI : InvA K X R) (c : Int) (d : Bool) (hc : I64 c) :
  TwoA K own w rx ry xb yb X R 26 47 [.int .i64 c, .bool d] IsInts := by
 have el : (X.texts.length : Int) = R.texts.length := by rw [hI.texts]
 by_cases h1 : 0 ≤ c ∧ c < R.texts.length
 ·obtain ⟨i, us, ds, T, L, rfl, hi4, hi, hr, hs, hL, hxt, hE, hS⟩ := hI.client h1
  cases d
  ·refine ⟨_, X, ⟨_, 0, rfl⟩, rfl, sideX_same (xflying_0 own rx xb X i _ _ _ w hX hxt hE hS) own rx xb X hX, fun own1 w1 hR => ?_⟩
   rw [← hL.a.1.out]
   exact sideY_below (rflying_0 own1 ry yb R i _ L w1 hR hL.ht hL.hL) own1 ry yb R hI hR
  ·refine ⟨_, X, ⟨_, 0, rfl⟩, rfl, sideX_same (xflying_1 own rx xb X i _ _ _ w hX hxt hE hS) own rx xb X hX, fun own1 w1 hR => ?_⟩
   rw [← hL.b.1.out]
   exact sideY_below (rflying_1 own1 ry yb R i _ L w1 hR hL.ht hL.hL) own1 ry yb R hI hR
 ·exact ⟨_, X, ⟨0, 2, rfl⟩, rfl, sideX_same (xflying_no own rx xb X c d w hX hc (by rw [el]; exact h1)) own rx xb X hX, fun own1 w1 hR => sideY_same (rflying_no own1 ry yb R c d w1 hR h1) own1 ry yb R hI hR⟩

theorem two_peek (K : Nat) (own : Nat → Tag) (w : World) (rx ry xb yb : Nat) (X : IRoom) (R : RRoom) (hX : RoomX own rx w xb X) (hI : InvA K X R) (c : Int) (d : Bool) (n : Int) (hc : I64 c) :
  TwoA K own w rx ry xb yb X R 48 58 [.int .i64 c, .bool d, .int .i64 n] IsStr := by
 have el : (X.texts.length : Int) = R.texts.length := by rw [hI.texts]
 by_cases h1 : 0 ≤ c ∧ c < R.texts.length
 ·obtain ⟨i, us, ds, T, L, rfl, hi4, hi, hr, hs, hL, hxt, hE, hS⟩ := hI.client h1
  cases d
  ·have ho := hL.a.1.out
   by_cases h2 : n < 0 ∨ n ≥ L.a.out.length
   ·exact ⟨_, X, ⟨⟨#[]⟩, 7, rfl⟩, rfl, sideX_same (xpeek_0 own rx xb X i n _ _ _ w hX hxt hE hS (by rw [← ho]; exact h2)) own rx xb X hX, fun own1 w1 hR => sideY_below (rpeek_0 own1 ry yb R i n _ L w1 hR hL.ht hL.hL h2) own1 ry yb R hI hR⟩
   ·obtain ⟨q, rfl⟩ := Int.eq_ofNat_of_zero_le (show 0 ≤ n by omega)
    have hq : L.a.out[q]? = some (L.a.out[q]'(by omega)) := by simp
    exact ⟨_, X, ⟨_, 0, rfl⟩, rfl, sideX_same (xpeek_0_yes own rx xb X i q _ _ _ _ w hX hxt hE hS (by rw [← ho]; exact hq)) own rx xb X hX, fun own1 w1 hR => sideY_below (rpeek_0_yes own1 ry yb R i q _ _ L w1 hR hL.ht hL.hL hq) own1 ry yb R hI hR⟩
  ·have ho := hL.b.1.out
   by_cases h2 : n < 0 ∨ n ≥ L.b.out.length
   ·exact ⟨_, X, ⟨⟨#[]⟩, 7, rfl⟩, rfl, sideX_same (xpeek_1 own rx xb X i n _ _ _ w hX hxt hE hS (by rw [← ho]; exact h2)) own rx xb X hX, fun own1 w1 hR => sideY_below (rpeek_1 own1 ry yb R i n _ L w1 hR hL.ht hL.hL h2) own1 ry yb R hI hR⟩
   ·obtain ⟨q, rfl⟩ := Int.eq_ofNat_of_zero_le (show 0 ≤ n by omega)
    have hq : L.b.out[q]? = some (L.b.out[q]'(by omega)) := by simp
    exact ⟨_, X, ⟨_, 0, rfl⟩, rfl, sideX_same (xpeek_1_yes own rx xb X i q _ _ _ _ w hX hxt hE hS (by rw [← ho]; exact hq)) own rx xb X hX, fun own1 w1 hR => sideY_below (rpeek_1_yes own1 ry yb R i q _ _ L w1 hR hL.ht hL.hL hq) own1 ry yb R hI hR⟩
 ·exact ⟨_, X, ⟨⟨#[]⟩, 2, rfl⟩, rfl, sideX_same (xpeek_no own rx xb X c d n w hX hc (by rw [el]; exact h1)) own rx xb X hX, fun own1 w1 hR => sideY_same (rpeek_no own1 ry yb R c d n w1 hR h1) own1 ry yb R hI hR⟩

theorem two_tick (K : Nat) (own : Nat → Tag) (w : World) (rx ry xb yb : Nat) (X : IRoom) (R : RRoom) (hX : RoomX own rx w xb X) (hI : InvA K X R) (c : Int) (d : Bool) (hc : I64 c) :
  TwoA K own w rx ry xb yb X R 34 60 [.int .i64 c, .bool d] IsInt := by
 have el : (X.texts.length : Int) = R.texts.length := by rw [hI.texts]
 by_cases h1 : 0 ≤ c ∧ c < R.texts.length
 ·obtain ⟨i, us, ds, T, L, rfl, hi4, hi, hr, hs, hL, hxt, hE, hS⟩ := hI.client h1
  have f := hI.fit
  have ht := hL.taken255
  cases d
  ·refine ⟨_, _, ⟨0, rfl⟩, ?_, (kTick_0 hX f hi).mono (fun e w' h => h), fun own1 w1 hR => ?_⟩
   ·simp [IRoom.tickA, IRoom.setA]
   obtain ⟨A, hB⟩ := hR.addr
   refine (rTick_0 A own1 ry yb R i L w1 hB hL.hL hL.oka (by rw [hs.win]; exact hr.w4) (by rw [hL.a.1.known, hL.a.1.len]; exact hL.line.a.kn)).mono ?_
   rintro e w' ⟨rfl, own', q1, q2⟩
   refine ⟨rfl, own', _, ⟨(f.tickA hi).sane, us, ds, T, hr.tickA hxt hE hS, ?_⟩, q1.room, q2⟩
   have := hs.setE (t' := X.tx i) hr.le hi (Nat.le_refl _) (hL.a.tick hL.line.a (fun n a b => hL.bu n _ a b (by omega)) hr.w1 (by omega)) hL.b
   rw [put_setLine hL.ht] at this
   rw [hs.win]
   exact this
  ·refine ⟨_, _, ⟨0, rfl⟩, ?_, (kTick_1 hX f hi).mono (fun e w' h => h), fun own1 w1 hR => ?_⟩
   ·simp [IRoom.tickB, IRoom.setB]
   obtain ⟨A, hB⟩ := hR.addr
   refine (rTick_1 A own1 ry yb R i L w1 hB hL.hL hL.okb (by rw [hs.win]; exact hr.w4) (by rw [hL.b.1.known, hL.b.1.len]; exact hL.line.b.kn)).mono ?_
   rintro e w' ⟨rfl, own', q1, q2⟩
   refine ⟨rfl, own', _, ⟨(f.tickB hi).sane, us, ds, T, hr.tickB hxt hE hS, ?_⟩, q1.room, q2⟩
   have := hs.setB hr.ls hi (Nat.le_refl _) hL.a (hL.b.tick hL.line.b (fun n a b => hL.bd n _ a b (by omega)) hr.w1 (by omega))
   rw [hs.win]
   exact this
 ·exact ⟨_, X, ⟨2, rfl⟩, rfl, sideX_same (xTick_no own rx xb X c d w hX hc (by rw [el]; exact h1)) own rx xb X hX, fun own1 w1 hR => sideY_same (rTick_no own1 ry yb R c d w1 hR h1) own1 ry yb R hI hR⟩

theorem invA_fresh (n d : Nat) (h1 : 1 ≤ n) (hn : n ≤ 4) (h3 : 1 ≤ d) (h4 : d ≤ 4) : InvA 0 (IRoom.fresh n d) (RRoom.fresh n d) := by
 have hr := RInv.fresh h1 hn h3 h4
 have hsn : (IRoom.fresh n d).Sane := by
  intro i hi
  have hi' : i < n := by simpa [IRoom.fresh] using hi
  have e1 : (IRoom.fresh n d).e i = IEnd.empty := by unfold IRoom.e IRoom.fresh; simp [List.getD_eq_getElem?_getD, hi']
  have e2 : (IRoom.fresh n d).s i = IEnd.empty := by unfold IRoom.s IRoom.fresh; simp [List.getD_eq_getElem?_getD, hi']
  rw [e1, e2]
  exact ⟨fun q hq => by simp [nums, IEnd.empty] at hq, fun m hm => by simp [IEnd.empty] at hm, Nat.zero_le _, rfl, rfl⟩
 refine ⟨hsn, _, _, _, hr, rfl, rfl, rfl, by simp [RRoom.fresh, IRoom.fresh], fun i hi => ?_⟩
 have hi' : i < n := by simpa [IRoom.fresh] using hi
 have e1 : (IRoom.fresh n d).e i = IEnd.empty := by unfold IRoom.e IRoom.fresh; simp [List.getD_eq_getElem?_getD, hi']
 have e2 : (IRoom.fresh n d).s i = IEnd.empty := by unfold IRoom.s IRoom.fresh; simp [List.getD_eq_getElem?_getD, hi']
 have key : EndR (IRoom.fresh n d).window 0 [] [] IEnd.empty REnd.empty := by
  refine ⟨⟨rfl, fun i m hm => by simp [REnd.empty] at hm, rfl, rfl, fun n hn => by simp [REnd.empty, IEnd.empty], by simp [REnd.empty], rfl, rfl⟩, ?_⟩
  simp [REnd.empty, IEnd.sentTo, IEnd.empty]
 refine ⟨RLine.empty, by simp [RRoom.fresh, hi'], ?_, ?_⟩
 ·rw [e1]; exact key
 ·rw [e2]; exact key
end Go.Proofs.Ytemkgikncmhoaaa

