import Derived.Test.YtemkgikncmhoaaaM09
namespace Go.Proofs.Ytemkgikncmhoaaa
open Go.RowKit
attribute [local go_sem ↓] Go.wp_at_zero Go.wp_at_succ

set_option maxRecDepth 100000 in
set_option maxHeartbeats 400000 in
theorem rread_server (own : Nat → Tag) (rid b : Nat) (R : RRoom) (w : World) (h : RoomY own rid w b R) :
  Calls Try.prog 63 #[.pointer (some ⟨b, 0, none⟩), .int .i64 (-1)] w fun e w' => e = .returned (.tuple #[bstr R.server, .int .i64 0]) ∧ w' = w := by
 obtain ⟨tx, lx, bs, hc, _⟩ := h
 have c1 : w.cell? ⟨b, 1, none⟩ = some (.string ⟨R.server.toArray⟩) := by rw [hc.cell]; rfl
 clear hc
 go_enter Try.func63, Try.ntmps63
 go_wp2
 go_ret2
 exact ⟨rfl, rfl⟩
set_option maxRecDepth 100000 in
set_option maxHeartbeats 400000 in
theorem rread_no (own : Nat → Tag) (rid b : Nat) (R : RRoom) (c : Int) (w : World) (h : RoomY own rid w b R) (hc : ¬ R.client c) (hc1 : c ≠ -1) :
  Calls Try.prog 63 #[.pointer (some ⟨b, 0, none⟩), .int .i64 c] w fun e w' => e = .returned (.tuple #[.string ⟨#[]⟩, .int .i64 2]) ∧ w' = w := by
 have HT := hide (there_no own rid b R c w h hc)
 have hq : (c == -1) = false := by simpa using hc1
 clear h hc hc1
 go_enter Try.func63, Try.ntmps63
 go_wp2_with (first | (go_at_call 65; refine (unhide HT).mono ?_; rintro e w' ⟨rfl, rfl⟩))
 go_ret2
 exact ⟨rfl, rfl⟩
set_option maxRecDepth 100000 in
set_option maxHeartbeats 400000 in
theorem rread_yes (own : Nat → Tag) (rid b : Nat) (R : RRoom) (i : Nat) (t : List UInt8) (L : RLine) (w : World) (h : RoomY own rid w b R) (ht : R.texts[i]? = some t) (hL : R.lines[i]? = some L) :
  Calls Try.prog 63 #[.pointer (some ⟨b, 0, none⟩), .int .i64 i] w fun e w' => e = .returned (.tuple #[bstr t, .int .i64 0]) ∧ w' = w := by
 obtain ⟨tg, tc, lg, lc, lb, c0, c2, c3, c4, c5, f4, hLA, t1, t2, t3, l1, l2, l3, hi⟩ := h.get ht hL
 have hi1 : (i : Int) < (R.texts.length : Int) := by omega
 have hi2 : (0 : Int) ≤ (i : Int) := by omega
 have hq : ((i : Int) == -1) = false := by rw [beq_eq_false_iff_ne]; omega
 have HT := hide (there_yes own rid b R i w h hi)
 clear h
 go_enter Try.func63, Try.ntmps63
 go_wp2_with (first | (go_at_call 65; refine (unhide HT).mono ?_; rintro e w' ⟨rfl, rfl⟩))
 go_ret2
 exact ⟨rfl, rfl⟩

set_option maxRecDepth 100000 in
set_option maxHeartbeats 400000 in
theorem rwaits_no (own : Nat → Tag) (rid b : Nat) (R : RRoom) (c : Int) (w : World) (h : RoomY own rid w b R) (hc : ¬ R.client c) :
  Calls Try.prog 64 #[.pointer (some ⟨b, 0, none⟩), .int .i64 c] w fun e w' => e = .returned (.tuple #[.int .i64 0, .int .i64 2]) ∧ w' = w := by
 have HT := hide (there_no own rid b R c w h hc)
 clear h hc
 go_enter Try.func64, Try.ntmps64
 go_wp2_with (first | (go_at_call 65; refine (unhide HT).mono ?_; rintro e w' ⟨rfl, rfl⟩))
 go_ret2
 exact ⟨rfl, rfl⟩
set_option maxRecDepth 100000 in
set_option maxHeartbeats 800000 in
theorem rwaits_yes (own : Nat → Tag) (rid b : Nat) (R : RRoom) (i : Nat) (t : List UInt8) (L : RLine) (w : World) (h : RoomY own rid w b R) (ht : R.texts[i]? = some t) (hL : R.lines[i]? = some L) (hok : L.a.Ok) :
  Calls Try.prog 64 #[.pointer (some ⟨b, 0, none⟩), .int .i64 i] w fun e w' => e = .returned (.tuple #[.int .i64 ((L.a.rows.length : Int) - L.a.known), .int .i64 0]) ∧ Below w.heap.size w w' := by
 obtain ⟨tg, tc, lg, lc, lb, c0, c2, c3, c4, c5, f4, hLA, t1, t2, t3, l1, l2, l3, hi⟩ := h.get ht hL
 have hi1 : (i : Int) < (R.texts.length : Int) := by omega
 have hi2 : (0 : Int) ≤ (i : Int) := by omega
 have HT := hide (there_yes own rid b R i w h hi)
 obtain ⟨r0, r1, k0, k1, o0, o1, s0, s1, hc, ⟨⟨fs, hfl, hro, hfs⟩, _⟩, _⟩ := hLA
 obtain ⟨ra, rc, rfl, _, _⟩ := hro.shape
 have d0 : w.cell? ⟨lb, 0, none⟩ = some (.slice ra L.a.rows.length rc) := by rw [hc.cell]; rfl
 have d4 : w.cell? ⟨lb, 4, none⟩ = some (.int .i64 L.a.known) := by rw [hc.cell]; rfl
 have hrl := hok.rows
 have hkl := hok.known
 have hwr : IntKind.i64.wrap ((L.a.rows.length : Int) - L.a.known) = (L.a.rows.length : Int) - L.a.known := by rw [IntKind.wrap_i64]; omega
 clear h hc hro hfs hok
 generalize L.a.rows.length = rl at *
 generalize L.a.known = kn at *
 generalize R.texts.length = n at *
 go_enter Try.func64, Try.ntmps64
 go_wp2_with (first | (go_at_call 65; refine (unhide HT).mono ?_; rintro e w' ⟨rfl, rfl⟩))
 go_region
 all_goals go_wp2
 all_goals go_ret2
 all_goals exact ⟨by simp, (Below.refl _ _).drew⟩

set_option maxRecDepth 100000 in
set_option maxHeartbeats 400000 in
theorem rflying_no (own : Nat → Tag) (rid b : Nat) (R : RRoom) (c : Int) (d : Bool) (w : World) (h : RoomY own rid w b R) (hc : ¬ R.client c) :
  Calls Try.prog 47 #[.pointer (some ⟨b, 0, none⟩), .int .i64 c, .bool d] w fun e w' => e = .returned (.tuple #[.int .i64 0, .int .i64 2]) ∧ w' = w := by
 have HT := hide (there_no own rid b R c w h hc)
 clear h hc
 go_enter Try.func47, Try.ntmps47
 go_wp2_with (first | (go_at_call 65; refine (unhide HT).mono ?_; rintro e w' ⟨rfl, rfl⟩))
 go_ret2
 exact ⟨rfl, rfl⟩
set_option maxRecDepth 100000 in
set_option maxHeartbeats 400000 in
theorem rpeek_no (own : Nat → Tag) (rid b : Nat) (R : RRoom) (c : Int) (d : Bool) (n : Int) (w : World) (h : RoomY own rid w b R) (hc : ¬ R.client c) :
  Calls Try.prog 58 #[.pointer (some ⟨b, 0, none⟩), .int .i64 c, .bool d, .int .i64 n] w fun e w' => e = .returned (.tuple #[.string ⟨#[]⟩, .int .i64 2]) ∧ w' = w := by
 have HT := hide (there_no own rid b R c w h hc)
 clear h hc
 go_enter Try.func58, Try.ntmps58
 go_wp2_with (first | (go_at_call 65; refine (unhide HT).mono ?_; rintro e w' ⟨rfl, rfl⟩))
 go_ret2
 exact ⟨rfl, rfl⟩

set_option maxRecDepth 100000 in
set_option maxHeartbeats 800000 in
theorem rflying_0 (own : Nat → Tag) (rid b : Nat) (R : RRoom) (i : Nat) (t : List UInt8) (L : RLine) (w : World) (h : RoomY own rid w b R) (ht : R.texts[i]? = some t) (hL : R.lines[i]? = some L) :
  Calls Try.prog 47 #[.pointer (some ⟨b, 0, none⟩), .int .i64 i, .bool false] w fun e w' => e = .returned (.tuple #[.int .i64 L.a.out.length, .int .i64 0]) ∧ Below w.heap.size w w' := by
 obtain ⟨tg, tc, lg, lc, lb, c0, c2, c3, c4, c5, f4, hLA, t1, t2, t3, l1, l2, l3, hi⟩ := h.get ht hL
 have hi1 : (i : Int) < (R.texts.length : Int) := by omega
 have hi2 : (0 : Int) ≤ (i : Int) := by omega
 have HT := hide (there_yes own rid b R i w h hi)
 have HE := hide (fun w => end_any false w)
 obtain ⟨r0, r1, k0, k1, o0, o1, s0, s1, hc, ⟨_, _, x0, _⟩, ⟨_, _, x1, _⟩⟩ := hLA
 obtain ⟨oa, oc, rfl, _, _⟩ := x0.shape
 have d0 : w.cell? ⟨lb, 10, none⟩ = some (.slice oa L.a.out.length oc) := by rw [hc.cell]; rfl
 clear h hc x0 x1
 generalize L.a.out.length = rl at *
 generalize R.texts.length = n at *
 go_enter Try.func47, Try.ntmps47
 go_wp2_with (first | (go_at_call 65; refine (unhide HT).mono ?_; rintro e w' ⟨rfl, rfl⟩))
 go_region_with (first | (go_at_call 66; refine (unhide HE _).mono ?_; rintro e w' ⟨rfl, rfl⟩))
 all_goals go_wp2
 all_goals go_ret2
 all_goals exact ⟨rfl, (Below.refl _ _).drew⟩

set_option maxRecDepth 100000 in
set_option maxHeartbeats 800000 in
theorem rpeek_0 (own : Nat → Tag) (rid b : Nat) (R : RRoom) (i : Nat) (q : Int) (t : List UInt8) (L : RLine) (w : World) (h : RoomY own rid w b R) (ht : R.texts[i]? = some t) (hL : R.lines[i]? = some L) (hq : q < 0 ∨ q ≥ L.a.out.length) :
  Calls Try.prog 58 #[.pointer (some ⟨b, 0, none⟩), .int .i64 i, .bool false, .int .i64 q] w fun e w' => e = .returned (.tuple #[.string ⟨#[]⟩, .int .i64 7]) ∧ Below w.heap.size w w' := by
 obtain ⟨tg, tc, lg, lc, lb, c0, c2, c3, c4, c5, f4, hLA, t1, t2, t3, l1, l2, l3, hi⟩ := h.get ht hL
 have hi1 : (i : Int) < (R.texts.length : Int) := by omega
 have hi2 : (0 : Int) ≤ (i : Int) := by omega
 have HT := hide (there_yes own rid b R i w h hi)
 have HE := hide (fun w => end_any false w)
 obtain ⟨r0, r1, k0, k1, o0, o1, s0, s1, hc, ⟨_, _, x0, _⟩, ⟨_, _, x1, _⟩⟩ := hLA
 obtain ⟨oa, oc, rfl, _, _⟩ := x0.shape
 have d0 : w.cell? ⟨lb, 10, none⟩ = some (.slice oa L.a.out.length oc) := by rw [hc.cell]; rfl
 clear h hc x0 x1
 generalize L.a.out.length = rl at *
 generalize R.texts.length = n at *
 by_cases hq0 : q < 0
 all_goals
  try have hq1 : (rl : Int) ≤ q := by omega
  clear hq
  go_enter Try.func58, Try.ntmps58
  go_wp2_with (first | (go_at_call 65; refine (unhide HT).mono ?_; rintro e w' ⟨rfl, rfl⟩))
  go_region_with (first | (go_at_call 66; refine (unhide HE _).mono ?_; rintro e w' ⟨rfl, rfl⟩))
  all_goals go_wp2
  all_goals go_ret2
  all_goals exact ⟨rfl, (Below.refl _ _).drew⟩

set_option maxRecDepth 100000 in
set_option maxHeartbeats 800000 in
theorem rpeek_0_yes (own : Nat → Tag) (rid b : Nat) (R : RRoom) (i q : Nat) (s : ByteArray) (t : List UInt8) (L : RLine) (w : World) (h : RoomY own rid w b R) (ht : R.texts[i]? = some t) (hL : R.lines[i]? = some L) (hq : L.a.out[q]? = some s) :
  Calls Try.prog 58 #[.pointer (some ⟨b, 0, none⟩), .int .i64 i, .bool false, .int .i64 q] w fun e w' => e = .returned (.tuple #[.string s, .int .i64 0]) ∧ Below w.heap.size w w' := by
 obtain ⟨tg, tc, lg, lc, lb, c0, c2, c3, c4, c5, f4, hLA, t1, t2, t3, l1, l2, l3, hi⟩ := h.get ht hL
 have hi1 : (i : Int) < (R.texts.length : Int) := by omega
 have hi2 : (0 : Int) ≤ (i : Int) := by omega
 have HT := hide (there_yes own rid b R i w h hi)
 have HE := hide (fun w => end_any false w)
 obtain ⟨r0, r1, k0, k1, o0, o1, s0, s1, hc, ⟨_, _, x0, _⟩, ⟨_, _, x1, _⟩⟩ := hLA
 obtain ⟨og, oc, rfl, _, _, d1, _⟩ := x0.get (i := q) (u := .string s) (by simp [hq])
 have d0 : w.cell? ⟨lb, 10, none⟩ = some (.slice (some ⟨og, 0, none⟩) L.a.out.length oc) := by rw [hc.cell]; rfl
 have hq2 : (0 : Int) ≤ (q : Int) := by omega
 have hq3 : (q : Int) < (L.a.out.length : Int) := by have := (List.getElem?_eq_some_iff.1 hq).1; omega
 have hq4 : ¬ (L.a.out.length : Int) ≤ (q : Int) := by omega
 clear h hc x0 x1 hq
 generalize L.a.out.length = rl at *
 generalize R.texts.length = n at *
 go_enter Try.func58, Try.ntmps58
 go_wp2_with (first | (go_at_call 65; refine (unhide HT).mono ?_; rintro e w' ⟨rfl, rfl⟩))
 go_region_with (first | (go_at_call 66; refine (unhide HE _).mono ?_; rintro e w' ⟨rfl, rfl⟩))
 all_goals go_wp2
 all_goals go_ret2
 all_goals exact ⟨rfl, (Below.refl _ _).drew⟩
set_option maxRecDepth 100000 in
set_option maxHeartbeats 800000 in
theorem rflying_1 (own : Nat → Tag) (rid b : Nat) (R : RRoom) (i : Nat) (t : List UInt8) (L : RLine) (w : World) (h : RoomY own rid w b R) (ht : R.texts[i]? = some t) (hL : R.lines[i]? = some L) :
  Calls Try.prog 47 #[.pointer (some ⟨b, 0, none⟩), .int .i64 i, .bool true] w fun e w' => e = .returned (.tuple #[.int .i64 L.b.out.length, .int .i64 0]) ∧ Below w.heap.size w w' := by
 obtain ⟨tg, tc, lg, lc, lb, c0, c2, c3, c4, c5, f4, hLA, t1, t2, t3, l1, l2, l3, hi⟩ := h.get ht hL
 have hi1 : (i : Int) < (R.texts.length : Int) := by omega
 have hi2 : (0 : Int) ≤ (i : Int) := by omega
 have HT := hide (there_yes own rid b R i w h hi)
 have HE := hide (fun w => end_any true w)
 obtain ⟨r0, r1, k0, k1, o0, o1, s0, s1, hc, ⟨_, _, x0, _⟩, ⟨_, _, x1, _⟩⟩ := hLA
 obtain ⟨oa, oc, rfl, _, _⟩ := x1.shape
 have d0 : w.cell? ⟨lb, 11, none⟩ = some (.slice oa L.b.out.length oc) := by rw [hc.cell]; rfl
 clear h hc x0 x1
 generalize L.b.out.length = rl at *
 generalize R.texts.length = n at *
 go_enter Try.func47, Try.ntmps47
 go_wp2_with (first | (go_at_call 65; refine (unhide HT).mono ?_; rintro e w' ⟨rfl, rfl⟩))
 go_region_with (first | (go_at_call 66; refine (unhide HE _).mono ?_; rintro e w' ⟨rfl, rfl⟩))
 all_goals go_wp2
 all_goals go_ret2
 all_goals exact ⟨rfl, (Below.refl _ _).drew⟩

set_option maxRecDepth 100000 in
set_option maxHeartbeats 800000 in
theorem rpeek_1 (own : Nat → Tag) (rid b : Nat) (R : RRoom) (i : Nat) (q : Int) (t : List UInt8) (L : RLine) (w : World) (h : RoomY own rid w b R) (ht : R.texts[i]? = some t) (hL : R.lines[i]? = some L) (hq : q < 0 ∨ q ≥ L.b.out.length) :
  Calls Try.prog 58 #[.pointer (some ⟨b, 0, none⟩), .int .i64 i, .bool true, .int .i64 q] w fun e w' => e = .returned (.tuple #[.string ⟨#[]⟩, .int .i64 7]) ∧ Below w.heap.size w w' := by
 obtain ⟨tg, tc, lg, lc, lb, c0, c2, c3, c4, c5, f4, hLA, t1, t2, t3, l1, l2, l3, hi⟩ := h.get ht hL
 have hi1 : (i : Int) < (R.texts.length : Int) := by omega
 have hi2 : (0 : Int) ≤ (i : Int) := by omega
 have HT := hide (there_yes own rid b R i w h hi)
 have HE := hide (fun w => end_any true w)
 obtain ⟨r0, r1, k0, k1, o0, o1, s0, s1, hc, ⟨_, _, x0, _⟩, ⟨_, _, x1, _⟩⟩ := hLA
 obtain ⟨oa, oc, rfl, _, _⟩ := x1.shape
 have d0 : w.cell? ⟨lb, 11, none⟩ = some (.slice oa L.b.out.length oc) := by rw [hc.cell]; rfl
 clear h hc x0 x1
 generalize L.b.out.length = rl at *
 generalize R.texts.length = n at *
 by_cases hq0 : q < 0
 all_goals
  try have hq1 : (rl : Int) ≤ q := by omega
  clear hq
  go_enter Try.func58, Try.ntmps58
  go_wp2_with (first | (go_at_call 65; refine (unhide HT).mono ?_; rintro e w' ⟨rfl, rfl⟩))
  go_region_with (first | (go_at_call 66; refine (unhide HE _).mono ?_; rintro e w' ⟨rfl, rfl⟩))
  all_goals go_wp2
  all_goals go_ret2
  all_goals exact ⟨rfl, (Below.refl _ _).drew⟩

set_option maxRecDepth 100000 in
set_option maxHeartbeats 800000 in
theorem rpeek_1_yes (own : Nat → Tag) (rid b : Nat) (R : RRoom) (i q : Nat) (s : ByteArray) (t : List UInt8) (L : RLine) (w : World) (h : RoomY own rid w b R) (ht : R.texts[i]? = some t) (hL : R.lines[i]? = some L) (hq : L.b.out[q]? = some s) :
  Calls Try.prog 58 #[.pointer (some ⟨b, 0, none⟩), .int .i64 i, .bool true, .int .i64 q] w fun e w' => e = .returned (.tuple #[.string s, .int .i64 0]) ∧ Below w.heap.size w w' := by
 obtain ⟨tg, tc, lg, lc, lb, c0, c2, c3, c4, c5, f4, hLA, t1, t2, t3, l1, l2, l3, hi⟩ := h.get ht hL
 have hi1 : (i : Int) < (R.texts.length : Int) := by omega
 have hi2 : (0 : Int) ≤ (i : Int) := by omega
 have HT := hide (there_yes own rid b R i w h hi)
 have HE := hide (fun w => end_any true w)
 obtain ⟨r0, r1, k0, k1, o0, o1, s0, s1, hc, ⟨_, _, x0, _⟩, ⟨_, _, x1, _⟩⟩ := hLA
 obtain ⟨og, oc, rfl, _, _, d1, _⟩ := x1.get (i := q) (u := .string s) (by simp [hq])
 have d0 : w.cell? ⟨lb, 11, none⟩ = some (.slice (some ⟨og, 0, none⟩) L.b.out.length oc) := by rw [hc.cell]; rfl
 have hq2 : (0 : Int) ≤ (q : Int) := by omega
 have hq3 : (q : Int) < (L.b.out.length : Int) := by have := (List.getElem?_eq_some_iff.1 hq).1; omega
 have hq4 : ¬ (L.b.out.length : Int) ≤ (q : Int) := by omega
 clear h hc x0 x1 hq
 generalize L.b.out.length = rl at *
 generalize R.texts.length = n at *
 go_enter Try.func58, Try.ntmps58
 go_wp2_with (first | (go_at_call 65; refine (unhide HT).mono ?_; rintro e w' ⟨rfl, rfl⟩))
 go_region_with (first | (go_at_call 66; refine (unhide HE _).mono ?_; rintro e w' ⟨rfl, rfl⟩))
 all_goals go_wp2
 all_goals go_ret2
 all_goals exact ⟨rfl, (Below.refl _ _).drew⟩
end Go.Proofs.Ytemkgikncmhoaaa

namespace Go.Proofs.Ytemkgikncmhoaaa
open Go.RowKit

theorem Try.info113 : (Try.prog.info? 113).map (fun i => (i.zero, i.size, i.bytes)) = some (some (.pointer none), 1, 8) := by kernel_rfl

def REnd.empty : REnd := ⟨[], 0, 0, 0, [], [], []⟩
def RLine.empty : RLine := ⟨REnd.empty, REnd.empty⟩
def RRoom.fresh (n window : Nat) : RRoom := ⟨window, [], List.replicate n [], List.replicate n RLine.empty⟩

def lineZero : Array Value := #[.slice none 0 0, .slice none 0 0, .int .i64 0, .int .i64 0, .int .i64 0, .int .i64 0, .int .i64 0, .int .i64 0, .slice none 0 0, .slice none 0 0, .slice none 0 0, .slice none 0 0, .slice none 0 0, .slice none 0 0]
theorem LineAt.empty {own : Nat → Tag} {rid c b : Nat} {w : World} (h : CellsT own (rid, c, 0) w b lineZero 122) : LineAt own rid c w b RLine.empty := by
 have e : ∀ s, EndAt own rid c s w (.slice none 0 0) (.slice none 0 0) (.slice none 0 0) (.slice none 0 0) REnd.empty := fun s =>
  ⟨⟨[], rfl, OwnsT.nil _ _ _ _ _, fun i m f h => by simp [REnd.empty] at h⟩, OwnsT.nil _ _ _ _ _, OwnsT.nil _ _ _ _ _, OwnsT.nil _ _ _ _ _⟩
 exact ⟨_, _, _, _, _, _, _, _, h, e 0, e 1⟩

theorem heap_alloc_new2' (w : World) (o o' : Obj) {n : Nat} (h : n = w.heap.size + 1) : ((w.alloc o).alloc o').heap[n]? = some o' := by
 subst h
 have h := heap_alloc_new (w.alloc o) o'
 rw [World.size_alloc] at h
 exact h
theorem Upd.to_drew {own own' : Nat → Tag} {may : Tag → Prop} {w w' : World} (h : Upd own own' may w w') : Upd own own' may w.drew w' := ⟨h.os, h.tape, h.output, h.size, h.block, h.tags⟩

set_option maxRecDepth 100000 in
set_option maxHeartbeats 400000 in
theorem rnew_no (c d : Int) (w : World) (h : ¬ (1 ≤ c ∧ c ≤ 4 ∧ 1 ≤ d ∧ d ≤ 4)) :
  Calls Try.prog 43 #[.int .i64 c, .int .i64 d] w fun e w' => e = .returned (.tuple #[.pointer none, .int .i64 1]) ∧ w' = w := by
 by_cases h1 : c < 1
 ·go_enter Try.func43, Try.ntmps43
  go_wp2
  go_ret2
  exact ⟨rfl, rfl⟩
 by_cases h2 : 4 < c
 ·go_enter Try.func43, Try.ntmps43
  go_wp2
  go_ret2
  exact ⟨rfl, rfl⟩
 by_cases h3 : d < 1
 ·go_enter Try.func43, Try.ntmps43
  go_wp2
  go_ret2
  exact ⟨rfl, rfl⟩
 have h4 : 4 < d := by omega
 clear h
 go_enter Try.func43, Try.ntmps43
 go_wp2
 go_ret2
 exact ⟨rfl, rfl⟩

set_option maxRecDepth 100000 in
set_option maxHeartbeats 1600000 in
theorem rnew_yes (own : Nat → Tag) (rid n d : Nat) (w : World) (h1 : 1 ≤ n) (h2 : n ≤ 4) (h3 : 1 ≤ d) (h4 : d ≤ 4) :
  Calls Try.prog 43 #[.int .i64 n, .int .i64 d] w fun e w' => ∃ b own', e = .returned (.tuple #[.pointer (some ⟨b, 0, none⟩), .int .i64 0]) ∧ RoomY own' rid w' b (RRoom.fresh n d) ∧ Upd own own' (inRoom rid) w w' := by
 have g1 : ¬ (n : Int) < 1 := by omega
 have g2 : ¬ (4 : Int) < (n : Int) := by omega
 have g3 : ¬ (d : Int) < 1 := by omega
 have g4 : ¬ (4 : Int) < (d : Int) := by omega
 obtain ⟨i1, hi, hz0, hz1, hz2⟩ := info_parts Try.info9
 obtain ⟨i2, hj, hy0, hy1, hy2⟩ := info_parts Try.info113
 go_enter Try.func43, Try.ntmps43
 go_wp2
 go_loopw [7] (fun v7 wr => ∃ (k : Nat) (own1 : Nat → Tag), k ≤ n ∧ v7 = .int .i64 k ∧ RoomY own1 rid wr w.heap.size (RRoom.fresh k d) ∧ Upd own own1 (inRoom rid) w wr) (fun v7 _ => n - (intOf v7).toNat)
 case atStart =>
  refine ⟨0, retag own w.heap.size (rid, 100, 0), Nat.zero_le _, rfl, ⟨_, _, [], CellsT.new w _ _ own _, OwnsT.nil _ _ _ _ _, OwnsT.nil _ _ _ _ _, rfl, rfl, by simp [RRoom.fresh], fun i L bb h => by simp [RRoom.fresh] at h⟩, Upd.retag ((Upd.refl own _ w).alloc _) _ _ (Nat.le_refl _)⟩
 case round =>
  obtain ⟨k, own1, hk, rfl, hR, hU⟩ := hrel
  by_cases hlt : k < n
  ·obtain ⟨tx, lx, bs, hc, ht, hl, e1, e2, e3, e4⟩ := hR
   have er : (RRoom.fresh k d).texts.length = k := by simp [RRoom.fresh]
   rw [er] at ht hl e1
   obtain ⟨ta, tc, rfl, _, _⟩ := ht.shape
   obtain ⟨la, lc, rfl, _, _⟩ := hl.shape
   have hlt' : (k : Int) < (n : Int) := by omega
   have c2 : wr.cell? ⟨w.heap.size, 2, none⟩ = some (.slice ta k tc) := by rw [hc.cell]; rfl
   have hBl := hc.lt
   have hB := hc.2
   have nB : ¬ (w.heap.size = wr.heap.size) := by omega
   generalize hW : w.heap.size = B at *
   have HW := hide hW
   clear hW
   go_wp2_with (at_builtin; go_must (refine wpList_append_T _ rfl (.tmp 34) (.tmp 35) 28 rfl 9 i1 (.string ⟨#[]⟩) 1 16 Try.underlying28 hi hz0 hz1 hz2 rfl (by decide) _ k _ own1 (rid, 100, 1) rfl (ht.alloc _) ⟨wr.heap.size, 0, none⟩ 1 1 [.string ⟨#[]⟩] rfl rfl (World.news_of_block (cs := #[.string ⟨#[]⟩]) (t := 9) (fr := (0, 0)) (heap_alloc_new wr _)) (by simp [Value.oneCell']) (by simp [maxLen]; omega) (by omega) ?_))
   intro v1 w1 ho1 hu1
   obtain ⟨a1, cp1, rfl, _, _⟩ := ho1.shape
   obtain ⟨C1, O1, U1⟩ := app_store (k := 2) hc hu1.to_drew (by simp) ho1
   have k2 := hu1.cell (p := ⟨B, 2, none⟩) ((hc.alloc _).cell 2) (by simp [hB])
   have f2 := hu1.frozen (p := ⟨B, 2, none⟩) (by simp; omega) (by simp [hB]) ((hc.alloc _).frozen 2)
   have P1 := hl.upd U1 (by simp)
   have L1 := fun i L bb h h' => (e4 i L bb h h').upd U1 (by have := (List.getElem?_eq_some_iff.1 h').1; simp; omega)
   have k3 : w1.cell? ⟨B, 3, none⟩ = some (.slice la k lc) := hu1.cell (p := ⟨B, 3, none⟩) ((hc.alloc _).cell 3) (by simp [hB])
   have f3 := hu1.frozen (p := ⟨B, 3, none⟩) (by simp; omega) (by simp [hB]) ((hc.alloc _).frozen 3)
   have HL1 := hide L1
   have w1l := C1.lt
   generalize retag own1 (wr.heap.size + 1) (rid, 100, 1) = ownA at *
   clear hu1 ho1 L1
   have X : ∀ F G, Upd ownA (retag ownA w1.heap.size (rid, k, 0)) (fun _ => False) (w1.setCell ⟨B, 2, none⟩ (.slice a1 (k + 1) cp1)) (((w1.setCell ⟨B, 2, none⟩ (.slice a1 (k + 1) cp1)).alloc F).alloc G) :=
    fun F G => Upd.retag (((Upd.refl ownA (fun _ => False) _).alloc F).alloc G) w1.heap.size _ (by simp)
   have HX := hide X
   clear X
   go_wp2_with (at_builtin; go_must (refine wpList_append_T _ rfl (.tmp 43) (.tmp 46) 104 rfl 113 i2 (.pointer none) 1 8 Try.underlying104 hj hy0 hy1 hy2 rfl (by decide) _ k _ (retag ownA w1.heap.size (rid, k, 0)) (rid, 100, 2) rfl (P1.upd (unhide HX _ _) (fun h => h)) ⟨w1.heap.size + 1, 0, none⟩ 1 1 [.pointer (some ⟨w1.heap.size, 0, none⟩)] rfl rfl (World.news_of_block (cs := #[.pointer (some ⟨w1.heap.size, 0, none⟩)]) (t := 113) (fr := (0, 0)) (by exact heap_alloc_new2' _ _ _ (by simp))) (by simp [Value.oneCell']) (by simp [maxLen]; omega) (by omega) ?_))
   intro v2 w3 ho2 hu2
   obtain ⟨a2, cp2, rfl, _, _⟩ := ho2.shape
   have CB : CellsT (retag ownA w1.heap.size (rid, k, 0)) (rid, 100, 0) _ B _ _ := C1.upd (unhide HX (Obj.cells lineZero 122) (Obj.cells #[.pointer (some ⟨w1.heap.size, 0, none⟩)] 113)) (fun h => h)
   have k3' := hu2.cell (p := ⟨B, 3, none⟩) (CB.cell 3) (by rw [CB.2]; simp)
   have f3' := hu2.frozen (p := ⟨B, 3, none⟩) CB.lt (by rw [CB.2]; simp) (CB.frozen 3)
   have V : Upd ownA _ (fun t => t = (rid, 100, 2) ∨ t = (rid, 100, 0)) (w1.setCell ⟨B, 2, none⟩ (.slice a1 (k + 1) cp1)) (w3.setCell ⟨B, 3, none⟩ (.slice a2 (k + 1) cp2)) :=
    Upd.setCell (p := ⟨B, 3, none⟩) (((unhide HX _ _).mono (fun _ h => h.elim)).trans (hu2.mono (fun _ h => .inl h))) (.inr (CB.upd hu2 (by simp)).2) _
   have FIN : Hid (∃ own2, RoomY own2 rid (w3.setCell ⟨B, 3, none⟩ (.slice a2 (k + 1) cp2)) B (RRoom.fresh (k + 1) d) ∧ Upd own own2 (inRoom rid) w (w3.setCell ⟨B, 3, none⟩ (.slice a2 (k + 1) cp2))) := by
    apply hide
    refine ⟨_, ⟨.slice a1 (k + 1) cp1, .slice a2 (k + 1) cp2, bs ++ [w1.heap.size], (CB.upd hu2 (by simp)).set 3 _, ?_, ?_, by simp [RRoom.fresh, e1], by simp [RRoom.fresh], by simp [RRoom.fresh]; omega, ?_⟩, (hU.trans (U1.mono (by rintro t (rfl | rfl) <;> rfl))).trans (V.mono (by rintro t (rfl | rfl) <;> rfl))⟩
    ·have := O1.upd V (by simp)
     simpa [RRoom.fresh, List.replicate_succ', bstr] using this
    ·have := ho2.other (p := ⟨B, 3, none⟩) (by rw [(CB.upd hu2 (by simp)).2]; simp) (.slice a2 (k + 1) cp2)
     simpa [RRoom.fresh, ptr] using this
    ·intro i L bb hL hbb
     simp only [RRoom.fresh, List.getElem?_replicate] at hL
     split at hL
     ·obtain rfl : RLine.empty = L := by simpa using hL
      by_cases hik : i < k
      ·rw [List.getElem?_append_left (by omega)] at hbb
       exact ((unhide HL1) i RLine.empty bb (by simp [RRoom.fresh, hik]) hbb).upd V (by simp; omega)
      ·obtain rfl : i = k := by omega
       rw [← e1] at hbb
       simp at hbb
       subst hbb
       apply LineAt.empty
       have n1 : CellsT (retag ownA w1.heap.size (rid, i, 0)) (rid, i, 0) (((w1.setCell ⟨B, 2, none⟩ (.slice a1 (i + 1) cp1)).alloc (Obj.cells lineZero 122)).alloc (Obj.cells #[.pointer (some ⟨w1.heap.size, 0, none⟩)] 113)) w1.heap.size lineZero 122 := by
        refine CellsT.alloc ⟨?_, retag_ge (Nat.le_refl _)⟩ _
        have := heap_alloc_new (w1.setCell ⟨B, 2, none⟩ (.slice a1 (i + 1) cp1)) (Obj.cells lineZero 122)
        simpa using this
       exact (n1.upd hu2 (by simp <;> omega)).other (p := ⟨B, 3, none⟩) (by show B ≠ _; have := hBl; have := U1.size; have := hu2.size; simp at *; omega) _
     ·simp at hL
   clear V HX HL1 CB O1 P1 C1 U1 hU ho2
   go_wp2
   go_roundw
   case rel =>
    obtain ⟨own2, x1, x2⟩ := unhide FIN
    exact ⟨k + 1, own2, by omega, by go_num, x1, x2⟩
   case measure => simp [intOf]; omega
  ·have hlt' : ¬ (k : Int) < (n : Int) := by omega
   obtain rfl : k = n := by omega
   go_wp2
   go_ret2
   exact ⟨_, rfl, own1, hR, hU⟩
end Go.Proofs.Ytemkgikncmhoaaa

