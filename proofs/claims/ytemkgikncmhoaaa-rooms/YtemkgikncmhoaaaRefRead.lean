/-
  weaveref: (*Room).Read, Waits, Flying, Peek. Own work.
-/
import Derived.Test.YtemkgikncmhoaaaRefPut
namespace Go.Proofs.Ytemkgikncmhoaaa
open Go.RowKit
attribute [local go_sem ↓] Go.wp_at_zero Go.wp_at_succ

set_option maxRecDepth 100000 in
set_option maxHeartbeats 400000 in
theorem rread_server (own : Nat → Tag) (rid b : Nat) (R : RRoom) (w : World) (h : RoomY own rid w b R) :
    Calls Try.prog 63 #[.pointer (some ⟨b, 0, none⟩), .int .i64 (-1)] w fun e w' => e = .returned (.tuple #[bstr R.server, .int .i64 0]) ∧ w' = w := by
  obtain ⟨tx, lx, bs, hc, _⟩ := h
  have c1 : w.cell? ⟨b, 1, none⟩ = some (.string ⟨R.server.toArray⟩) := by rw [hc.cell]; rfl
  clear hc
  go_enter Try.func63, Try.ntmps63
  go_wp2
  go_ret2
  exact ⟨rfl, rfl⟩
set_option maxRecDepth 100000 in
set_option maxHeartbeats 400000 in
theorem rread_no (own : Nat → Tag) (rid b : Nat) (R : RRoom) (c : Int) (w : World) (h : RoomY own rid w b R) (hc : ¬ R.client c) (hc1 : c ≠ -1) :
    Calls Try.prog 63 #[.pointer (some ⟨b, 0, none⟩), .int .i64 c] w fun e w' => e = .returned (.tuple #[.string ⟨#[]⟩, .int .i64 2]) ∧ w' = w := by
  have HT := hide (there_no own rid b R c w h hc)
  have hq : (c == -1) = false := by simpa using hc1
  clear h hc hc1
  go_enter Try.func63, Try.ntmps63
  go_wp2_with (first | (go_at_call 65; refine (unhide HT).mono ?_; rintro e w' ⟨rfl, rfl⟩))
  go_ret2
  exact ⟨rfl, rfl⟩
set_option maxRecDepth 100000 in
set_option maxHeartbeats 400000 in
theorem rread_yes (own : Nat → Tag) (rid b : Nat) (R : RRoom) (i : Nat) (t : List UInt8) (L : RLine) (w : World) (h : RoomY own rid w b R) (ht : R.texts[i]? = some t) (hL : R.lines[i]? = some L) :
    Calls Try.prog 63 #[.pointer (some ⟨b, 0, none⟩), .int .i64 i] w fun e w' => e = .returned (.tuple #[bstr t, .int .i64 0]) ∧ w' = w := by
  obtain ⟨tg, tc, lg, lc, lb, c0, c2, c3, c4, c5, f4, hLA, t1, t2, t3, l1, l2, l3, hi⟩ := h.get ht hL
  have hi1 : (i : Int) < (R.texts.length : Int) := by omega
  have hi2 : (0 : Int) ≤ (i : Int) := by omega
  have hq : ((i : Int) == -1) = false := by rw [beq_eq_false_iff_ne]; omega
  have HT := hide (there_yes own rid b R i w h hi)
  clear h
  go_enter Try.func63, Try.ntmps63
  go_wp2_with (first | (go_at_call 65; refine (unhide HT).mono ?_; rintro e w' ⟨rfl, rfl⟩))
  go_ret2
  exact ⟨rfl, rfl⟩

set_option maxRecDepth 100000 in
set_option maxHeartbeats 400000 in
theorem rwaits_no (own : Nat → Tag) (rid b : Nat) (R : RRoom) (c : Int) (w : World) (h : RoomY own rid w b R) (hc : ¬ R.client c) :
    Calls Try.prog 64 #[.pointer (some ⟨b, 0, none⟩), .int .i64 c] w fun e w' => e = .returned (.tuple #[.int .i64 0, .int .i64 2]) ∧ w' = w := by
  have HT := hide (there_no own rid b R c w h hc)
  clear h hc
  go_enter Try.func64, Try.ntmps64
  go_wp2_with (first | (go_at_call 65; refine (unhide HT).mono ?_; rintro e w' ⟨rfl, rfl⟩))
  go_ret2
  exact ⟨rfl, rfl⟩
set_option maxRecDepth 100000 in
set_option maxHeartbeats 800000 in
theorem rwaits_yes (own : Nat → Tag) (rid b : Nat) (R : RRoom) (i : Nat) (t : List UInt8) (L : RLine) (w : World) (h : RoomY own rid w b R) (ht : R.texts[i]? = some t) (hL : R.lines[i]? = some L) (hok : L.a.Ok) :
    Calls Try.prog 64 #[.pointer (some ⟨b, 0, none⟩), .int .i64 i] w fun e w' => e = .returned (.tuple #[.int .i64 ((L.a.rows.length : Int) - L.a.known), .int .i64 0]) ∧ Below w.heap.size w w' := by
  obtain ⟨tg, tc, lg, lc, lb, c0, c2, c3, c4, c5, f4, hLA, t1, t2, t3, l1, l2, l3, hi⟩ := h.get ht hL
  have hi1 : (i : Int) < (R.texts.length : Int) := by omega
  have hi2 : (0 : Int) ≤ (i : Int) := by omega
  have HT := hide (there_yes own rid b R i w h hi)
  obtain ⟨r0, r1, k0, k1, o0, o1, s0, s1, hc, ⟨⟨fs, hfl, hro, hfs⟩, _⟩, _⟩ := hLA
  obtain ⟨ra, rc, rfl, _, _⟩ := hro.shape
  have d0 : w.cell? ⟨lb, 0, none⟩ = some (.slice ra L.a.rows.length rc) := by rw [hc.cell]; rfl
  have d4 : w.cell? ⟨lb, 4, none⟩ = some (.int .i64 L.a.known) := by rw [hc.cell]; rfl
  have hrl := hok.rows
  have hkl := hok.known
  have hwr : IntKind.i64.wrap ((L.a.rows.length : Int) - L.a.known) = (L.a.rows.length : Int) - L.a.known := by rw [IntKind.wrap_i64]; omega
  clear h hc hro hfs hok
  generalize L.a.rows.length = rl at *
  generalize L.a.known = kn at *
  generalize R.texts.length = n at *
  go_enter Try.func64, Try.ntmps64
  go_wp2_with (first | (go_at_call 65; refine (unhide HT).mono ?_; rintro e w' ⟨rfl, rfl⟩))
  go_region
  all_goals go_wp2
  all_goals go_ret2
  all_goals exact ⟨by simp, (Below.refl _ _).drew⟩

set_option maxRecDepth 100000 in
set_option maxHeartbeats 400000 in
theorem rflying_no (own : Nat → Tag) (rid b : Nat) (R : RRoom) (c : Int) (d : Bool) (w : World) (h : RoomY own rid w b R) (hc : ¬ R.client c) :
    Calls Try.prog 47 #[.pointer (some ⟨b, 0, none⟩), .int .i64 c, .bool d] w fun e w' => e = .returned (.tuple #[.int .i64 0, .int .i64 2]) ∧ w' = w := by
  have HT := hide (there_no own rid b R c w h hc)
  clear h hc
  go_enter Try.func47, Try.ntmps47
  go_wp2_with (first | (go_at_call 65; refine (unhide HT).mono ?_; rintro e w' ⟨rfl, rfl⟩))
  go_ret2
  exact ⟨rfl, rfl⟩
set_option maxRecDepth 100000 in
set_option maxHeartbeats 400000 in
theorem rpeek_no (own : Nat → Tag) (rid b : Nat) (R : RRoom) (c : Int) (d : Bool) (n : Int) (w : World) (h : RoomY own rid w b R) (hc : ¬ R.client c) :
    Calls Try.prog 58 #[.pointer (some ⟨b, 0, none⟩), .int .i64 c, .bool d, .int .i64 n] w fun e w' => e = .returned (.tuple #[.string ⟨#[]⟩, .int .i64 2]) ∧ w' = w := by
  have HT := hide (there_no own rid b R c w h hc)
  clear h hc
  go_enter Try.func58, Try.ntmps58
  go_wp2_with (first | (go_at_call 65; refine (unhide HT).mono ?_; rintro e w' ⟨rfl, rfl⟩))
  go_ret2
  exact ⟨rfl, rfl⟩

set_option maxRecDepth 100000 in
set_option maxHeartbeats 800000 in
theorem rflying_0 (own : Nat → Tag) (rid b : Nat) (R : RRoom) (i : Nat) (t : List UInt8) (L : RLine) (w : World) (h : RoomY own rid w b R) (ht : R.texts[i]? = some t) (hL : R.lines[i]? = some L) :
    Calls Try.prog 47 #[.pointer (some ⟨b, 0, none⟩), .int .i64 i, .bool false] w fun e w' => e = .returned (.tuple #[.int .i64 L.a.out.length, .int .i64 0]) ∧ Below w.heap.size w w' := by
  obtain ⟨tg, tc, lg, lc, lb, c0, c2, c3, c4, c5, f4, hLA, t1, t2, t3, l1, l2, l3, hi⟩ := h.get ht hL
  have hi1 : (i : Int) < (R.texts.length : Int) := by omega
  have hi2 : (0 : Int) ≤ (i : Int) := by omega
  have HT := hide (there_yes own rid b R i w h hi)
  have HE := hide (fun w => end_any false w)
  obtain ⟨r0, r1, k0, k1, o0, o1, s0, s1, hc, ⟨_, _, x0, _⟩, ⟨_, _, x1, _⟩⟩ := hLA
  obtain ⟨oa, oc, rfl, _, _⟩ := x0.shape
  have d0 : w.cell? ⟨lb, 10, none⟩ = some (.slice oa L.a.out.length oc) := by rw [hc.cell]; rfl
  clear h hc x0 x1
  generalize L.a.out.length = rl at *
  generalize R.texts.length = n at *
  go_enter Try.func47, Try.ntmps47
  go_wp2_with (first | (go_at_call 65; refine (unhide HT).mono ?_; rintro e w' ⟨rfl, rfl⟩))
  go_region_with (first | (go_at_call 66; refine (unhide HE _).mono ?_; rintro e w' ⟨rfl, rfl⟩))
  all_goals go_wp2
  all_goals go_ret2
  all_goals exact ⟨rfl, (Below.refl _ _).drew⟩

set_option maxRecDepth 100000 in
set_option maxHeartbeats 800000 in
theorem rpeek_0 (own : Nat → Tag) (rid b : Nat) (R : RRoom) (i : Nat) (q : Int) (t : List UInt8) (L : RLine) (w : World) (h : RoomY own rid w b R) (ht : R.texts[i]? = some t) (hL : R.lines[i]? = some L) (hq : q < 0 ∨ q ≥ L.a.out.length) :
    Calls Try.prog 58 #[.pointer (some ⟨b, 0, none⟩), .int .i64 i, .bool false, .int .i64 q] w fun e w' => e = .returned (.tuple #[.string ⟨#[]⟩, .int .i64 7]) ∧ Below w.heap.size w w' := by
  obtain ⟨tg, tc, lg, lc, lb, c0, c2, c3, c4, c5, f4, hLA, t1, t2, t3, l1, l2, l3, hi⟩ := h.get ht hL
  have hi1 : (i : Int) < (R.texts.length : Int) := by omega
  have hi2 : (0 : Int) ≤ (i : Int) := by omega
  have HT := hide (there_yes own rid b R i w h hi)
  have HE := hide (fun w => end_any false w)
  obtain ⟨r0, r1, k0, k1, o0, o1, s0, s1, hc, ⟨_, _, x0, _⟩, ⟨_, _, x1, _⟩⟩ := hLA
  obtain ⟨oa, oc, rfl, _, _⟩ := x0.shape
  have d0 : w.cell? ⟨lb, 10, none⟩ = some (.slice oa L.a.out.length oc) := by rw [hc.cell]; rfl
  clear h hc x0 x1
  generalize L.a.out.length = rl at *
  generalize R.texts.length = n at *
  by_cases hq0 : q < 0
  all_goals
    try have hq1 : (rl : Int) ≤ q := by omega
    clear hq
    go_enter Try.func58, Try.ntmps58
    go_wp2_with (first | (go_at_call 65; refine (unhide HT).mono ?_; rintro e w' ⟨rfl, rfl⟩))
    go_region_with (first | (go_at_call 66; refine (unhide HE _).mono ?_; rintro e w' ⟨rfl, rfl⟩))
    all_goals go_wp2
    all_goals go_ret2
    all_goals exact ⟨rfl, (Below.refl _ _).drew⟩

set_option maxRecDepth 100000 in
set_option maxHeartbeats 800000 in
theorem rpeek_0_yes (own : Nat → Tag) (rid b : Nat) (R : RRoom) (i q : Nat) (s : ByteArray) (t : List UInt8) (L : RLine) (w : World) (h : RoomY own rid w b R) (ht : R.texts[i]? = some t) (hL : R.lines[i]? = some L) (hq : L.a.out[q]? = some s) :
    Calls Try.prog 58 #[.pointer (some ⟨b, 0, none⟩), .int .i64 i, .bool false, .int .i64 q] w fun e w' => e = .returned (.tuple #[.string s, .int .i64 0]) ∧ Below w.heap.size w w' := by
  obtain ⟨tg, tc, lg, lc, lb, c0, c2, c3, c4, c5, f4, hLA, t1, t2, t3, l1, l2, l3, hi⟩ := h.get ht hL
  have hi1 : (i : Int) < (R.texts.length : Int) := by omega
  have hi2 : (0 : Int) ≤ (i : Int) := by omega
  have HT := hide (there_yes own rid b R i w h hi)
  have HE := hide (fun w => end_any false w)
  obtain ⟨r0, r1, k0, k1, o0, o1, s0, s1, hc, ⟨_, _, x0, _⟩, ⟨_, _, x1, _⟩⟩ := hLA
  obtain ⟨og, oc, rfl, _, _, d1, _⟩ := x0.get (i := q) (u := .string s) (by simp [hq])
  have d0 : w.cell? ⟨lb, 10, none⟩ = some (.slice (some ⟨og, 0, none⟩) L.a.out.length oc) := by rw [hc.cell]; rfl
  have hq2 : (0 : Int) ≤ (q : Int) := by omega
  have hq3 : (q : Int) < (L.a.out.length : Int) := by have := (List.getElem?_eq_some_iff.1 hq).1; omega
  have hq4 : ¬ (L.a.out.length : Int) ≤ (q : Int) := by omega
  clear h hc x0 x1 hq
  generalize L.a.out.length = rl at *
  generalize R.texts.length = n at *
  go_enter Try.func58, Try.ntmps58
  go_wp2_with (first | (go_at_call 65; refine (unhide HT).mono ?_; rintro e w' ⟨rfl, rfl⟩))
  go_region_with (first | (go_at_call 66; refine (unhide HE _).mono ?_; rintro e w' ⟨rfl, rfl⟩))
  all_goals go_wp2
  all_goals go_ret2
  all_goals exact ⟨rfl, (Below.refl _ _).drew⟩
set_option maxRecDepth 100000 in
set_option maxHeartbeats 800000 in
theorem rflying_1 (own : Nat → Tag) (rid b : Nat) (R : RRoom) (i : Nat) (t : List UInt8) (L : RLine) (w : World) (h : RoomY own rid w b R) (ht : R.texts[i]? = some t) (hL : R.lines[i]? = some L) :
    Calls Try.prog 47 #[.pointer (some ⟨b, 0, none⟩), .int .i64 i, .bool true] w fun e w' => e = .returned (.tuple #[.int .i64 L.b.out.length, .int .i64 0]) ∧ Below w.heap.size w w' := by
  obtain ⟨tg, tc, lg, lc, lb, c0, c2, c3, c4, c5, f4, hLA, t1, t2, t3, l1, l2, l3, hi⟩ := h.get ht hL
  have hi1 : (i : Int) < (R.texts.length : Int) := by omega
  have hi2 : (0 : Int) ≤ (i : Int) := by omega
  have HT := hide (there_yes own rid b R i w h hi)
  have HE := hide (fun w => end_any true w)
  obtain ⟨r0, r1, k0, k1, o0, o1, s0, s1, hc, ⟨_, _, x0, _⟩, ⟨_, _, x1, _⟩⟩ := hLA
  obtain ⟨oa, oc, rfl, _, _⟩ := x1.shape
  have d0 : w.cell? ⟨lb, 11, none⟩ = some (.slice oa L.b.out.length oc) := by rw [hc.cell]; rfl
  clear h hc x0 x1
  generalize L.b.out.length = rl at *
  generalize R.texts.length = n at *
  go_enter Try.func47, Try.ntmps47
  go_wp2_with (first | (go_at_call 65; refine (unhide HT).mono ?_; rintro e w' ⟨rfl, rfl⟩))
  go_region_with (first | (go_at_call 66; refine (unhide HE _).mono ?_; rintro e w' ⟨rfl, rfl⟩))
  all_goals go_wp2
  all_goals go_ret2
  all_goals exact ⟨rfl, (Below.refl _ _).drew⟩

set_option maxRecDepth 100000 in
set_option maxHeartbeats 800000 in
theorem rpeek_1 (own : Nat → Tag) (rid b : Nat) (R : RRoom) (i : Nat) (q : Int) (t : List UInt8) (L : RLine) (w : World) (h : RoomY own rid w b R) (ht : R.texts[i]? = some t) (hL : R.lines[i]? = some L) (hq : q < 0 ∨ q ≥ L.b.out.length) :
    Calls Try.prog 58 #[.pointer (some ⟨b, 0, none⟩), .int .i64 i, .bool true, .int .i64 q] w fun e w' => e = .returned (.tuple #[.string ⟨#[]⟩, .int .i64 7]) ∧ Below w.heap.size w w' := by
  obtain ⟨tg, tc, lg, lc, lb, c0, c2, c3, c4, c5, f4, hLA, t1, t2, t3, l1, l2, l3, hi⟩ := h.get ht hL
  have hi1 : (i : Int) < (R.texts.length : Int) := by omega
  have hi2 : (0 : Int) ≤ (i : Int) := by omega
  have HT := hide (there_yes own rid b R i w h hi)
  have HE := hide (fun w => end_any true w)
  obtain ⟨r0, r1, k0, k1, o0, o1, s0, s1, hc, ⟨_, _, x0, _⟩, ⟨_, _, x1, _⟩⟩ := hLA
  obtain ⟨oa, oc, rfl, _, _⟩ := x1.shape
  have d0 : w.cell? ⟨lb, 11, none⟩ = some (.slice oa L.b.out.length oc) := by rw [hc.cell]; rfl
  clear h hc x0 x1
  generalize L.b.out.length = rl at *
  generalize R.texts.length = n at *
  by_cases hq0 : q < 0
  all_goals
    try have hq1 : (rl : Int) ≤ q := by omega
    clear hq
    go_enter Try.func58, Try.ntmps58
    go_wp2_with (first | (go_at_call 65; refine (unhide HT).mono ?_; rintro e w' ⟨rfl, rfl⟩))
    go_region_with (first | (go_at_call 66; refine (unhide HE _).mono ?_; rintro e w' ⟨rfl, rfl⟩))
    all_goals go_wp2
    all_goals go_ret2
    all_goals exact ⟨rfl, (Below.refl _ _).drew⟩

set_option maxRecDepth 100000 in
set_option maxHeartbeats 800000 in
theorem rpeek_1_yes (own : Nat → Tag) (rid b : Nat) (R : RRoom) (i q : Nat) (s : ByteArray) (t : List UInt8) (L : RLine) (w : World) (h : RoomY own rid w b R) (ht : R.texts[i]? = some t) (hL : R.lines[i]? = some L) (hq : L.b.out[q]? = some s) :
    Calls Try.prog 58 #[.pointer (some ⟨b, 0, none⟩), .int .i64 i, .bool true, .int .i64 q] w fun e w' => e = .returned (.tuple #[.string s, .int .i64 0]) ∧ Below w.heap.size w w' := by
  obtain ⟨tg, tc, lg, lc, lb, c0, c2, c3, c4, c5, f4, hLA, t1, t2, t3, l1, l2, l3, hi⟩ := h.get ht hL
  have hi1 : (i : Int) < (R.texts.length : Int) := by omega
  have hi2 : (0 : Int) ≤ (i : Int) := by omega
  have HT := hide (there_yes own rid b R i w h hi)
  have HE := hide (fun w => end_any true w)
  obtain ⟨r0, r1, k0, k1, o0, o1, s0, s1, hc, ⟨_, _, x0, _⟩, ⟨_, _, x1, _⟩⟩ := hLA
  obtain ⟨og, oc, rfl, _, _, d1, _⟩ := x1.get (i := q) (u := .string s) (by simp [hq])
  have d0 : w.cell? ⟨lb, 11, none⟩ = some (.slice (some ⟨og, 0, none⟩) L.b.out.length oc) := by rw [hc.cell]; rfl
  have hq2 : (0 : Int) ≤ (q : Int) := by omega
  have hq3 : (q : Int) < (L.b.out.length : Int) := by have := (List.getElem?_eq_some_iff.1 hq).1; omega
  have hq4 : ¬ (L.b.out.length : Int) ≤ (q : Int) := by omega
  clear h hc x0 x1 hq
  generalize L.b.out.length = rl at *
  generalize R.texts.length = n at *
  go_enter Try.func58, Try.ntmps58
  go_wp2_with (first | (go_at_call 65; refine (unhide HT).mono ?_; rintro e w' ⟨rfl, rfl⟩))
  go_region_with (first | (go_at_call 66; refine (unhide HE _).mono ?_; rintro e w' ⟨rfl, rfl⟩))
  all_goals go_wp2
  all_goals go_ret2
  all_goals exact ⟨rfl, (Below.refl _ _).drew⟩
end Go.Proofs.Ytemkgikncmhoaaa
