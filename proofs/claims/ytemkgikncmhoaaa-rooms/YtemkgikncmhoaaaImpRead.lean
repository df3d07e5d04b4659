/-
  weave: (*Room).Read, Waits, Flying, Peek. Own work.
-/
import Derived.Test.YtemkgikncmhoaaaImpRoom
namespace Go.Proofs.Ytemkgikncmhoaaa
open Go.RowKit

set_option maxRecDepth 100000 in
set_option maxHeartbeats 400000 in
theorem xread_server (own : Nat → Tag) (rid b : Nat) (X : IRoom) (w : World) (h : RoomX own rid w b X) :
    Calls Try.prog 15 #[.pointer (some ⟨b, 0, none⟩), .int .i64 (-1)] w fun e w' => e = .returned (.tuple #[bstr X.server, .int .i64 0]) ∧ w' = w := by
  obtain ⟨tb, mb, ents, clock, es, ts, h⟩ := h
  have c0 : w.cell? ⟨b, 0, none⟩ = some (.pointer (some ⟨tb, 0, none⟩)) := by rw [h.cells.cell]; rfl
  have HT := hide (xtold own rid 100 tb X.server w h.text)
  clear h
  unfold bstr at HT ⊢
  go_enter Try.func15, Try.ntmps15
  go_wp2_with (first | (go_at_call 35; refine (unhide HT).mono ?_; rintro e w' ⟨rfl, rfl⟩))
  go_ret2
  exact ⟨rfl, rfl⟩
set_option maxRecDepth 100000 in
set_option maxHeartbeats 400000 in
theorem xread_no (own : Nat → Tag) (rid b : Nat) (X : IRoom) (c : Int) (w : World) (h : RoomX own rid w b X) (hc : I64 c) (hn : ¬ (0 ≤ c ∧ c < X.texts.length)) (hc1 : c ≠ -1) :
    Calls Try.prog 15 #[.pointer (some ⟨b, 0, none⟩), .int .i64 c] w fun e w' => e = .returned (.tuple #[.string ⟨#[]⟩, .int .i64 2]) ∧ w' = w := by
  obtain ⟨mb, c1, lk⟩ := h.no hc hn false
  have hq : (c == -1) = false := by simpa using hc1
  clear h hc hc1 hn
  go_enter Try.func15, Try.ntmps15
  go_wp2
  go_ret2
  exact ⟨rfl, rfl⟩
set_option maxRecDepth 100000 in
set_option maxHeartbeats 400000 in
theorem xread_yes (own : Nat → Tag) (rid b : Nat) (X : IRoom) (i : Nat) (t : List UInt8) (E S : IEnd) (w : World) (h : RoomX own rid w b X) (ht : X.texts[i]? = some t) (hE : X.ends[i]? = some E) (hS : X.sends[i]? = some S) :
    Calls Try.prog 15 #[.pointer (some ⟨b, 0, none⟩), .int .i64 i] w fun e w' => e = .returned (.tuple #[bstr t, .int .i64 0]) ∧ w' = w := by
  obtain ⟨mb, eb, sb, tbi, tb, c1, lk, _, hE1, hT1, _, _⟩ := h.yes ht hE hS
  have c0 : w.cell? ⟨eb, 0, none⟩ = some (.pointer (some ⟨tbi, 0, none⟩)) := hE1.c0
  have HT := hide (xtold own rid (2 * i) tbi t w hT1)
  have hq : ((i : Int) == -1) = false := by rw [beq_eq_false_iff_ne]; omega
  clear h hE1 hT1
  unfold bstr at HT ⊢
  go_enter Try.func15, Try.ntmps15
  go_wp2_with (first | (go_at_call 35; refine (unhide HT).mono ?_; rintro e w' ⟨rfl, rfl⟩))
  go_ret2
  exact ⟨rfl, rfl⟩
set_option maxRecDepth 100000 in
set_option maxHeartbeats 400000 in
theorem xwaits_no (own : Nat → Tag) (rid b : Nat) (X : IRoom) (c : Int) (w : World) (h : RoomX own rid w b X) (hc : I64 c) (hn : ¬ (0 ≤ c ∧ c < X.texts.length)) :
    Calls Try.prog 19 #[.pointer (some ⟨b, 0, none⟩), .int .i64 c] w fun e w' => e = .returned (.tuple #[.int .i64 0, .int .i64 2]) ∧ w' = w := by
  obtain ⟨mb, c1, lk⟩ := h.no hc hn false
  clear h hc hn
  go_enter Try.func19, Try.ntmps19
  go_wp2
  go_ret2
  exact ⟨rfl, rfl⟩
set_option maxRecDepth 100000 in
set_option maxHeartbeats 400000 in
theorem xwaits_yes (own : Nat → Tag) (rid b : Nat) (X : IRoom) (i : Nat) (t : List UInt8) (E S : IEnd) (w : World) (h : RoomX own rid w b X) (ht : X.texts[i]? = some t) (hE : X.ends[i]? = some E) (hS : X.sends[i]? = some S) :
    Calls Try.prog 19 #[.pointer (some ⟨b, 0, none⟩), .int .i64 i] w fun e w' => e = .returned (.tuple #[.int .i64 E.waiting.length, .int .i64 0]) ∧ w' = w := by
  obtain ⟨mb, eb, sb, tbi, tb, c1, lk, _, hE1, hT1, _, _⟩ := h.yes ht hE hS
  have HW := hide (xwaits own rid (2 * i) eb tbi X.window E w hE1)
  clear h hE1 hT1
  go_enter Try.func19, Try.ntmps19
  go_wp2_with (first | (go_at_call 36; refine (unhide HW).mono ?_; rintro e w' ⟨rfl, rfl⟩))
  go_ret2
  exact ⟨rfl, rfl⟩
set_option maxRecDepth 100000 in
set_option maxHeartbeats 400000 in
theorem xflying_no (own : Nat → Tag) (rid b : Nat) (X : IRoom) (c : Int) (d : Bool) (w : World) (h : RoomX own rid w b X) (hc : I64 c) (hn : ¬ (0 ≤ c ∧ c < X.texts.length)) :
    Calls Try.prog 26 #[.pointer (some ⟨b, 0, none⟩), .int .i64 c, .bool d] w fun e w' => e = .returned (.tuple #[.int .i64 0, .int .i64 2]) ∧ w' = w := by
  obtain ⟨mb, c1, lk⟩ := h.no hc hn d
  clear h hc hn
  go_enter Try.func26, Try.ntmps26
  go_wp2
  go_ret2
  exact ⟨rfl, rfl⟩
set_option maxRecDepth 100000 in
set_option maxHeartbeats 400000 in
theorem xpeek_no (own : Nat → Tag) (rid b : Nat) (X : IRoom) (c : Int) (d : Bool) (n : Int) (w : World) (h : RoomX own rid w b X) (hc : I64 c) (hn : ¬ (0 ≤ c ∧ c < X.texts.length)) :
    Calls Try.prog 48 #[.pointer (some ⟨b, 0, none⟩), .int .i64 c, .bool d, .int .i64 n] w fun e w' => e = .returned (.tuple #[.string ⟨#[]⟩, .int .i64 2]) ∧ w' = w := by
  obtain ⟨mb, c1, lk⟩ := h.no hc hn d
  clear h hc hn
  go_enter Try.func48, Try.ntmps48
  go_wp2
  go_ret2
  exact ⟨rfl, rfl⟩
set_option maxRecDepth 100000 in
set_option maxHeartbeats 400000 in
theorem xflying_0 (own : Nat → Tag) (rid b : Nat) (X : IRoom) (i : Nat) (t : List UInt8) (E S : IEnd) (w : World) (h : RoomX own rid w b X) (ht : X.texts[i]? = some t) (hE : X.ends[i]? = some E) (hS : X.sends[i]? = some S) :
    Calls Try.prog 26 #[.pointer (some ⟨b, 0, none⟩), .int .i64 i, .bool false] w fun e w' => e = .returned (.tuple #[.int .i64 E.flying.length, .int .i64 0]) ∧ w' = w := by
  obtain ⟨mb, eb, sb, tbi, tb, c1, lk0, lk1, hE0, hT1, hE1, _⟩ := h.yes ht hE hS
  obtain ⟨wv, ov, kb, fv, hc, hm, hop, hk, hf⟩ := hE0
  obtain ⟨fa, fc, rfl, _, _⟩ := hf.shape
  have c5 : w.cell? ⟨eb, 8, none⟩ = some (.slice fa E.flying.length fc) := by rw [hc.cell]; rfl
  clear h hc hm hop hk hf hT1
  go_enter Try.func26, Try.ntmps26
  go_wp2
  go_ret2
  exact ⟨rfl, rfl⟩
set_option maxRecDepth 100000 in
set_option maxHeartbeats 400000 in
theorem xpeek_0 (own : Nat → Tag) (rid b : Nat) (X : IRoom) (i : Nat) (q : Int) (t : List UInt8) (E S : IEnd) (w : World) (h : RoomX own rid w b X) (ht : X.texts[i]? = some t) (hE : X.ends[i]? = some E) (hS : X.sends[i]? = some S) (hq : q < 0 ∨ q ≥ E.flying.length) :
    Calls Try.prog 48 #[.pointer (some ⟨b, 0, none⟩), .int .i64 i, .bool false, .int .i64 q] w fun e w' => e = .returned (.tuple #[.string ⟨#[]⟩, .int .i64 7]) ∧ w' = w := by
  obtain ⟨mb, eb, sb, tbi, tb, c1, lk0, lk1, hE0, hT1, hE1, _⟩ := h.yes ht hE hS
  obtain ⟨wv, ov, kb, fv, hc, hm, hop, hk, hf⟩ := hE0
  obtain ⟨fa, fc, rfl, _, _⟩ := hf.shape
  have c5 : w.cell? ⟨eb, 8, none⟩ = some (.slice fa E.flying.length fc) := by rw [hc.cell]; rfl
  clear h hc hm hop hk hf hT1
  by_cases hq0 : q < 0
  · clear hq
    go_enter Try.func48, Try.ntmps48
    go_wp2
    go_ret2
    exact ⟨rfl, rfl⟩
  · have hq1 : (E.flying.length : Int) ≤ q := by omega
    clear hq
    go_enter Try.func48, Try.ntmps48
    go_wp2
    go_ret2
    exact ⟨rfl, rfl⟩
set_option maxRecDepth 100000 in
set_option maxHeartbeats 400000 in
theorem xpeek_0_yes (own : Nat → Tag) (rid b : Nat) (X : IRoom) (i q : Nat) (s : ByteArray) (t : List UInt8) (E S : IEnd) (w : World) (h : RoomX own rid w b X) (ht : X.texts[i]? = some t) (hE : X.ends[i]? = some E) (hS : X.sends[i]? = some S) (hq : E.flying[q]? = some s) :
    Calls Try.prog 48 #[.pointer (some ⟨b, 0, none⟩), .int .i64 i, .bool false, .int .i64 q] w fun e w' => e = .returned (.tuple #[.string s, .int .i64 0]) ∧ w' = w := by
  obtain ⟨mb, eb, sb, tbi, tb, c1, lk0, lk1, hE0, hT1, hE1, _⟩ := h.yes ht hE hS
  obtain ⟨wv, ov, kb, fv, hc, hm, hop, hk, hf⟩ := hE0
  obtain ⟨fg, fc, rfl, _, _, d1, _⟩ := hf.get (i := q) (u := .string s) (by simp [hq])
  have c5 : w.cell? ⟨eb, 8, none⟩ = some (.slice (some ⟨fg, 0, none⟩) E.flying.length fc) := by rw [hc.cell]; rfl
  have hq2 : (0 : Int) ≤ (q : Int) := by omega
  have hq3 : (q : Int) < (E.flying.length : Int) := by have := (List.getElem?_eq_some_iff.1 hq).1; omega
  have hq4 : ¬ (E.flying.length : Int) ≤ (q : Int) := by omega
  have hq5 : ¬ (q : Int) < 0 := by omega
  clear h hc hm hop hk hf hT1 hq
  go_enter Try.func48, Try.ntmps48
  go_wp2
  go_ret2
  exact ⟨rfl, rfl⟩
set_option maxRecDepth 100000 in
set_option maxHeartbeats 400000 in
theorem xflying_1 (own : Nat → Tag) (rid b : Nat) (X : IRoom) (i : Nat) (t : List UInt8) (E S : IEnd) (w : World) (h : RoomX own rid w b X) (ht : X.texts[i]? = some t) (hE : X.ends[i]? = some E) (hS : X.sends[i]? = some S) :
    Calls Try.prog 26 #[.pointer (some ⟨b, 0, none⟩), .int .i64 i, .bool true] w fun e w' => e = .returned (.tuple #[.int .i64 S.flying.length, .int .i64 0]) ∧ w' = w := by
  obtain ⟨mb, eb, sb, tbi, tb, c1, lk0, lk1, hE0, hT1, hE1, _⟩ := h.yes ht hE hS
  obtain ⟨wv, ov, kb, fv, hc, hm, hop, hk, hf⟩ := hE1
  obtain ⟨fa, fc, rfl, _, _⟩ := hf.shape
  have c5 : w.cell? ⟨sb, 8, none⟩ = some (.slice fa S.flying.length fc) := by rw [hc.cell]; rfl
  clear h hc hm hop hk hf hT1
  go_enter Try.func26, Try.ntmps26
  go_wp2
  go_ret2
  exact ⟨rfl, rfl⟩
set_option maxRecDepth 100000 in
set_option maxHeartbeats 400000 in
theorem xpeek_1 (own : Nat → Tag) (rid b : Nat) (X : IRoom) (i : Nat) (q : Int) (t : List UInt8) (E S : IEnd) (w : World) (h : RoomX own rid w b X) (ht : X.texts[i]? = some t) (hE : X.ends[i]? = some E) (hS : X.sends[i]? = some S) (hq : q < 0 ∨ q ≥ S.flying.length) :
    Calls Try.prog 48 #[.pointer (some ⟨b, 0, none⟩), .int .i64 i, .bool true, .int .i64 q] w fun e w' => e = .returned (.tuple #[.string ⟨#[]⟩, .int .i64 7]) ∧ w' = w := by
  obtain ⟨mb, eb, sb, tbi, tb, c1, lk0, lk1, hE0, hT1, hE1, _⟩ := h.yes ht hE hS
  obtain ⟨wv, ov, kb, fv, hc, hm, hop, hk, hf⟩ := hE1
  obtain ⟨fa, fc, rfl, _, _⟩ := hf.shape
  have c5 : w.cell? ⟨sb, 8, none⟩ = some (.slice fa S.flying.length fc) := by rw [hc.cell]; rfl
  clear h hc hm hop hk hf hT1
  by_cases hq0 : q < 0
  · clear hq
    go_enter Try.func48, Try.ntmps48
    go_wp2
    go_ret2
    exact ⟨rfl, rfl⟩
  · have hq1 : (S.flying.length : Int) ≤ q := by omega
    clear hq
    go_enter Try.func48, Try.ntmps48
    go_wp2
    go_ret2
    exact ⟨rfl, rfl⟩
set_option maxRecDepth 100000 in
set_option maxHeartbeats 400000 in
theorem xpeek_1_yes (own : Nat → Tag) (rid b : Nat) (X : IRoom) (i q : Nat) (s : ByteArray) (t : List UInt8) (E S : IEnd) (w : World) (h : RoomX own rid w b X) (ht : X.texts[i]? = some t) (hE : X.ends[i]? = some E) (hS : X.sends[i]? = some S) (hq : S.flying[q]? = some s) :
    Calls Try.prog 48 #[.pointer (some ⟨b, 0, none⟩), .int .i64 i, .bool true, .int .i64 q] w fun e w' => e = .returned (.tuple #[.string s, .int .i64 0]) ∧ w' = w := by
  obtain ⟨mb, eb, sb, tbi, tb, c1, lk0, lk1, hE0, hT1, hE1, _⟩ := h.yes ht hE hS
  obtain ⟨wv, ov, kb, fv, hc, hm, hop, hk, hf⟩ := hE1
  obtain ⟨fg, fc, rfl, _, _, d1, _⟩ := hf.get (i := q) (u := .string s) (by simp [hq])
  have c5 : w.cell? ⟨sb, 8, none⟩ = some (.slice (some ⟨fg, 0, none⟩) S.flying.length fc) := by rw [hc.cell]; rfl
  have hq2 : (0 : Int) ≤ (q : Int) := by omega
  have hq3 : (q : Int) < (S.flying.length : Int) := by have := (List.getElem?_eq_some_iff.1 hq).1; omega
  have hq4 : ¬ (S.flying.length : Int) ≤ (q : Int) := by omega
  have hq5 : ¬ (q : Int) < 0 := by omega
  clear h hc hm hop hk hf hT1 hq
  go_enter Try.func48, Try.ntmps48
  go_wp2
  go_ret2
  exact ⟨rfl, rfl⟩
end Go.Proofs.Ytemkgikncmhoaaa
