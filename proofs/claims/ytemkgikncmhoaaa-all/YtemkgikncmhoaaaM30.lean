import Derived.Test.YtemkgikncmhoaaaM11
import Derived.Test.YtemkgikncmhoaaaM18
import Derived.Test.YtemkgikncmhoaaaM29
namespace Go.Proofs.Ytemkgikncmhoaaa
open Go.RowKit

theorem EndX.ptr {own : Nat → Tag} {rid k b tb window : Nat} {E : IEnd} {w : World} (h : EndX own rid k w b tb window E) : w.cell? ⟨b, 0, none⟩ = some (.pointer (some ⟨tb, 0, none⟩)) := h.c0

set_option maxRecDepth 100000 in
set_option maxHeartbeats 400000 in
theorem xput_place (own : Nat → Tag) (rid b : Nat) (X : IRoom) (i : Nat) (p l : Int) (t : List UInt8) (E S : IEnd) (w : World) (h : RoomX own rid w b X) (ht : X.texts[i]? = some t) (hE : X.ends[i]? = some E) (hS : X.sends[i]? = some S) (hp : p < 0 ∨ p > t.length) :
  Calls Try.prog 25 #[.pointer (some ⟨b, 0, none⟩), .int .i64 i, .int .i64 p, .int .u8 l] w fun e w' => e = .returned (.int .i64 3) ∧ w' = w := by
 obtain ⟨mb, eb, sb, tbi, tb, c1, lk, _, hE1, hT1, _, _⟩ := h.yes ht hE hS
 have c0 := hE1.ptr
 have HL := hide (xlength own rid (2 * i) tbi t w hT1)
 clear h hE1 hT1
 by_cases hp0 : p < 0
 ·clear hp
  go_enter Try.func25, Try.ntmps25
  go_wp2_with (first | (go_at_call 38; refine (unhide HL).mono ?_; rintro e w' ⟨rfl, rfl⟩))
  go_ret
  exact ⟨rfl, rfl⟩
 ·have hp1 : (t.length : Int) < p := by omega
  clear hp
  go_enter Try.func25, Try.ntmps25
  go_wp2_with (first | (go_at_call 38; refine (unhide HL).mono ?_; rintro e w' ⟨rfl, rfl⟩))
  go_ret
  exact ⟨rfl, rfl⟩

set_option maxRecDepth 100000 in
set_option maxHeartbeats 400000 in
theorem xput_letter (own : Nat → Tag) (rid b : Nat) (X : IRoom) (i p : Nat) (l : Int) (t : List UInt8) (E S : IEnd) (w : World) (h : RoomX own rid w b X) (ht : X.texts[i]? = some t) (hE : X.ends[i]? = some E) (hS : X.sends[i]? = some S) (hp : p ≤ t.length) (hl : l < 33 ∨ l > 126) :
  Calls Try.prog 25 #[.pointer (some ⟨b, 0, none⟩), .int .i64 i, .int .i64 p, .int .u8 l] w fun e w' => e = .returned (.int .i64 4) ∧ w' = w := by
 obtain ⟨mb, eb, sb, tbi, tb, c1, lk, _, hE1, hT1, _, _⟩ := h.yes ht hE hS
 have c0 := hE1.ptr
 have HL := hide (xlength own rid (2 * i) tbi t w hT1)
 have hq : Calls Try.prog 39 #[.int .u8 l] w fun e w' => e = .returned (.bool false) ∧ w' = w := by
  have := xisLetter l w
  rwa [show decide (33 ≤ l ∧ l ≤ 126) = false from by simp; omega] at this
 have HQ := hide hq
 have hp0 : ¬ (p : Int) < 0 := by omega
 have hp1 : ¬ (t.length : Int) < (p : Int) := by omega
 clear h hE1 hT1 hl hq
 go_enter Try.func25, Try.ntmps25
 go_wp2_with (first | (go_at_call 38; refine (unhide HL).mono ?_; rintro e w' ⟨rfl, rfl⟩) | (go_at_call 39; refine (unhide HQ).mono ?_; rintro e w' ⟨rfl, rfl⟩))
 go_ret
 exact ⟨rfl, rfl⟩

/-- What is asked of an end's numbers. -/
structure IEnd.Ok (E : IEnd) : Prop where
 made : E.made ≤ 239
 taken : E.taken ≤ 240
 flying : E.flying.length ≤ 12
 opn : E.opn.length ≤ 240

set_option maxRecDepth 100000 in
set_option maxHeartbeats 400000 in
theorem xput_refused (own : Nat → Tag) (rid b : Nat) (X : IRoom) (i p l : Nat) (t : List UInt8) (E S : IEnd) (w : World) (h : RoomX own rid w b X) (ht : X.texts[i]? = some t) (hE : X.ends[i]? = some E) (hS : X.sends[i]? = some S) (hp : p ≤ t.length) (hl : 33 ≤ l ∧ l ≤ 126) (hok : E.Ok) (_hw : X.window ≤ 4)
  (hr : E.refusal X.window ≠ 0) :
  Calls Try.prog 25 #[.pointer (some ⟨b, 0, none⟩), .int .i64 i, .int .i64 p, .int .u8 l] w fun e w' => e = .returned (.int .i64 (E.refusal X.window)) ∧ Below w.heap.size w w' := by
 obtain ⟨mb, eb, sb, tbi, tb, c1, lk, _, hE1, hT1, _, _⟩ := h.yes ht hE hS
 have c0 := hE1.ptr
 have HL := hide (xlength own rid (2 * i) tbi t w hT1)
 have hq : Calls Try.prog 39 #[.int .u8 l] w fun e w' => e = .returned (.bool true) ∧ w' = w := by
  have := xisLetter l w
  rwa [show decide (33 ≤ (l : Int) ∧ (l : Int) ≤ 126) = true from by simp; omega] at this
 have HQ := hide hq
 have HR := hide (xrefusal own rid (2 * i) eb tbi X.window E w hE1 (by have := hok.made; omega))
 have hp0 : ¬ (p : Int) < 0 := by omega
 have hp1 : ¬ (t.length : Int) < (p : Int) := by omega
 generalize E.refusal X.window = rf at *
 have hrf : (rf == 0) = false := by simpa using hr
 have hrf' : (rf != 0) = true := by simpa using hr
 clear h hE1 hT1 hl hq hr
 go_enter Try.func25, Try.ntmps25
 go_wp2_with (first | (go_at_call 38; refine (unhide HL).mono ?_; rintro e w' ⟨rfl, rfl⟩) | (go_at_call 39; refine (unhide HQ).mono ?_; rintro e w' ⟨rfl, rfl⟩) | (go_at_call 40; refine (unhide HR).mono ?_; rintro e w1 ⟨rfl, hb1⟩))
 go_ret
 exact ⟨rfl, hb1⟩

set_option maxRecDepth 100000 in
set_option maxHeartbeats 400000 in
theorem xput_many (own : Nat → Tag) (rid b : Nat) (X : IRoom) (i p l : Nat) (t : List UInt8) (E S : IEnd) (w : World) (h : RoomX own rid w b X) (ht : X.texts[i]? = some t) (hE : X.ends[i]? = some E) (hS : X.sends[i]? = some S) (hp : p ≤ t.length) (hl : 33 ≤ l ∧ l ≤ 126) (hok : E.Ok) (_hw : X.window ≤ 4)
  (hr : E.refusal X.window = 0) (hm : 60 ≤ t.length) :
  Calls Try.prog 25 #[.pointer (some ⟨b, 0, none⟩), .int .i64 i, .int .i64 p, .int .u8 l] w fun e w' => e = .returned (.int .i64 6) ∧ Below w.heap.size w w' := by
 obtain ⟨mb, eb, sb, tbi, tb, c1, lk, _, hE1, hT1, _, _⟩ := h.yes ht hE hS
 have c0 := hE1.ptr
 have HL : Hid (∀ w1, Below w.heap.size w w1 → Calls Try.prog 38 #[.pointer (some ⟨tbi, 0, none⟩)] w1 fun e w' => e = .returned (.int .i64 t.length) ∧ w' = w1) := hide fun w1 hb => xlength own rid (2 * i) tbi t w1 (hT1.upd (Upd.of_below own (fun _ => False) hb) (fun h => h) (fun h => h))
 have hq : Calls Try.prog 39 #[.int .u8 l] w fun e w' => e = .returned (.bool true) ∧ w' = w := by
  have := xisLetter l w
  rwa [show decide (33 ≤ (l : Int) ∧ (l : Int) ≤ 126) = true from by simp; omega] at this
 have HQ := hide hq
 have hr0 := xrefusal own rid (2 * i) eb tbi X.window E w hE1 (by have := hok.made; omega)
 rw [hr] at hr0
 have ebl := World.block_lt_of_cell? _ _ c0
 have HR : Hid (Calls Try.prog 40 #[.pointer (some ⟨eb, 0, none⟩)] w fun e w' => e = .returned (.int .i64 0) ∧ Below w.heap.size w w' ∧ w'.cell? ⟨eb, 0, none⟩ = some (.pointer (some ⟨tbi, 0, none⟩))) := hide (hr0.mono fun e w' ⟨h1, h2⟩ => ⟨h1, h2, (h2.cell (p := ⟨eb, 0, none⟩) ebl).trans c0⟩)
 have hp0 : ¬ (p : Int) < 0 := by omega
 have hp1 : ¬ (t.length : Int) < (p : Int) := by omega
 have hm1 : (60 : Int) ≤ (t.length : Int) := by omega
 have B0 := hide (Below.refl w.heap.size w)
 clear h hE1 hT1 hl hq hr hr0
 go_enter Try.func25, Try.ntmps25
 go_wp2_with (first | (go_at_call 38; refine (unhide HL _ (by first | exact hb1 | exact unhide B0)).mono ?_; rintro e w' ⟨rfl, rfl⟩) | (go_at_call 39; refine (unhide HQ).mono ?_; rintro e w' ⟨rfl, rfl⟩) | (go_at_call 40; refine (unhide HR).mono ?_; rintro e w1 ⟨rfl, hb1, c01⟩))
 go_ret
 exact ⟨rfl, hb1⟩

set_option maxRecDepth 100000 in
set_option maxHeartbeats 400000 in
theorem xput_ok (own : Nat → Tag) (rid b : Nat) (X : IRoom) (i p l : Nat) (t : List UInt8) (E S : IEnd) (w : World) (h : RoomX own rid w b X) (ht : X.texts[i]? = some t) (hE : X.ends[i]? = some E) (hS : X.sends[i]? = some S) (hp : p ≤ t.length) (hl : 33 ≤ l ∧ l ≤ 126) (hok : E.Ok) (_hw : X.window ≤ 4)
  (hr : E.refusal X.window = 0) (hm : t.length < 60) (hi4 : i < 4) :
  Calls Try.prog 25 #[.pointer (some ⟨b, 0, none⟩), .int .i64 i, .int .i64 p, .int .u8 l] w fun e w' => e = .returned (.int .i64 0) ∧ ∃ own', RoomX own' rid w' b { X with texts := X.texts.set i (insB t p l), ends := X.ends.set i (E.make ⟨i, 1, p, l⟩ X.window) } ∧ Upd own own' (inRoom rid) w w' := by
 obtain ⟨mb, eb, sb, tbi, tb, c1, lk, _, hE1, hT1, _, hput⟩ := h.yes ht hE hS
 have c0 := hE1.ptr
 have HL : Hid (∀ w1, Below w.heap.size w w1 → Calls Try.prog 38 #[.pointer (some ⟨tbi, 0, none⟩)] w1 fun e w' => e = .returned (.int .i64 t.length) ∧ w' = w1) := hide fun w1 hb => xlength own rid (2 * i) tbi t w1 (hT1.upd (Upd.of_below own (fun _ => False) hb) (fun h => h) (fun h => h))
 have hq : Calls Try.prog 39 #[.int .u8 l] w fun e w' => e = .returned (.bool true) ∧ w' = w := by
  have := xisLetter l w
  rwa [show decide (33 ≤ (l : Int) ∧ (l : Int) ≤ 126) = true from by simp; omega] at this
 have HQ := hide hq
 have hr0 := xrefusal own rid (2 * i) eb tbi X.window E w hE1 (by have := hok.made; omega)
 rw [hr] at hr0
 have ebl := World.block_lt_of_cell? _ _ c0
 have HR : Hid (Calls Try.prog 40 #[.pointer (some ⟨eb, 0, none⟩)] w fun e w' => e = .returned (.int .i64 0) ∧ Below w.heap.size w w' ∧ w'.cell? ⟨eb, 0, none⟩ = some (.pointer (some ⟨tbi, 0, none⟩))) := hide (hr0.mono fun e w' ⟨h1, h2⟩ => ⟨h1, h2, (h2.cell (p := ⟨eb, 0, none⟩) ebl).trans c0⟩)
 have HC : Hid (∀ w1, Below w.heap.size w w1 → Calls Try.prog 41 #[.pointer (some ⟨eb, 0, none⟩), .agg #[.int .i64 i, .int .i64 1, .int .i64 p, .int .u8 l]] w1 fun e w' => e = .returned (.tuple #[]) ∧
   ∃ own', RoomX own' rid w' b { X with texts := X.texts.set i (insB t p l), ends := X.ends.set i (E.make ⟨i, 1, p, l⟩ X.window) } ∧ Upd own own' (inRoom rid) w w') := by
  apply hide
  intro w1 hb
  have U := Upd.of_below own (fun _ => False) hb
  have hs : ROp.Small ⟨i, 1, p, l⟩ := ⟨⟨by simp, by simp; omega⟩, ⟨by simp, by simp⟩, ⟨by simp, by simp; omega⟩, ⟨by simp, by simp; omega⟩⟩
  refine (xchange own rid (2 * i) eb tbi X.window E t (insB t p l) ⟨i, 1, p, l⟩ w1 (hE1.upd U (fun _ _ _ h => h)) (hT1.upd U (fun h => h) (fun h => h)) hs (by have := hok.made; omega) hok.taken hok.flying hok.opn (fun own1 w2 hT2 => xdo_put own1 rid (2 * i) tbi t i p l w2 hT2 hp (by omega) (by omega))).mono ?_
  rintro e w' ⟨rfl, own', a1, a2, a3⟩
  have U2 := (U.mono (may' := inClient rid (2 * i)) (fun _ h => h.elim)).trans a3
  exact ⟨rfl, own', hput own' w' _ _ U2 a1 a2, U2.mono (fun _ h => h.1)⟩
 have hp0 : ¬ (p : Int) < 0 := by omega
 have hp1 : ¬ (t.length : Int) < (p : Int) := by omega
 have hm1 : ¬ (60 : Int) ≤ (t.length : Int) := by omega
 have B0 := hide (Below.refl w.heap.size w)
 clear h hE1 hT1 hl hq hr hr0 hput
 go_enter Try.func25, Try.ntmps25
 go_wp2_with (first | (go_at_call 38; refine (unhide HL _ (by first | exact hb1 | exact unhide B0)).mono ?_; rintro e w' ⟨rfl, rfl⟩) | (go_at_call 39; refine (unhide HQ).mono ?_; rintro e w' ⟨rfl, rfl⟩) | (go_at_call 40; refine (unhide HR).mono ?_; rintro e w1 ⟨rfl, hb1, c01⟩) | (go_at_call 41; refine (unhide HC _ hb1).mono ?_; rintro e w2 ⟨rfl, hF⟩))
 go_ret
 exact ⟨rfl, hF⟩
end Go.Proofs.Ytemkgikncmhoaaa

namespace Go.Proofs.Ytemkgikncmhoaaa
open Go.RowKit

set_option maxRecDepth 100000 in
set_option maxHeartbeats 400000 in
theorem xcut_client (own : Nat → Tag) (rid b : Nat) (X : IRoom) (c p : Int) (w : World) (h : RoomX own rid w b X) (hc : I64 c) (hn : ¬ (0 ≤ c ∧ c < X.texts.length)) :
  Calls Try.prog 37 #[.pointer (some ⟨b, 0, none⟩), .int .i64 c, .int .i64 p] w fun e w' => e = .returned (.int .i64 2) ∧ w' = w := by
 obtain ⟨mb, c1, lk⟩ := h.no hc hn false
 clear h hn hc
 go_enter Try.func37, Try.ntmps37
 go_wp2
 go_ret
 exact ⟨rfl, rfl⟩

set_option maxRecDepth 100000 in
set_option maxHeartbeats 400000 in
theorem xcut_place (own : Nat → Tag) (rid b : Nat) (X : IRoom) (i : Nat) (p : Int) (t : List UInt8) (E S : IEnd) (w : World) (h : RoomX own rid w b X) (ht : X.texts[i]? = some t) (hE : X.ends[i]? = some E) (hS : X.sends[i]? = some S) (hp : p < 0 ∨ p ≥ t.length) :
  Calls Try.prog 37 #[.pointer (some ⟨b, 0, none⟩), .int .i64 i, .int .i64 p] w fun e w' => e = .returned (.int .i64 3) ∧ w' = w := by
 obtain ⟨mb, eb, sb, tbi, tb, c1, lk, _, hE1, hT1, _, _⟩ := h.yes ht hE hS
 have c0 := hE1.ptr
 have HL := hide (xlength own rid (2 * i) tbi t w hT1)
 clear h hE1 hT1
 by_cases hp0 : p < 0
 ·clear hp
  go_enter Try.func37, Try.ntmps37
  go_wp2_with (first | (go_at_call 38; refine (unhide HL).mono ?_; rintro e w' ⟨rfl, rfl⟩))
  go_ret
  exact ⟨rfl, rfl⟩
 ·have hp1 : (t.length : Int) ≤ p := by omega
  clear hp
  go_enter Try.func37, Try.ntmps37
  go_wp2_with (first | (go_at_call 38; refine (unhide HL).mono ?_; rintro e w' ⟨rfl, rfl⟩))
  go_ret
  exact ⟨rfl, rfl⟩

set_option maxRecDepth 100000 in
set_option maxHeartbeats 400000 in
theorem xcut_refused (own : Nat → Tag) (rid b : Nat) (X : IRoom) (i p : Nat) (t : List UInt8) (E S : IEnd) (w : World) (h : RoomX own rid w b X) (ht : X.texts[i]? = some t) (hE : X.ends[i]? = some E) (hS : X.sends[i]? = some S) (hp : p < t.length) (hok : E.Ok) (_hw : X.window ≤ 4)
  (hr : E.refusal X.window ≠ 0) :
  Calls Try.prog 37 #[.pointer (some ⟨b, 0, none⟩), .int .i64 i, .int .i64 p] w fun e w' => e = .returned (.int .i64 (E.refusal X.window)) ∧ Below w.heap.size w w' := by
 obtain ⟨mb, eb, sb, tbi, tb, c1, lk, _, hE1, hT1, _, _⟩ := h.yes ht hE hS
 have c0 := hE1.ptr
 have HL := hide (xlength own rid (2 * i) tbi t w hT1)
 have HR := hide (xrefusal own rid (2 * i) eb tbi X.window E w hE1 (by have := hok.made; omega))
 have hp0 : ¬ (p : Int) < 0 := by omega
 have hp1 : ¬ (t.length : Int) ≤ (p : Int) := by omega
 generalize E.refusal X.window = rf at *
 have hrf : (rf == 0) = false := by simpa using hr
 have hrf' : (rf != 0) = true := by simpa using hr
 clear h hE1 hT1 hr
 go_enter Try.func37, Try.ntmps37
 go_wp2_with (first | (go_at_call 38; refine (unhide HL).mono ?_; rintro e w' ⟨rfl, rfl⟩) | (go_at_call 40; refine (unhide HR).mono ?_; rintro e w1 ⟨rfl, hb1⟩))
 go_ret
 exact ⟨rfl, hb1⟩

set_option maxRecDepth 100000 in
set_option maxHeartbeats 400000 in
theorem xcut_ok (own : Nat → Tag) (rid b : Nat) (X : IRoom) (i p : Nat) (t : List UInt8) (E S : IEnd) (w : World) (h : RoomX own rid w b X) (ht : X.texts[i]? = some t) (hE : X.ends[i]? = some E) (hS : X.sends[i]? = some S) (hp : p < t.length) (hok : E.Ok) (_hw : X.window ≤ 4)
  (hr : E.refusal X.window = 0) (hm : t.length ≤ 240) (hi4 : i < 4) :
  Calls Try.prog 37 #[.pointer (some ⟨b, 0, none⟩), .int .i64 i, .int .i64 p] w fun e w' => e = .returned (.int .i64 0) ∧ ∃ own', RoomX own' rid w' b { X with texts := X.texts.set i (delB t p), ends := X.ends.set i (E.make ⟨i, 2, p, 0⟩ X.window) } ∧ Upd own own' (inRoom rid) w w' := by
 obtain ⟨mb, eb, sb, tbi, tb, c1, lk, _, hE1, hT1, _, hput⟩ := h.yes ht hE hS
 have c0 := hE1.ptr
 have HL := hide (xlength own rid (2 * i) tbi t w hT1)
 have hr0 := xrefusal own rid (2 * i) eb tbi X.window E w hE1 (by have := hok.made; omega)
 rw [hr] at hr0
 have HR := hide hr0
 have HC : Hid (∀ w1, Below w.heap.size w w1 → Calls Try.prog 41 #[.pointer (some ⟨eb, 0, none⟩), .agg #[.int .i64 i, .int .i64 2, .int .i64 p, .int .u8 0]] w1 fun e w' => e = .returned (.tuple #[]) ∧
   ∃ own', RoomX own' rid w' b { X with texts := X.texts.set i (delB t p), ends := X.ends.set i (E.make ⟨i, 2, p, 0⟩ X.window) } ∧ Upd own own' (inRoom rid) w w') := by
  apply hide
  intro w1 hb
  have U := Upd.of_below own (fun _ => False) hb
  have hs : ROp.Small ⟨i, 2, p, 0⟩ := ⟨⟨by simp, by simp; omega⟩, ⟨by simp, by simp⟩, ⟨by simp, by simp; omega⟩, ⟨by simp, by simp⟩⟩
  refine (xchange own rid (2 * i) eb tbi X.window E t (delB t p) ⟨i, 2, p, 0⟩ w1 (hE1.upd U (fun _ _ _ h => h)) (hT1.upd U (fun h => h) (fun h => h)) hs (by have := hok.made; omega) hok.taken hok.flying hok.opn (fun own1 w2 hT2 => xdo_cut own1 rid (2 * i) tbi t i p 0 w2 hT2 hp (by omega))).mono ?_
  rintro e w' ⟨rfl, own', a1, a2, a3⟩
  have U2 := (U.mono (may' := inClient rid (2 * i)) (fun _ h => h.elim)).trans a3
  exact ⟨rfl, own', hput own' w' _ _ U2 a1 a2, U2.mono (fun _ h => h.1)⟩
 have hp0 : ¬ (p : Int) < 0 := by omega
 have hp1 : ¬ (t.length : Int) ≤ (p : Int) := by omega
 clear h hE1 hT1 hr hr0 hput
 go_enter Try.func37, Try.ntmps37
 go_wp2_with (first | (go_at_call 38; refine (unhide HL).mono ?_; rintro e w' ⟨rfl, rfl⟩) | (go_at_call 40; refine (unhide HR).mono ?_; rintro e w1 ⟨rfl, hb1⟩) | (go_at_call 41; refine (unhide HC _ hb1).mono ?_; rintro e w2 ⟨rfl, hF⟩))
 go_ret
 exact ⟨rfl, hF⟩
end Go.Proofs.Ytemkgikncmhoaaa

namespace Go.Proofs.Ytemkgikncmhoaaa
open Go.RowKit

set_option maxRecDepth 100000 in
set_option maxHeartbeats 400000 in
theorem xread_server (own : Nat → Tag) (rid b : Nat) (X : IRoom) (w : World) (h : RoomX own rid w b X) :
  Calls Try.prog 15 #[.pointer (some ⟨b, 0, none⟩), .int .i64 (-1)] w fun e w' => e = .returned (.tuple #[bstr X.server, .int .i64 0]) ∧ w' = w := by
 obtain ⟨tb, mb, ents, clock, es, ts, h⟩ := h
 have c0 : w.cell? ⟨b, 0, none⟩ = some (.pointer (some ⟨tb, 0, none⟩)) := by rw [h.cells.cell]; rfl
 have HT := hide (xtold own rid 100 tb X.server w h.text)
 clear h
 unfold bstr at HT ⊢
 go_enter Try.func15, Try.ntmps15
 go_wp2_with (first | (go_at_call 35; refine (unhide HT).mono ?_; rintro e w' ⟨rfl, rfl⟩))
 go_ret2
 exact ⟨rfl, rfl⟩
set_option maxRecDepth 100000 in
set_option maxHeartbeats 400000 in
theorem xread_no (own : Nat → Tag) (rid b : Nat) (X : IRoom) (c : Int) (w : World) (h : RoomX own rid w b X) (hc : I64 c) (hn : ¬ (0 ≤ c ∧ c < X.texts.length)) (hc1 : c ≠ -1) :
  Calls Try.prog 15 #[.pointer (some ⟨b, 0, none⟩), .int .i64 c] w fun e w' => e = .returned (.tuple #[.string ⟨#[]⟩, .int .i64 2]) ∧ w' = w := by
 obtain ⟨mb, c1, lk⟩ := h.no hc hn false
 have hq : (c == -1) = false := by simpa using hc1
 clear h hc hc1 hn
 go_enter Try.func15, Try.ntmps15
 go_wp2
 go_ret2
 exact ⟨rfl, rfl⟩
set_option maxRecDepth 100000 in
set_option maxHeartbeats 400000 in
theorem xread_yes (own : Nat → Tag) (rid b : Nat) (X : IRoom) (i : Nat) (t : List UInt8) (E S : IEnd) (w : World) (h : RoomX own rid w b X) (ht : X.texts[i]? = some t) (hE : X.ends[i]? = some E) (hS : X.sends[i]? = some S) :
  Calls Try.prog 15 #[.pointer (some ⟨b, 0, none⟩), .int .i64 i] w fun e w' => e = .returned (.tuple #[bstr t, .int .i64 0]) ∧ w' = w := by
 obtain ⟨mb, eb, sb, tbi, tb, c1, lk, _, hE1, hT1, _, _⟩ := h.yes ht hE hS
 have c0 : w.cell? ⟨eb, 0, none⟩ = some (.pointer (some ⟨tbi, 0, none⟩)) := hE1.c0
 have HT := hide (xtold own rid (2 * i) tbi t w hT1)
 have hq : ((i : Int) == -1) = false := by rw [beq_eq_false_iff_ne]; omega
 clear h hE1 hT1
 unfold bstr at HT ⊢
 go_enter Try.func15, Try.ntmps15
 go_wp2_with (first | (go_at_call 35; refine (unhide HT).mono ?_; rintro e w' ⟨rfl, rfl⟩))
 go_ret2
 exact ⟨rfl, rfl⟩
set_option maxRecDepth 100000 in
set_option maxHeartbeats 400000 in
theorem xwaits_no (own : Nat → Tag) (rid b : Nat) (X : IRoom) (c : Int) (w : World) (h : RoomX own rid w b X) (hc : I64 c) (hn : ¬ (0 ≤ c ∧ c < X.texts.length)) :
  Calls Try.prog 19 #[.pointer (some ⟨b, 0, none⟩), .int .i64 c] w fun e w' => e = .returned (.tuple #[.int .i64 0, .int .i64 2]) ∧ w' = w := by
 obtain ⟨mb, c1, lk⟩ := h.no hc hn false
 clear h hc hn
 go_enter Try.func19, Try.ntmps19
 go_wp2
 go_ret2
 exact ⟨rfl, rfl⟩
set_option maxRecDepth 100000 in
set_option maxHeartbeats 400000 in
theorem xwaits_yes (own : Nat → Tag) (rid b : Nat) (X : IRoom) (i : Nat) (t : List UInt8) (E S : IEnd) (w : World) (h : RoomX own rid w b X) (ht : X.texts[i]? = some t) (hE : X.ends[i]? = some E) (hS : X.sends[i]? = some S) :
  Calls Try.prog 19 #[.pointer (some ⟨b, 0, none⟩), .int .i64 i] w fun e w' => e = .returned (.tuple #[.int .i64 E.waiting.length, .int .i64 0]) ∧ w' = w := by
 obtain ⟨mb, eb, sb, tbi, tb, c1, lk, _, hE1, hT1, _, _⟩ := h.yes ht hE hS
 have HW := hide (xwaits own rid (2 * i) eb tbi X.window E w hE1)
 clear h hE1 hT1
 go_enter Try.func19, Try.ntmps19
 go_wp2_with (first | (go_at_call 36; refine (unhide HW).mono ?_; rintro e w' ⟨rfl, rfl⟩))
 go_ret2
 exact ⟨rfl, rfl⟩
set_option maxRecDepth 100000 in
set_option maxHeartbeats 400000 in
theorem xflying_no (own : Nat → Tag) (rid b : Nat) (X : IRoom) (c : Int) (d : Bool) (w : World) (h : RoomX own rid w b X) (hc : I64 c) (hn : ¬ (0 ≤ c ∧ c < X.texts.length)) :
  Calls Try.prog 26 #[.pointer (some ⟨b, 0, none⟩), .int .i64 c, .bool d] w fun e w' => e = .returned (.tuple #[.int .i64 0, .int .i64 2]) ∧ w' = w := by
 obtain ⟨mb, c1, lk⟩ := h.no hc hn d
 clear h hc hn
 go_enter Try.func26, Try.ntmps26
 go_wp2
 go_ret2
 exact ⟨rfl, rfl⟩
set_option maxRecDepth 100000 in
set_option maxHeartbeats 400000 in
theorem xpeek_no (own : Nat → Tag) (rid b : Nat) (X : IRoom) (c : Int) (d : Bool) (n : Int) (w : World) (h : RoomX own rid w b X) (hc : I64 c) (hn : ¬ (0 ≤ c ∧ c < X.texts.length)) :
  Calls Try.prog 48 #[.pointer (some ⟨b, 0, none⟩), .int .i64 c, .bool d, .int .i64 n] w fun e w' => e = .returned (.tuple #[.string ⟨#[]⟩, .int .i64 2]) ∧ w' = w := by
 obtain ⟨mb, c1, lk⟩ := h.no hc hn d
 clear h hc hn
 go_enter Try.func48, Try.ntmps48
 go_wp2
 go_ret2
 exact ⟨rfl, rfl⟩
set_option maxRecDepth 100000 in
set_option maxHeartbeats 400000 in
theorem xflying_0 (own : Nat → Tag) (rid b : Nat) (X : IRoom) (i : Nat) (t : List UInt8) (E S : IEnd) (w : World) (h : RoomX own rid w b X) (ht : X.texts[i]? = some t) (hE : X.ends[i]? = some E) (hS : X.sends[i]? = some S) :
  Calls Try.prog 26 #[.pointer (some ⟨b, 0, none⟩), .int .i64 i, .bool false] w fun e w' => e = .returned (.tuple #[.int .i64 E.flying.length, .int .i64 0]) ∧ w' = w := by
 obtain ⟨mb, eb, sb, tbi, tb, c1, lk0, lk1, hE0, hT1, hE1, _⟩ := h.yes ht hE hS
 obtain ⟨wv, ov, kb, fv, hc, hm, hop, hk, hf⟩ := hE0
 obtain ⟨fa, fc, rfl, _, _⟩ := hf.shape
 have c5 : w.cell? ⟨eb, 8, none⟩ = some (.slice fa E.flying.length fc) := by rw [hc.cell]; rfl
 clear h hc hm hop hk hf hT1
 go_enter Try.func26, Try.ntmps26
 go_wp2
 go_ret2
 exact ⟨rfl, rfl⟩
set_option maxRecDepth 100000 in
set_option maxHeartbeats 400000 in
theorem xpeek_0 (own : Nat → Tag) (rid b : Nat) (X : IRoom) (i : Nat) (q : Int) (t : List UInt8) (E S : IEnd) (w : World) (h : RoomX own rid w b X) (ht : X.texts[i]? = some t) (hE : X.ends[i]? = some E) (hS : X.sends[i]? = some S) (hq : q < 0 ∨ q ≥ E.flying.length) :
  Calls Try.prog 48 #[.pointer (some ⟨b, 0, none⟩), .int .i64 i, .bool false, .int .i64 q] w fun e w' => e = .returned (.tuple #[.string ⟨#[]⟩, .int .i64 7]) ∧ w' = w := by
 obtain ⟨mb, eb, sb, tbi, tb, c1, lk0, lk1, hE0, hT1, hE1, _⟩ := h.yes ht hE hS
 obtain ⟨wv, ov, kb, fv, hc, hm, hop, hk, hf⟩ := hE0
 obtain ⟨fa, fc, rfl, _, _⟩ := hf.shape
 have c5 : w.cell? ⟨eb, 8, none⟩ = some (.slice fa E.flying.length fc) := by rw [hc.cell]; rfl
 clear h hc hm hop hk hf hT1
 by_cases hq0 : q < 0
 ·clear hq
  go_enter Try.func48, Try.ntmps48
  go_wp2
  go_ret2
  exact ⟨rfl, rfl⟩
 ·have hq1 : (E.flying.length : Int) ≤ q := by omega
  clear hq
  go_enter Try.func48, Try.ntmps48
  go_wp2
  go_ret2
  exact ⟨rfl, rfl⟩
set_option maxRecDepth 100000 in
set_option maxHeartbeats 400000 in
theorem xpeek_0_yes (own : Nat → Tag) (rid b : Nat) (X : IRoom) (i q : Nat) (s : ByteArray) (t : List UInt8) (E S : IEnd) (w : World) (h : RoomX own rid w b X) (ht : X.texts[i]? = some t) (hE : X.ends[i]? = some E) (hS : X.sends[i]? = some S) (hq : E.flying[q]? = some s) :
  Calls Try.prog 48 #[.pointer (some ⟨b, 0, none⟩), .int .i64 i, .bool false, .int .i64 q] w fun e w' => e = .returned (.tuple #[.string s, .int .i64 0]) ∧ w' = w := by
 obtain ⟨mb, eb, sb, tbi, tb, c1, lk0, lk1, hE0, hT1, hE1, _⟩ := h.yes ht hE hS
 obtain ⟨wv, ov, kb, fv, hc, hm, hop, hk, hf⟩ := hE0
 obtain ⟨fg, fc, rfl, _, _, d1, _⟩ := hf.get (i := q) (u := .string s) (by simp [hq])
 have c5 : w.cell? ⟨eb, 8, none⟩ = some (.slice (some ⟨fg, 0, none⟩) E.flying.length fc) := by rw [hc.cell]; rfl
 have hq2 : (0 : Int) ≤ (q : Int) := by omega
 have hq3 : (q : Int) < (E.flying.length : Int) := by have := (List.getElem?_eq_some_iff.1 hq).1; omega
 have hq4 : ¬ (E.flying.length : Int) ≤ (q : Int) := by omega
 have hq5 : ¬ (q : Int) < 0 := by omega
 clear h hc hm hop hk hf hT1 hq
 go_enter Try.func48, Try.ntmps48
 go_wp2
 go_ret2
 exact ⟨rfl, rfl⟩
set_option maxRecDepth 100000 in
set_option maxHeartbeats 400000 in
theorem xflying_1 (own : Nat → Tag) (rid b : Nat) (X : IRoom) (i : Nat) (t : List UInt8) (E S : IEnd) (w : World) (h : RoomX own rid w b X) (ht : X.texts[i]? = some t) (hE : X.ends[i]? = some E) (hS : X.sends[i]? = some S) :
  Calls Try.prog 26 #[.pointer (some ⟨b, 0, none⟩), .int .i64 i, .bool true] w fun e w' => e = .returned (.tuple #[.int .i64 S.flying.length, .int .i64 0]) ∧ w' = w := by
 obtain ⟨mb, eb, sb, tbi, tb, c1, lk0, lk1, hE0, hT1, hE1, _⟩ := h.yes ht hE hS
 obtain ⟨wv, ov, kb, fv, hc, hm, hop, hk, hf⟩ := hE1
 obtain ⟨fa, fc, rfl, _, _⟩ := hf.shape
 have c5 : w.cell? ⟨sb, 8, none⟩ = some (.slice fa S.flying.length fc) := by rw [hc.cell]; rfl
 clear h hc hm hop hk hf hT1
 go_enter Try.func26, Try.ntmps26
 go_wp2
 go_ret2
 exact ⟨rfl, rfl⟩
set_option maxRecDepth 100000 in
set_option maxHeartbeats 400000 in
theorem xpeek_1 (own : Nat → Tag) (rid b : Nat) (X : IRoom) (i : Nat) (q : Int) (t : List UInt8) (E S : IEnd) (w : World) (h : RoomX own rid w b X) (ht : X.texts[i]? = some t) (hE : X.ends[i]? = some E) (hS : X.sends[i]? = some S) (hq : q < 0 ∨ q ≥ S.flying.length) :
  Calls Try.prog 48 #[.pointer (some ⟨b, 0, none⟩), .int .i64 i, .bool true, .int .i64 q] w fun e w' => e = .returned (.tuple #[.string ⟨#[]⟩, .int .i64 7]) ∧ w' = w := by
 obtain ⟨mb, eb, sb, tbi, tb, c1, lk0, lk1, hE0, hT1, hE1, _⟩ := h.yes ht hE hS
 obtain ⟨wv, ov, kb, fv, hc, hm, hop, hk, hf⟩ := hE1
 obtain ⟨fa, fc, rfl, _, _⟩ := hf.shape
 have c5 : w.cell? ⟨sb, 8, none⟩ = some (.slice fa S.flying.length fc) := by rw [hc.cell]; rfl
 clear h hc hm hop hk hf hT1
 by_cases hq0 : q < 0
 ·clear hq
  go_enter Try.func48, Try.ntmps48
  go_wp2
  go_ret2
  exact ⟨rfl, rfl⟩
 ·have hq1 : (S.flying.length : Int) ≤ q := by omega
  clear hq
  go_enter Try.func48, Try.ntmps48
  go_wp2
  go_ret2
  exact ⟨rfl, rfl⟩
set_option maxRecDepth 100000 in
set_option maxHeartbeats 400000 in
theorem xpeek_1_yes (own : Nat → Tag) (rid b : Nat) (X : IRoom) (i q : Nat) (s : ByteArray) (t : List UInt8) (E S : IEnd) (w : World) (h : RoomX own rid w b X) (ht : X.texts[i]? = some t) (hE : X.ends[i]? = some E) (hS : X.sends[i]? = some S) (hq : S.flying[q]? = some s) :
  Calls Try.prog 48 #[.pointer (some ⟨b, 0, none⟩), .int .i64 i, .bool true, .int .i64 q] w fun e w' => e = .returned (.tuple #[.string s, .int .i64 0]) ∧ w' = w := by
 obtain ⟨mb, eb, sb, tbi, tb, c1, lk0, lk1, hE0, hT1, hE1, _⟩ := h.yes ht hE hS
 obtain ⟨wv, ov, kb, fv, hc, hm, hop, hk, hf⟩ := hE1
 obtain ⟨fg, fc, rfl, _, _, d1, _⟩ := hf.get (i := q) (u := .string s) (by simp [hq])
 have c5 : w.cell? ⟨sb, 8, none⟩ = some (.slice (some ⟨fg, 0, none⟩) S.flying.length fc) := by rw [hc.cell]; rfl
 have hq2 : (0 : Int) ≤ (q : Int) := by omega
 have hq3 : (q : Int) < (S.flying.length : Int) := by have := (List.getElem?_eq_some_iff.1 hq).1; omega
 have hq4 : ¬ (S.flying.length : Int) ≤ (q : Int) := by omega
 have hq5 : ¬ (q : Int) < 0 := by omega
 clear h hc hm hop hk hf hT1 hq
 go_enter Try.func48, Try.ntmps48
 go_wp2
 go_ret2
 exact ⟨rfl, rfl⟩
end Go.Proofs.Ytemkgikncmhoaaa

namespace Go.Proofs.Ytemkgikncmhoaaa
open Go.RowKit

/-- The room behind a call. -/
def After (own : Nat → Tag) (rid b : Nat) (w : World) (X' : IRoom) (w' : World) : Prop := ∃ own', RoomX own' rid w' b X' ∧ Upd own own' (inRoom rid) w w'
section
variable {own : Nat → Tag} {rid b i : Nat} {X : IRoom} {w : World}
theorem Fit.hi4 (f : Fit X) (hi : i < X.texts.length) : i < 4 := by
 obtain ⟨us, ds, T, hr⟩ := f.rows
 have := hr.n4
 omega
theorem Fit.win (f : Fit X) : 1 ≤ X.window ∧ X.window ≤ 4 := by
 obtain ⟨us, ds, T, hr⟩ := f.rows
 exact ⟨hr.w1, hr.w4⟩
theorem Fit.lens (f : Fit X) (hi : i < X.texts.length) : (X.tx i).length ≤ 240 ∧ (X.e i).flying.length ≤ 12 ∧ (X.s i).flying.length ≤ 12 ∧ (X.e i).waiting.length ≤ X.window := by
 obtain ⟨us, ds, T, hr⟩ := f.rows
 obtain ⟨g1, g2, g3⟩ := hr.at' hi
 obtain ⟨_, hw, _⟩ := hr.line i _ _ _ g1 g2 g3
 exact ⟨hr.text240 g1 g2 g3, (hr.waitA g1 g2 g3).2.2.2, (hr.waitB g1 g2 g3).2.2.2, hw⟩
theorem kTick_0 (h : RoomX own rid w b X) (f : Fit X) (hi : i < X.texts.length) : Calls Try.prog 34 #[.pointer (some ⟨b, 0, none⟩), .int .i64 i, .bool false] w fun e w' => e = .returned (.int .i64 0) ∧ After own rid b w (X.tickA i) w' := by
 obtain ⟨us, ds, T, hr⟩ := f.rows
 obtain ⟨g1, g2, g3⟩ := hr.at' hi
 obtain ⟨a1, a2, a3, a4⟩ := hr.waitA g1 g2 g3
 have : (X.e i).made = (X.e i).known + (X.e i).waiting.length := rfl
 exact xTick_0 own rid b X i _ _ _ w h g1 g2 g3 (f.hi4 hi) hr.w4 (by omega) (by omega) a4 a1
theorem kTick_1 (h : RoomX own rid w b X) (f : Fit X) (hi : i < X.texts.length) : Calls Try.prog 34 #[.pointer (some ⟨b, 0, none⟩), .int .i64 i, .bool true] w fun e w' => e = .returned (.int .i64 0) ∧ After own rid b w (X.tickB i) w' := by
 obtain ⟨us, ds, T, hr⟩ := f.rows
 obtain ⟨g1, g2, g3⟩ := hr.at' hi
 obtain ⟨a1, a2, a3, a4⟩ := hr.waitB g1 g2 g3
 have : (X.s i).made = (X.s i).known + (X.s i).waiting.length := rfl
 exact xTick_1 own rid b X i _ _ _ w h g1 g2 g3 (f.hi4 hi) hr.w4 (by omega) (by omega) a4 a1
theorem kUp (h : RoomX own rid w b X) (f : Fit X) (hi : i < X.texts.length) {n : Nat} (hn : n < (X.e i).flying.length) : Calls Try.prog 27 #[.pointer (some ⟨b, 0, none⟩), .int .i64 i, .bool false, .int .i64 n, .int .i64 0] w fun e w' => e = .returned (.int .i64 0) ∧ After own rid b w (X.up i n) w' := by
 obtain ⟨us, ds, T, hr⟩ := f.rows
 obtain ⟨g1, g2, g3⟩ := hr.at' hi
 obtain ⟨A, h⟩ := h.addr
 have hd : (X.e i).flying[n]? = some (X.e i).flying[n] := List.getElem?_eq_getElem hn
 unfold IRoom.up
 rw [hd]
 refine (xR_up A own rid b X us ds T hr i n _ _ _ _ w h g1 g2 g3 hd).mono ?_
 rintro e w' ⟨rfl, own', a1, a2⟩
 exact ⟨rfl, own', a1.room, a2⟩
theorem kDown (h : RoomX own rid w b X) (f : Fit X) (hi : i < X.texts.length) {n : Nat} (hn : n < (X.s i).flying.length) : Calls Try.prog 27 #[.pointer (some ⟨b, 0, none⟩), .int .i64 i, .bool true, .int .i64 n, .int .i64 0] w fun e w' => e = .returned (.int .i64 0) ∧ After own rid b w (X.down i n) w' := by
 obtain ⟨us, ds, T, hr⟩ := f.rows
 obtain ⟨g1, g2, g3⟩ := hr.at' hi
 obtain ⟨A, h⟩ := h.addr
 have hd : (X.s i).flying[n]? = some (X.s i).flying[n] := List.getElem?_eq_getElem hn
 unfold IRoom.down
 rw [hd]
 refine (xR_down A own rid b X us ds T hr i n _ _ _ _ w h g1 g2 g3 hd).mono ?_
 rintro e w' ⟨rfl, own', a1, a2⟩
 exact ⟨rfl, own', a1.room, a2⟩
/-- How what flies is spoilt, by the program. -/
theorem Flies.spoils {own : List GMsg} {taken : Nat} {d : ByteArray} (h : Flies own taken d) (ht : taken ≤ 255) (hb : ∀ n tk, 1 ≤ n → n ≤ own.length → tk ≤ 255 → Bytes ((imsg own n).bytes tk)) :
  (readD d = none ∧ ∀ w, Calls Try.prog 77 #[.string d] w fun e w' => e = .returned (.bool true) ∧ w' = w) ∨
  (readD d ≠ none ∧ (∀ w, Calls Try.prog 77 #[.string d] w fun e w' => e = .returned (.bool false) ∧ w' = w) ∧ (∀ w, Calls Try.prog 78 #[.string d] w fun e w' => e = .returned (.string (spoil d)) ∧ Below w.heap.size w w')) := by
 rcases h with h | ⟨d0, h, rfl⟩
 ·rcases h with ⟨n, tk, h1, h2, h3⟩ | ⟨tk, h3⟩
  ·obtain ⟨_, _, _, _, r5, r6, _⟩ := reads_msg _ _ (hb n tk h1 h2 (by omega))
   exact .inr ⟨by rw [readD_msg _ _ (hb n tk h1 h2 (by omega))]; simp, r5, r6⟩
  ·obtain ⟨_, _, _, r4, r5, _⟩ := reads_word tk (by omega)
   exact .inr ⟨by rw [readD_word tk (by omega)]; simp, r4, r5⟩
 ·rcases h with ⟨n, tk, h1, h2, h3⟩ | ⟨tk, h3⟩
  ·obtain ⟨_, _, _, _, _, _, _, r8⟩ := reads_msg _ _ (hb n tk h1 h2 (by omega))
   exact .inl ⟨readD_msg_spoilt _ _, r8⟩
  ·obtain ⟨_, _, _, _, _, _, r7⟩ := reads_word tk (by omega)
   exact .inl ⟨readD_word_spoilt _, r7⟩
theorem kLose_0 (h : RoomX own rid w b X) (f : Fit X) (hi : i < X.texts.length) {n : Nat} (hn : n < (X.e i).flying.length) : Calls Try.prog 27 #[.pointer (some ⟨b, 0, none⟩), .int .i64 i, .bool false, .int .i64 n, .int .i64 1] w fun e w' => e = .returned (.int .i64 0) ∧ After own rid b w (X.setA i (X.tx i) ((X.e i).lose n)) w' := by
 obtain ⟨g1, g2, g3⟩ := f.get hi
 obtain ⟨A, h⟩ := h.addr
 refine (xR_lose_0 A own rid b X i n _ _ _ w h g1 g2 g3 (f.hi4 hi) hn (f.lens hi).2.1).mono ?_
 rintro e w' ⟨rfl, own', a1, a2⟩
 exact ⟨rfl, own', a1.room, a2⟩
theorem kDouble_0 (h : RoomX own rid w b X) (f : Fit X) (hi : i < X.texts.length) {n : Nat} {d : ByteArray} (hd : (X.e i).flying[n]? = some d) : Calls Try.prog 27 #[.pointer (some ⟨b, 0, none⟩), .int .i64 i, .bool false, .int .i64 n, .int .i64 2] w fun e w' => e = .returned (.int .i64 0) ∧ After own rid b w (X.setA i (X.tx i) ((X.e i).fly d)) w' := by
 obtain ⟨g1, g2, g3⟩ := f.get hi
 obtain ⟨A, h⟩ := h.addr
 refine (xR_double_0 A own rid b X i n _ _ _ _ w h g1 g2 g3 (f.hi4 hi) hd (f.lens hi).2.1).mono ?_
 rintro e w' ⟨rfl, own', a1, a2⟩
 exact ⟨rfl, own', a1.room, a2⟩
/-- Spoiling, once. -/
theorem kSpoil_0 (h : RoomX own rid w b X) (f : Fit X) (hi : i < X.texts.length) {n : Nat} {d : ByteArray} (hd : (X.e i).flying[n]? = some d) : Calls Try.prog 27 #[.pointer (some ⟨b, 0, none⟩), .int .i64 i, .bool false, .int .i64 n, .int .i64 3] w fun e w' => (readD d = none ∧ e = .returned (.int .i64 8) ∧ After own rid b w X w') ∨ (readD d ≠ none ∧ e = .returned (.int .i64 0) ∧ After own rid b w (X.setA i (X.tx i) { X.e i with flying := (X.e i).flying.set n (spoil d) }) w') := by
 obtain ⟨us, ds, T, hr⟩ := f.rows
 obtain ⟨g1, g2, g3⟩ := hr.at' hi
 obtain ⟨A, h⟩ := h.addr
 have hf := (hr.pair hi).a.flies d (List.mem_of_getElem? hd)
 have ht := (hr.waitA g1 g2 g3).2.2.1
 rcases hf.spoils (by omega) (fun n tk a b c => hr.bytesA g1 g2 g3 a b c) with ⟨r, s⟩ | ⟨r, s1, s2⟩
 ·refine (xR_twice_0 A own rid b X i n _ _ _ _ w h g1 g2 g3 hd (f.lens hi).2.1 s).mono ?_
  rintro e w' ⟨rfl, own', a1, a2⟩
  exact .inl ⟨r, rfl, own', a1.room, a2⟩
 ·refine (xR_spoil_0 A own rid b X i n _ _ _ _ _ w h g1 g2 g3 (f.hi4 hi) hd (f.lens hi).2.1 s1 s2).mono ?_
  rintro e w' ⟨rfl, own', a1, a2⟩
  exact .inr ⟨r, rfl, own', a1.room, a2⟩
theorem kLose_1 (h : RoomX own rid w b X) (f : Fit X) (hi : i < X.texts.length) {n : Nat} (hn : n < (X.s i).flying.length) : Calls Try.prog 27 #[.pointer (some ⟨b, 0, none⟩), .int .i64 i, .bool true, .int .i64 n, .int .i64 1] w fun e w' => e = .returned (.int .i64 0) ∧ After own rid b w (X.setB i ((X.s i).lose n)) w' := by
 obtain ⟨g1, g2, g3⟩ := f.get hi
 obtain ⟨A, h⟩ := h.addr
 refine (xR_lose_1 A own rid b X i n _ _ _ w h g1 g2 g3 (f.hi4 hi) hn (f.lens hi).2.2.1).mono ?_
 rintro e w' ⟨rfl, own', a1, a2⟩
 exact ⟨rfl, own', a1.room, a2⟩
theorem kDouble_1 (h : RoomX own rid w b X) (f : Fit X) (hi : i < X.texts.length) {n : Nat} {d : ByteArray} (hd : (X.s i).flying[n]? = some d) : Calls Try.prog 27 #[.pointer (some ⟨b, 0, none⟩), .int .i64 i, .bool true, .int .i64 n, .int .i64 2] w fun e w' => e = .returned (.int .i64 0) ∧ After own rid b w (X.setB i ((X.s i).fly d)) w' := by
 obtain ⟨g1, g2, g3⟩ := f.get hi
 obtain ⟨A, h⟩ := h.addr
 refine (xR_double_1 A own rid b X i n _ _ _ _ w h g1 g2 g3 (f.hi4 hi) hd (f.lens hi).2.2.1).mono ?_
 rintro e w' ⟨rfl, own', a1, a2⟩
 exact ⟨rfl, own', a1.room, a2⟩
/-- Spoiling, once. -/
theorem kSpoil_1 (h : RoomX own rid w b X) (f : Fit X) (hi : i < X.texts.length) {n : Nat} {d : ByteArray} (hd : (X.s i).flying[n]? = some d) : Calls Try.prog 27 #[.pointer (some ⟨b, 0, none⟩), .int .i64 i, .bool true, .int .i64 n, .int .i64 3] w fun e w' => (readD d = none ∧ e = .returned (.int .i64 8) ∧ After own rid b w X w') ∨ (readD d ≠ none ∧ e = .returned (.int .i64 0) ∧ After own rid b w (X.setB i { X.s i with flying := (X.s i).flying.set n (spoil d) }) w') := by
 obtain ⟨us, ds, T, hr⟩ := f.rows
 obtain ⟨g1, g2, g3⟩ := hr.at' hi
 obtain ⟨A, h⟩ := h.addr
 have hf := (hr.pair hi).b.flies d (List.mem_of_getElem? hd)
 have ht := (hr.waitB g1 g2 g3).2.2.1
 rcases hf.spoils (by omega) (fun n tk a b c => hr.bytesB g1 g2 g3 a b c) with ⟨r, s⟩ | ⟨r, s1, s2⟩
 ·refine (xR_twice_1 A own rid b X i n _ _ _ _ w h g1 g2 g3 hd (f.lens hi).2.2.1 s).mono ?_
  rintro e w' ⟨rfl, own', a1, a2⟩
  exact .inl ⟨r, rfl, own', a1.room, a2⟩
 ·refine (xR_spoil_1 A own rid b X i n _ _ _ _ _ w h g1 g2 g3 (f.hi4 hi) hd (f.lens hi).2.2.1 s1 s2).mono ?_
  rintro e w' ⟨rfl, own', a1, a2⟩
  exact .inr ⟨r, rfl, own', a1.room, a2⟩
theorem Fit.ok (f : Fit X) (hi : i < X.texts.length) : (X.e i).Ok := by
 obtain ⟨us, ds, T, hr⟩ := f.rows
 obtain ⟨g1, g2, g3⟩ := hr.at' hi
 obtain ⟨hl, _, hu, _⟩ := hr.line i _ _ _ g1 g2 g3
 obtain ⟨_, _, a3, a4⟩ := hr.waitA g1 g2 g3
 exact ⟨by rw [hl.a.made]; omega, a3, a4, by rw [hl.a.opn, formsOf_length]; omega⟩
end
end Go.Proofs.Ytemkgikncmhoaaa

