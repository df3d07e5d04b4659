/-
  weave: (*Room).Put, Cut. Own work.
-/
import Derived.Test.YtemkgikncmhoaaaImpRoom
namespace Go.Proofs.Ytemkgikncmhoaaa
open Go.RowKit

theorem EndX.ptr {own : Nat → Tag} {rid k b tb window : Nat} {E : IEnd} {w : World} (h : EndX own rid k w b tb window E) : w.cell? ⟨b, 0, none⟩ = some (.pointer (some ⟨tb, 0, none⟩)) := h.c0

set_option maxRecDepth 100000 in
set_option maxHeartbeats 400000 in
theorem xput_place (own : Nat → Tag) (rid b : Nat) (X : IRoom) (i : Nat) (p l : Int) (t : List UInt8) (E S : IEnd) (w : World) (h : RoomX own rid w b X) (ht : X.texts[i]? = some t) (hE : X.ends[i]? = some E) (hS : X.sends[i]? = some S) (hp : p < 0 ∨ p > t.length) :
    Calls Try.prog 25 #[.pointer (some ⟨b, 0, none⟩), .int .i64 i, .int .i64 p, .int .u8 l] w fun e w' => e = .returned (.int .i64 3) ∧ w' = w := by
  obtain ⟨mb, eb, sb, tbi, tb, c1, lk, _, hE1, hT1, _, _⟩ := h.yes ht hE hS
  have c0 := hE1.ptr
  have HL := hide (xlength own rid (2 * i) tbi t w hT1)
  clear h hE1 hT1
  by_cases hp0 : p < 0
  · clear hp
    go_enter Try.func25, Try.ntmps25
    go_wp2_with (first | (go_at_call 38; refine (unhide HL).mono ?_; rintro e w' ⟨rfl, rfl⟩))
    go_ret
    exact ⟨rfl, rfl⟩
  · have hp1 : (t.length : Int) < p := by omega
    clear hp
    go_enter Try.func25, Try.ntmps25
    go_wp2_with (first | (go_at_call 38; refine (unhide HL).mono ?_; rintro e w' ⟨rfl, rfl⟩))
    go_ret
    exact ⟨rfl, rfl⟩

set_option maxRecDepth 100000 in
set_option maxHeartbeats 400000 in
theorem xput_letter (own : Nat → Tag) (rid b : Nat) (X : IRoom) (i p : Nat) (l : Int) (t : List UInt8) (E S : IEnd) (w : World) (h : RoomX own rid w b X) (ht : X.texts[i]? = some t) (hE : X.ends[i]? = some E) (hS : X.sends[i]? = some S) (hp : p ≤ t.length) (hl : l < 33 ∨ l > 126) :
    Calls Try.prog 25 #[.pointer (some ⟨b, 0, none⟩), .int .i64 i, .int .i64 p, .int .u8 l] w fun e w' => e = .returned (.int .i64 4) ∧ w' = w := by
  obtain ⟨mb, eb, sb, tbi, tb, c1, lk, _, hE1, hT1, _, _⟩ := h.yes ht hE hS
  have c0 := hE1.ptr
  have HL := hide (xlength own rid (2 * i) tbi t w hT1)
  have hq : Calls Try.prog 39 #[.int .u8 l] w fun e w' => e = .returned (.bool false) ∧ w' = w := by
    have := xisLetter l w
    rwa [show decide (33 ≤ l ∧ l ≤ 126) = false from by simp; omega] at this
  have HQ := hide hq
  have hp0 : ¬ (p : Int) < 0 := by omega
  have hp1 : ¬ (t.length : Int) < (p : Int) := by omega
  clear h hE1 hT1 hl hq
  go_enter Try.func25, Try.ntmps25
  go_wp2_with (first | (go_at_call 38; refine (unhide HL).mono ?_; rintro e w' ⟨rfl, rfl⟩) | (go_at_call 39; refine (unhide HQ).mono ?_; rintro e w' ⟨rfl, rfl⟩))
  go_ret
  exact ⟨rfl, rfl⟩

/-- What is asked of an end's numbers. -/
structure IEnd.Ok (E : IEnd) : Prop where
  made : E.made ≤ 239
  taken : E.taken ≤ 240
  flying : E.flying.length ≤ 12
  opn : E.opn.length ≤ 240

set_option maxRecDepth 100000 in
set_option maxHeartbeats 400000 in
theorem xput_refused (own : Nat → Tag) (rid b : Nat) (X : IRoom) (i p l : Nat) (t : List UInt8) (E S : IEnd) (w : World) (h : RoomX own rid w b X) (ht : X.texts[i]? = some t) (hE : X.ends[i]? = some E) (hS : X.sends[i]? = some S) (hp : p ≤ t.length) (hl : 33 ≤ l ∧ l ≤ 126) (hok : E.Ok) (_hw : X.window ≤ 4)
    (hr : E.refusal X.window ≠ 0) :
    Calls Try.prog 25 #[.pointer (some ⟨b, 0, none⟩), .int .i64 i, .int .i64 p, .int .u8 l] w fun e w' => e = .returned (.int .i64 (E.refusal X.window)) ∧ Below w.heap.size w w' := by
  obtain ⟨mb, eb, sb, tbi, tb, c1, lk, _, hE1, hT1, _, _⟩ := h.yes ht hE hS
  have c0 := hE1.ptr
  have HL := hide (xlength own rid (2 * i) tbi t w hT1)
  have hq : Calls Try.prog 39 #[.int .u8 l] w fun e w' => e = .returned (.bool true) ∧ w' = w := by
    have := xisLetter l w
    rwa [show decide (33 ≤ (l : Int) ∧ (l : Int) ≤ 126) = true from by simp; omega] at this
  have HQ := hide hq
  have HR := hide (xrefusal own rid (2 * i) eb tbi X.window E w hE1 (by have := hok.made; omega))
  have hp0 : ¬ (p : Int) < 0 := by omega
  have hp1 : ¬ (t.length : Int) < (p : Int) := by omega
  generalize E.refusal X.window = rf at *
  have hrf : (rf == 0) = false := by simpa using hr
  have hrf' : (rf != 0) = true := by simpa using hr
  clear h hE1 hT1 hl hq hr
  go_enter Try.func25, Try.ntmps25
  go_wp2_with (first | (go_at_call 38; refine (unhide HL).mono ?_; rintro e w' ⟨rfl, rfl⟩) | (go_at_call 39; refine (unhide HQ).mono ?_; rintro e w' ⟨rfl, rfl⟩) | (go_at_call 40; refine (unhide HR).mono ?_; rintro e w1 ⟨rfl, hb1⟩))
  go_ret
  exact ⟨rfl, hb1⟩

set_option maxRecDepth 100000 in
set_option maxHeartbeats 400000 in
theorem xput_many (own : Nat → Tag) (rid b : Nat) (X : IRoom) (i p l : Nat) (t : List UInt8) (E S : IEnd) (w : World) (h : RoomX own rid w b X) (ht : X.texts[i]? = some t) (hE : X.ends[i]? = some E) (hS : X.sends[i]? = some S) (hp : p ≤ t.length) (hl : 33 ≤ l ∧ l ≤ 126) (hok : E.Ok) (_hw : X.window ≤ 4)
    (hr : E.refusal X.window = 0) (hm : 60 ≤ t.length) :
    Calls Try.prog 25 #[.pointer (some ⟨b, 0, none⟩), .int .i64 i, .int .i64 p, .int .u8 l] w fun e w' => e = .returned (.int .i64 6) ∧ Below w.heap.size w w' := by
  obtain ⟨mb, eb, sb, tbi, tb, c1, lk, _, hE1, hT1, _, _⟩ := h.yes ht hE hS
  have c0 := hE1.ptr
  have HL : Hid (∀ w1, Below w.heap.size w w1 → Calls Try.prog 38 #[.pointer (some ⟨tbi, 0, none⟩)] w1 fun e w' => e = .returned (.int .i64 t.length) ∧ w' = w1) := hide fun w1 hb => xlength own rid (2 * i) tbi t w1 (hT1.upd (Upd.of_below own (fun _ => False) hb) (fun h => h) (fun h => h))
  have hq : Calls Try.prog 39 #[.int .u8 l] w fun e w' => e = .returned (.bool true) ∧ w' = w := by
    have := xisLetter l w
    rwa [show decide (33 ≤ (l : Int) ∧ (l : Int) ≤ 126) = true from by simp; omega] at this
  have HQ := hide hq
  have hr0 := xrefusal own rid (2 * i) eb tbi X.window E w hE1 (by have := hok.made; omega)
  rw [hr] at hr0
  have ebl := World.block_lt_of_cell? _ _ c0
  have HR : Hid (Calls Try.prog 40 #[.pointer (some ⟨eb, 0, none⟩)] w fun e w' => e = .returned (.int .i64 0) ∧ Below w.heap.size w w' ∧ w'.cell? ⟨eb, 0, none⟩ = some (.pointer (some ⟨tbi, 0, none⟩))) := hide (hr0.mono fun e w' ⟨h1, h2⟩ => ⟨h1, h2, (h2.cell (p := ⟨eb, 0, none⟩) ebl).trans c0⟩)
  have hp0 : ¬ (p : Int) < 0 := by omega
  have hp1 : ¬ (t.length : Int) < (p : Int) := by omega
  have hm1 : (60 : Int) ≤ (t.length : Int) := by omega
  have B0 := hide (Below.refl w.heap.size w)
  clear h hE1 hT1 hl hq hr hr0
  go_enter Try.func25, Try.ntmps25
  go_wp2_with (first | (go_at_call 38; refine (unhide HL _ (by first | exact hb1 | exact unhide B0)).mono ?_; rintro e w' ⟨rfl, rfl⟩) | (go_at_call 39; refine (unhide HQ).mono ?_; rintro e w' ⟨rfl, rfl⟩) | (go_at_call 40; refine (unhide HR).mono ?_; rintro e w1 ⟨rfl, hb1, c01⟩))
  go_ret
  exact ⟨rfl, hb1⟩

set_option maxRecDepth 100000 in
set_option maxHeartbeats 400000 in
theorem xput_ok (own : Nat → Tag) (rid b : Nat) (X : IRoom) (i p l : Nat) (t : List UInt8) (E S : IEnd) (w : World) (h : RoomX own rid w b X) (ht : X.texts[i]? = some t) (hE : X.ends[i]? = some E) (hS : X.sends[i]? = some S) (hp : p ≤ t.length) (hl : 33 ≤ l ∧ l ≤ 126) (hok : E.Ok) (_hw : X.window ≤ 4)
    (hr : E.refusal X.window = 0) (hm : t.length < 60) (hi4 : i < 4) :
    Calls Try.prog 25 #[.pointer (some ⟨b, 0, none⟩), .int .i64 i, .int .i64 p, .int .u8 l] w fun e w' => e = .returned (.int .i64 0) ∧ ∃ own', RoomX own' rid w' b { X with texts := X.texts.set i (insB t p l), ends := X.ends.set i (E.make ⟨i, 1, p, l⟩ X.window) } ∧ Upd own own' (inRoom rid) w w' := by
  obtain ⟨mb, eb, sb, tbi, tb, c1, lk, _, hE1, hT1, _, hput⟩ := h.yes ht hE hS
  have c0 := hE1.ptr
  have HL : Hid (∀ w1, Below w.heap.size w w1 → Calls Try.prog 38 #[.pointer (some ⟨tbi, 0, none⟩)] w1 fun e w' => e = .returned (.int .i64 t.length) ∧ w' = w1) := hide fun w1 hb => xlength own rid (2 * i) tbi t w1 (hT1.upd (Upd.of_below own (fun _ => False) hb) (fun h => h) (fun h => h))
  have hq : Calls Try.prog 39 #[.int .u8 l] w fun e w' => e = .returned (.bool true) ∧ w' = w := by
    have := xisLetter l w
    rwa [show decide (33 ≤ (l : Int) ∧ (l : Int) ≤ 126) = true from by simp; omega] at this
  have HQ := hide hq
  have hr0 := xrefusal own rid (2 * i) eb tbi X.window E w hE1 (by have := hok.made; omega)
  rw [hr] at hr0
  have ebl := World.block_lt_of_cell? _ _ c0
  have HR : Hid (Calls Try.prog 40 #[.pointer (some ⟨eb, 0, none⟩)] w fun e w' => e = .returned (.int .i64 0) ∧ Below w.heap.size w w' ∧ w'.cell? ⟨eb, 0, none⟩ = some (.pointer (some ⟨tbi, 0, none⟩))) := hide (hr0.mono fun e w' ⟨h1, h2⟩ => ⟨h1, h2, (h2.cell (p := ⟨eb, 0, none⟩) ebl).trans c0⟩)
  have HC : Hid (∀ w1, Below w.heap.size w w1 → Calls Try.prog 41 #[.pointer (some ⟨eb, 0, none⟩), .agg #[.int .i64 i, .int .i64 1, .int .i64 p, .int .u8 l]] w1 fun e w' => e = .returned (.tuple #[]) ∧
      ∃ own', RoomX own' rid w' b { X with texts := X.texts.set i (insB t p l), ends := X.ends.set i (E.make ⟨i, 1, p, l⟩ X.window) } ∧ Upd own own' (inRoom rid) w w') := by
    apply hide
    intro w1 hb
    have U := Upd.of_below own (fun _ => False) hb
    have hs : ROp.Small ⟨i, 1, p, l⟩ := ⟨⟨by simp, by simp; omega⟩, ⟨by simp, by simp⟩, ⟨by simp, by simp; omega⟩, ⟨by simp, by simp; omega⟩⟩
    refine (xchange own rid (2 * i) eb tbi X.window E t (insB t p l) ⟨i, 1, p, l⟩ w1 (hE1.upd U (fun _ _ _ h => h)) (hT1.upd U (fun h => h) (fun h => h)) hs (by have := hok.made; omega) hok.taken hok.flying hok.opn (fun own1 w2 hT2 => xdo_put own1 rid (2 * i) tbi t i p l w2 hT2 hp (by omega) (by omega))).mono ?_
    rintro e w' ⟨rfl, own', a1, a2, a3⟩
    have U2 := (U.mono (may' := inClient rid (2 * i)) (fun _ h => h.elim)).trans a3
    exact ⟨rfl, own', hput own' w' _ _ U2 a1 a2, U2.mono (fun _ h => h.1)⟩
  have hp0 : ¬ (p : Int) < 0 := by omega
  have hp1 : ¬ (t.length : Int) < (p : Int) := by omega
  have hm1 : ¬ (60 : Int) ≤ (t.length : Int) := by omega
  have B0 := hide (Below.refl w.heap.size w)
  clear h hE1 hT1 hl hq hr hr0 hput
  go_enter Try.func25, Try.ntmps25
  go_wp2_with (first | (go_at_call 38; refine (unhide HL _ (by first | exact hb1 | exact unhide B0)).mono ?_; rintro e w' ⟨rfl, rfl⟩) | (go_at_call 39; refine (unhide HQ).mono ?_; rintro e w' ⟨rfl, rfl⟩) | (go_at_call 40; refine (unhide HR).mono ?_; rintro e w1 ⟨rfl, hb1, c01⟩) | (go_at_call 41; refine (unhide HC _ hb1).mono ?_; rintro e w2 ⟨rfl, hF⟩))
  go_ret
  exact ⟨rfl, hF⟩
end Go.Proofs.Ytemkgikncmhoaaa
