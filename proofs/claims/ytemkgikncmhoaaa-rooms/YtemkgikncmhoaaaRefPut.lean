/-
  weaveref: (*Room).Put, Cut. Own work.
-/
import Derived.Test.YtemkgikncmhoaaaRefEdit
namespace Go.Proofs.Ytemkgikncmhoaaa
open Go.RowKit

structure RRoom.Ok (R : RRoom) : Prop where
  win : R.window ≤ 4
  win1 : 1 ≤ R.window
  len : R.lines.length = R.texts.length
  le4 : R.texts.length ≤ 4
  line : ∀ (i : Nat) (L : RLine), R.lines[i]? = some L → L.a.Ok ∧ L.b.Ok ∧ L.a.known ≤ L.a.rows.length ∧ L.a.sent ≤ min (L.a.known + R.window) L.a.rows.length
  text : ∀ (i : Nat) (t : List UInt8), R.texts[i]? = some t → t.length ≤ 240

def insB (t : List UInt8) (p : Nat) (l : Nat) : List UInt8 := t.take p ++ [UInt8.ofNat l] ++ t.drop p
def delB (t : List UInt8) (p : Nat) : List UInt8 := t.take p ++ t.drop (p + 1)

def RRoom.client (R : RRoom) (c : Int) : Prop := 0 ≤ c ∧ c < R.texts.length
def RRoom.full (R : RRoom) (L : RLine) : Prop := L.a.rows.length - L.a.known ≥ R.window

/-- After a message more, all still fits. -/
theorem REnd.Ok.more {E : REnd} (h : E.Ok) (o : ROp) (hl : E.rows.length < 240) (h1 : 0 ≤ o.client ∧ o.client ≤ 255) (h2 : 0 ≤ o.verb ∧ o.verb ≤ 255) (h3 : 0 ≤ o.place ∧ o.place ≤ 255) (h4 : 0 ≤ o.letter ∧ o.letter ≤ 255) :
    ({ E with rows := E.rows ++ [(⟨E.taken, [o]⟩ : RMsg)] } : REnd).Ok := by
  refine ⟨by simp; omega, h.taken, h.known, h.sent, h.out, h.spoilt, fun m hm => ?_⟩
  simp only [List.mem_append, List.mem_singleton] at hm
  rcases hm with hm | rfl
  · exact h.msgs m hm
  · exact ⟨h.taken, by simp, h1.1, h1.2, h2.1, h2.2, h3.1, h3.2, h4.1, h4.2⟩

set_option maxRecDepth 100000 in
set_option maxHeartbeats 400000 in
theorem rput_client (own : Nat → Tag) (rid b : Nat) (R : RRoom) (c p l : Int) (w : World) (h : RoomY own rid w b R) (hc : ¬ R.client c) :
    Calls Try.prog 61 #[.pointer (some ⟨b, 0, none⟩), .int .i64 c, .int .i64 p, .int .u8 l] w fun e w' => e = .returned (.int .i64 2) ∧ w' = w := by
  have HT := hide (there_no own rid b R c w h hc)
  clear h hc
  go_enter Try.func61, Try.ntmps61
  go_wp2_with (first | (go_at_call 65; refine (unhide HT).mono ?_; rintro e w' ⟨rfl, rfl⟩))
  go_ret
  exact ⟨rfl, rfl⟩

set_option maxRecDepth 100000 in
set_option maxHeartbeats 400000 in
theorem rput_place (own : Nat → Tag) (rid b : Nat) (R : RRoom) (i : Nat) (p l : Int) (t : List UInt8) (L : RLine) (w : World) (h : RoomY own rid w b R) (ht : R.texts[i]? = some t) (hL : R.lines[i]? = some L) (hp : p < 0 ∨ p > t.length) :
    Calls Try.prog 61 #[.pointer (some ⟨b, 0, none⟩), .int .i64 i, .int .i64 p, .int .u8 l] w fun e w' => e = .returned (.int .i64 3) ∧ w' = w := by
  obtain ⟨tg, tc, lg, lc, lb, c0, c2, c3, c4, c5, f4, hLA, t1, t2, t3, l1, l2, l3, hi⟩ := h.get ht hL
  have hi1 : (i : Int) < (R.texts.length : Int) := by omega
  have hi2 : (0 : Int) ≤ (i : Int) := by omega
  have HT := hide (there_yes own rid b R i w h hi)
  clear h
  by_cases hp0 : p < 0
  · clear hp
    go_enter Try.func61, Try.ntmps61
    go_wp2_with (first | (go_at_call 65; refine (unhide HT).mono ?_; rintro e w' ⟨rfl, rfl⟩))
    go_ret
    exact ⟨rfl, rfl⟩
  · have hp1 : (t.length : Int) < p := by omega
    clear hp
    go_enter Try.func61, Try.ntmps61
    go_wp2_with (first | (go_at_call 65; refine (unhide HT).mono ?_; rintro e w' ⟨rfl, rfl⟩))
    go_ret
    exact ⟨rfl, rfl⟩

set_option maxRecDepth 100000 in
set_option maxHeartbeats 400000 in
theorem rput_letter (own : Nat → Tag) (rid b : Nat) (R : RRoom) (i p : Nat) (l : Int) (t : List UInt8) (L : RLine) (w : World) (h : RoomY own rid w b R) (ht : R.texts[i]? = some t) (hL : R.lines[i]? = some L) (hp : p ≤ t.length) (hl : l < 33 ∨ l > 126) :
    Calls Try.prog 61 #[.pointer (some ⟨b, 0, none⟩), .int .i64 i, .int .i64 p, .int .u8 l] w fun e w' => e = .returned (.int .i64 4) ∧ w' = w := by
  obtain ⟨tg, tc, lg, lc, lb, c0, c2, c3, c4, c5, f4, hLA, t1, t2, t3, l1, l2, l3, hi⟩ := h.get ht hL
  have hi1 : (i : Int) < (R.texts.length : Int) := by omega
  have hi2 : (0 : Int) ≤ (i : Int) := by omega
  have hp0 : ¬ (p : Int) < 0 := by omega
  have hp1 : ¬ (t.length : Int) < (p : Int) := by omega
  have HT := hide (there_yes own rid b R i w h hi)
  clear h
  by_cases hl0 : l < 33
  · clear hl
    go_enter Try.func61, Try.ntmps61
    go_wp2_with (first | (go_at_call 65; refine (unhide HT).mono ?_; rintro e w' ⟨rfl, rfl⟩))
    go_ret
    exact ⟨rfl, rfl⟩
  · have hp1 : 126 < l := by omega
    clear hl
    go_enter Try.func61, Try.ntmps61
    go_wp2_with (first | (go_at_call 65; refine (unhide HT).mono ?_; rintro e w' ⟨rfl, rfl⟩))
    go_ret
    exact ⟨rfl, rfl⟩

set_option maxRecDepth 100000 in
set_option maxHeartbeats 400000 in
theorem rput_edit (own : Nat → Tag) (rid b : Nat) (R : RRoom) (i p l : Nat) (t : List UInt8) (L : RLine) (w : World) (h : RoomY own rid w b R) (ht : R.texts[i]? = some t) (hL : R.lines[i]? = some L) (hp : p ≤ t.length) (hl : 33 ≤ l ∧ l ≤ 126) (Q : Value → World → Prop)
    (he : Calls Try.prog 81 #[.pointer (some ⟨b, 0, none⟩), .int .i64 i, .agg #[.int .i64 i, .int .i64 1, .int .i64 p, .int .u8 l], .int .i64 t.length] w fun e w' => ∃ n : Int, e = .returned (.int .i64 n) ∧ Q (.int .i64 n) w') :
    Calls Try.prog 61 #[.pointer (some ⟨b, 0, none⟩), .int .i64 i, .int .i64 p, .int .u8 l] w fun e w' => ∃ n : Int, e = .returned (.int .i64 n) ∧ Q (.int .i64 n) w' := by
  obtain ⟨tg, tc, lg, lc, lb, c0, c2, c3, c4, c5, f4, hLA, t1, t2, t3, l1, l2, l3, hi⟩ := h.get ht hL
  have hi1 : (i : Int) < (R.texts.length : Int) := by omega
  have hi2 : (0 : Int) ≤ (i : Int) := by omega
  have hp0 : ¬ (p : Int) < 0 := by omega
  have hp1 : ¬ (t.length : Int) < (p : Int) := by omega
  have hl0 : ¬ (l : Int) < 33 := by omega
  have hl1 : ¬ (126 : Int) < (l : Int) := by omega
  have HT := hide (there_yes own rid b R i w h hi)
  have HE := hide he
  clear h he
  go_enter Try.func61, Try.ntmps61
  go_wp2_with (first | (go_at_call 65; refine (unhide HT).mono ?_; rintro e w' ⟨rfl, rfl⟩) | (go_at_call 81; refine (unhide HE).mono ?_; rintro e w' ⟨n, rfl, hQ⟩))
  go_ret
  exact ⟨n, rfl, hQ⟩

set_option maxRecDepth 100000 in
set_option maxHeartbeats 400000 in
theorem rcut_client (own : Nat → Tag) (rid b : Nat) (R : RRoom) (c p : Int) (w : World) (h : RoomY own rid w b R) (hc : ¬ R.client c) :
    Calls Try.prog 62 #[.pointer (some ⟨b, 0, none⟩), .int .i64 c, .int .i64 p] w fun e w' => e = .returned (.int .i64 2) ∧ w' = w := by
  have HT := hide (there_no own rid b R c w h hc)
  clear h hc
  go_enter Try.func62, Try.ntmps62
  go_wp2_with (first | (go_at_call 65; refine (unhide HT).mono ?_; rintro e w' ⟨rfl, rfl⟩))
  go_ret
  exact ⟨rfl, rfl⟩

set_option maxRecDepth 100000 in
set_option maxHeartbeats 400000 in
theorem rcut_place (own : Nat → Tag) (rid b : Nat) (R : RRoom) (i : Nat) (p : Int) (t : List UInt8) (L : RLine) (w : World) (h : RoomY own rid w b R) (ht : R.texts[i]? = some t) (hL : R.lines[i]? = some L) (hp : p < 0 ∨ p ≥ t.length) :
    Calls Try.prog 62 #[.pointer (some ⟨b, 0, none⟩), .int .i64 i, .int .i64 p] w fun e w' => e = .returned (.int .i64 3) ∧ w' = w := by
  obtain ⟨tg, tc, lg, lc, lb, c0, c2, c3, c4, c5, f4, hLA, t1, t2, t3, l1, l2, l3, hi⟩ := h.get ht hL
  have hi1 : (i : Int) < (R.texts.length : Int) := by omega
  have hi2 : (0 : Int) ≤ (i : Int) := by omega
  have HT := hide (there_yes own rid b R i w h hi)
  clear h
  by_cases hp0 : p < 0
  · clear hp
    go_enter Try.func62, Try.ntmps62
    go_wp2_with (first | (go_at_call 65; refine (unhide HT).mono ?_; rintro e w' ⟨rfl, rfl⟩))
    go_ret
    exact ⟨rfl, rfl⟩
  · have hp1 : (t.length : Int) ≤ p := by omega
    clear hp
    go_enter Try.func62, Try.ntmps62
    go_wp2_with (first | (go_at_call 65; refine (unhide HT).mono ?_; rintro e w' ⟨rfl, rfl⟩))
    go_ret
    exact ⟨rfl, rfl⟩

set_option maxRecDepth 100000 in
set_option maxHeartbeats 400000 in
theorem rcut_edit (own : Nat → Tag) (rid b : Nat) (R : RRoom) (i p : Nat) (t : List UInt8) (L : RLine) (w : World) (h : RoomY own rid w b R) (ht : R.texts[i]? = some t) (hL : R.lines[i]? = some L) (hp : p < t.length) (Q : Value → World → Prop)
    (he : Calls Try.prog 81 #[.pointer (some ⟨b, 0, none⟩), .int .i64 i, .agg #[.int .i64 i, .int .i64 2, .int .i64 p, .int .u8 0], .int .i64 0] w fun e w' => ∃ n : Int, e = .returned (.int .i64 n) ∧ Q (.int .i64 n) w') :
    Calls Try.prog 62 #[.pointer (some ⟨b, 0, none⟩), .int .i64 i, .int .i64 p] w fun e w' => ∃ n : Int, e = .returned (.int .i64 n) ∧ Q (.int .i64 n) w' := by
  obtain ⟨tg, tc, lg, lc, lb, c0, c2, c3, c4, c5, f4, hLA, t1, t2, t3, l1, l2, l3, hi⟩ := h.get ht hL
  have hi1 : (i : Int) < (R.texts.length : Int) := by omega
  have hi2 : (0 : Int) ≤ (i : Int) := by omega
  have hp0 : ¬ (p : Int) < 0 := by omega
  have hp1 : ¬ (t.length : Int) ≤ (p : Int) := by omega
  have HT := hide (there_yes own rid b R i w h hi)
  have HE := hide he
  clear h he
  go_enter Try.func62, Try.ntmps62
  go_wp2_with (first | (go_at_call 65; refine (unhide HT).mono ?_; rintro e w' ⟨rfl, rfl⟩) | (go_at_call 81; refine (unhide HE).mono ?_; rintro e w' ⟨n, rfl, hQ⟩))
  go_ret
  exact ⟨n, rfl, hQ⟩
end Go.Proofs.Ytemkgikncmhoaaa
