/-
  weave: (*Room).Cut. Own work.
-/
import Derived.Test.YtemkgikncmhoaaaImpPut
namespace Go.Proofs.Ytemkgikncmhoaaa
open Go.RowKit

set_option maxRecDepth 100000 in
set_option maxHeartbeats 400000 in
theorem xcut_client (own : Nat → Tag) (rid b : Nat) (X : IRoom) (c p : Int) (w : World) (h : RoomX own rid w b X) (hc : I64 c) (hn : ¬ (0 ≤ c ∧ c < X.texts.length)) :
    Calls Try.prog 37 #[.pointer (some ⟨b, 0, none⟩), .int .i64 c, .int .i64 p] w fun e w' => e = .returned (.int .i64 2) ∧ w' = w := by
  obtain ⟨mb, c1, lk⟩ := h.no hc hn false
  clear h hn hc
  go_enter Try.func37, Try.ntmps37
  go_wp2
  go_ret
  exact ⟨rfl, rfl⟩

set_option maxRecDepth 100000 in
set_option maxHeartbeats 400000 in
theorem xcut_place (own : Nat → Tag) (rid b : Nat) (X : IRoom) (i : Nat) (p : Int) (t : List UInt8) (E S : IEnd) (w : World) (h : RoomX own rid w b X) (ht : X.texts[i]? = some t) (hE : X.ends[i]? = some E) (hS : X.sends[i]? = some S) (hp : p < 0 ∨ p ≥ t.length) :
    Calls Try.prog 37 #[.pointer (some ⟨b, 0, none⟩), .int .i64 i, .int .i64 p] w fun e w' => e = .returned (.int .i64 3) ∧ w' = w := by
  obtain ⟨mb, eb, sb, tbi, tb, c1, lk, _, hE1, hT1, _, _⟩ := h.yes ht hE hS
  have c0 := hE1.ptr
  have HL := hide (xlength own rid (2 * i) tbi t w hT1)
  clear h hE1 hT1
  by_cases hp0 : p < 0
  · clear hp
    go_enter Try.func37, Try.ntmps37
    go_wp2_with (first | (go_at_call 38; refine (unhide HL).mono ?_; rintro e w' ⟨rfl, rfl⟩))
    go_ret
    exact ⟨rfl, rfl⟩
  · have hp1 : (t.length : Int) ≤ p := by omega
    clear hp
    go_enter Try.func37, Try.ntmps37
    go_wp2_with (first | (go_at_call 38; refine (unhide HL).mono ?_; rintro e w' ⟨rfl, rfl⟩))
    go_ret
    exact ⟨rfl, rfl⟩

set_option maxRecDepth 100000 in
set_option maxHeartbeats 400000 in
theorem xcut_refused (own : Nat → Tag) (rid b : Nat) (X : IRoom) (i p : Nat) (t : List UInt8) (E S : IEnd) (w : World) (h : RoomX own rid w b X) (ht : X.texts[i]? = some t) (hE : X.ends[i]? = some E) (hS : X.sends[i]? = some S) (hp : p < t.length) (hok : E.Ok) (_hw : X.window ≤ 4)
    (hr : E.refusal X.window ≠ 0) :
    Calls Try.prog 37 #[.pointer (some ⟨b, 0, none⟩), .int .i64 i, .int .i64 p] w fun e w' => e = .returned (.int .i64 (E.refusal X.window)) ∧ Below w.heap.size w w' := by
  obtain ⟨mb, eb, sb, tbi, tb, c1, lk, _, hE1, hT1, _, _⟩ := h.yes ht hE hS
  have c0 := hE1.ptr
  have HL := hide (xlength own rid (2 * i) tbi t w hT1)
  have HR := hide (xrefusal own rid (2 * i) eb tbi X.window E w hE1 (by have := hok.made; omega))
  have hp0 : ¬ (p : Int) < 0 := by omega
  have hp1 : ¬ (t.length : Int) ≤ (p : Int) := by omega
  generalize E.refusal X.window = rf at *
  have hrf : (rf == 0) = false := by simpa using hr
  have hrf' : (rf != 0) = true := by simpa using hr
  clear h hE1 hT1 hr
  go_enter Try.func37, Try.ntmps37
  go_wp2_with (first | (go_at_call 38; refine (unhide HL).mono ?_; rintro e w' ⟨rfl, rfl⟩) | (go_at_call 40; refine (unhide HR).mono ?_; rintro e w1 ⟨rfl, hb1⟩))
  go_ret
  exact ⟨rfl, hb1⟩

set_option maxRecDepth 100000 in
set_option maxHeartbeats 400000 in
theorem xcut_ok (own : Nat → Tag) (rid b : Nat) (X : IRoom) (i p : Nat) (t : List UInt8) (E S : IEnd) (w : World) (h : RoomX own rid w b X) (ht : X.texts[i]? = some t) (hE : X.ends[i]? = some E) (hS : X.sends[i]? = some S) (hp : p < t.length) (hok : E.Ok) (_hw : X.window ≤ 4)
    (hr : E.refusal X.window = 0) (hm : t.length ≤ 240) (hi4 : i < 4) :
    Calls Try.prog 37 #[.pointer (some ⟨b, 0, none⟩), .int .i64 i, .int .i64 p] w fun e w' => e = .returned (.int .i64 0) ∧ ∃ own', RoomX own' rid w' b { X with texts := X.texts.set i (delB t p), ends := X.ends.set i (E.make ⟨i, 2, p, 0⟩ X.window) } ∧ Upd own own' (inRoom rid) w w' := by
  obtain ⟨mb, eb, sb, tbi, tb, c1, lk, _, hE1, hT1, _, hput⟩ := h.yes ht hE hS
  have c0 := hE1.ptr
  have HL := hide (xlength own rid (2 * i) tbi t w hT1)
  have hr0 := xrefusal own rid (2 * i) eb tbi X.window E w hE1 (by have := hok.made; omega)
  rw [hr] at hr0
  have HR := hide hr0
  have HC : Hid (∀ w1, Below w.heap.size w w1 → Calls Try.prog 41 #[.pointer (some ⟨eb, 0, none⟩), .agg #[.int .i64 i, .int .i64 2, .int .i64 p, .int .u8 0]] w1 fun e w' => e = .returned (.tuple #[]) ∧
      ∃ own', RoomX own' rid w' b { X with texts := X.texts.set i (delB t p), ends := X.ends.set i (E.make ⟨i, 2, p, 0⟩ X.window) } ∧ Upd own own' (inRoom rid) w w') := by
    apply hide
    intro w1 hb
    have U := Upd.of_below own (fun _ => False) hb
    have hs : ROp.Small ⟨i, 2, p, 0⟩ := ⟨⟨by simp, by simp; omega⟩, ⟨by simp, by simp⟩, ⟨by simp, by simp; omega⟩, ⟨by simp, by simp⟩⟩
    refine (xchange own rid (2 * i) eb tbi X.window E t (delB t p) ⟨i, 2, p, 0⟩ w1 (hE1.upd U (fun _ _ _ h => h)) (hT1.upd U (fun h => h) (fun h => h)) hs (by have := hok.made; omega) hok.taken hok.flying hok.opn (fun own1 w2 hT2 => xdo_cut own1 rid (2 * i) tbi t i p 0 w2 hT2 hp (by omega))).mono ?_
    rintro e w' ⟨rfl, own', a1, a2, a3⟩
    have U2 := (U.mono (may' := inClient rid (2 * i)) (fun _ h => h.elim)).trans a3
    exact ⟨rfl, own', hput own' w' _ _ U2 a1 a2, U2.mono (fun _ h => h.1)⟩
  have hp0 : ¬ (p : Int) < 0 := by omega
  have hp1 : ¬ (t.length : Int) ≤ (p : Int) := by omega
  clear h hE1 hT1 hr hr0 hput
  go_enter Try.func37, Try.ntmps37
  go_wp2_with (first | (go_at_call 38; refine (unhide HL).mono ?_; rintro e w' ⟨rfl, rfl⟩) | (go_at_call 40; refine (unhide HR).mono ?_; rintro e w1 ⟨rfl, hb1⟩) | (go_at_call 41; refine (unhide HC _ hb1).mono ?_; rintro e w2 ⟨rfl, hF⟩))
  go_ret
  exact ⟨rfl, hF⟩
end Go.Proofs.Ytemkgikncmhoaaa
