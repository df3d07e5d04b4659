/-
  weave: a room in memory; Put. Own work.
-/
import Derived.Test.YtemkgikncmhoaaaImpChange
import Derived.Test.YtemkgikncmhoaaaImpMap
namespace Go.Proofs.Ytemkgikncmhoaaa
open Go.RowKit
attribute [local go_sem ↓] Go.wp_at_zero Go.wp_at_succ

structure IRoom where
  window : Nat
  server : List UInt8
  texts : List (List UInt8)
  ends : List IEnd
  sends : List IEnd

structure RoomXAt (own : Nat → Tag) (rid : Nat) (w : World) (b : Nat) (X : IRoom) (tb mb : Nat) (ents : Array MapEntry) (clock : Nat) (es : List (Nat × Nat)) (ts : List Nat) : Prop where
  cells : CellsT own (rid, 100, 0) w b #[ptr tb, .map (some mb)] 76
  text : TextX own rid 100 w tb X.server
  map : w.heap[mb]? = some (.map ents clock)
  mtag : own mb = (rid, 100, 5)
  ends : Ends ents.toList es
  lenE : es.length = X.texts.length
  lenT : ts.length = X.texts.length
  lenX : X.ends.length = X.texts.length
  lenS : X.sends.length = X.texts.length
  le4 : X.texts.length ≤ 4
  each : ∀ (i : Nat) (p : Nat × Nat) (tbi : Nat) (t : List UInt8) (E S : IEnd), es[i]? = some p → ts[i]? = some tbi → X.texts[i]? = some t → X.ends[i]? = some E → X.sends[i]? = some S →
    EndX own rid (2 * i) w p.1 tbi X.window E ∧ TextX own rid (2 * i) w tbi t ∧ EndX own rid (2 * i + 1) w p.2 tb X.window S
def RoomX (own : Nat → Tag) (rid : Nat) (w : World) (b : Nat) (X : IRoom) : Prop := ∃ tb mb ents clock es ts, RoomXAt own rid w b X tb mb ents clock es ts

theorem RoomXAt.upd {own own' : Nat → Tag} {may : Tag → Prop} {w w' : World} {rid b : Nat} {X : IRoom} {tb mb : Nat} {ents : Array MapEntry} {clock : Nat} {es : List (Nat × Nat)} {ts : List Nat} (h : RoomXAt own rid w b X tb mb ents clock es ts) (hu : Upd own own' may w w') (hm : ∀ i k, ¬ may (rid, i, k)) : RoomXAt own' rid w' b X tb mb ents clock es ts := by
  have hml : mb < w.heap.size := (Array.getElem?_eq_some_iff.1 h.map).1
  exact ⟨h.cells.upd hu (hm _ _), h.text.upd hu (hm _ _) (hm _ _), (hu.block mb hml (by rw [h.mtag]; exact hm _ _)).trans h.map, (hu.tags mb hml).trans h.mtag, h.ends, h.lenE, h.lenT, h.lenX, h.lenS, h.le4,
    fun i p tbi t E S a1 a2 a3 a4 a5 => by
      obtain ⟨b1, b2, b3⟩ := h.each i p tbi t E S a1 a2 a3 a4 a5
      exact ⟨b1.upd hu (fun _ _ _ => hm _ _), b2.upd hu (hm _ _) (hm _ _), b3.upd hu (fun _ _ _ => hm _ _)⟩⟩
theorem RoomX.upd {own own' : Nat → Tag} {may : Tag → Prop} {w w' : World} {rid b : Nat} {X : IRoom} (h : RoomX own rid w b X) (hu : Upd own own' may w w') (hm : ∀ i k, ¬ may (rid, i, k)) : RoomX own' rid w' b X := by
  obtain ⟨tb, mb, ents, clock, es, ts, h⟩ := h
  exact ⟨tb, mb, ents, clock, es, ts, h.upd hu hm⟩

/-- What a call sees of a room: the map's cell, and what the map holds. -/
theorem RoomX.no {own : Nat → Tag} {rid b : Nat} {w : World} {X : IRoom} (h : RoomX own rid w b X) {c : Int} (hc : I64 c) (hn : ¬ (0 ≤ c ∧ c < X.texts.length)) (s : Bool) :
    ∃ mb, w.cell? ⟨b, 1, none⟩ = some (.map (some mb)) ∧ (Instr.lookup 74 (.map (some mb)) (.agg #[.int .i64 c, .bool s]) false).run Try.prog w = .ok (.pointer none) w := by
  obtain ⟨tb, mb, ents, clock, es, ts, h⟩ := h
  exact ⟨mb, by rw [h.cells.cell]; rfl, lookup_no h.map h.ends (by have := h.lenE; have := h.le4; omega) hc (by rw [h.lenE]; exact hn) s⟩
theorem RoomX.yes {own : Nat → Tag} {rid b : Nat} {w : World} {X : IRoom} (h : RoomX own rid w b X) {i : Nat} {t : List UInt8} {E S : IEnd} (ht : X.texts[i]? = some t) (hE : X.ends[i]? = some E) (hS : X.sends[i]? = some S) :
    ∃ mb eb sb tbi tb, w.cell? ⟨b, 1, none⟩ = some (.map (some mb)) ∧ (Instr.lookup 74 (.map (some mb)) (.agg #[.int .i64 i, .bool false]) false).run Try.prog w = .ok (.pointer (some ⟨eb, 0, none⟩)) w ∧
      (Instr.lookup 74 (.map (some mb)) (.agg #[.int .i64 i, .bool true]) false).run Try.prog w = .ok (.pointer (some ⟨sb, 0, none⟩)) w ∧
      EndX own rid (2 * i) w eb tbi X.window E ∧ TextX own rid (2 * i) w tbi t ∧ EndX own rid (2 * i + 1) w sb tb X.window S ∧
      ∀ own' w' t' E', Upd own own' (inClient rid (2 * i)) w w' → EndX own' rid (2 * i) w' eb tbi X.window E' → TextX own' rid (2 * i) w' tbi t' → RoomX own' rid w' b { X with texts := X.texts.set i t', ends := X.ends.set i E' } := by
  obtain ⟨tb, mb, ents, clock, es, ts, h⟩ := h
  have hi := (List.getElem?_eq_some_iff.1 ht).1
  obtain ⟨p, hp⟩ : ∃ p, es[i]? = some p := ⟨es[i]'(by have := h.lenE; omega), by simp [h.lenE, hi]⟩
  obtain ⟨tbi, htb⟩ : ∃ q, ts[i]? = some q := ⟨ts[i]'(by have := h.lenT; omega), by simp [h.lenT, hi]⟩
  have hle : es.length ≤ 1000 := by have := h.lenE; have := h.le4; omega
  obtain ⟨b1, b2, b3⟩ := h.each i p tbi t E S hp htb ht hE hS
  refine ⟨mb, p.1, p.2, tbi, tb, by rw [h.cells.cell]; rfl, lookup_yes h.map h.ends hle hp false, lookup_yes h.map h.ends hle hp true, b1, b2, b3, fun own' w' t' E' hu hE' hT' => ?_⟩
  have hml : mb < w.heap.size := (Array.getElem?_eq_some_iff.1 h.map).1
  have hi4 : i < 4 := by have := h.le4; omega
  have n1 : ∀ k, ¬ inClient rid (2 * i) (rid, 100, k) := fun k hk => by have := hk.2; simp at this; omega
  have n2 : ∀ j k, j ≠ i → ¬ inClient rid (2 * i) (rid, 2 * j, k) := fun j k hj hk => by have := hk.2; simp at this; omega
  have n3 : ∀ j k, ¬ inClient rid (2 * i) (rid, 2 * j + 1, k) := fun j k hk => by have := hk.2; simp at this; omega
  refine ⟨tb, mb, ents, clock, es, ts, h.cells.upd hu (n1 _), h.text.upd hu (n1 _) (n1 _), (hu.block mb hml (by rw [h.mtag]; exact n1 _)).trans h.map, (hu.tags mb hml).trans h.mtag, h.ends, by simpa using h.lenE, by simpa using h.lenT, by simpa using h.lenX, by simpa using h.lenS, by simpa using h.le4, ?_⟩
  intro j q tbj tt EE SS a1 a2 a3 a4 a5
  by_cases hji : j = i
  · subst hji
    have hlx : j < X.ends.length := by have := h.lenX; omega
    simp only [List.getElem?_set_self hi] at a3
    simp only [List.getElem?_set_self hlx] at a4
    obtain rfl : t' = tt := by simpa using a3
    obtain rfl : E' = EE := by simpa using a4
    obtain rfl : p = q := by rw [hp] at a1; simpa using a1
    obtain rfl : tbi = tbj := by rw [htb] at a2; simpa using a2
    obtain rfl : S = SS := by rw [hS] at a5; simpa using a5
    exact ⟨hE', hT', b3.upd hu (fun _ _ _ => n3 _ _)⟩
  · simp only [List.getElem?_set_ne (fun h => hji h.symm)] at a3 a4
    obtain ⟨d1, d2, d3⟩ := h.each j q tbj tt EE SS a1 a2 a3 a4 a5
    exact ⟨d1.upd hu (fun _ _ _ => n2 j _ hji), d2.upd hu (n2 j _ hji) (n2 j _ hji), d3.upd hu (fun _ _ _ => n3 _ _)⟩

set_option maxRecDepth 100000 in
set_option maxHeartbeats 400000 in
theorem xput_client (own : Nat → Tag) (rid b : Nat) (X : IRoom) (c p l : Int) (w : World) (h : RoomX own rid w b X) (hc : I64 c) (hn : ¬ (0 ≤ c ∧ c < X.texts.length)) :
    Calls Try.prog 25 #[.pointer (some ⟨b, 0, none⟩), .int .i64 c, .int .i64 p, .int .u8 l] w fun e w' => e = .returned (.int .i64 2) ∧ w' = w := by
  obtain ⟨mb, c1, lk⟩ := h.no hc hn false
  clear h hn hc
  go_enter Try.func25, Try.ntmps25
  go_wp2
  go_ret
  exact ⟨rfl, rfl⟩
end Go.Proofs.Ytemkgikncmhoaaa
