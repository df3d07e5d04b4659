import Derived.Test.YtemkgikncmhoaaaM12
namespace Go.Proofs.Ytemkgikncmhoaaa
open Go.RowKit
attribute [local go_sem ↓] Go.wp_at_zero Go.wp_at_succ

/-- Where a room's pieces lie: so since New. -/
structure RAddr where
 tb : Nat
 mb : Nat
 ents : Array MapEntry
 clock : Nat
 es : List (Nat × Nat)
 ts : List Nat
def RoomF (A : RAddr) (own : Nat → Tag) (rid : Nat) (w : World) (b : Nat) (X : IRoom) : Prop := RoomXAt own rid w b X A.tb A.mb A.ents A.clock A.es A.ts
theorem RoomX.addr {own : Nat → Tag} {rid b : Nat} {w : World} {X : IRoom} (h : RoomX own rid w b X) : ∃ A, RoomF A own rid w b X := by
 obtain ⟨tb, mb, ents, clock, es, ts, h⟩ := h
 exact ⟨⟨tb, mb, ents, clock, es, ts⟩, h⟩
theorem RoomF.room {A : RAddr} {own : Nat → Tag} {rid b : Nat} {w : World} {X : IRoom} (h : RoomF A own rid w b X) : RoomX own rid w b X := ⟨_, _, _, _, _, _, h⟩
theorem RoomF.upd {A : RAddr} {own own' : Nat → Tag} {may : Tag → Prop} {w w' : World} {rid b : Nat} {X : IRoom} (h : RoomF A own rid w b X) (hu : Upd own own' may w w') (hm : ∀ i k, ¬ may (rid, i, k)) : RoomF A own' rid w' b X := RoomXAt.upd h hu hm

/-- What there is of client i's line. -/
structure Opened (A : RAddr) (own : Nat → Tag) (rid : Nat) (w : World) (b : Nat) (X : IRoom) (i : Nat) (t : List UInt8) (E S : IEnd) (mb eb sb tbi tb : Nat) : Prop where
 c1 : w.cell? ⟨b, 1, none⟩ = some (.map (some mb))
 lk0 : (Instr.lookup 74 (.map (some mb)) (.agg #[.int .i64 i, .bool false]) false).run Try.prog w = .ok (.pointer (some ⟨eb, 0, none⟩)) w
 lk1 : (Instr.lookup 74 (.map (some mb)) (.agg #[.int .i64 i, .bool true]) false).run Try.prog w = .ok (.pointer (some ⟨sb, 0, none⟩)) w
 at_ : A.es[i]? = some (eb, sb) ∧ A.ts[i]? = some tbi ∧ A.tb = tb ∧ A.mb = mb
 bt : own b = (rid, 100, 0)
 mbl : mb < w.heap.size
 mt : own mb = (rid, 100, 5)
 lk0w : ∀ w' : World, w'.heap[mb]? = w.heap[mb]? → (Instr.lookup 74 (.map (some mb)) (.agg #[.int .i64 i, .bool false]) false).run Try.prog w' = .ok (.pointer (some ⟨eb, 0, none⟩)) w'
 lk1w : ∀ w' : World, w'.heap[mb]? = w.heap[mb]? → (Instr.lookup 74 (.map (some mb)) (.agg #[.int .i64 i, .bool true]) false).run Try.prog w' = .ok (.pointer (some ⟨sb, 0, none⟩)) w'
 hE : EndX own rid (2 * i) w eb tbi X.window E
 hT : TextX own rid (2 * i) w tbi t
 hS : EndX own rid (2 * i + 1) w sb tb X.window S
 hV : TextX own rid 100 w tb X.server
 putA : ∀ own' w' t' E', Upd own own' (inClient rid (2 * i)) w w' → EndX own' rid (2 * i) w' eb tbi X.window E' → TextX own' rid (2 * i) w' tbi t' → RoomF A own' rid w' b (X.setA i t' E')
 putB : ∀ own' w' s' S', Upd own own' (fun x => inEnd rid (2 * i + 1) x ∨ inText rid 100 x) w w' → EndX own' rid (2 * i + 1) w' sb tb X.window S' → TextX own' rid 100 w' tb s' → RoomF A own' rid w' b { X with server := s', sends := X.sends.set i S' }

theorem RoomF.opened {A : RAddr} {own : Nat → Tag} {rid b : Nat} {w : World} {X : IRoom} (h : RoomF A own rid w b X) {i : Nat} {t : List UInt8} {E S : IEnd} (ht : X.texts[i]? = some t) (hE : X.ends[i]? = some E) (hS : X.sends[i]? = some S) : ∃ mb eb sb tbi tb, Opened A own rid w b X i t E S mb eb sb tbi tb := by
 obtain ⟨tb, mb, ents, clock, es, ts⟩ := A
 have h : RoomXAt own rid w b X tb mb ents clock es ts := h
 have hi := (List.getElem?_eq_some_iff.1 ht).1
 obtain ⟨p, hp⟩ : ∃ p, es[i]? = some p := ⟨es[i]'(by have := h.lenE; omega), by simp [h.lenE, hi]⟩
 obtain ⟨tbi, htb⟩ : ∃ q, ts[i]? = some q := ⟨ts[i]'(by have := h.lenT; omega), by simp [h.lenT, hi]⟩
 have hle : es.length ≤ 1000 := by have := h.lenE; have := h.le4; omega
 obtain ⟨b1, b2, b3⟩ := h.each i p tbi t E S hp htb ht hE hS
 have hml : mb < w.heap.size := (Array.getElem?_eq_some_iff.1 h.map).1
 have hi4 : i < 4 := by have := h.le4; omega
 refine ⟨mb, p.1, p.2, tbi, tb, by rw [h.cells.cell]; rfl, lookup_yes h.map h.ends hle hp false, lookup_yes h.map h.ends hle hp true, ⟨hp, htb, rfl, rfl⟩, h.cells.2, hml, h.mtag, fun w' hw' => lookup_yes (hw'.trans h.map) h.ends hle hp false, fun w' hw' => lookup_yes (hw'.trans h.map) h.ends hle hp true, b1, b2, b3, h.text, fun own' w' t' E' hu hE' hT' => ?_, fun own' w' s' S' hu hS' hV' => ?_⟩
 ·have n1 : ∀ k, ¬ inClient rid (2 * i) (rid, 100, k) := fun k hk => by have := hk.2; simp at this; omega
  have n2 : ∀ j k, j ≠ i → ¬ inClient rid (2 * i) (rid, 2 * j, k) := fun j k hj hk => by have := hk.2; simp at this; omega
  have n3 : ∀ j k, ¬ inClient rid (2 * i) (rid, 2 * j + 1, k) := fun j k hk => by have := hk.2; simp at this; omega
  refine ⟨h.cells.upd hu (n1 _), h.text.upd hu (n1 _) (n1 _), (hu.block mb hml (by rw [h.mtag]; exact n1 _)).trans h.map, (hu.tags mb hml).trans h.mtag, h.ends, by simpa [IRoom.setA] using h.lenE, by simpa [IRoom.setA] using h.lenT, by simpa [IRoom.setA] using h.lenX, by simpa [IRoom.setA] using h.lenS, by simpa [IRoom.setA] using h.le4, ?_⟩
  intro j q tbj tt EE SS a1 a2 a3 a4 a5
  simp only [IRoom.setA] at a3 a4 a5
  by_cases hji : j = i
  ·subst hji
   have hlx : j < X.ends.length := by have := h.lenX; omega
   simp only [List.getElem?_set_self hi] at a3
   simp only [List.getElem?_set_self hlx] at a4
   obtain rfl : t' = tt := by simpa using a3
   obtain rfl : E' = EE := by simpa using a4
   obtain rfl : p = q := by rw [hp] at a1; simpa using a1
   obtain rfl : tbi = tbj := by rw [htb] at a2; simpa using a2
   obtain rfl : S = SS := by rw [hS] at a5; simpa using a5
   exact ⟨hE', hT', b3.upd hu (fun _ _ _ => n3 _ _)⟩
  ·simp only [List.getElem?_set_ne (fun h => hji h.symm)] at a3 a4
   obtain ⟨d1, d2, d3⟩ := h.each j q tbj tt EE SS a1 a2 a3 a4 a5
   exact ⟨d1.upd hu (fun _ _ _ => n2 j _ hji), d2.upd hu (n2 j _ hji) (n2 j _ hji), d3.upd hu (fun _ _ _ => n3 _ _)⟩
 ·have m0 : ∀ k, k ≠ 1 → k ≠ 2 → ¬ (inEnd rid (2 * i + 1) (rid, 100, k) ∨ inText rid 100 (rid, 100, k)) := fun k k1 k2 hk => by
   rcases hk with hk | hk
   ·have := hk.2.1; simp at this; omega
   ·simp [inText, k1, k2] at hk
  have m1 : ∀ j k, ¬ (inEnd rid (2 * i + 1) (rid, 2 * j, k) ∨ inText rid 100 (rid, 2 * j, k)) ∨ 4 ≤ j := fun j k => by
   by_cases hj : 4 ≤ j
   ·exact .inr hj
   ·refine .inl ?_
    rintro (hk | hk)
    ·have := hk.2.1; simp at this; omega
    ·rcases hk with hk | hk <;> (simp at hk; omega)
  have m2 : ∀ j k, j ≠ i → ¬ (inEnd rid (2 * i + 1) (rid, 2 * j + 1, k) ∨ inText rid 100 (rid, 2 * j + 1, k)) := fun j k hj => by
   rintro (hk | hk)
   ·have := hk.2.1; simp at this; omega
   ·rcases hk with hk | hk <;> (simp at hk; omega)
  refine ⟨h.cells.upd hu (m0 _ (by decide) (by decide)), hV', (hu.block mb hml (by rw [h.mtag]; exact m0 _ (by decide) (by decide))).trans h.map, (hu.tags mb hml).trans h.mtag, h.ends, h.lenE, h.lenT, h.lenX, by simpa using h.lenS, h.le4, ?_⟩
  intro j q tbj tt EE SS a1 a2 a3 a4 a5
  have a3' : X.texts[j]? = some tt := a3
  have hj4 : j < 4 := by have := (List.getElem?_eq_some_iff.1 a3').1; have := h.le4; omega
  have m1' : ∀ k, ¬ (inEnd rid (2 * i + 1) (rid, 2 * j, k) ∨ inText rid 100 (rid, 2 * j, k)) := fun k => (m1 j k).resolve_right (by omega)
  by_cases hji : j = i
  ·subst hji
   have hls : j < X.sends.length := by have := h.lenS; omega
   simp only [List.getElem?_set_self hls] at a5
   obtain rfl : S' = SS := by simpa using a5
   obtain rfl : p = q := by rw [hp] at a1; simpa using a1
   obtain rfl : tbi = tbj := by rw [htb] at a2; simpa using a2
   obtain rfl : t = tt := by rw [ht] at a3; simpa using a3
   obtain rfl : E = EE := by rw [hE] at a4; simpa using a4
   exact ⟨b1.upd hu (fun _ _ _ => m1' _), b2.upd hu (m1' _) (m1' _), hS'⟩
  ·simp only [List.getElem?_set_ne (fun h => hji h.symm)] at a5
   obtain ⟨d1, d2, d3⟩ := h.each j q tbj tt EE SS a1 a2 a3 a4 a5
   exact ⟨d1.upd hu (fun _ _ _ => m1' _), d2.upd hu (m1' _) (m1' _), d3.upd hu (fun _ _ _ => m2 j _ hji)⟩
theorem RoomF.none_w {A : RAddr} {own : Nat → Tag} {rid b : Nat} {w : World} {X : IRoom} (h : RoomF A own rid w b X) {c : Int} (hc : I64 c) (hn : ¬ (0 ≤ c ∧ c < X.texts.length)) (s : Bool) :
  ∃ mb, w.cell? ⟨b, 1, none⟩ = some (.map (some mb)) ∧ mb < w.heap.size ∧ ∀ w' : World, w'.heap[mb]? = w.heap[mb]? → (Instr.lookup 74 (.map (some mb)) (.agg #[.int .i64 c, .bool s]) false).run Try.prog w' = .ok (.pointer none) w' := by
 obtain ⟨tb, mb, ents, clock, es, ts⟩ := A
 have h : RoomXAt own rid w b X tb mb ents clock es ts := h
 exact ⟨mb, by rw [h.cells.cell]; rfl, (Array.getElem?_eq_some_iff.1 h.map).1, fun w' hw' => lookup_no (hw'.trans h.map) h.ends (by have := h.lenE; have := h.le4; omega) hc (by rw [h.lenE]; exact hn) s⟩
/-- A client's end alone is turned. -/
theorem Opened.setE {A : RAddr} {own own' : Nat → Tag} {rid b i mb eb sb tbi tb : Nat} {w w' : World} {X : IRoom} {t : List UInt8} {E S E' : IEnd} (h : Opened A own rid w b X i t E S mb eb sb tbi tb) (hu : Upd own own' (inEnd rid (2 * i)) w w') (hE : EndX own' rid (2 * i) w' eb tbi X.window E') : RoomF A own' rid w' b (X.setA i t E') :=
 h.putA own' w' t E' (hu.mono fun _ h => h.client) hE (h.hT.upd hu (by simp [inEnd]) (by simp [inEnd]))
theorem Opened.setS {A : RAddr} {own own' : Nat → Tag} {rid b i mb eb sb tbi tb : Nat} {w w' : World} {X : IRoom} {t : List UInt8} {E S S' : IEnd} (h : Opened A own rid w b X i t E S mb eb sb tbi tb) (hi : i < 4) (hu : Upd own own' (inEnd rid (2 * i + 1)) w w') (hS : EndX own' rid (2 * i + 1) w' sb tb X.window S') : RoomF A own' rid w' b (X.setB i S') := by
 have := h.putB own' w' X.server S' (hu.mono fun _ h => .inl h) hS (h.hV.upd hu (fun h => by have := h.2.1; simp at this; omega) (fun h => by have := h.2.1; simp at this; omega))
 exact this

set_option maxRecDepth 100000 in
set_option maxHeartbeats 400000 in
theorem xTick_0 (own : Nat → Tag) (rid b : Nat) (X : IRoom) (i : Nat) (t : List UInt8) (E S : IEnd) (w : World) (h : RoomX own rid w b X) (ht : X.texts[i]? = some t) (hE : X.ends[i]? = some E) (hS : X.sends[i]? = some S) (_hi4 : i < 4) (hw : X.window ≤ 4) (h1 : E.waiting.length ≤ 1000) (h2 : E.taken ≤ 255) (h3 : E.flying.length ≤ 12) (hx : ∀ m ∈ E.waiting, Bytes (m.bytes E.taken)) :
  Calls Try.prog 34 #[.pointer (some ⟨b, 0, none⟩), .int .i64 i, .bool false] w fun e w' => e = .returned (.int .i64 0) ∧ ∃ own', RoomX own' rid w' b (X.setA i t (E.tick X.window)) ∧ Upd own own' (inRoom rid) w w' := by
 obtain ⟨A, h⟩ := h.addr
 obtain ⟨mb, eb, sb, tbi, tb, O⟩ := h.opened ht hE hS
 have c1 := O.c1
 have lk := O.lk0
 have HT : Hid (Calls Try.prog 50 #[.pointer (some ⟨eb, 0, none⟩)] w fun e w' => e = .returned (.tuple #[]) ∧ ∃ own', RoomX own' rid w' b (X.setA i t (E.tick X.window)) ∧ Upd own own' (inRoom rid) w w') := by
  apply hide
  refine (xtick own rid (2 * i) eb tbi X.window E w O.hE h1 hw h2 h3 hx).mono ?_
  rintro e w' ⟨rfl, own', a1, a2⟩
  exact ⟨rfl, own', (O.setE (a2.mono fun _ h => h.inEnd) a1).room, a2.mono fun _ h => h.inEnd.1⟩
 clear h O hx
 go_enter Try.func34, Try.ntmps34
 go_wp2_with (first | (go_at_call 50; with_reducible refine (unhide HT).mono ?_; rintro e w1 ⟨rfl, hF⟩))
 go_ret
 exact ⟨rfl, hF⟩
set_option maxRecDepth 100000 in
set_option maxHeartbeats 400000 in
theorem xTick_1 (own : Nat → Tag) (rid b : Nat) (X : IRoom) (i : Nat) (t : List UInt8) (E S : IEnd) (w : World) (h : RoomX own rid w b X) (ht : X.texts[i]? = some t) (hE : X.ends[i]? = some E) (hS : X.sends[i]? = some S) (hi4 : i < 4) (hw : X.window ≤ 4) (h1 : S.waiting.length ≤ 1000) (h2 : S.taken ≤ 255) (h3 : S.flying.length ≤ 12) (hx : ∀ m ∈ S.waiting, Bytes (m.bytes S.taken)) :
  Calls Try.prog 34 #[.pointer (some ⟨b, 0, none⟩), .int .i64 i, .bool true] w fun e w' => e = .returned (.int .i64 0) ∧ ∃ own', RoomX own' rid w' b (X.setB i (S.tick X.window)) ∧ Upd own own' (inRoom rid) w w' := by
 obtain ⟨A, h⟩ := h.addr
 obtain ⟨mb, eb, sb, tbi, tb, O⟩ := h.opened ht hE hS
 have c1 := O.c1
 have lk := O.lk1
 have HT : Hid (Calls Try.prog 50 #[.pointer (some ⟨sb, 0, none⟩)] w fun e w' => e = .returned (.tuple #[]) ∧ ∃ own', RoomX own' rid w' b (X.setB i (S.tick X.window)) ∧ Upd own own' (inRoom rid) w w') := by
  apply hide
  refine (xtick own rid (2 * i + 1) sb tb X.window S w O.hS h1 hw h2 h3 hx).mono ?_
  rintro e w' ⟨rfl, own', a1, a2⟩
  exact ⟨rfl, own', (O.setS hi4 (a2.mono fun _ h => h.inEnd) a1).room, a2.mono fun _ h => h.inEnd.1⟩
 clear h O hx
 go_enter Try.func34, Try.ntmps34
 go_wp2_with (first | (go_at_call 50; with_reducible refine (unhide HT).mono ?_; rintro e w1 ⟨rfl, hF⟩))
 go_ret
 exact ⟨rfl, hF⟩
end Go.Proofs.Ytemkgikncmhoaaa

