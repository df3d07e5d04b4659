import Derived.Test.YtemkgikncmhoaaaM02
import Derived.Test.YtemkgikncmhoaaaM10
import Derived.ProofKit
namespace Go.Proofs.Ytemkgikncmhoaaa
open Go.RowKit Go.WideMaps

theorem Try.laidOut : laidOutB Try.prog = true := by kernel_rfl
theorem Try.rowSide : 80 < Try.prog.types.size := of_decide_eq_true (by kernel_rfl)
theorem Try.keySide : Try.prog.keyTypeAt 2 80 = true := by kernel_rfl
theorem Try.keySide' : Try.prog.keyType 80 = true := by kernel_rfl
theorem Try.cellsSide : Try.prog.cellsOf 80 = 2 := by kernel_rfl
theorem Try.cellsInt : Try.prog.cellsOf 3 = 1 := by kernel_rfl
theorem Try.cellsBool : Try.prog.cellsOf 4 = 1 := by kernel_rfl
theorem Try.types1 : (0 : Nat) < Try.prog.types.size := of_decide_eq_true (by kernel_rfl)
theorem Try.lawSide : KeyLaw Try.prog 80 := deep_law_laid Try.laidOut (m := 2) (by omega) Try.rowSide Try.keySide (by rw [Try.underlying80])

def sideKey (c : Int) (s : Bool) : Value := .agg #[.int .i64 c, .bool s]
theorem sideKey_inj {c d : Int} {s t : Bool} (h : sideKey c s = sideKey d t) : c = d ∧ s = t := by
 simpa [sideKey] using h
def I64 (c : Int) : Prop := -9223372036854775808 ≤ c ∧ c ≤ 9223372036854775807

theorem keyOf_side (c : Int) (s : Bool) (hc : I64 c) : ∃ l, keyOf Try.prog 80 (sideKey c s) = some l := by
 obtain ⟨m, hm⟩ : ∃ m, Try.prog.types.size = m + 1 := ⟨Try.prog.types.size - 1, by have := Try.types1; omega⟩
 have hf : (sideKey c s).formed Try.prog 80 = true := by simp [sideKey, Value.formed, Try.underlying80, Try.cellsSide]
 unfold keyOf
 rw [Try.underlying80]
 simp only [Try.keySide', hf, Bool.and_self, if_true, hm]
 simp [sideKey, Value.cells, Program.keyLits, Try.underlying80, Try.underlying3, Try.underlying4, Try.cellsSide, Try.cellsInt, Try.cellsBool]
 have hw : (Lit.int IntKind.i64 c).wf = true := by
  unfold I64 at hc
  simp [Lit.wf, IntKind.min, IntKind.max, IntKind.signed, IntKind.bits]
  omega
 simp [hw]

/-- What the map holds. -/
def Ends (ents : List MapEntry) (es : List (Nat × Nat)) : Prop :=
 (∀ e ∈ ents, ∃ (i : Nat) (s : Bool) (p : Nat × Nat), es[i]? = some p ∧ e.key = sideKey i s ∧ e.val = ptr (if s then p.2 else p.1)) ∧
 ∀ (i : Nat) (p : Nat × Nat) (s : Bool), es[i]? = some p → ∃ e ∈ ents, e.key = sideKey i s


theorem Ends.keys {ents : List MapEntry} {es : List (Nat × Nat)} (h : Ends ents es) (hl : es.length ≤ 1000) : ∀ e ∈ ents, ∃ l, keyOf Try.prog 80 e.key = some l := by
 intro e he
 obtain ⟨i, s, p, hi, hk, _⟩ := h.1 e he
 rw [hk]
 have := (List.getElem?_eq_some_iff.1 hi).1
 exact keyOf_side _ _ ⟨by omega, by omega⟩

/-- There is such an end. -/
theorem lookup_yes {w : World} {mb : Nat} {ents : Array MapEntry} {clock : Nat} {es : List (Nat × Nat)} (hm : w.heap[mb]? = some (.map ents clock)) (h : Ends ents.toList es) (hl : es.length ≤ 1000) {i : Nat} {p : Nat × Nat} (hi : es[i]? = some p) (s : Bool) :
  (Instr.lookup 74 (.map (some mb)) (.agg #[.int .i64 i, .bool s]) false).run Try.prog w = .ok (ptr (if s then p.2 else p.1)) w := by
 have hil := (List.getElem?_eq_some_iff.1 hi).1
 obtain ⟨l, hk⟩ := keyOf_side i s ⟨by omega, by omega⟩
 have hk' : keyOf Try.prog 80 (.agg #[.int .i64 i, .bool s]) = some l := hk
 rcases Try.lawSide.find w hk' ents.toList (h.keys hl) with ⟨_, h2⟩ | ⟨j, e, h1, h2, h3⟩
 ·obtain ⟨e, he, hek⟩ := h.2 i p s hi
  exact absurd hek (h2 e he)
 ·have he : e ∈ ents.toList := List.mem_of_getElem? h2
  obtain ⟨i', s', p', hi', hk2, hv⟩ := h.1 e he
  have := sideKey_inj ((hk2.symm.trans h3 : sideKey i' s' = sideKey i s))
  obtain ⟨e1, rfl⟩ := this
  obtain rfl : i' = i := by omega
  obtain rfl : p' = p := by rw [hi] at hi'; simpa using hi'.symm
  simp [Instr.lookup, run_underlying Try.underlying74, MapKept.run_getObj_map hm, Try.lawSide.check w _ hk', h1, Result.andThen, hv]

/-- There is none. -/
theorem lookup_no {w : World} {mb : Nat} {ents : Array MapEntry} {clock : Nat} {es : List (Nat × Nat)} (hm : w.heap[mb]? = some (.map ents clock)) (h : Ends ents.toList es) (hl : es.length ≤ 1000) {c : Int} (hc : I64 c) (hn : ¬ (0 ≤ c ∧ c < es.length)) (s : Bool) :
  (Instr.lookup 74 (.map (some mb)) (.agg #[.int .i64 c, .bool s]) false).run Try.prog w = .ok (.pointer none) w := by
 obtain ⟨l, hk⟩ := keyOf_side c s hc
 have hk' : keyOf Try.prog 80 (.agg #[.int .i64 c, .bool s]) = some l := hk
 rcases Try.lawSide.find w hk' ents.toList (h.keys hl) with ⟨h1, _⟩ | ⟨j, e, h1, h2, h3⟩
 ·simp [Instr.lookup, run_underlying Try.underlying74, MapKept.run_getObj_map hm, Try.lawSide.check w _ hk', h1, Result.andThen]
 ·have he : e ∈ ents.toList := List.mem_of_getElem? h2
  obtain ⟨i', s', p', hi', hk2, hv⟩ := h.1 e he
  have := sideKey_inj ((hk2.symm.trans h3 : sideKey i' s' = sideKey c s))
  have hil := (List.getElem?_eq_some_iff.1 hi').1
  exact absurd ⟨by omega, by omega⟩ hn

/-- A new end: the map's block holds one entry more. -/
theorem update_new {w : World} {mb : Nat} {ents : Array MapEntry} {clock : Nat} (hm : w.heap[mb]? = some (.map ents clock)) (hk : ∀ e ∈ ents.toList, ∃ l, keyOf Try.prog 80 e.key = some l) {c : Int} (hc : I64 c) (s : Bool) (v : Value)
  (hn : ∀ e ∈ ents.toList, e.key ≠ sideKey c s) :
  (Instr.mapUpdate 74 (.map (some mb)) (.agg #[.int .i64 c, .bool s]) v).run Try.prog w = .ok () (ChangeMaps.setBlock w mb (.map (ents.push ⟨sideKey c s, v, clock⟩) (clock + 1))) := by
 obtain ⟨l, hk1⟩ := keyOf_side c s hc
 have hk' : keyOf Try.prog 80 (.agg #[.int .i64 c, .bool s]) = some l := hk1
 rcases Try.lawSide.find w hk' ents.toList hk with ⟨h1, _⟩ | ⟨j, e, h1, h2, h3⟩
 ·simp [Instr.mapUpdate, run_underlying Try.underlying74, MapKept.run_getObj_map hm, Try.lawSide.check w _ hk', h1, Result.andThen, sideKey, MapKept.run_setObj_map _ hm]
  rfl
 ·exact absurd h3 (hn e (List.mem_of_getElem? h2))

end Go.Proofs.Ytemkgikncmhoaaa

namespace Go.Proofs.Ytemkgikncmhoaaa
open Go.RowKit
attribute [local go_sem ↓] Go.wp_at_zero Go.wp_at_succ

structure IRoom where
 window : Nat
 server : List UInt8
 texts : List (List UInt8)
 ends : List IEnd
 sends : List IEnd

structure RoomXAt (own : Nat → Tag) (rid : Nat) (w : World) (b : Nat) (X : IRoom) (tb mb : Nat) (ents : Array MapEntry) (clock : Nat) (es : List (Nat × Nat)) (ts : List Nat) : Prop where
 cells : CellsT own (rid, 100, 0) w b #[ptr tb, .map (some mb)] 76
 text : TextX own rid 100 w tb X.server
 map : w.heap[mb]? = some (.map ents clock)
 mtag : own mb = (rid, 100, 5)
 ends : Ends ents.toList es
 lenE : es.length = X.texts.length
 lenT : ts.length = X.texts.length
 lenX : X.ends.length = X.texts.length
 lenS : X.sends.length = X.texts.length
 le4 : X.texts.length ≤ 4
 each : ∀ (i : Nat) (p : Nat × Nat) (tbi : Nat) (t : List UInt8) (E S : IEnd), es[i]? = some p → ts[i]? = some tbi → X.texts[i]? = some t → X.ends[i]? = some E → X.sends[i]? = some S →
  EndX own rid (2 * i) w p.1 tbi X.window E ∧ TextX own rid (2 * i) w tbi t ∧ EndX own rid (2 * i + 1) w p.2 tb X.window S
def RoomX (own : Nat → Tag) (rid : Nat) (w : World) (b : Nat) (X : IRoom) : Prop := ∃ tb mb ents clock es ts, RoomXAt own rid w b X tb mb ents clock es ts

theorem RoomXAt.upd {own own' : Nat → Tag} {may : Tag → Prop} {w w' : World} {rid b : Nat} {X : IRoom} {tb mb : Nat} {ents : Array MapEntry} {clock : Nat} {es : List (Nat × Nat)} {ts : List Nat} (h : RoomXAt own rid w b X tb mb ents clock es ts) (hu : Upd own own' may w w') (hm : ∀ i k, ¬ may (rid, i, k)) : RoomXAt own' rid w' b X tb mb ents clock es ts := by
 have hml : mb < w.heap.size := (Array.getElem?_eq_some_iff.1 h.map).1
 exact ⟨h.cells.upd hu (hm _ _), h.text.upd hu (hm _ _) (hm _ _), (hu.block mb hml (by rw [h.mtag]; exact hm _ _)).trans h.map, (hu.tags mb hml).trans h.mtag, h.ends, h.lenE, h.lenT, h.lenX, h.lenS, h.le4,
  fun i p tbi t E S a1 a2 a3 a4 a5 => by
   obtain ⟨b1, b2, b3⟩ := h.each i p tbi t E S a1 a2 a3 a4 a5
   exact ⟨b1.upd hu (fun _ _ _ => hm _ _), b2.upd hu (hm _ _) (hm _ _), b3.upd hu (fun _ _ _ => hm _ _)⟩⟩
theorem RoomX.upd {own own' : Nat → Tag} {may : Tag → Prop} {w w' : World} {rid b : Nat} {X : IRoom} (h : RoomX own rid w b X) (hu : Upd own own' may w w') (hm : ∀ i k, ¬ may (rid, i, k)) : RoomX own' rid w' b X := by
 obtain ⟨tb, mb, ents, clock, es, ts, h⟩ := h
 exact ⟨tb, mb, ents, clock, es, ts, h.upd hu hm⟩

/-- What a call sees of a room: the map's cell, and what the map holds. -/
theorem RoomX.no {own : Nat → Tag} {rid b : Nat} {w : World} {X : IRoom} (h : RoomX own rid w b X) {c : Int} (hc : I64 c) (hn : ¬ (0 ≤ c ∧ c < X.texts.length)) (s : Bool) :
  ∃ mb, w.cell? ⟨b, 1, none⟩ = some (.map (some mb)) ∧ (Instr.lookup 74 (.map (some mb)) (.agg #[.int .i64 c, .bool s]) false).run Try.prog w = .ok (.pointer none) w := by
 obtain ⟨tb, mb, ents, clock, es, ts, h⟩ := h
 exact ⟨mb, by rw [h.cells.cell]; rfl, lookup_no h.map h.ends (by have := h.lenE; have := h.le4; omega) hc (by rw [h.lenE]; exact hn) s⟩
theorem RoomX.yes {own : Nat → Tag} {rid b : Nat} {w : World} {X : IRoom} (h : RoomX own rid w b X) {i : Nat} {t : List UInt8} {E S : IEnd} (ht : X.texts[i]? = some t) (hE : X.ends[i]? = some E) (hS : X.sends[i]? = some S) :
  ∃ mb eb sb tbi tb, w.cell? ⟨b, 1, none⟩ = some (.map (some mb)) ∧ (Instr.lookup 74 (.map (some mb)) (.agg #[.int .i64 i, .bool false]) false).run Try.prog w = .ok (.pointer (some ⟨eb, 0, none⟩)) w ∧
   (Instr.lookup 74 (.map (some mb)) (.agg #[.int .i64 i, .bool true]) false).run Try.prog w = .ok (.pointer (some ⟨sb, 0, none⟩)) w ∧
   EndX own rid (2 * i) w eb tbi X.window E ∧ TextX own rid (2 * i) w tbi t ∧ EndX own rid (2 * i + 1) w sb tb X.window S ∧
   ∀ own' w' t' E', Upd own own' (inClient rid (2 * i)) w w' → EndX own' rid (2 * i) w' eb tbi X.window E' → TextX own' rid (2 * i) w' tbi t' → RoomX own' rid w' b { X with texts := X.texts.set i t', ends := X.ends.set i E' } := by
 obtain ⟨tb, mb, ents, clock, es, ts, h⟩ := h
 have hi := (List.getElem?_eq_some_iff.1 ht).1
 obtain ⟨p, hp⟩ : ∃ p, es[i]? = some p := ⟨es[i]'(by have := h.lenE; omega), by simp [h.lenE, hi]⟩
 obtain ⟨tbi, htb⟩ : ∃ q, ts[i]? = some q := ⟨ts[i]'(by have := h.lenT; omega), by simp [h.lenT, hi]⟩
 have hle : es.length ≤ 1000 := by have := h.lenE; have := h.le4; omega
 obtain ⟨b1, b2, b3⟩ := h.each i p tbi t E S hp htb ht hE hS
 refine ⟨mb, p.1, p.2, tbi, tb, by rw [h.cells.cell]; rfl, lookup_yes h.map h.ends hle hp false, lookup_yes h.map h.ends hle hp true, b1, b2, b3, fun own' w' t' E' hu hE' hT' => ?_⟩
 have hml : mb < w.heap.size := (Array.getElem?_eq_some_iff.1 h.map).1
 have hi4 : i < 4 := by have := h.le4; omega
 have n1 : ∀ k, ¬ inClient rid (2 * i) (rid, 100, k) := fun k hk => by have := hk.2; simp at this; omega
 have n2 : ∀ j k, j ≠ i → ¬ inClient rid (2 * i) (rid, 2 * j, k) := fun j k hj hk => by have := hk.2; simp at this; omega
 have n3 : ∀ j k, ¬ inClient rid (2 * i) (rid, 2 * j + 1, k) := fun j k hk => by have := hk.2; simp at this; omega
 refine ⟨tb, mb, ents, clock, es, ts, h.cells.upd hu (n1 _), h.text.upd hu (n1 _) (n1 _), (hu.block mb hml (by rw [h.mtag]; exact n1 _)).trans h.map, (hu.tags mb hml).trans h.mtag, h.ends, by simpa using h.lenE, by simpa using h.lenT, by simpa using h.lenX, by simpa using h.lenS, by simpa using h.le4, ?_⟩
 intro j q tbj tt EE SS a1 a2 a3 a4 a5
 by_cases hji : j = i
 ·subst hji
  have hlx : j < X.ends.length := by have := h.lenX; omega
  simp only [List.getElem?_set_self hi] at a3
  simp only [List.getElem?_set_self hlx] at a4
  obtain rfl : t' = tt := by simpa using a3
  obtain rfl : E' = EE := by simpa using a4
  obtain rfl : p = q := by rw [hp] at a1; simpa using a1
  obtain rfl : tbi = tbj := by rw [htb] at a2; simpa using a2
  obtain rfl : S = SS := by rw [hS] at a5; simpa using a5
  exact ⟨hE', hT', b3.upd hu (fun _ _ _ => n3 _ _)⟩
 ·simp only [List.getElem?_set_ne (fun h => hji h.symm)] at a3 a4
  obtain ⟨d1, d2, d3⟩ := h.each j q tbj tt EE SS a1 a2 a3 a4 a5
  exact ⟨d1.upd hu (fun _ _ _ => n2 j _ hji), d2.upd hu (n2 j _ hji) (n2 j _ hji), d3.upd hu (fun _ _ _ => n3 _ _)⟩

set_option maxRecDepth 100000 in
set_option maxHeartbeats 400000 in
theorem xput_client (own : Nat → Tag) (rid b : Nat) (X : IRoom) (c p l : Int) (w : World) (h : RoomX own rid w b X) (hc : I64 c) (hn : ¬ (0 ≤ c ∧ c < X.texts.length)) :
  Calls Try.prog 25 #[.pointer (some ⟨b, 0, none⟩), .int .i64 c, .int .i64 p, .int .u8 l] w fun e w' => e = .returned (.int .i64 2) ∧ w' = w := by
 obtain ⟨mb, c1, lk⟩ := h.no hc hn false
 clear h hn hc
 go_enter Try.func25, Try.ntmps25
 go_wp2
 go_ret
 exact ⟨rfl, rfl⟩
end Go.Proofs.Ytemkgikncmhoaaa

namespace Go.Proofs.Ytemkgikncmhoaaa
open Go.RowKit

def ROp.nop : ROp := ⟨0, 0, 0, 0⟩
/-- a against b. -/
def ROp.turn (a b : ROp) : ROp :=
 if a.verb = 0 ∨ b.verb = 0 then a
 else if a.verb = 1 ∧ b.verb = 1 then (if b.place < a.place ∨ (a.place = b.place ∧ b.client < a.client) then { a with place := a.place + 1 } else a)
 else if a.verb = 1 ∧ b.verb = 2 then (if b.place < a.place then { a with place := a.place - 1 } else a)
 else if a.verb = 2 ∧ b.verb = 1 then (if b.place ≤ a.place then { a with place := a.place + 1 } else a)
 else if a.place = b.place then ⟨a.client, 0, 0, 0⟩
 else if b.place < a.place then { a with place := a.place - 1 } else a
theorem ROp.turn_client (a b : ROp) : (a.turn b).client = a.client := by
 unfold ROp.turn
 repeat' split
 all_goals rfl

/-- An operation, to a text. -/
def ROp.does (a : ROp) (s : List UInt8) : List UInt8 :=
 if a.verb = 1 then s.take a.place.toNat ++ [byteOf a.letter] ++ s.drop a.place.toNat
 else if a.verb = 2 then s.take a.place.toNat ++ s.drop (a.place.toNat + 1) else s
/-- An operation that is meant for a text (of that many letters). -/
def ROp.fits (a : ROp) (n : Nat) : Prop := a.verb = 0 ∨ (a.verb = 1 ∧ 0 ≤ a.place ∧ a.place ≤ n) ∨ (a.verb = 2 ∧ 0 ≤ a.place ∧ a.place < n)

theorem ins_get (s : List UInt8) (p : Nat) (x : UInt8) (h : p ≤ s.length) (i : Nat) : (s.take p ++ [x] ++ s.drop p)[i]? = if i < p then s[i]? else if i = p then some x else s[i - 1]? := by
 rw [List.append_assoc, List.getElem?_append]
 simp only [List.length_take, Nat.min_eq_left h, List.getElem?_take, List.singleton_append]
 by_cases h1 : i < p
 ·simp [h1]
 ·by_cases h2 : i = p
  ·subst h2; simp
  ·rw [if_neg h1, if_neg h1, if_neg h2, List.getElem?_cons, if_neg (by omega), List.getElem?_drop]
   congr 1
   omega
theorem del_get (s : List UInt8) (p : Nat) (h : p < s.length) (i : Nat) : (s.take p ++ s.drop (p + 1))[i]? = if i < p then s[i]? else s[i + 1]? := by
 rw [List.getElem?_append]
 simp only [List.length_take, Nat.min_eq_left (Nat.le_of_lt h), List.getElem?_take]
 by_cases h1 : i < p
 ·simp [h1]
 ·rw [if_neg h1, if_neg h1, List.getElem?_drop]
  congr 1
  omega
theorem ins_len (s : List UInt8) (p : Nat) (x : UInt8) (h : p ≤ s.length) : (s.take p ++ [x] ++ s.drop p).length = s.length + 1 := by simp; omega
theorem del_len (s : List UInt8) (p : Nat) (h : p < s.length) : (s.take p ++ s.drop (p + 1)).length = s.length - 1 := by simp; omega

theorem ROp.does_put (c : Int) (p : Nat) (l : Int) (s : List UInt8) : (⟨c, 1, p, l⟩ : ROp).does s = s.take p ++ [byteOf l] ++ s.drop p := by simp [ROp.does]
theorem ROp.does_cut (c : Int) (p : Nat) (l : Int) (s : List UInt8) : (⟨c, 2, p, l⟩ : ROp).does s = s.take p ++ s.drop (p + 1) := by simp [ROp.does]
theorem ROp.does_nop (c p l : Int) (s : List UInt8) : (⟨c, 0, p, l⟩ : ROp).does s = s := by simp [ROp.does]

theorem turn_pp (c d : Int) (p q : Nat) (l m : Int) : (⟨c, 1, p, l⟩ : ROp).turn ⟨d, 1, q, m⟩ = ⟨c, 1, ((if q < p ∨ (p = q ∧ d < c) then p + 1 else p : Nat) : Int), l⟩ := by
 unfold ROp.turn
 rw [if_neg (show ¬ ((1:Int) = 0 ∨ (1:Int) = 0) by omega), if_pos (show (1:Int) = 1 ∧ (1:Int) = 1 by omega)]
 by_cases h : q < p ∨ (p = q ∧ d < c)
 ·rw [if_pos h, if_pos (show (q : Int) < (p : Int) ∨ ((p : Int) = (q : Int) ∧ d < c) by omega)]; rfl
 ·rw [if_neg h, if_neg (show ¬ ((q : Int) < (p : Int) ∨ ((p : Int) = (q : Int) ∧ d < c)) by omega)]
theorem turn_pc (c d : Int) (p q : Nat) (l m : Int) : (⟨c, 1, p, l⟩ : ROp).turn ⟨d, 2, q, m⟩ = ⟨c, 1, ((if q < p then p - 1 else p : Nat) : Int), l⟩ := by
 unfold ROp.turn
 rw [if_neg (show ¬ ((1:Int) = 0 ∨ (2:Int) = 0) by omega), if_neg (show ¬ ((1:Int) = 1 ∧ (2:Int) = 1) by omega), if_pos (show (1:Int) = 1 ∧ (2:Int) = 2 by omega)]
 by_cases h : q < p
 ·rw [if_pos h, if_pos (show (q : Int) < (p : Int) by omega), show ((p - 1 : Nat) : Int) = (p : Int) - 1 by omega]
 ·rw [if_neg h, if_neg (show ¬ ((q : Int) < (p : Int)) by omega)]
theorem turn_cp (c d : Int) (p q : Nat) (l m : Int) : (⟨c, 2, p, l⟩ : ROp).turn ⟨d, 1, q, m⟩ = ⟨c, 2, ((if q ≤ p then p + 1 else p : Nat) : Int), l⟩ := by
 unfold ROp.turn
 rw [if_neg (show ¬ ((2:Int) = 0 ∨ (1:Int) = 0) by omega), if_neg (show ¬ ((2:Int) = 1 ∧ (1:Int) = 1) by omega), if_neg (show ¬ ((2:Int) = 1 ∧ (1:Int) = 2) by omega), if_pos (show (2:Int) = 2 ∧ (1:Int) = 1 by omega)]
 by_cases h : q ≤ p
 ·rw [if_pos h, if_pos (show (q : Int) ≤ (p : Int) by omega)]; rfl
 ·rw [if_neg h, if_neg (show ¬ ((q : Int) ≤ (p : Int)) by omega)]
theorem turn_cc (c d : Int) (p q : Nat) (l m : Int) (hpq : p ≠ q) : (⟨c, 2, p, l⟩ : ROp).turn ⟨d, 2, q, m⟩ = ⟨c, 2, ((if q < p then p - 1 else p : Nat) : Int), l⟩ := by
 unfold ROp.turn
 rw [if_neg (show ¬ ((2:Int) = 0 ∨ (2:Int) = 0) by omega), if_neg (show ¬ ((2:Int) = 1 ∧ (2:Int) = 1) by omega), if_neg (show ¬ ((2:Int) = 1 ∧ (2:Int) = 2) by omega), if_neg (show ¬ ((2:Int) = 2 ∧ (2:Int) = 1) by omega), if_neg (show ¬ ((p : Int) = (q : Int)) by omega)]
 by_cases h : q < p
 ·rw [if_pos h, if_pos (show (q : Int) < (p : Int) by omega), show ((p - 1 : Nat) : Int) = (p : Int) - 1 by omega]
 ·rw [if_neg h, if_neg (show ¬ ((q : Int) < (p : Int)) by omega)]
theorem turn_cc_same (c d : Int) (p : Nat) (l m : Int) : (⟨c, 2, p, l⟩ : ROp).turn ⟨d, 2, p, m⟩ = ⟨c, 0, 0, 0⟩ := by
 unfold ROp.turn
 rw [if_neg (show ¬ ((2:Int) = 0 ∨ (2:Int) = 0) by omega), if_neg (show ¬ ((2:Int) = 1 ∧ (2:Int) = 1) by omega), if_neg (show ¬ ((2:Int) = 1 ∧ (2:Int) = 2) by omega), if_neg (show ¬ ((2:Int) = 2 ∧ (2:Int) = 1) by omega), if_pos (show (p : Int) = (p : Int) from rfl)]
theorem turn_nop (c p l : Int) (b : ROp) : (⟨c, 0, p, l⟩ : ROp).turn b = ⟨c, 0, p, l⟩ := by
 unfold ROp.turn
 rw [if_pos (.inl rfl)]
theorem turn_by_nop (a : ROp) (c p l : Int) : a.turn ⟨c, 0, p, l⟩ = a := by
 unfold ROp.turn
 rw [if_pos (.inr rfl)]

/-- Behind either, the two come to one text. -/
structure Square (a b : ROp) (s : List UInt8) : Prop where
 fa : (a.turn b).fits (b.does s).length
 fb : (b.turn a).fits (a.does s).length
 same : (a.turn b).does (b.does s) = (b.turn a).does (a.does s)
theorem Square.symm {a b : ROp} {s : List UInt8} (h : Square a b s) : Square b a s := ⟨h.fb, h.fa, h.same.symm⟩

theorem square_pp (c d : Int) (p q : Nat) (l m : Int) (s : List UInt8) (hcd : d < c) (hp : p ≤ s.length) (hq : q ≤ s.length) : Square ⟨c, 1, p, l⟩ ⟨d, 1, q, m⟩ s := by
 have e1 : (if q < p ∨ (p = q ∧ d < c) then p + 1 else p) = if q ≤ p then p + 1 else p := by split <;> split <;> omega
 have e2 : (if p < q ∨ (q = p ∧ c < d) then q + 1 else q) = if p < q then q + 1 else q := by split <;> split <;> omega
 refine ⟨?_, ?_, ?_⟩
 ·rw [turn_pp, e1, ROp.does_put, ins_len _ _ _ hq]
  exact .inr (.inl ⟨rfl, by dsimp only; omega, by dsimp only; split <;> omega⟩)
 ·rw [turn_pp, e2, ROp.does_put, ins_len _ _ _ hp]
  exact .inr (.inl ⟨rfl, by dsimp only; omega, by dsimp only; split <;> omega⟩)
 ·rw [turn_pp, turn_pp, e1, e2]
  simp only [ROp.does_put]
  apply List.ext_getElem?
  intro i
  have l1 := ins_len s q (byteOf m) hq
  have l2 := ins_len s p (byteOf l) hp
  have k1 := ins_get s q (byteOf m) hq
  have k2 := ins_get s p (byteOf l) hp
  generalize s.take q ++ [byteOf m] ++ s.drop q = A at *
  generalize s.take p ++ [byteOf l] ++ s.drop p = B at *
  rw [ins_get A _ _ (by rw [l1]; split <;> omega), ins_get B _ _ (by rw [l2]; split <;> omega)]
  simp only [k1, k2]
  by_cases h : q ≤ p
  ·have h' : ¬ p < q := by omega
   simp only [h, h', if_true, if_false]
   by_cases g1 : i < q
   ·simp [g1, show i < p + 1 by omega, show i < p by omega]
   ·by_cases g2 : i = q
    ·simp [g2, show q < p + 1 by omega]
    ·by_cases g3 : i < p + 1
     ·simp [g1, g2, g3, show i - 1 < p by omega]
     ·by_cases g4 : i = p + 1
      ·simp [g4, show ¬ (p + 1 < q) by omega, show ¬ (p + 1 = q) by omega]
      ·simp [g1, g2, g3, g4, show ¬ (i - 1 < q) by omega, show ¬ (i - 1 = q) by omega, show ¬ (i - 1 < p) by omega, show ¬ (i - 1 = p) by omega]
  ·have h' : p < q := by omega
   simp only [h, h', if_true, if_false]
   by_cases g1 : i < p
   ·simp [g1, show i < q + 1 by omega, show i < q by omega]
   ·by_cases g2 : i = p
    ·simp [g2, show p < q + 1 by omega]
    ·by_cases g3 : i < q + 1
     ·simp [g1, g2, g3, show i - 1 < q by omega]
     ·by_cases g4 : i = q + 1
      ·simp [g4, show ¬ (q + 1 < p) by omega, show ¬ (q + 1 = p) by omega]
      ·simp [g1, g2, g3, g4, show ¬ (i - 1 < q) by omega, show ¬ (i - 1 = q) by omega, show ¬ (i - 1 < p) by omega, show ¬ (i - 1 = p) by omega]
theorem square_pc (c d : Int) (p q : Nat) (l m : Int) (s : List UInt8) (hp : p ≤ s.length) (hq : q < s.length) : Square ⟨c, 1, p, l⟩ ⟨d, 2, q, m⟩ s := by
 refine ⟨?_, ?_, ?_⟩
 ·rw [turn_pc, ROp.does_cut, del_len _ _ hq]
  exact .inr (.inl ⟨rfl, by dsimp only; omega, by dsimp only; split <;> omega⟩)
 ·rw [turn_cp, ROp.does_put, ins_len _ _ _ hp]
  exact .inr (.inr ⟨rfl, by dsimp only; omega, by dsimp only; split <;> omega⟩)
 ·rw [turn_pc, turn_cp]
  simp only [ROp.does_put, ROp.does_cut]
  apply List.ext_getElem?
  intro i
  have l1 := del_len s q hq
  have l2 := ins_len s p (byteOf l) hp
  have k1 := del_get s q hq
  have k2 := ins_get s p (byteOf l) hp
  generalize s.take q ++ s.drop (q + 1) = A at *
  generalize s.take p ++ [byteOf l] ++ s.drop p = B at *
  rw [ins_get A _ _ (by rw [l1]; split <;> omega), del_get B _ (by rw [l2]; split <;> omega)]
  simp only [k1, k2]
  by_cases h : q < p
  ·have h' : ¬ p ≤ q := by omega
   simp only [h, h', if_true, if_false]
   by_cases g1 : i < q
   ·simp [g1, show i < p - 1 by omega, show i < p by omega]
   ·by_cases g3 : i < p - 1
    ·simp [g1, g3, show i + 1 < p by omega]
    ·by_cases g4 : i = p - 1
     ·simp [g4, show ¬ (p - 1 < q) by omega, show p - 1 + 1 = p by omega]
     ·simp [g1, g3, g4, show ¬ (i - 1 < q) by omega, show ¬ (i + 1 < p) by omega, show ¬ (i + 1 = p) by omega, show i - 1 + 1 = i by omega]
  ·have h' : p ≤ q := by omega
   simp only [h, h', if_true, if_false]
   by_cases g1 : i < p
   ·simp [g1, show i < q + 1 by omega, show i < q by omega]
   ·by_cases g2 : i = p
    ·simp [g2, show p < q + 1 by omega]
    ·by_cases g3 : i < q + 1
     ·simp [g1, g2, g3, show i - 1 < q by omega]
     ·simp [g1, g2, g3, show ¬ (i - 1 < q) by omega, show ¬ (i + 1 < p) by omega, show ¬ (i + 1 = p) by omega, show i - 1 + 1 = i by omega]
theorem square_cc (c d : Int) (p q : Nat) (l m : Int) (s : List UInt8) (hp : p < s.length) (hq : q < s.length) (hpq : q < p) : Square ⟨c, 2, p, l⟩ ⟨d, 2, q, m⟩ s := by
 have n1 : p ≠ q := by omega
 refine ⟨?_, ?_, ?_⟩
 ·rw [turn_cc _ _ _ _ _ _ n1, if_pos hpq, ROp.does_cut, del_len _ _ hq]
  exact .inr (.inr ⟨rfl, by dsimp only; omega, by dsimp only; omega⟩)
 ·rw [turn_cc _ _ _ _ _ _ n1.symm, if_neg (by omega), ROp.does_cut, del_len _ _ hp]
  exact .inr (.inr ⟨rfl, by dsimp only; omega, by dsimp only; omega⟩)
 ·rw [turn_cc _ _ _ _ _ _ n1, turn_cc _ _ _ _ _ _ n1.symm, if_pos hpq, if_neg (by omega)]
  simp only [ROp.does_cut]
  apply List.ext_getElem?
  intro i
  have l1 := del_len s q hq
  have l2 := del_len s p hp
  have k1 := del_get s q hq
  have k2 := del_get s p hp
  generalize s.take q ++ s.drop (q + 1) = A at *
  generalize s.take p ++ s.drop (p + 1) = B at *
  rw [del_get A _ (by rw [l1]; omega), del_get B _ (by rw [l2]; omega)]
  simp only [k1, k2]
  by_cases g1 : i < q
  ·simp [g1, show i < p - 1 by omega, show i < p by omega]
  ·by_cases g3 : i < p - 1
   ·simp [g1, g3, show i + 1 < p by omega]
   ·simp [g1, g3, show ¬ (i + 1 < q) by omega, show ¬ (i + 1 < p) by omega]
theorem square_nop (c : Int) (p : Int) (l : Int) (b : ROp) (s : List UInt8) (hb : b.fits s.length) : Square ⟨c, 0, p, l⟩ b s := by
 refine ⟨?_, ?_, ?_⟩
 ·rw [turn_nop]; exact .inl rfl
 ·rw [turn_by_nop, ROp.does_nop]; exact hb
 ·rw [turn_nop, turn_by_nop, ROp.does_nop, ROp.does_nop]
theorem square_cc_same (c d : Int) (p : Nat) (l m : Int) (s : List UInt8) : Square ⟨c, 2, p, l⟩ ⟨d, 2, p, m⟩ s := by
 refine ⟨?_, ?_, ?_⟩
 ·rw [turn_cc_same]; exact .inl rfl
 ·rw [turn_cc_same]; exact .inl rfl
 ·rw [turn_cc_same, turn_cc_same, ROp.does_nop, ROp.does_nop, ROp.does_cut, ROp.does_cut]

/-- TURNING EITHER WAY ROUND COMES TO ONE TEXT. -/
theorem square (a b : ROp) (s : List UInt8) (hne : a.client ≠ b.client) (ha : a.fits s.length) (hb : b.fits s.length) : Square a b s := by
 obtain ⟨c, va, pa, la⟩ := a
 obtain ⟨d, vb, pb, lb⟩ := b
 dsimp only at hne
 rcases ha with rfl | ⟨rfl, h1, h2⟩ | ⟨rfl, h1, h2⟩
 ·exact square_nop _ _ _ _ _ hb
 ·obtain ⟨p, rfl⟩ := Int.eq_ofNat_of_zero_le h1
  dsimp only at h2
  rcases hb with rfl | ⟨rfl, g1, g2⟩ | ⟨rfl, g1, g2⟩
  ·exact (square_nop _ _ _ _ _ (.inr (.inl ⟨rfl, by dsimp only; omega, by dsimp only; omega⟩))).symm
  ·obtain ⟨q, rfl⟩ := Int.eq_ofNat_of_zero_le g1
   dsimp only at g2
   rcases Int.lt_or_gt_of_ne hne with h | h
   ·exact (square_pp d c q p lb la s h (by omega) (by omega)).symm
   ·exact square_pp c d p q la lb s h (by omega) (by omega)
  ·obtain ⟨q, rfl⟩ := Int.eq_ofNat_of_zero_le g1
   dsimp only at g2
   exact square_pc c d p q la lb s (by omega) (by omega)
 ·obtain ⟨p, rfl⟩ := Int.eq_ofNat_of_zero_le h1
  dsimp only at h2
  rcases hb with rfl | ⟨rfl, g1, g2⟩ | ⟨rfl, g1, g2⟩
  ·exact (square_nop _ _ _ _ _ (.inr (.inr ⟨rfl, by dsimp only; omega, by dsimp only; omega⟩))).symm
  ·obtain ⟨q, rfl⟩ := Int.eq_ofNat_of_zero_le g1
   dsimp only at g2
   exact (square_pc d c q p lb la s (by omega) (by omega)).symm
  ·obtain ⟨q, rfl⟩ := Int.eq_ofNat_of_zero_le g1
   dsimp only at g2
   rcases Nat.lt_trichotomy q p with h | h | h
   ·exact square_cc c d p q la lb s (by omega) (by omega) h
   ·subst h; exact square_cc_same _ _ _ _ _ _
   ·exact (square_cc d c q p lb la s (by omega) (by omega) h).symm
end Go.Proofs.Ytemkgikncmhoaaa

namespace Go.Proofs.Ytemkgikncmhoaaa
open Go.RowKit

structure GMsg where
 ctx : Nat
 op : ROp
def gmsg (l : List GMsg) (i : Nat) : GMsg := l.getD (i - 1) ⟨0, .nop⟩
def gF : Nat → List GMsg → List GMsg → Nat → Nat → ROp
 | 0, us, _, i, _ => (gmsg us i).op
 | f + 1, us, ds, i, k => if k ≤ (gmsg us i).ctx then (gmsg us i).op else (gF f us ds i (k - 1)).turn (gF f ds us k (i - 1))
/-- The form of message i (from 1) of the first row, behind k of the second's. -/
def form (us ds : List GMsg) (i k : Nat) : ROp := gF (i + k) us ds i k

theorem form_base (us ds : List GMsg) (i k : Nat) (h : k ≤ (gmsg us i).ctx) : form us ds i k = (gmsg us i).op := by
 unfold form
 cases i + k with
 | zero => rfl
 | succ f => simp only [gF, if_pos h]
theorem form_step (us ds : List GMsg) (i k : Nat) (hi : 1 ≤ i) (h : (gmsg us i).ctx < k) : form us ds i k = (form us ds i (k - 1)).turn (form ds us k (i - 1)) := by
 unfold form
 obtain ⟨f, hf⟩ : ∃ f, i + k = f + 1 := ⟨i + k - 1, by omega⟩
 rw [hf, gF, if_neg (by omega), show i + (k - 1) = f by omega, show k + (i - 1) = f by omega]
theorem form_client (us ds : List GMsg) (i : Nat) (hi : 1 ≤ i) : ∀ k, (form us ds i k).client = (gmsg us i).op.client
 | 0 => by rw [form_base _ _ _ _ (Nat.zero_le _)]
 | k + 1 => by
  by_cases h : k + 1 ≤ (gmsg us i).ctx
  ·rw [form_base _ _ _ _ h]
  ·rw [form_step _ _ _ _ hi (by omega), ROp.turn_client]
   exact form_client us ds i hi k
theorem gF_same : ∀ (f : Nat) (us us' ds ds' : List GMsg) (i k : Nat), 1 ≤ i → (∀ j, 1 ≤ j → j ≤ i → gmsg us j = gmsg us' j) → (∀ j, 1 ≤ j → j ≤ k → gmsg ds j = gmsg ds' j) → gF f us ds i k = gF f us' ds' i k
 | 0, us, us', ds, ds', i, k, hi, h1, h2 => by simp only [gF, h1 i hi (Nat.le_refl _)]
 | f + 1, us, us', ds, ds', i, k, hi, h1, h2 => by
  simp only [gF, h1 i hi (Nat.le_refl _)]
  by_cases h : k ≤ (gmsg us' i).ctx
  ·rw [if_pos h, if_pos h]
  ·rw [if_neg h, if_neg h, gF_same f us us' ds ds' i (k - 1) hi h1 (fun j a b => h2 j a (by omega)), gF_same f ds ds' us us' k (i - 1) (by omega) h2 (fun j a b => h1 j a (by omega))]
theorem gmsg_push (us : List GMsg) (m : GMsg) (i : Nat) (h1 : 1 ≤ i) (h : i ≤ us.length) : gmsg (us ++ [m]) i = gmsg us i := by
 unfold gmsg
 rw [List.getD_eq_getElem?_getD, List.getD_eq_getElem?_getD, List.getElem?_append_left (by omega)]
theorem gmsg_last (us : List GMsg) (m : GMsg) : gmsg (us ++ [m]) (us.length + 1) = m := by
 unfold gmsg
 rw [List.getD_eq_getElem?_getD, Nat.add_sub_cancel, List.getElem?_append_right (Nat.le_refl _)]
 simp
theorem form_push (us ds : List GMsg) (m : GMsg) (i k : Nat) (h1 : 1 ≤ i) (h : i ≤ us.length) : form (us ++ [m]) ds i k = form us ds i k :=
 gF_same _ _ _ _ _ _ _ h1 (fun j a b => gmsg_push us m j a (by omega)) (fun _ _ _ => rfl)
theorem form_push' (us ds : List GMsg) (m : GMsg) (i k : Nat) (h1 : 1 ≤ i) (h : k ≤ ds.length) : form us (ds ++ [m]) i k = form us ds i k :=
 gF_same _ _ _ _ _ _ _ h1 (fun _ _ _ => rfl) (fun j a b => gmsg_push ds m j a (by omega))

/-- The contexts of the two rows are those of a run. -/
structure Hist (us ds : List GMsg) : Prop where
 mu : ∀ i j, 1 ≤ i → i ≤ j → j ≤ us.length → (gmsg us i).ctx ≤ (gmsg us j).ctx
 md : ∀ i j, 1 ≤ i → i ≤ j → j ≤ ds.length → (gmsg ds i).ctx ≤ (gmsg ds j).ctx
 bu : ∀ i, 1 ≤ i → i ≤ us.length → (gmsg us i).ctx ≤ ds.length
 bd : ∀ k, 1 ≤ k → k ≤ ds.length → (gmsg ds k).ctx ≤ us.length
 ac : ∀ i k, 1 ≤ i → i ≤ us.length → 1 ≤ k → k ≤ ds.length → (gmsg us i).ctx < k ∨ (gmsg ds k).ctx < i
 cl : ∀ i k, 1 ≤ i → i ≤ us.length → 1 ≤ k → k ≤ ds.length → (gmsg us i).op.client ≠ (gmsg ds k).op.client
theorem Hist.swap {us ds : List GMsg} (h : Hist us ds) : Hist ds us :=
 ⟨h.md, h.mu, h.bd, h.bu, fun i k a b c d => (h.ac k i c d a b).symm, fun i k a b c d => (h.cl k i c d a b).symm⟩
/-- A point that a run may have come to. -/
structure Pt (us ds : List GMsg) (i k : Nat) : Prop where
 li : i ≤ us.length
 lk : k ≤ ds.length
 ui : 1 ≤ i → (gmsg us i).ctx ≤ k
 dk : 1 ≤ k → (gmsg ds k).ctx ≤ i
theorem Pt.swap {us ds : List GMsg} {i k : Nat} (h : Pt us ds i k) : Pt ds us k i := ⟨h.lk, h.li, h.dk, h.ui⟩
/-- The texts at the points. -/
structure Grid (us ds : List GMsg) (T : Nat → Nat → List UInt8) : Prop where
 hist : Hist us ds
 start : T 0 0 = []
 u : ∀ i k, 1 ≤ i → Pt us ds i k → Pt us ds (i - 1) k → (form us ds i k).fits (T (i - 1) k).length ∧ T i k = (form us ds i k).does (T (i - 1) k)
 d : ∀ i k, 1 ≤ k → Pt us ds i k → Pt us ds i (k - 1) → (form ds us k i).fits (T i (k - 1)).length ∧ T i k = (form ds us k i).does (T i (k - 1))
theorem Grid.swap {us ds : List GMsg} {T : Nat → Nat → List UInt8} (h : Grid us ds T) : Grid ds us (fun k i => T i k) :=
 ⟨h.hist.swap, h.start, fun i k a b c => h.d k i a b.swap c.swap, fun i k a b c => h.u k i a b.swap c.swap⟩
theorem Grid.empty : Grid [] [] (fun _ _ => []) := by
 refine ⟨⟨?_, ?_, ?_, ?_, ?_, ?_⟩, rfl, ?_, ?_⟩
 ·intro i j h1 h2 h3; simp at h3; omega
 ·intro i j h1 h2 h3; simp at h3; omega
 ·intro i h1 h2; simp at h2; omega
 ·intro i h1 h2; simp at h2; omega
 ·intro i k h1 h2; simp at h2; omega
 ·intro i k h1 h2; simp at h2; omega
 ·intro i k h1 h2; have := h2.li; simp at this; omega
 ·intro i k h1 h2; have := h2.lk; simp at this; omega

theorem ROp.does_len (a : ROp) (s : List UInt8) (h : a.fits s.length) : (a.does s).length ≤ s.length + 1 := by
 obtain ⟨c, v, p, l⟩ := a
 rcases h with rfl | ⟨rfl, h1, h2⟩ | ⟨rfl, h1, h2⟩
 ·rw [ROp.does_nop]; omega
 ·obtain ⟨q, rfl⟩ := Int.eq_ofNat_of_zero_le h1
  dsimp only at h2
  rw [ROp.does_put, ins_len _ _ _ (by omega)]; omega
 ·obtain ⟨q, rfl⟩ := Int.eq_ofNat_of_zero_le h1
  dsimp only at h2
  rw [ROp.does_cut, del_len _ _ (by omega)]; omega

section
variable {us ds : List GMsg} {T : Nat → Nat → List UInt8}
theorem Grid.len (h : Grid us ds T) : ∀ n i k, i + k = n → Pt us ds i k → (T i k).length ≤ n
 | 0, i, k, e, hp => by
  obtain rfl : i = 0 := by omega
  obtain rfl : k = 0 := by omega
  rw [h.start]; simp
 | n + 1, i, k, e, hp => by
  by_cases hu : 1 ≤ i ∧ Pt us ds (i - 1) k
  ·obtain ⟨a, b⟩ := h.u i k hu.1 hp hu.2
   have := h.len n (i - 1) k (by omega) hu.2
   rw [b]
   have := ROp.does_len _ _ a
   omega
  ·have hk : 1 ≤ k ∧ Pt us ds i (k - 1) := by
    by_cases hk0 : k = 0
    ·exfalso
     apply hu
     subst hk0
     refine ⟨by omega, ⟨by have := hp.li; omega, hp.lk, fun h1 => ?_, fun h1 => by omega⟩⟩
     exact Nat.le_trans (h.hist.mu (i - 1) i h1 (by omega) hp.li) (hp.ui (by omega))
    ·refine ⟨by omega, ⟨hp.li, by have := hp.lk; omega, fun h1 => ?_, fun h1 => ?_⟩⟩
     ·rcases h.hist.ac i k h1 hp.li (by omega) hp.lk with g | g
      ·omega
      ·exfalso
       apply hu
       refine ⟨h1, ⟨by have := hp.li; omega, hp.lk, fun h2 => ?_, fun _ => by omega⟩⟩
       exact Nat.le_trans (h.hist.mu (i - 1) i h2 (by omega) hp.li) (hp.ui h1)
     ·exact Nat.le_trans (h.hist.md (k - 1) k h1 (by omega) hp.lk) (hp.dk (by omega))
   obtain ⟨a, b⟩ := h.d i k hk.1 hp hk.2
   have := h.len n i (k - 1) (by omega) hk.2
   rw [b]
   have := ROp.does_len _ _ a
   omega

/-- A MESSAGE MORE, of the first row's end, which has taken k0 of the other's. -/
theorem Grid.push (h : Grid us ds T) (k0 : Nat) (o : ROp) (hk : k0 ≤ ds.length) (hm : ∀ i, 1 ≤ i → i ≤ us.length → (gmsg us i).ctx ≤ k0) (hc : ∀ k, 1 ≤ k → k ≤ ds.length → o.client ≠ (gmsg ds k).op.client) (hf : o.fits (T us.length k0).length) :
  ∃ T', Grid (us ++ [⟨k0, o⟩]) ds T' ∧ (∀ i k, i ≤ us.length → T' i k = T i k) ∧ T' (us.length + 1) k0 = o.does (T us.length k0) := by
 have hpt : ∀ k, k0 ≤ k → k ≤ ds.length → Pt us ds us.length k := fun k h1 h2 => ⟨Nat.le_refl _, h2, fun h3 => Nat.le_trans (hm _ h3 (Nat.le_refl _)) h1, fun h3 => h.hist.bd k h3 h2⟩
 have hlast : (gmsg (us ++ [⟨k0, o⟩]) (us.length + 1)) = ⟨k0, o⟩ := gmsg_last _ _
 have hbase : form (us ++ [⟨k0, o⟩]) ds (us.length + 1) k0 = o := by rw [form_base _ _ _ _ (by rw [hlast]; exact Nat.le_refl _), hlast]
 have hist : Hist (us ++ [⟨k0, o⟩]) ds := by
  have lp : (us ++ [(⟨k0, o⟩ : GMsg)]).length = us.length + 1 := by simp
  refine ⟨?_, h.hist.md, ?_, ?_, ?_, ?_⟩
  ·intro i j h1 h2 h3
   rw [lp] at h3
   by_cases hj : j = us.length + 1
   ·subst hj
    by_cases hi : i = us.length + 1
    ·subst hi; exact Nat.le_refl _
    ·rw [gmsg_push _ _ _ h1 (by omega), hlast]; exact hm i h1 (by omega)
   ·rw [gmsg_push _ _ _ h1 (by omega), gmsg_push _ _ _ (by omega) (by omega)]; exact h.hist.mu i j h1 h2 (by omega)
  ·intro i h1 h2
   rw [lp] at h2
   by_cases hi : i = us.length + 1
   ·subst hi; rw [hlast]; exact hk
   ·rw [gmsg_push _ _ _ h1 (by omega)]; exact h.hist.bu i h1 (by omega)
  ·intro k h1 h2
   rw [lp]
   have := h.hist.bd k h1 h2
   omega
  ·intro i k h1 h2 h3 h4
   rw [lp] at h2
   by_cases hi : i = us.length + 1
   ·subst hi
    have := h.hist.bd k h3 h4
    exact .inr (by omega)
   ·rw [gmsg_push _ _ _ h1 (by omega)]; exact h.hist.ac i k h1 (by omega) h3 h4
  ·intro i k h1 h2 h3 h4
   rw [lp] at h2
   by_cases hi : i = us.length + 1
   ·subst hi; rw [hlast]; exact hc k h3 h4
   ·rw [gmsg_push _ _ _ h1 (by omega)]; exact h.hist.cl i k h1 (by omega) h3 h4
 have key : ∀ e, k0 + e ≤ ds.length → (form (us ++ [⟨k0, o⟩]) ds (us.length + 1) (k0 + e)).fits (T us.length (k0 + e)).length ∧
   (1 ≤ e → (form ds (us ++ [⟨k0, o⟩]) (k0 + e) (us.length + 1)).fits ((form (us ++ [⟨k0, o⟩]) ds (us.length + 1) (k0 + e - 1)).does (T us.length (k0 + e - 1))).length ∧
    (form (us ++ [⟨k0, o⟩]) ds (us.length + 1) (k0 + e)).does (T us.length (k0 + e)) = (form ds (us ++ [⟨k0, o⟩]) (k0 + e) (us.length + 1)).does ((form (us ++ [⟨k0, o⟩]) ds (us.length + 1) (k0 + e - 1)).does (T us.length (k0 + e - 1)))) := by
  intro e
  induction e with
  | zero => intro _; exact ⟨by simp only [Nat.add_zero]; rw [hbase]; exact hf, fun h => by omega⟩
  | succ e ih =>
   intro he
   obtain ⟨ih1, _⟩ := ih (by omega)
   obtain ⟨d1, d2⟩ := h.d us.length (k0 + (e + 1)) (by omega) (hpt _ (by omega) he) (hpt _ (by omega) (by omega))
   rw [show k0 + (e + 1) - 1 = k0 + e by omega] at d1 d2 ⊢
   have e1 : form (us ++ [⟨k0, o⟩]) ds (us.length + 1) (k0 + (e + 1)) = (form (us ++ [⟨k0, o⟩]) ds (us.length + 1) (k0 + e)).turn (form ds us (k0 + (e + 1)) us.length) := by
    rw [form_step _ _ _ _ (by omega) (by rw [hlast]; dsimp only; omega), show k0 + (e + 1) - 1 = k0 + e by omega, Nat.add_sub_cancel, form_push' _ _ _ _ _ (by omega) (Nat.le_refl _)]
   have e2 : form ds (us ++ [⟨k0, o⟩]) (k0 + (e + 1)) (us.length + 1) = (form ds us (k0 + (e + 1)) us.length).turn (form (us ++ [⟨k0, o⟩]) ds (us.length + 1) (k0 + e)) := by
    have := h.hist.bd (k0 + (e + 1)) (by omega) he
    rw [form_step _ _ _ _ (by omega) (by omega), show k0 + (e + 1) - 1 = k0 + e by omega, Nat.add_sub_cancel, form_push' _ _ _ _ _ (by omega) (Nat.le_refl _)]
   have hcl : (form (us ++ [⟨k0, o⟩]) ds (us.length + 1) (k0 + e)).client ≠ (form ds us (k0 + (e + 1)) us.length).client := by
    rw [form_client _ _ _ (by omega), form_client _ _ _ (by omega), hlast]
    exact hc _ (by omega) he
   have S := square _ _ _ hcl ih1 d1
   rw [e1, e2, d2]
   exact ⟨S.fa, fun _ => ⟨S.fb, S.same⟩⟩
 refine ⟨fun i k => if i ≤ us.length then T i k else (form (us ++ [⟨k0, o⟩]) ds (us.length + 1) k).does (T us.length k), ⟨hist, ?_, ?_, ?_⟩, fun i k hi => if_pos hi, ?_⟩
 ·rw [if_pos (Nat.zero_le _)]; exact h.start
 ·intro i k h1 hp hq
  have hil := hp.li
  simp only [List.length_append, List.length_cons, List.length_nil] at hil
  by_cases hi : i ≤ us.length
  ·rw [if_pos hi, if_pos (by omega), form_push _ _ _ _ _ h1 hi]
   refine h.u i k h1 ⟨hi, hp.lk, fun h2 => ?_, hp.dk⟩ ⟨by omega, hp.lk, fun h2 => ?_, hq.dk⟩
   ·have := hp.ui h2; rwa [gmsg_push _ _ _ h2 hi] at this
   ·have := hq.ui h2; rwa [gmsg_push _ _ _ h2 (by omega)] at this
  ·obtain rfl : i = us.length + 1 := by omega
   have h2 := hp.ui (by omega)
   rw [hlast] at h2
   dsimp only at h2
   rw [if_neg hi, if_pos (by omega), Nat.add_sub_cancel]
   obtain ⟨e, rfl⟩ : ∃ e, k = k0 + e := ⟨k - k0, by omega⟩
   exact ⟨(key e hp.lk).1, rfl⟩
 ·intro i k h1 hp hq
  have hil := hp.li
  simp only [List.length_append, List.length_cons, List.length_nil] at hil
  by_cases hi : i ≤ us.length
  ·rw [if_pos hi, if_pos hi, form_push' _ _ _ _ _ h1 hi]
   refine h.d i k h1 ⟨hi, hp.lk, fun h2 => ?_, hp.dk⟩ ⟨hi, hq.lk, fun h2 => ?_, hq.dk⟩
   ·have := hp.ui h2; rwa [gmsg_push _ _ _ h2 hi] at this
   ·have := hq.ui h2; rwa [gmsg_push _ _ _ h2 hi] at this
  ·obtain rfl : i = us.length + 1 := by omega
   have h2 := hq.ui (by omega)
   rw [hlast] at h2
   dsimp only at h2
   rw [if_neg hi, if_neg hi]
   obtain ⟨e, rfl⟩ : ∃ e, k = k0 + (e + 1) := ⟨k - k0 - 1, by omega⟩
   exact (key (e + 1) hp.lk).2 (by omega)
 ·dsimp only
  rw [if_neg (by omega), hbase]
end
end Go.Proofs.Ytemkgikncmhoaaa

