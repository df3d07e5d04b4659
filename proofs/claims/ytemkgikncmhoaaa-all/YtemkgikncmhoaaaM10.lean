import Derived.Test.YtemkgikncmhoaaaM09
namespace Go.Proofs.Ytemkgikncmhoaaa
open Go.RowKit
attribute [local go_sem ↓] Go.wp_at_zero Go.wp_at_succ

set_option maxRecDepth 100000 in
set_option maxHeartbeats 800000 in
theorem xdo_cut (own : Nat → Tag) (rid k tb : Nat) (t : List UInt8) (cl : Int) (p : Nat) (l : Int) (w : World) (h : TextX own rid k w tb t) (hp : p < t.length) (ht : t.length ≤ 900) :
  Calls Try.prog 52 #[.pointer (some ⟨tb, 0, none⟩), .agg #[.int .i64 cl, .int .i64 2, .int .i64 p, .int .u8 l]] w fun e w' => e = .returned (.tuple #[]) ∧ ∃ own', TextX own' rid k w' tb (delB t p) ∧ Upd own own' (inText rid k) w w' := by
 obtain ⟨lv, hc, ho⟩ := h
 obtain ⟨m, hm⟩ : ∃ m, t.length = m + 1 := ⟨t.length - 1, by omega⟩
 obtain ⟨g, c, rfl, hgc⟩ : ∃ g c, lv = .slice (some ⟨g, 0, none⟩) (m + 1) c ∧ m + 1 ≤ c := by
  rcases ho.1.2 with ⟨_, h0⟩ | ⟨g, c, cur, h1, _, _, h2, _⟩
  ·omega
  ·exact ⟨g, c, by rw [h1, hm], by omega⟩
 rw [hm] at ho
 have V : Upd own (retag own w.heap.size (rid + 1, 0, 0)) (fun _ => False) w (w.alloc (Obj.cells #[Value.int IntKind.i64 cl, Value.int IntKind.i64 2, Value.int IntKind.i64 p, Value.int IntKind.u8 l] 94)) := Upd.retag ((Upd.refl own (fun _ => False) w).alloc _) _ _ (Nat.le_refl _)
 have CN := CellsT.new w #[Value.int IntKind.i64 cl, Value.int IntKind.i64 2, Value.int IntKind.i64 p, Value.int IntKind.u8 l] 94 own (rid + 1, 0, 0)
 have hc1 := hc.upd V (fun h => h)
 have ho1 := ho.upd V (fun h => h)
 go_enter Try.func52, Try.ntmps52
 go_wp2_with fail
 have HV := hide V
 clear hc ho V
 generalize w.alloc (Obj.cells #[Value.int IntKind.i64 cl, Value.int IntKind.i64 2, Value.int IntKind.i64 p, Value.int IntKind.u8 l] 94) = W1 at *
 generalize retag own w.heap.size (rid + 1, 0, 0) = own1 at *
 have c0 : W1.cell? ⟨tb, 0, none⟩ = some (.slice (some ⟨g, 0, none⟩) (m + 1) c) := by rw [hc1.cell]; rfl
 have f0 := hc1.frozen 0
 have z2 := CN.cell 2
 simp only [List.getElem?_toArray, List.getElem?_cons_zero, List.getElem?_cons_succ] at z2
 have hwp : IntKind.i64.wrap ((p : Int) + 1) = (p : Int) + 1 := by rw [IntKind.wrap_i64]; omega
 have HI := hide (del_one own1 (rid, k, 2) g m c p (t.map byteCell) W1.drew ho1.drew (by omega) (by omega) hgc (by intro v hv; simp at hv; obtain ⟨q, _, rfl⟩ := hv; rfl))
 have FIN : Hid (∀ w', OwnsT own1 (rid, k, 2) w' 5 1 (.slice (some ⟨g, 0, none⟩) m c) m ((t.map byteCell).take p ++ (t.map byteCell).drop (p + 1)) → Upd own1 own1 (fun t => t = (rid, k, 2)) W1.drew w' →
   (w'.cell? ⟨tb, 0, none⟩ = some (.slice (some ⟨g, 0, none⟩) (m + 1) c) ∧ w'.frozen? ⟨tb, 0, none⟩ = false) ∧ ∃ own2, TextX own2 rid k (w'.setCell ⟨tb, 0, none⟩ (.slice (some ⟨g, 0, none⟩) m c)) tb (delB t p) ∧ Upd own own2 (inText rid k) w (w'.setCell ⟨tb, 0, none⟩ (.slice (some ⟨g, 0, none⟩) m c))) := by
  apply hide
  intro w' h1 h2
  have hc3 := hc1.drew.upd h2 (by simp)
  refine ⟨⟨by rw [hc3.cell]; rfl, hc3.frozen 0⟩, ?_⟩
  obtain ⟨C, O, U⟩ := app_store0 (k := 0) hc1.drew h2 (by simp) h1
  refine ⟨own1, ⟨_, C, ?_⟩, ((((unhide HV).mono (fun _ h => h.elim)).drew).trans (U.mono (by rintro q (rfl | rfl) <;> simp [inText])))⟩
  have e : (delB t p).map byteCell = (t.map byteCell).take p ++ (t.map byteCell).drop (p + 1) := by
   simp [delB, List.map_take, List.map_drop]
  rw [e, show (delB t p).length = m from by simp [delB]; omega]
  exact O
 clear hc1 ho1 CN HV
 generalize w.heap.size = N at *
 go_region_with (first | (go_at_call 72; refine (unhide HI).mono ?_; rintro e w' ⟨rfl, h1, h2⟩; obtain ⟨⟨k0, g0⟩, hF⟩ := unhide FIN _ h1 h2))
 all_goals
  go_wp2
  go_end0
  exact ⟨rfl, hF⟩

def inClient (rid k : Nat) (t : Tag) : Prop := t.1 = rid ∧ t.2.1 = k
theorem inEnd.client {rid k : Nat} {t : Tag} (h : inEnd rid k t) : inClient rid k t := ⟨h.1, h.2.1⟩
theorem inText.client {rid k : Nat} {t : Tag} (h : inText rid k t) : inClient rid k t := by rcases h with rfl | rfl <;> exact ⟨rfl, rfl⟩

set_option maxRecDepth 100000 in
set_option maxHeartbeats 800000 in
theorem xchange (own : Nat → Tag) (rid k b tb window : Nat) (E : IEnd) (t t' : List UInt8) (o : ROp) (w : World) (h : EndX own rid k w b tb window E) (hT : TextX own rid k w tb t) (ho : o.Small) (h1 : E.made < 240) (h2 : E.taken ≤ 240) (h4 : E.flying.length ≤ 12) (h6 : E.opn.length ≤ 240)
  (hdo : ∀ own1 w1, TextX own1 rid k w1 tb t → Calls Try.prog 52 #[.pointer (some ⟨tb, 0, none⟩), .agg #[.int .i64 o.client, .int .i64 o.verb, .int .i64 o.place, .int .u8 o.letter]] w1 fun e w' => e = .returned (.tuple #[]) ∧ ∃ own', TextX own' rid k w' tb t' ∧ Upd own1 own' (inText rid k) w1 w') :
  Calls Try.prog 41 #[.pointer (some ⟨b, 0, none⟩), .agg #[.int .i64 o.client, .int .i64 o.verb, .int .i64 o.place, .int .u8 o.letter]] w fun e w' => e = .returned (.tuple #[]) ∧ ∃ own', EndX own' rid k w' b tb window (E.make o window) ∧ TextX own' rid k w' tb t' ∧ Upd own own' (inClient rid k) w w' := by
 have V : Upd own (retag own w.heap.size (rid + 1, 0, 0)) (fun _ => False) w (w.alloc (Obj.cells #[Value.int IntKind.i64 o.client, Value.int IntKind.i64 o.verb, Value.int IntKind.i64 o.place, Value.int IntKind.u8 o.letter] 94)) := Upd.retag ((Upd.refl own (fun _ => False) w).alloc _) _ _ (Nat.le_refl _)
 have CN := CellsT.new w #[Value.int IntKind.i64 o.client, Value.int IntKind.i64 o.verb, Value.int IntKind.i64 o.place, Value.int IntKind.u8 o.letter] 94 own (rid + 1, 0, 0)
 have hE1 := h.upd V (fun _ _ _ h => h)
 have hT1 := hT.upd V (fun h => h) (fun h => h)
 go_enter Try.func41, Try.ntmps41
 go_wp2_with fail
 have HV := hide V
 clear h hT V
 generalize w.alloc (Obj.cells #[Value.int IntKind.i64 o.client, Value.int IntKind.i64 o.verb, Value.int IntKind.i64 o.place, Value.int IntKind.u8 o.letter] 94) = W1 at *
 generalize retag own w.heap.size (rid + 1, 0, 0) = own1 at *
 have c0 : W1.cell? ⟨b, 0, none⟩ = some (.pointer (some ⟨tb, 0, none⟩)) := hE1.c0
 have z0 := CN.cell 0
 have z1 := CN.cell 1
 have z2 := CN.cell 2
 have z3 := CN.cell 3
 simp only [List.getElem?_toArray, List.getElem?_cons_zero, List.getElem?_cons_succ] at z0 z1 z2 z3
 have HDO := hide (hdo own1 W1.drew (hT1.upd ((Upd.refl own1 (fun _ => False) W1).drew) (fun h => h) (fun h => h)))
 have HMK : Hid (∀ own2 w2, TextX own2 rid k w2 tb t' → Upd own1 own2 (inText rid k) W1.drew w2 → (w2.cell? ⟨w.heap.size, 0, none⟩ = some (.int .i64 o.client) ∧ w2.cell? ⟨w.heap.size, 1, none⟩ = some (.int .i64 o.verb) ∧ w2.cell? ⟨w.heap.size, 2, none⟩ = some (.int .i64 o.place) ∧ w2.cell? ⟨w.heap.size, 3, none⟩ = some (.int .u8 o.letter)) ∧
   Calls Try.prog 53 #[.pointer (some ⟨b, 0, none⟩), .agg #[.int .i64 o.client, .int .i64 o.verb, .int .i64 o.place, .int .u8 o.letter]] w2 fun e w' => e = .returned (.tuple #[]) ∧ ∃ own', EndX own' rid k w' b tb window (E.make o window) ∧ TextX own' rid k w' tb t' ∧ Upd own own' (inClient rid k) w w') := by
  apply hide
  intro own2 w2 hT2 hU2
  have hC2 := CN.drew.upd hU2 (by simp [inText])
  refine ⟨⟨by rw [hC2.cell]; rfl, by rw [hC2.cell]; rfl, by rw [hC2.cell]; rfl, by rw [hC2.cell]; rfl⟩, ?_⟩
  have hE2 := (hE1.upd ((Upd.refl own1 (fun _ => False) W1).drew) (fun _ _ _ h => h)).upd hU2 (by intro j h1 h2; simp [inText, h1, h2])
  refine (xmake own2 rid k b tb window E o w2 hE2 ho h1 h2 h4 h6).mono ?_
  rintro e w' ⟨rfl, own3, hE3, hU3⟩
  exact ⟨rfl, own3, hE3, hT2.upd hU3 (by simp [inEnd]) (by simp [inEnd]), (((unhide HV).mono (fun _ h => h.elim)).drew.trans (hU2.mono (fun _ h => h.client))).trans (hU3.mono (fun _ h => h.client))⟩
 clear hE1 hT1 CN HV hdo ho
 generalize w.heap.size = N at *
 go_region_with (first | (go_at_call 52; refine (unhide HDO).mono ?_; rintro e w2 ⟨rfl, own2, hT2, hU2⟩; obtain ⟨⟨y0, y1, y2, y3⟩, hM⟩ := unhide HMK own2 w2 hT2 hU2; have HM := hide hM; clear hM))
 all_goals
  go_wp2_with (first | (go_at_call 53; refine (unhide HM).mono ?_; rintro e w3 ⟨rfl, hF⟩))
  go_end0
  exact ⟨rfl, hF⟩

def IEnd.refusal (E : IEnd) (window : Nat) : Int := if window ≤ E.waiting.length then 5 else if 60 ≤ E.made then 6 else 0

set_option maxRecDepth 100000 in
set_option maxHeartbeats 400000 in
theorem xrefusal (own : Nat → Tag) (rid k b tb window : Nat) (E : IEnd) (w : World) (h : EndX own rid k w b tb window E) (h1 : E.made ≤ 1000) :
  Calls Try.prog 40 #[.pointer (some ⟨b, 0, none⟩)] w fun e w' => e = .returned (.int .i64 (E.refusal window)) ∧ Below w.heap.size w w' := by
 have c1 := h.c1
 have HW : Hid (Calls Try.prog 36 #[.pointer (some ⟨b, 0, none⟩)] w.drew fun e w' => e = .returned (.int .i64 E.waiting.length) ∧ w' = w.drew) :=
  hide (xwaits own rid k b tb window E w.drew (h.upd ((Upd.refl own (fun _ => False) w).drew) (fun _ _ _ h => h)))
 have HM : Hid (Calls Try.prog 51 #[.pointer (some ⟨b, 0, none⟩)] w.drew fun e w' => e = .returned (.int .i64 E.made) ∧ w' = w.drew.drew) :=
  hide (xmade own rid k b tb window E w.drew (h.upd ((Upd.refl own (fun _ => False) w).drew) (fun _ _ _ h => h)) h1)
 have HR : Hid (E.refusal window = if window ≤ E.waiting.length then 5 else if 60 ≤ E.made then 6 else 0) := rfl
 clear h
 generalize E.waiting.length = wl at *
 generalize E.made = md at *
 by_cases g1 : window ≤ wl
 ·have g1' : (window : Int) ≤ (wl : Int) := by omega
  rw [if_pos g1] at HR
  go_enter Try.func40, Try.ntmps40
  go_wp2_with fail
  go_region_with (first | (go_at_call 36; refine (unhide HW).mono ?_; rintro e w' ⟨rfl, rfl⟩))
  all_goals go_wp2
  all_goals go_ret
  all_goals exact ⟨by rw [HR.out]; rfl, (Below.refl _ _).drew⟩
 ·have g1' : ¬ (window : Int) ≤ (wl : Int) := by omega
  rw [if_neg g1] at HR
  by_cases g2 : 60 ≤ md
  all_goals
   first | rw [if_pos g2] at HR | rw [if_neg g2] at HR
   first
    | have g3 : (60 : Int) ≤ (md : Int) := by omega
    | have g3 : ¬ (60 : Int) ≤ (md : Int) := by omega
   go_enter Try.func40, Try.ntmps40
   go_wp2_with fail
   go_region_with (first | (go_at_call 36; refine (unhide HW).mono ?_; rintro e w' ⟨rfl, rfl⟩))
   all_goals go_wp2_with (first | (go_at_call 51; refine (unhide HM).mono ?_; rintro e w' ⟨rfl, rfl⟩))
   all_goals go_ret
   all_goals exact ⟨by rw [HR.out]; rfl, ((Below.refl _ _).drew).drew⟩

theorem xisLetter (l : Int) (w : World) : Calls Try.prog 39 #[.int .u8 l] w fun e w' => e = .returned (.bool (decide (33 ≤ l ∧ l ≤ 126))) ∧ w' = w := by
 by_cases h1 : 33 ≤ l
 ·by_cases h2 : l ≤ 126
  all_goals
   go_enter Try.func39, Try.ntmps39
   go_wp2
   go_ret
   exact ⟨by simp [h1, h2], rfl⟩
 ·go_enter Try.func39, Try.ntmps39
  go_wp2
  go_ret
  exact ⟨by simp; omega, rfl⟩
end Go.Proofs.Ytemkgikncmhoaaa

