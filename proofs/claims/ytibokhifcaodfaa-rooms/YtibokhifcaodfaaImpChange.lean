/-
  weave: (*text).do of a cut; (*end).change, waits, refusal; isLetter. Own work.
-/
import Derived.Test.YtibokhifcaodfaaImpDo
import Derived.Test.YtibokhifcaodfaaImpMake
namespace Go.Proofs.Ytibokhifcaodfaa
open Go.RowKit
attribute [local go_sem ↓] Go.wp_at_zero Go.wp_at_succ

set_option maxRecDepth 100000 in
set_option maxHeartbeats 800000 in
theorem xdo_cut (own : Nat → Tag) (rid k tb : Nat) (t : List UInt8) (cl : Int) (p : Nat) (l : Int) (w : World) (h : TextX own rid k w tb t) (hp : p < t.length) (ht : t.length ≤ 900) :
    Calls Try.prog 45 #[.pointer (some ⟨tb, 0, none⟩), .agg #[.int .i64 cl, .int .i64 2, .int .i64 p, .int .u8 l]] w fun e w' => e = .returned (.tuple #[]) ∧ ∃ own', TextX own' rid k w' tb (delB t p) ∧ Upd own own' (inText rid k) w w' := by
  obtain ⟨lv, hc, ho⟩ := h
  obtain ⟨m, hm⟩ : ∃ m, t.length = m + 1 := ⟨t.length - 1, by omega⟩
  obtain ⟨g, c, rfl, hgc⟩ : ∃ g c, lv = .slice (some ⟨g, 0, none⟩) (m + 1) c ∧ m + 1 ≤ c := by
    rcases ho.1.2 with ⟨_, h0⟩ | ⟨g, c, cur, h1, _, _, h2, _⟩
    · omega
    · exact ⟨g, c, by rw [h1, hm], by omega⟩
  rw [hm] at ho
  have V : Upd own (retag own w.heap.size (rid + 1, 0, 0)) (fun _ => False) w (w.alloc (Obj.cells #[Value.int IntKind.i64 cl, Value.int IntKind.i64 2, Value.int IntKind.i64 p, Value.int IntKind.u8 l] 102)) := Upd.retag ((Upd.refl own (fun _ => False) w).alloc _) _ _ (Nat.le_refl _)
  have CN := CellsT.new w #[Value.int IntKind.i64 cl, Value.int IntKind.i64 2, Value.int IntKind.i64 p, Value.int IntKind.u8 l] 102 own (rid + 1, 0, 0)
  have hc1 := hc.upd V (fun h => h)
  have ho1 := ho.upd V (fun h => h)
  go_enter Try.func45, Try.ntmps45
  go_wp2_with fail
  have HV := hide V
  clear hc ho V
  generalize w.alloc (Obj.cells #[Value.int IntKind.i64 cl, Value.int IntKind.i64 2, Value.int IntKind.i64 p, Value.int IntKind.u8 l] 102) = W1 at *
  generalize retag own w.heap.size (rid + 1, 0, 0) = own1 at *
  have c0 : W1.cell? ⟨tb, 0, none⟩ = some (.slice (some ⟨g, 0, none⟩) (m + 1) c) := by rw [hc1.cell]; rfl
  have f0 := hc1.frozen 0
  have z2 := CN.cell 2
  simp only [List.getElem?_toArray, List.getElem?_cons_zero, List.getElem?_cons_succ] at z2
  have hwp : IntKind.i64.wrap ((p : Int) + 1) = (p : Int) + 1 := by rw [IntKind.wrap_i64]; omega
  have HI := hide (del_one own1 (rid, k, 2) g m c p (t.map byteCell) W1.drew ho1.drew (by omega) (by omega) hgc (by intro v hv; simp at hv; obtain ⟨q, _, rfl⟩ := hv; rfl))
  have FIN : Hid (∀ w', OwnsT own1 (rid, k, 2) w' 5 1 (.slice (some ⟨g, 0, none⟩) m c) m ((t.map byteCell).take p ++ (t.map byteCell).drop (p + 1)) → Upd own1 own1 (fun t => t = (rid, k, 2)) W1.drew w' →
      (w'.cell? ⟨tb, 0, none⟩ = some (.slice (some ⟨g, 0, none⟩) (m + 1) c) ∧ w'.frozen? ⟨tb, 0, none⟩ = false) ∧ ∃ own2, TextX own2 rid k (w'.setCell ⟨tb, 0, none⟩ (.slice (some ⟨g, 0, none⟩) m c)) tb (delB t p) ∧ Upd own own2 (inText rid k) w (w'.setCell ⟨tb, 0, none⟩ (.slice (some ⟨g, 0, none⟩) m c))) := by
    apply hide
    intro w' h1 h2
    have hc3 := hc1.drew.upd h2 (by simp)
    refine ⟨⟨by rw [hc3.cell]; rfl, hc3.frozen 0⟩, ?_⟩
    obtain ⟨C, O, U⟩ := app_store0 (k := 0) hc1.drew h2 (by simp) h1
    refine ⟨own1, ⟨_, C, ?_⟩, ((((unhide HV).mono (fun _ h => h.elim)).drew).trans (U.mono (by rintro q (rfl | rfl) <;> simp [inText])))⟩
    have e : (delB t p).map byteCell = (t.map byteCell).take p ++ (t.map byteCell).drop (p + 1) := by
      simp [delB, List.map_take, List.map_drop]
    rw [e, show (delB t p).length = m from by simp [delB]; omega]
    exact O
  clear hc1 ho1 CN HV
  generalize w.heap.size = N at *
  go_region_with (first | (go_at_call 53; refine (unhide HI).mono ?_; rintro e w' ⟨rfl, h1, h2⟩; obtain ⟨⟨k0, g0⟩, hF⟩ := unhide FIN _ h1 h2))
  all_goals
    go_wp2
    go_end0
    exact ⟨rfl, hF⟩

def inClient (rid k : Nat) (t : Tag) : Prop := t.1 = rid ∧ t.2.1 = k
theorem inEnd.client {rid k : Nat} {t : Tag} (h : inEnd rid k t) : inClient rid k t := by rcases h with rfl | rfl | rfl <;> exact ⟨rfl, rfl⟩
theorem inText.client {rid k : Nat} {t : Tag} (h : inText rid k t) : inClient rid k t := by rcases h with rfl | rfl <;> exact ⟨rfl, rfl⟩

set_option maxRecDepth 100000 in
set_option maxHeartbeats 800000 in
theorem xchange (own : Nat → Tag) (rid k b tb window : Nat) (E : IEnd) (t t' : List UInt8) (o : ROp) (w : World) (h : EndX own rid k w b tb window E) (hT : TextX own rid k w tb t) (ho : o.Small) (h1 : E.made.length < 240) (h2 : E.taken ≤ 240) (h3 : E.known ≤ 240) (h4 : E.flying.length ≤ 12) (h5 : window ≤ 4)
    (hdo : ∀ own1 w1, TextX own1 rid k w1 tb t → Calls Try.prog 45 #[.pointer (some ⟨tb, 0, none⟩), .agg #[.int .i64 o.client, .int .i64 o.verb, .int .i64 o.place, .int .u8 o.letter]] w1 fun e w' => e = .returned (.tuple #[]) ∧ ∃ own', TextX own' rid k w' tb t' ∧ Upd own1 own' (inText rid k) w1 w') :
    Calls Try.prog 37 #[.pointer (some ⟨b, 0, none⟩), .agg #[.int .i64 o.client, .int .i64 o.verb, .int .i64 o.place, .int .u8 o.letter]] w fun e w' => e = .returned (.tuple #[]) ∧ ∃ own', EndX own' rid k w' b tb window (E.make o window) ∧ TextX own' rid k w' tb t' ∧ Upd own own' (inClient rid k) w w' := by
  have V : Upd own (retag own w.heap.size (rid + 1, 0, 0)) (fun _ => False) w (w.alloc (Obj.cells #[Value.int IntKind.i64 o.client, Value.int IntKind.i64 o.verb, Value.int IntKind.i64 o.place, Value.int IntKind.u8 o.letter] 102)) := Upd.retag ((Upd.refl own (fun _ => False) w).alloc _) _ _ (Nat.le_refl _)
  have CN := CellsT.new w #[Value.int IntKind.i64 o.client, Value.int IntKind.i64 o.verb, Value.int IntKind.i64 o.place, Value.int IntKind.u8 o.letter] 102 own (rid + 1, 0, 0)
  have hE1 := h.upd V (fun h => h) (fun h => h) (fun h => h)
  have hT1 := hT.upd V (fun h => h) (fun h => h)
  go_enter Try.func37, Try.ntmps37
  go_wp2_with fail
  have HV := hide V
  clear h hT V
  generalize w.alloc (Obj.cells #[Value.int IntKind.i64 o.client, Value.int IntKind.i64 o.verb, Value.int IntKind.i64 o.place, Value.int IntKind.u8 o.letter] 102) = W1 at *
  generalize retag own w.heap.size (rid + 1, 0, 0) = own1 at *
  have c0 : W1.cell? ⟨b, 0, none⟩ = some (.pointer (some ⟨tb, 0, none⟩)) := by obtain ⟨_, _, hc, _⟩ := hE1; rw [hc.cell]; rfl
  have z0 := CN.cell 0
  have z1 := CN.cell 1
  have z2 := CN.cell 2
  have z3 := CN.cell 3
  simp only [List.getElem?_toArray, List.getElem?_cons_zero, List.getElem?_cons_succ] at z0 z1 z2 z3
  have HDO := hide (hdo own1 W1.drew (hT1.upd ((Upd.refl own1 (fun _ => False) W1).drew) (fun h => h) (fun h => h)))
  have HMK : Hid (∀ own2 w2, TextX own2 rid k w2 tb t' → Upd own1 own2 (inText rid k) W1.drew w2 → (w2.cell? ⟨w.heap.size, 0, none⟩ = some (.int .i64 o.client) ∧ w2.cell? ⟨w.heap.size, 1, none⟩ = some (.int .i64 o.verb) ∧ w2.cell? ⟨w.heap.size, 2, none⟩ = some (.int .i64 o.place) ∧ w2.cell? ⟨w.heap.size, 3, none⟩ = some (.int .u8 o.letter)) ∧
      Calls Try.prog 46 #[.pointer (some ⟨b, 0, none⟩), .agg #[.int .i64 o.client, .int .i64 o.verb, .int .i64 o.place, .int .u8 o.letter]] w2 fun e w' => e = .returned (.tuple #[]) ∧ ∃ own', EndX own' rid k w' b tb window (E.make o window) ∧ TextX own' rid k w' tb t' ∧ Upd own own' (inClient rid k) w w') := by
    apply hide
    intro own2 w2 hT2 hU2
    have hC2 := CN.drew.upd hU2 (by simp [inText])
    refine ⟨⟨by rw [hC2.cell]; rfl, by rw [hC2.cell]; rfl, by rw [hC2.cell]; rfl, by rw [hC2.cell]; rfl⟩, ?_⟩
    have hE2 := (hE1.upd ((Upd.refl own1 (fun _ => False) W1).drew) (fun h => h) (fun h => h) (fun h => h)).upd hU2 (by simp [inText]) (by simp [inText]) (by simp [inText])
    refine (xmake own2 rid k b tb window E o w2 hE2 ho h1 h2 h3 h4 h5).mono ?_
    rintro e w' ⟨rfl, own3, hE3, hU3⟩
    exact ⟨rfl, own3, hE3, hT2.upd hU3 (by simp [inEnd]) (by simp [inEnd]), (((unhide HV).mono (fun _ h => h.elim)).drew.trans (hU2.mono (fun _ h => h.client))).trans (hU3.mono (fun _ h => h.client))⟩
  clear hE1 hT1 CN HV hdo ho
  generalize w.heap.size = N at *
  go_region_with (first | (go_at_call 45; refine (unhide HDO).mono ?_; rintro e w2 ⟨rfl, own2, hT2, hU2⟩; obtain ⟨⟨y0, y1, y2, y3⟩, hM⟩ := unhide HMK own2 w2 hT2 hU2; have HM := hide hM; clear hM))
  all_goals
    go_wp2_with (first | (go_at_call 46; refine (unhide HM).mono ?_; rintro e w3 ⟨rfl, hF⟩))
    go_end0
    exact ⟨rfl, hF⟩

set_option maxRecDepth 100000 in
set_option maxHeartbeats 400000 in
theorem xwaits (own : Nat → Tag) (rid k b tb window : Nat) (E : IEnd) (w : World) (h : EndX own rid k w b tb window E) (h1 : E.made.length ≤ 240) (h2 : E.known ≤ 240) :
    Calls Try.prog 40 #[.pointer (some ⟨b, 0, none⟩)] w fun e w' => e = .returned (.int .i64 ((E.made.length : Int) - E.known)) ∧ Below w.heap.size w w' := by
  obtain ⟨mv, fv, hc, hm, hf⟩ := h
  obtain ⟨a, c, rfl, _, _⟩ := hm.shape
  have c2 : w.cell? ⟨b, 2, none⟩ = some (.slice a E.made.length c) := by rw [hc.cell]; rfl
  have c3 : w.cell? ⟨b, 3, none⟩ = some (.int .i64 E.known) := by rw [hc.cell]; rfl
  have hwr : IntKind.i64.wrap ((E.made.length : Int) - E.known) = (E.made.length : Int) - E.known := by rw [IntKind.wrap_i64]; omega
  clear hc hm hf
  go_enter Try.func40, Try.ntmps40
  go_wp2_with fail
  go_region
  all_goals go_wp2
  all_goals go_ret
  all_goals exact ⟨by simp, (Below.refl _ _).drew⟩

def IEnd.refusal (E : IEnd) (window : Nat) : Int := if (window : Int) ≤ (E.made.length : Int) - E.known then 5 else if 60 ≤ E.made.length then 6 else 0

set_option maxRecDepth 100000 in
set_option maxHeartbeats 400000 in
theorem xrefusal (own : Nat → Tag) (rid k b tb window : Nat) (E : IEnd) (w : World) (h : EndX own rid k w b tb window E) (h1 : E.made.length ≤ 240) (h2 : E.known ≤ 240) (_h3 : window ≤ 4) :
    Calls Try.prog 36 #[.pointer (some ⟨b, 0, none⟩)] w fun e w' => e = .returned (.int .i64 (E.refusal window)) ∧ Below w.heap.size w w' := by
  have hE0 := h
  obtain ⟨mv, fv, hc, hm, hf⟩ := h
  obtain ⟨a, c, rfl, _, _⟩ := hm.shape
  have c1 : w.cell? ⟨b, 1, none⟩ = some (.int .i64 window) := by rw [hc.cell]; rfl
  have hbl := hc.lt
  have HW : Hid (∀ w1, Below w.heap.size w w1 → Calls Try.prog 40 #[.pointer (some ⟨b, 0, none⟩)] w1 fun e w' => e = .returned (.int .i64 ((E.made.length : Int) - E.known)) ∧ Below w.heap.size w w' ∧ w'.cell? ⟨b, 1, none⟩ = some (.int .i64 window) ∧ w'.cell? ⟨b, 2, none⟩ = some (.slice a E.made.length c)) := by
    apply hide
    intro w1 hb
    have U := Upd.of_below own (fun _ => False) hb
    have hE1 := hE0.upd U (fun h => h) (fun h => h) (fun h => h)
    refine (xwaits own rid k b tb window E w1 hE1 h1 h2).mono ?_
    rintro e w' ⟨rfl, hb'⟩
    have hB : Below w.heap.size w w' := hb.trans (hb'.mono hb.size)
    refine ⟨rfl, hB, (hB.cell (p := ⟨b, 1, none⟩) hbl).trans c1, ?_⟩
    rw [hB.cell (p := ⟨b, 2, none⟩) hbl, hc.cell]; rfl
  have HR : Hid (E.refusal window = if (window : Int) ≤ (E.made.length : Int) - E.known then 5 else if 60 ≤ E.made.length then 6 else 0) := rfl
  clear hc hm hf hE0
  generalize E.made.length = ml at *
  generalize E.known = kn at *
  have hB0 := hide ((Below.refl w.heap.size w).drew)
  by_cases g1 : (window : Int) ≤ (ml : Int) - kn
  · rw [if_pos g1] at HR
    go_enter Try.func36, Try.ntmps36
    go_wp2_with fail
    go_region_with (first | (go_at_call 40; refine (unhide HW _ (unhide hB0)).mono ?_; rintro e w' ⟨rfl, hb', d1, d2⟩))
    all_goals go_wp2
    all_goals go_ret
    all_goals exact ⟨by rw [HR.out]; rfl, hb'⟩
  · rw [if_neg g1] at HR
    by_cases g2 : 60 ≤ ml
    all_goals
      first | rw [if_pos g2] at HR | rw [if_neg g2] at HR
      first | have g3 : (60 : Int) ≤ (ml : Int) := by omega
            | have g3 : ¬ (60 : Int) ≤ (ml : Int) := by omega
      go_enter Try.func36, Try.ntmps36
      go_wp2_with fail
      go_region_with (first | (go_at_call 40; refine (unhide HW _ (unhide hB0)).mono ?_; rintro e w' ⟨rfl, hb', d1, d2⟩))
      all_goals go_wp2
      all_goals go_ret
      all_goals exact ⟨by rw [HR.out]; rfl, hb'⟩

theorem xisLetter (l : Int) (w : World) : Calls Try.prog 35 #[.int .u8 l] w fun e w' => e = .returned (.bool (decide (33 ≤ l ∧ l ≤ 126))) ∧ w' = w := by
  by_cases h1 : 33 ≤ l
  · by_cases h2 : l ≤ 126
    all_goals
      go_enter Try.func35, Try.ntmps35
      go_wp2
      go_ret
      exact ⟨by simp [h1, h2], rfl⟩
  · go_enter Try.func35, Try.ntmps35
    go_wp2
    go_ret
    exact ⟨by simp; omega, rfl⟩
end Go.Proofs.Ytibokhifcaodfaa
