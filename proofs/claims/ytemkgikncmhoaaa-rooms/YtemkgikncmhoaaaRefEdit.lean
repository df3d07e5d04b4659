/-
  weaveref: (*Room).edit. Own work.
-/
import Derived.Test.YtemkgikncmhoaaaRefRoom
namespace Go.Proofs.Ytemkgikncmhoaaa
open Go.RowKit
attribute [local go_sem ↓] Go.wp_at_zero Go.wp_at_succ

def RRoom.put (R : RRoom) (i : Nat) (t : List UInt8) (L : RLine) : RRoom := { R with texts := R.texts.set i t, lines := R.lines.set i L }

/-- What a client's line and text look like in memory. -/
theorem RoomY.get {own : Nat → Tag} {rid b : Nat} {w : World} {R : RRoom} (h : RoomY own rid w b R) {i : Nat} {t : List UInt8} {L : RLine} (ht : R.texts[i]? = some t) (hL : R.lines[i]? = some L) :
    ∃ tg tc lg lc lb, w.cell? ⟨b, 0, none⟩ = some (.int .i64 R.window) ∧ w.cell? ⟨b, 2, none⟩ = some (.slice (some ⟨tg, 0, none⟩) R.texts.length tc) ∧ w.cell? ⟨b, 3, none⟩ = some (.slice (some ⟨lg, 0, none⟩) R.texts.length lc) ∧
      w.cell? ⟨tg, i, none⟩ = some (.string ⟨t.toArray⟩) ∧ w.cell? ⟨lg, i, none⟩ = some (.pointer (some ⟨lb, 0, none⟩)) ∧ w.frozen? ⟨tg, i, none⟩ = false ∧ LineAt own rid i w lb L ∧ own tg = (rid, 100, 1) ∧ own b = (rid, 100, 0) ∧ own lg = (rid, 100, 2) ∧ b < w.heap.size ∧ tg < w.heap.size ∧ lg < w.heap.size ∧ i < R.texts.length := by
  obtain ⟨tx, lx, bs, hc, htx, hlx, h1, h2, h3, h4⟩ := h
  have hi := (List.getElem?_eq_some_iff.1 ht).1
  obtain ⟨bb, hbb⟩ : ∃ bb, bs[i]? = some bb := ⟨bs[i]'(by omega), by simp [h1, hi]⟩
  obtain ⟨tg, tc, rfl, _, _, c1, f1, o1, l1⟩ := htx.get (i := i) (u := bstr t) (by simp [ht])
  obtain ⟨lg, lc, rfl, _, _, c2, f2, o2, l2⟩ := hlx.get (i := i) (u := ptr bb) (by simp [hbb])
  refine ⟨tg, tc, lg, lc, bb, by rw [hc.cell]; rfl, by rw [hc.cell]; rfl, by rw [hc.cell]; rfl, c1, c2, f1, h4 i L bb hL hbb, o1, hc.2, o2, hc.lt, l1, l2, hi⟩

/-- A text and a line of a room, turned. -/
theorem RoomY.put {own own' : Nat → Tag} {rid b : Nat} {w w' : World} {R : RRoom} (h : RoomY own rid w b R) {i tg lb : Nat} {tc : Nat} {t' : List UInt8} {L' : RLine} (hi : i < R.texts.length)
    (ht : w.cell? ⟨b, 2, none⟩ = some (.slice (some ⟨tg, 0, none⟩) R.texts.length tc)) (hlb : ∃ lg lc, w.cell? ⟨b, 3, none⟩ = some (.slice (some ⟨lg, 0, none⟩) R.texts.length lc) ∧ w.cell? ⟨lg, i, none⟩ = some (.pointer (some ⟨lb, 0, none⟩)))
    (hu : Upd own own' (inLine rid i) (w.setCell ⟨tg, i, none⟩ (.string ⟨t'.toArray⟩)) w') (hL : LineAt own' rid i w' lb L') (hi4 : i < 100) : RoomY own' rid w' b (R.put i t' L') := by
  obtain ⟨tx, lx, bs, hc, htx, hlx, h1, h2, h3, h4⟩ := h
  have e1 : tx = .slice (some ⟨tg, 0, none⟩) R.texts.length tc := by
    have := hc.cell 2; rw [ht] at this; simpa using this.symm
  subst e1
  have htg := htx.2 tg rfl
  have U1 : Upd own own (fun x => x = (rid, 100, 1)) w (w.setCell ⟨tg, i, none⟩ (.string ⟨t'.toArray⟩)) := Upd.setCell (p := ⟨tg, i, none⟩) (Upd.refl own _ w) htg _
  have n1 : ∀ k, ¬ inLine rid i (rid, 100, k) := fun k hk => by have := hk.2; simp at this; omega
  refine ⟨_, lx, bs, (hc.upd U1 (by simp)).upd hu (n1 _), ?_, ?_, by simpa [RRoom.put] using h1, by simpa [RRoom.put] using h2, by simpa [RRoom.put] using h3, fun j M bb hM hbb => ?_⟩
  · have := (htx.set (i := i) (.string ⟨t'.toArray⟩)).upd hu (n1 _)
    simpa [RRoom.put, List.map_set, bstr] using this
  · have := (hlx.upd U1 (by simp)).upd hu (n1 _)
    simpa [RRoom.put] using this
  · obtain ⟨lg, lc, d1, d2⟩ := hlb
    have e2 : lx = .slice (some ⟨lg, 0, none⟩) R.texts.length lc := by
      have := hc.cell 3; rw [d1] at this; simpa using this.symm
    subst e2
    simp only [RRoom.put] at hM
    by_cases hji : j = i
    · subst hji
      have hM' : M = L' := by
        rw [List.getElem?_set_self (by omega)] at hM; simpa using hM.symm
      subst hM'
      have := hlx.1.cells (g := lg) rfl j (ptr bb) (by simp [hbb])
      rw [Addr.add_lit, Nat.zero_add, d2] at this
      simp only [ptr, Option.some.injEq, Value.pointer.injEq, Addr.mk.injEq, and_true] at this
      subst this
      exact hL
    · rw [List.getElem?_set_ne (fun h => hji h.symm)] at hM
      have hj4 := (List.getElem?_eq_some_iff.1 hbb).1
      exact ((h4 j M bb hM hbb).upd U1 (by simp; omega)).upd hu (fun k hk => hji hk.2)

set_option maxRecDepth 100000 in
set_option maxHeartbeats 400000 in
theorem edit_refused (own : Nat → Tag) (rid b : Nat) (R : RRoom) (i : Nat) (o : ROp) (letters : Int) (t : List UInt8) (L : RLine) (w : World) (h : RoomY own rid w b R) (ht : R.texts[i]? = some t) (hL : R.lines[i]? = some L) (hok : L.a.Ok) (hwin : R.window ≤ 4) (hkn : L.a.known ≤ L.a.rows.length)
    (hr : L.a.rows.length - L.a.known ≥ R.window ∨ L.a.rows.length ≥ 60 ∨ letters ≥ 60) :
    Calls Try.prog 81 #[.pointer (some ⟨b, 0, none⟩), .int .i64 i, .agg #[.int .i64 o.client, .int .i64 o.verb, .int .i64 o.place, .int .u8 o.letter], .int .i64 letters] w fun e w' =>
      e = .returned (.int .i64 (if L.a.rows.length - L.a.known ≥ R.window then 5 else 6)) ∧ Below w.heap.size w w' := by
  obtain ⟨tg, tc, lg, lc, lb, c0, c2, c3, c4, c5, f4, hLA, t1, t2, t3, l1, l2, l3, hi⟩ := h.get ht hL
  obtain ⟨r0, r1, k0, k1, o0, o1, s0, s1, hc, ⟨⟨fs, hfl, hro, hfs⟩, _⟩, _⟩ := hLA
  obtain ⟨ra, rc, rfl, _, _⟩ := hro.shape
  have d0 : w.cell? ⟨lb, 0, none⟩ = some (.slice ra L.a.rows.length rc) := by rw [hc.cell]; rfl
  have d4 : w.cell? ⟨lb, 4, none⟩ = some (.int .i64 L.a.known) := by rw [hc.cell]; rfl
  have l4 := hc.lt
  have hi1 : (i : Int) < (R.texts.length : Int) := by omega
  have hi2 : (0 : Int) ≤ (i : Int) := by omega
  have hrl := hok.rows
  have hkl := hok.known
  clear hc hro hfs h hok
  generalize L.a.rows.length = rl at *
  generalize L.a.known = kn at *
  generalize R.window = wd at *
  generalize R.texts.length = n at *
  have hb := (Below.refl w.heap.size w).alloc (Nat.le_refl _) (Obj.cells #[Value.int .i64 o.client, .int .i64 o.verb, .int .i64 o.place, .int .u8 o.letter] 149)
  have n1 : ¬ (b = w.heap.size) := by omega
  have n2 : ¬ (lg = w.heap.size) := by omega
  have n3 : ¬ (lb = w.heap.size) := by omega
  by_cases hw1 : rl - kn ≥ wd
  · have hw2 : (wd : Int) ≤ (rl : Int) - (kn : Int) := by omega
    go_enter Try.func81, Try.ntmps81
    go_wp2_with fail
    go_region
    all_goals go_wp2
    all_goals go_ret
    all_goals exact ⟨by simp, hb.drew⟩
  · have hw2 : ¬ ((wd : Int) ≤ (rl : Int) - (kn : Int)) := by omega
    by_cases hw3 : 60 ≤ rl
    · have hw4 : (60 : Int) ≤ (rl : Int) := by omega
      go_enter Try.func81, Try.ntmps81
      go_wp2_with fail
      go_region
      all_goals go_wp2
      all_goals go_ret
      all_goals exact ⟨by simp, hb.drew⟩
    · have hw4 : ¬ (60 : Int) ≤ (rl : Int) := by omega
      have hw5 : 60 ≤ letters := by omega
      go_enter Try.func81, Try.ntmps81
      go_wp2_with fail
      go_region
      all_goals go_wp2
      all_goals go_ret
      all_goals exact ⟨by simp, hb.drew⟩

set_option maxRecDepth 100000 in
set_option maxHeartbeats 1600000 in
theorem edit_ok (own : Nat → Tag) (rid b : Nat) (R : RRoom) (i : Nat) (o : ROp) (letters : Int) (t t' : List UInt8) (L : RLine) (w : World) (h : RoomY own rid w b R) (ht : R.texts[i]? = some t) (hL : R.lines[i]? = some L) (hwin : R.window ≤ 4) (hkn : L.a.known ≤ L.a.rows.length)
    (hr : L.a.rows.length - L.a.known < R.window) (hr2 : L.a.rows.length < 60) (hr3 : letters < 60)
    (hok : ({ L.a with rows := L.a.rows ++ [(⟨L.a.taken, [o]⟩ : RMsg)] } : REnd).Ok) (hs : L.a.sent ≤ min (L.a.known + R.window) (L.a.rows.length + 1))
    (hdo : ∀ w, Calls Try.prog 97 #[.string ⟨t.toArray⟩, .agg #[.int .i64 o.client, .int .i64 o.verb, .int .i64 o.place, .int .u8 o.letter]] w fun e w' => e = .returned (.string ⟨t'.toArray⟩) ∧ Below w.heap.size w w') :
    Calls Try.prog 81 #[.pointer (some ⟨b, 0, none⟩), .int .i64 i, .agg #[.int .i64 o.client, .int .i64 o.verb, .int .i64 o.place, .int .u8 o.letter], .int .i64 letters] w fun e w' =>
      e = .returned (.int .i64 0) ∧ ∃ own', RoomY own' rid w' b (R.put i t' { L with a := L.a.make o R.window }) ∧ Upd own own' (inRoom rid) w w' := by
  have hR0 := h
  have hn4 : R.texts.length ≤ 4 := by obtain ⟨_, _, _, _, _, _, _, _, h3, _⟩ := h; exact h3
  obtain ⟨tg, tc, lg, lc, lb, c0, c2, c3, c4, c5, f4, hLA, t1, t2, t3, l1, l2, l3, hi⟩ := h.get ht hL
  have hLA0 := hLA
  obtain ⟨r0, r1, k0, k1, o0, o1, s0, s1, hc, ⟨⟨fs, hfl, hro, hfs⟩, _⟩, _⟩ := hLA
  obtain ⟨ra, rc, rfl, _, _⟩ := hro.shape
  have d0 : w.cell? ⟨lb, 0, none⟩ = some (.slice ra L.a.rows.length rc) := by rw [hc.cell]; rfl
  have d4 : w.cell? ⟨lb, 4, none⟩ = some (.int .i64 L.a.known) := by rw [hc.cell]; rfl
  have l4 := hc.lt
  have tl := hc.2
  have hi1 : (i : Int) < (R.texts.length : Int) := by omega
  have hi2 : (0 : Int) ≤ (i : Int) := by omega
  have hrl := hok.rows
  have hkl := hok.known
  have hw2 : ¬ ((R.window : Int) ≤ (L.a.rows.length : Int) - (L.a.known : Int)) := by omega
  have hw4 : ¬ (60 : Int) ≤ (L.a.rows.length : Int) := by omega
  have hw5 : ¬ 60 ≤ letters := by omega
  clear hc hro hfs
  have HDO := hide hdo
  clear hdo
  have HMK : Hid (∀ own1 w, LineAt own1 rid i w lb L → Calls Try.prog 98 #[.pointer (some ⟨lb, 0, none⟩), .int .i64 0, .agg #[.int .i64 o.client, .int .i64 o.verb, .int .i64 o.place, .int .u8 o.letter], .int .i64 R.window] w fun e w' => e = .returned (.tuple #[]) ∧
      ∃ own', LineAt own' rid i w' lb { L with a := L.a.make o R.window } ∧ Upd own1 own' (inLine rid i) w w') := hide fun own1 w hw => make_0 own1 rid i lb L o R.window w hw hok hwin hs
  clear hok hs
  have n1 : ¬ (b = w.heap.size) := by omega
  have n2 : ¬ (lg = w.heap.size) := by omega
  have n3 : ¬ (lb = w.heap.size) := by omega
  have n4 : ¬ (tg = w.heap.size) := by omega
  go_enter Try.func81, Try.ntmps81
  go_wp2_with fail
  go_region
  go_wp2_with fail
  have V : Upd own (retag own w.heap.size (rid + 1, 0, 0)) (fun _ => False) w (w.alloc (Obj.cells #[Value.int IntKind.i64 o.client, Value.int IntKind.i64 o.verb, Value.int IntKind.i64 o.place, Value.int IntKind.u8 o.letter] 149)).drew := Upd.retag (((Upd.refl own (fun _ => False) w).alloc _).drew) _ _ (Nat.le_refl _)
  have q : ∀ k, (w.alloc (Obj.cells #[Value.int IntKind.i64 o.client, Value.int IntKind.i64 o.verb, Value.int IntKind.i64 o.place, Value.int IntKind.u8 o.letter] 149)).drew.cell? ⟨w.heap.size, k, none⟩ = #[Value.int IntKind.i64 o.client, Value.int IntKind.i64 o.verb, Value.int IntKind.i64 o.place, Value.int IntKind.u8 o.letter][k]? := fun k => World.cell?_alloc_new _ _ _ _
  have q0 := q 0
  have q1 := q 1
  have q2 := q 2
  have q3 := q 3
  simp only [List.getElem?_toArray, List.getElem?_cons_zero, List.getElem?_cons_succ] at q0 q1 q2 q3
  have c0' := V.cell c0 (fun h => h)
  have c2' := V.cell c2 (fun h => h)
  have c3' := V.cell c3 (fun h => h)
  have c4' := V.cell c4 (fun h => h)
  have c5' := V.cell c5 (fun h => h)
  have f4' := V.frozen l2 (fun h => h) f4
  have hR1 := hR0.upd V (fun _ _ h => h)
  have hLA1 := hLA0.upd V (fun _ h => h)
  have hsz1 : (w.alloc (Obj.cells #[Value.int IntKind.i64 o.client, Value.int IntKind.i64 o.verb, Value.int IntKind.i64 o.place, Value.int IntKind.u8 o.letter] 149)).drew.heap.size > w.heap.size := by simp
  have tN : retag own w.heap.size (rid + 1, 0, 0) w.heap.size = (rid + 1, 0, 0) := retag_ge (Nat.le_refl _)
  have tb : retag own w.heap.size (rid + 1, 0, 0) b = (rid, 100, 0) := by rw [retag_lt l1]; exact t2
  have tt : retag own w.heap.size (rid + 1, 0, 0) tg = (rid, 100, 1) := by rw [retag_lt l2]; exact t1
  clear q hR0 hLA0 c0 c2 c3 c4 c5 f4 n1 n2 n3 n4 d0 d4
  generalize retag own w.heap.size (rid + 1, 0, 0) = own1 at *
  generalize (w.alloc (Obj.cells #[Value.int IntKind.i64 o.client, Value.int IntKind.i64 o.verb, Value.int IntKind.i64 o.place, Value.int IntKind.u8 o.letter] 149)).drew = W1 at *
  have l1' : b < W1.heap.size := by omega
  have l2' : tg < W1.heap.size := by omega
  generalize w.heap.size = N at *
  go_cut [] (fun wc => ∃ w2, Below W1.heap.size W1 w2 ∧ wc = w2.setCell ⟨tg, i, none⟩ (.string ⟨t'.toArray⟩))
  case first =>
    go_region_with (first | (go_at_call 97; refine (unhide HDO _).mono ?_; rintro e w2 ⟨rfl, hb2⟩; have k2 := (hb2.cell (p := ⟨b, 2, none⟩) l1').trans c2'; have k4 := (hb2.cell (p := ⟨tg, i, none⟩) l2').trans c4'; have g4 := (hb2.frozen (p := ⟨tg, i, none⟩) l2').trans f4'))
    all_goals
      go_wp2
      go_meet
      case rel => exact ⟨w2, (Below.refl _ _).drew.trans hb2, rfl⟩
  case rest =>
    obtain ⟨w2, hb2, rfl⟩ := hcut
    have hR2 := hR1.upd (Upd.of_below own1 (fun _ => False) hb2) (fun _ _ h => h)
    have B2 := Upd.of_below own1 (fun _ => False) hb2
    have e2 := B2.cell c2' (fun h => h)
    have e3 := B2.cell c3' (fun h => h)
    have e5 := B2.cell c5' (fun h => h)
    have U2 : Upd own1 own1 (fun x => x = (rid, 100, 1)) W1 (w2.setCell ⟨tg, i, none⟩ (.string ⟨t'.toArray⟩)) := Upd.setCell (p := ⟨tg, i, none⟩) (Upd.of_below own1 _ hb2) tt _
    have z0 := U2.cell q0 (by simp [tN])
    have z1 := U2.cell q1 (by simp [tN])
    have z2 := U2.cell q2 (by simp [tN])
    have z3 := U2.cell q3 (by simp [tN])
    have z4 := U2.cell c0' (by simp [tb])
    have hLA3 := hLA1.upd U2 (by simp; omega)
    have FIN : Hid (∀ own2 w4, LineAt own2 rid i w4 lb { L with a := L.a.make o R.window } → Upd own1 own2 (inLine rid i) (w2.setCell ⟨tg, i, none⟩ (.string ⟨t'.toArray⟩)) w4 →
        ∃ own', RoomY own' rid w4 b (R.put i t' { L with a := L.a.make o R.window }) ∧ Upd own own' (inRoom rid) w w4) := by
      apply hide
      intro own2 w4 h1 h2
      refine ⟨own2, RoomY.put hR2 hi e2 ⟨lg, lc, e3, e5⟩ h2 h1 (by omega), ?_⟩
      exact ((V.mono (fun _ h => h.elim)).trans (U2.mono (fun t ht => by subst ht; rfl))).trans (h2.mono (fun t ht => ht.1))
    clear hR1 hR2 c0' c2' c3' c4' c5' f4' q0 q1 q2 q3 hLA1 V U2 B2 hb2 e2 e3 e5
    generalize w2.setCell ⟨tg, i, none⟩ (.string ⟨t'.toArray⟩) = W3 at *
    go_wp2_with fail
    go_region_with (first | (go_at_call 98; refine (unhide HMK own1 _ (by exact hLA3)).mono ?_; rintro e w4 ⟨rfl, own2, h1, h2⟩))
    all_goals
      go_wp2
      go_ret
      exact ⟨rfl, unhide FIN own2 w4 h1 ((Upd.refl _ _ _).drew.trans h2)⟩
end Go.Proofs.Ytemkgikncmhoaaa
