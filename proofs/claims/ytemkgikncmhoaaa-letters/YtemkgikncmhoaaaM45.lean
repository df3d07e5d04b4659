import Derived.Test.YtemkgikncmhoaaaM40
import Derived.Test.YtemkgikncmhoaaaM44
/-
  weave: how many letters there are, in a room. Plain mathematics. Own work.
-/
namespace Go.Proofs.Ytemkgikncmhoaaa

section
variable {X X' : IRoom} {us ds : Nat → List GMsg} {T : Nat → Nat → Nat → List UInt8} {i : Nat}
theorem tell_tk {S' : IEnd} {o : ROp} (hi : i < X.sends.length) (j : Nat) : (X.tell i S' o).tk j = if j = i then S'.taken else X.tk j := by
  unfold IRoom.tk IRoom.tell
  simp only [List.getD_eq_getElem?_getD, List.getElem?_mapIdx]
  by_cases hj : j = i
  · subst hj; simp [hi]
  · rw [if_neg hj]
    cases hz : X.sends[j]? with
    | none => simp
    | some Z => simp [hj, (make_fields Z o X.window).1]
theorem takesB_C (i : Nat) : ∀ (f : Nat) {X : IRoom} {ds : Nat → List GMsg} {T : Nat → Nat → Nat → List UInt8}, RInv X us ds T → CInv X us ds → i < X.texts.length → ∃ ds' T', RInv (X.takesB i f) us ds' T' ∧ CInv (X.takesB i f) us ds' ∧ (X.takesB i f).texts = X.texts
  | 0, X, ds, T, h, c, _ => ⟨ds, T, h, c, rfl⟩
  | f + 1, X, ds, T, h, c, hi => by
    obtain ⟨t, E, S, h1, h2, h3⟩ := h.get hi
    cases hn : S.nextKept with
    | none => rw [IRoom.takesB_none h3 hn]; exact ⟨ds, T, h, c, rfl⟩
    | some m =>
      rw [IRoom.takesB_some h3 hn]
      obtain ⟨m1, m2⟩ := IEnd.nextKept_some hn
      obtain ⟨j1, j2, j3⟩ := h.keptB h1 h2 h3 m1
      obtain ⟨T2, RI⟩ := h.takeB h1 h2 h3 m2 j2
      obtain ⟨hl, _, _, nu, nd⟩ := h.line i _ _ _ h1 h2 h3
      obtain ⟨ef, _⟩ := hl.b.took hl.g.hist.swap m2 j2
      have hs : i < X.sends.length := (List.getElem?_eq_some_iff.1 h3).1
      have tki : X.tk i = S.taken := IRoom.tk_eq h3
      have hk : Kin (S.taking (imsg (us i) m.number)).1 (gmsg (us i) (X.tk i + 1)).op := by
        rw [ef, tki, ← m2]
        exact form_kin nu nd (by omega) j2 (Nat.le_refl _)
      have C2 : CInv (X.tell i ((S.drop m.number).take (imsg (us i) m.number)) (S.taking (imsg (us i) m.number)).1) us (fun j => if j = i then ds i else ds j ++ [⟨X.tk j, (S.taking (imsg (us i) m.number)).1⟩]) := by
        refine c.take hi h.n4 rfl ?_ (fun j hj => by rw [tell_tk hs, if_neg hj]) (by rw [tki]; omega) hk
        rw [tell_tk hs, if_pos rfl, tki]
        show m.number = _
        exact m2
      rw [← j3] at RI C2
      obtain ⟨ds', T', a, b, c'⟩ := takesB_C i f (X := X.stepB i S m) RI C2 hi
      exact ⟨ds', T', a, b, c'.trans rfl⟩
theorem setB_tk' {S S' : IEnd} (h3 : X.sends[i]? = some S) (k : S'.taken = S.taken) : ∀ j, (X.setB i S').tk j = X.tk j := fun j => IRoom.tk_setB h3 k j
theorem RInv.upC (h : RInv X us ds T) (c : CInv X us ds) (hi : i < X.texts.length) (n : Nat) : ∃ ds' T', RInv (X.up i n) us ds' T' ∧ CInv (X.up i n) us ds' := by
  cases hd : (X.e i).flying[n]? with
  | none => rw [up_none hd]; exact ⟨ds, T, h, c⟩
  | some d =>
    obtain ⟨g1, g2, g3⟩ := h.at' hi
    obtain ⟨hl, _⟩ := h.line i _ _ _ g1 g2 g3
    have hR1 := h.loseA g1 g2 g3 n
    obtain ⟨q1, q2⟩ := setA_get (t' := X.tx i) (E' := (X.e i).lose n) g1 g2
    have q3 : (X.setA i (X.tx i) ((X.e i).lose n)).sends[i]? = some (X.s i) := g3
    have c1 : CInv (X.setA i (X.tx i) ((X.e i).lose n)) us ds := c.same (by simp [IRoom.setA]) (fun j => rfl)
    have ht := (h.waitA g1 g2 g3).2.2.1
    unfold IRoom.up
    rw [hd]
    show ∃ ds' T', RInv ((X.setA i (X.tx i) ((X.e i).lose n)).comeB i d) us ds' T' ∧ CInv ((X.setA i (X.tx i) ((X.e i).lose n)).comeB i d) us ds'
    unfold IRoom.comeB
    rcases (hl.a.flies d (List.mem_of_getElem? hd)).reads (by omega) (fun n tk a b c => h.bytesA g1 g2 g3 a b c) with e | ⟨tk, m, e, e1, e2⟩ <;> rw [e]
    · exact ⟨ds, T, hR1, c1⟩
    · show ∃ ds' T', RInv (IRoom.arriveB _ i tk m) us ds' T' ∧ CInv (IRoom.arriveB _ i tk m) us ds'
      have hh := hR1.hearsB q1 q2 q3 tk m e1 e2
      have c2 : CInv ((X.setA i (X.tx i) ((X.e i).lose n)).setB i ((X.s i).hears (X.setA i (X.tx i) ((X.e i).lose n)).window tk m)) us ds := c1.same rfl (setB_tk' q3 (hears_known _ _ _ _).1)
      unfold IRoom.arriveB
      simp only [q3]
      cases m with
      | none => exact ⟨ds, T, hh, c2⟩
      | some q =>
        have hi' : i < ((X.setA i (X.tx i) ((X.e i).lose n)).setB i ((X.s i).hears (X.setA i (X.tx i) ((X.e i).lose n)).window tk (some q))).texts.length := by simpa [IRoom.setA, IRoom.setB] using hi
        obtain ⟨ds', T', a, b, e3⟩ := takesB_C i ((X.s i).hears (X.setA i (X.tx i) ((X.e i).lose n)).window tk (some q)).kept.length hh c2 hi'
        have hi2 : i < (IRoom.takesB ((X.setA i (X.tx i) ((X.e i).lose n)).setB i ((X.s i).hears (X.setA i (X.tx i) ((X.e i).lose n)).window tk (some q))) i ((X.s i).hears (X.setA i (X.tx i) ((X.e i).lose n)).window tk (some q)).kept.length).texts.length := by rw [e3]; exact hi'
        refine ⟨ds', T', a.wordB hi2, ?_⟩
        obtain ⟨z1, z2, z3⟩ := a.at' hi2
        unfold IRoom.wordB
        rw [z3]
        exact b.same rfl (setB_tk' z3 (word_fields _).2.2.1)
theorem CInv.down (c : CInv X us ds) (h : RInv X us ds T) (hi : i < X.texts.length) (n : Nat) : CInv (X.down i n) us ds := by
  cases hd : (X.s i).flying[n]? with
  | none => rw [down_none hd]; exact c
  | some d =>
    obtain ⟨k, u, _⟩ := h.downed' hi hd
    refine c.same u.len fun j => ?_
    show ((X.down i n).s j).taken = (X.s j).taken
    rw [u.s]
    split
    · rename_i hj; rw [hj]; rfl
    · rfl
theorem RInv.tkl (h : RInv X us ds T) (hi : i < X.texts.length) : X.tk i ≤ (us i).length := (h.pair hi).b.tk
theorem CInv.make (c : CInv X us ds) (h : RInv X us ds T) (hi : i < X.texts.length) (g : GMsg) (o : ROp) : CInv (X.made i o) (upd us i (us i ++ [g])) ds := by
  have e : ∀ f j, wsumG f ((upd us i (us i ++ [g]) j).take (X.tk j)) = wsumG f ((us j).take (X.tk j)) := fun f j => by
    by_cases hj : j = i
    · subst hj; rw [upd_same, List.take_append_of_le_length (h.tkl hi)]
    · rw [upd_other _ _ hj]
  have tk : ∀ j, (X.made i o).tk j = X.tk j := fun j => rfl
  have hl : (X.made i o).texts.length = X.texts.length := by simp [IRoom.made, IRoom.setA]
  have et : ∀ f, (X.made i o).took (upd us i (us i ++ [g])) f = X.took us f := fun f => by unfold IRoom.took; rw [tk, tk, tk, tk, e, e, e, e]
  refine ⟨fun b j hj => by rw [et, tk, e]; exact c.put b j (by omega), fun j hj => by rw [et, tk, e]; exact c.puts j (by omega), fun j hj => by rw [et, tk, e]; exact c.cuts j (by omega), fun j hj => ?_⟩
  rw [upd_other _ _ (by omega)]; exact c.none j (by omega)
end
/-- Of all that was made. -/
def allp (us : Nat → List GMsg) (f : ROp → Nat) : Nat := wsumG f (us 0) + wsumG f (us 1) + wsumG f (us 2) + wsumG f (us 3)
theorem allp_push (us : Nat → List GMsg) (f : ROp → Nat) {i : Nat} (hi : i < 4) (g : GMsg) : allp (upd us i (us i ++ [g])) f = allp us f + f g.op := by
  unfold allp
  match i, hi with
  | 0, _ => rw [upd_same, upd_other _ _ (by decide), upd_other _ _ (by decide), upd_other _ _ (by decide), wsumG_push]; omega
  | 1, _ => rw [upd_same, upd_other _ _ (by decide), upd_other _ _ (by decide), upd_other _ _ (by decide), wsumG_push]; omega
  | 2, _ => rw [upd_same, upd_other _ _ (by decide), upd_other _ _ (by decide), upd_other _ _ (by decide), wsumG_push]; omega
  | 3, _ => rw [upd_same, upd_other _ _ (by decide), upd_other _ _ (by decide), upd_other _ _ (by decide), wsumG_push]; omega
def sum26 (f : Nat → Nat) : Nat := ((List.range 26).map f).sum
/-- What was put, letter by letter; what was cut. -/
structure LtI (ps : Nat → Nat) (cuts : Nat) (X : IRoom) : Prop where
  rows : ∃ us ds T, RInv X us ds T ∧ CInv X us ds ∧ (∀ l, l < 26 → allp us (wput (UInt8.ofNat (97 + l))) = ps l) ∧ (∀ b : UInt8, (b.toNat < 97 ∨ 122 < b.toNat) → allp us (wput b) = 0) ∧ allp us wp = sum26 ps ∧ allp us wc = cuts
section
variable {ps : Nat → Nat} {cuts : Nat} {X X' : IRoom}
theorem LtI.moved (h : LtI ps cuts X) (m : Moved X X') : LtI ps cuts X' := by
  obtain ⟨us, ds, T, hr, c, a1, a2, a3, a4⟩ := h.rows
  cases m with
  | air a => exact ⟨us, ds, T, a.rows _ _ _ hr, c.same (by rw [a.texts]) (fun j => a.staken j), a1, a2, a3, a4⟩
  | up i n hi =>
    obtain ⟨ds', T', b1, b2⟩ := hr.upC c hi n
    exact ⟨us, ds', T', b1, b2, a1, a2, a3, a4⟩
  | down i n hi =>
    refine ⟨us, ds, T, ?_, c.down hr hi n, a1, a2, a3, a4⟩
    cases hd : (X.s i).flying[n]? with
    | none => rw [down_none hd]; exact hr
    | some d => obtain ⟨k, _, b, _⟩ := hr.downed' hi hd; exact b
theorem LtI.turns {Y : IRoom} (h : LtI ps cuts X) (q : Turns X Y) (f : Fit X) : LtI ps cuts Y := by
  induction q with
  | refl => exact h
  | step i q hi ih =>
    have hF := (q.fit f).1
    exact (ih.moved (.up i 0 hi)).moved (.down i 0 (by rw [(up_len hF hi 0).1]; exact hi))
theorem LtI.ticked (h : LtI ps cuts X) (f : Fit X) : ∀ c, c ≤ X.texts.length → LtI ps cuts (X.ticked c)
  | 0, _ => h
  | c + 1, hc => by
    have ih := h.ticked f c (by omega)
    have t := f.ticked c (by omega)
    have hc1 : c < (X.ticked c).texts.length := by rw [t.texts]; omega
    have a1 := t.fit.tickA' hc1
    have i1 := ih.moved (.air a1)
    have hc2 : c < ((X.ticked c).tickA c).texts.length := by rw [a1.texts]; exact hc1
    exact i1.moved (.air ((a1.fit t.fit).tickB' hc2))
theorem LtI.settles {Y : IRoom} {k : Nat} (h : LtI ps cuts X) (q : Settles X k Y) (f : Fit X) : LtI ps cuts Y := by
  induction q with
  | start q _ => exact h.turns q f
  | round q r _ ih =>
    have hF := (q.fit f).1
    exact (ih.ticked hF _ (Nat.le_refl _)).turns r (hF.ticked _ (Nat.le_refl _)).fit
theorem LtI.start {n W : Nat} (h1 : 1 ≤ n) (h2 : n ≤ 4) (h3 : 1 ≤ W) (h4 : W ≤ 4) : LtI (fun _ => 0) 0 (IRoom.fresh n W) := by
  refine ⟨_, _, _, RInv.fresh h1 h2 h3 h4, ⟨fun b i _ => ?_, fun i _ => ?_, fun i _ => ?_, fun i _ => rfl⟩, fun l _ => rfl, fun b _ => rfl, rfl, rfl⟩ <;> simp [IRoom.took, wsumG]
theorem wput_one (b : UInt8) (c p : Int) (l : Nat) : wput b ⟨c, 1, p, (l : Nat)⟩ = if UInt8.ofNat l = b then 1 else 0 := by
  unfold wput
  by_cases h : UInt8.ofNat l = b
  · rw [if_pos h, if_pos ⟨rfl, by unfold byteOf; simpa using h⟩]
  · rw [if_neg h, if_neg (fun q => h (by have := q.2; unfold byteOf at this; simpa using this))]
theorem wput_cut (b : UInt8) (c p l : Int) : wput b ⟨c, 2, p, l⟩ = 0 := if_neg (fun q => by have := q.1; simp at this)
theorem wp_put (c p l : Int) : wp ⟨c, 1, p, l⟩ = 1 := if_pos rfl
theorem wc_put (c p l : Int) : wc ⟨c, 1, p, l⟩ = 0 := if_neg (by simp)
theorem wp_cut (c p l : Int) : wp ⟨c, 2, p, l⟩ = 0 := if_neg (by simp)
theorem wc_cut (c p l : Int) : wc ⟨c, 2, p, l⟩ = 1 := if_pos rfl
theorem sum26_upd (f : Nat → Nat) {k : Nat} (hk : k < 26) : sum26 (fun j => if j = k then f j + 1 else f j) = sum26 f + 1 := by
  unfold sum26
  have key : ∀ n, ((List.range n).map fun j => if j = k then f j + 1 else f j).sum = ((List.range n).map f).sum + if k < n then 1 else 0 := fun n => by
    induction n with
    | zero => simp
    | succ n ih =>
      rw [List.range_succ, List.map_append, List.map_append, List.sum_append, List.sum_append, ih]
      simp only [List.map_cons, List.map_nil, List.sum_cons, List.sum_nil]
      by_cases h1 : n = k
      · subst h1; rw [if_neg (by omega), if_pos rfl, if_pos (by omega)]; omega
      · by_cases h2 : k < n
        · rw [if_pos h2, if_neg h1, if_pos (by omega)]; omega
        · rw [if_neg h2, if_neg h1, if_neg (by omega)]; omega
  rw [key 26, if_pos hk]
/-- An edit, counted. -/
theorem LtI.edited {c : Nat} {m : Int} (h : LtI ps cuts X) (hc : c < X.texts.length) (e : Edited X c m X') : (X'.tx c = X.tx c ∧ LtI ps cuts X') ∨ ((X'.tx c).length = (X.tx c).length + 1 ∧ LtI (fun j => if j = pickN m 26 then ps j + 1 else ps j) cuts X') ∨ ((X'.tx c).length + 1 = (X.tx c).length ∧ LtI ps (cuts + 1) X') := by
  obtain ⟨us, ds, T, hr, ci, a1, a2, a3, a4⟩ := h.rows
  have hc4 : c < 4 := by have := hr.n4; omega
  obtain ⟨g1, g2, g3⟩ := hr.at' hc
  cases e with
  | no _ => exact .inl ⟨rfl, h⟩
  | put p hp hm hl =>
    have hlo := letterN_ok m
    have hk := pickN_lt m (n := 26) (by omega)
    obtain ⟨T', hr'⟩ := hr.make g1 g2 g3 ⟨c, 1, p, letterN m⟩ rfl ⟨⟨by simp, by simp; omega⟩, by simp; omega⟩ (.inr (.inl ⟨rfl, by simp, by simpa using hp⟩)) hm.1 hm.2
    refine .inr (.inl ⟨?_, _, _, _, hr', ci.make hr hc _ _, fun l hl => ?_, fun b hb => ?_, ?_, ?_⟩)
    · rw [made_tx X _ hc, if_pos rfl, ROp.does_put, ins_len _ _ _ hp]
    · rw [allp_push _ _ hc4, a1 l hl, wput_one]
      by_cases hlk : l = pickN m 26
      · rw [if_pos hlk, if_pos (by unfold letterN; rw [hlk])]
      · have hne : ¬ UInt8.ofNat (letterN m) = UInt8.ofNat (97 + l) := fun q => by
          have := congrArg UInt8.toNat q
          unfold letterN at this
          simp at this
          omega
        rw [if_neg hlk, if_neg hne, Nat.add_zero]
    · have hne : ¬ UInt8.ofNat (letterN m) = b := fun q => by
        have := congrArg UInt8.toNat q
        simp at this
        omega
      rw [allp_push _ _ hc4, a2 b hb, wput_one, if_neg hne]
    · rw [allp_push _ _ hc4, a3, sum26_upd _ hk, wp_put]
    · rw [allp_push _ _ hc4, a4, wc_put, Nat.add_zero]
  | cut p hp hm =>
    obtain ⟨T', hr'⟩ := hr.make g1 g2 g3 ⟨c, 2, p, (0 : Nat)⟩ rfl ⟨⟨by simp, by simp; omega⟩, by simp⟩ (.inr (.inr ⟨rfl, by simp, by simpa using hp⟩)) hm.1 hm.2
    refine .inr (.inr ⟨?_, _, _, _, hr', ci.make hr hc _ _, fun l hl => ?_, fun b hb => ?_, ?_, ?_⟩)
    · rw [made_tx X _ hc, if_pos rfl, ROp.does_cut, del_len _ _ hp]; omega
    · rw [allp_push _ _ hc4, a1 l hl, wput_cut]; omega
    · rw [allp_push _ _ hc4, a2 b hb, wput_cut]
    · rw [allp_push _ _ hc4, a3, wp_cut]; omega
    · rw [allp_push _ _ hc4, a4, wc_cut]
theorem took_le (X : IRoom) (us : Nat → List GMsg) (f : ROp → Nat) : X.took us f ≤ allp us f := by
  unfold IRoom.took allp
  have := wsumG_le f (us 0) (X.tk 0)
  have := wsumG_le f (us 1) (X.tk 1)
  have := wsumG_le f (us 2) (X.tk 2)
  have := wsumG_le f (us 3) (X.tk 3)
  omega
theorem took_less {us : Nat → List GMsg} (f : ROp → Nat) {i : Nat} (hi : i < 4) : X.took us f + (wsumG f (us i) - wsumG f ((us i).take (X.tk i))) ≤ allp us f := by
  unfold IRoom.took allp
  have := wsumG_le f (us 0) (X.tk 0)
  have := wsumG_le f (us 1) (X.tk 1)
  have := wsumG_le f (us 2) (X.tk 2)
  have := wsumG_le f (us 3) (X.tk 3)
  match i, hi with
  | 0, _ | 1, _ | 2, _ | 3, _ => omega
/-- No text has a letter more often than it was put. -/
theorem LtI.most (h : LtI ps cuts X) {x : Nat} {t : List UInt8} (hx : X.all[x]? = some t) : ∃ us : Nat → List GMsg, (∀ b, t.count b ≤ allp us (wput b)) ∧ (∀ l, l < 26 → allp us (wput (UInt8.ofNat (97 + l))) = ps l) ∧ (∀ b : UInt8, (b.toNat < 97 ∨ 122 < b.toNat) → allp us (wput b) = 0) := by
  obtain ⟨us, ds, T, hr, ci, a1, a2, a3, a4⟩ := h.rows
  refine ⟨us, fun b => ?_, a1, a2⟩
  cases x with
  | zero =>
    have e : t = X.server := by simpa [IRoom.all] using hx.symm
    subst e
    have h0 : 0 < X.texts.length := hr.n1
    obtain ⟨g1, g2, g3⟩ := hr.at' h0
    obtain ⟨hl, _, _, nu, nd⟩ := hr.line 0 _ _ _ g1 g2 g3
    have := hl.g.count nu nd b _ _ _ rfl hl.pb
    rw [← hl.tb, List.take_length] at this
    have e2 := ci.put b 0 h0
    have e3 : X.tk 0 = (X.s 0).taken := rfl
    rw [e3] at e2
    have := took_le X us (wput b)
    omega
  | succ x =>
    have hxt : X.texts[x]? = some t := by simpa [IRoom.all] using hx
    have hi : x < X.texts.length := (List.getElem?_eq_some_iff.1 hxt).1
    have hx4 : x < 4 := by have := hr.n4; omega
    obtain ⟨g1, g2, g3⟩ := hr.at' hi
    rw [hxt] at g1
    obtain ⟨hl, _, _, nu, nd⟩ := hr.line x _ _ _ hxt g2 g3
    have := hl.g.count nu nd b _ _ _ rfl hl.pa
    rw [← hl.ta, List.take_length] at this
    have e2 := ci.put b x hi
    have e4 := wsumG_le (wput b) (ds x) (X.e x).taken
    have e5 := took_less (X := X) (us := us) (wput b) hx4
    have e6 := wsumG_le (wput b) (us x) (X.tk x)
    omega
theorem one26' : ((List.range 26).all fun k => sum26 (fun l => if (UInt8.ofNat (97 + k) == UInt8.ofNat (97 + l)) = true then 1 else 0) == 1) = true := by kernel_rfl
theorem one26 {k : Nat} (hk : k < 26) : sum26 (fun l => if (UInt8.ofNat (97 + k) == UInt8.ofNat (97 + l)) = true then 1 else 0) = 1 := by
  have h := one26'
  generalize hr : List.range 26 = r at h
  rw [List.all_eq_true] at h
  have h1 := h k (by rw [← hr]; exact List.mem_range.2 hk)
  exact eq_of_beq h1
theorem sum26_add (f g : Nat → Nat) : sum26 (fun l => f l + g l) = sum26 f + sum26 g := by
  unfold sum26
  generalize List.range 26 = r
  induction r with
  | nil => rfl
  | cons a r ih => simp only [List.map_cons, List.sum_cons, ih]; omega
theorem len_sum : ∀ t : List UInt8, (∀ b ∈ t, 97 ≤ b.toNat ∧ b.toNat ≤ 122) → sum26 (fun l => t.count (UInt8.ofNat (97 + l))) = t.length
  | [], _ => by unfold sum26; simp only [List.count_nil]; rfl
  | b :: t, h => by
    have ih := len_sum t (fun c hc => h c (by simp [hc]))
    obtain ⟨h1, h2⟩ := h b (by simp)
    obtain ⟨k, hk, rfl⟩ : ∃ k, k < 26 ∧ b = UInt8.ofNat (97 + k) := ⟨b.toNat - 97, by omega, by apply UInt8.toNat_inj.1; simp; omega⟩
    have e : (fun l => (UInt8.ofNat (97 + k) :: t).count (UInt8.ofNat (97 + l))) = fun l => t.count (UInt8.ofNat (97 + l)) + if (UInt8.ofNat (97 + k) == UInt8.ofNat (97 + l)) = true then 1 else 0 := by
      funext l
      rw [List.count_cons]
    rw [e, List.length_cons, ← ih]
    rw [sum26_add, one26 hk]
/-- At last no more are missing than were cut. -/
theorem LtI.least (h : LtI ps cuts X) (f : Fit X) (hq : X.Quiet) {x : Nat} {t : List UInt8} (hx : X.all[x]? = some t) : sum26 ps ≤ sum26 (fun l => t.count (UInt8.ofNat (97 + l))) + cuts := by
  have hts : t = X.server := by
    cases x with
    | zero => simpa [IRoom.all] using hx.symm
    | succ x =>
      have hxt : X.texts[x]? = some t := by simpa [IRoom.all] using hx
      have hi : x < X.texts.length := (List.getElem?_eq_some_iff.1 hxt).1
      have := (f.get hi).1
      rw [hxt] at this
      rw [← f.same hq hi]
      simpa using this
  obtain ⟨us0, m1, m2, m3⟩ := h.most hx
  have hall : ∀ b ∈ t, 97 ≤ b.toNat ∧ b.toNat ≤ 122 := fun b hb => by
    by_cases hg : b.toNat < 97 ∨ 122 < b.toNat
    · have := m1 b
      rw [m3 b hg] at this
      have := List.count_pos_iff.2 hb
      omega
    · omega
  rw [len_sum t hall]
  obtain ⟨us, ds, T, hr, ci, a1, a2, a3, a4⟩ := h.rows
  have h0 : 0 < X.texts.length := hr.n1
  obtain ⟨g1, g2, g3⟩ := hr.at' h0
  obtain ⟨hl, _, _, nu, nd⟩ := hr.line 0 _ _ _ g1 g2 g3
  have lo := hl.g.lower nu nd _ _ _ rfl hl.pb
  rw [← hl.tb, List.take_length] at lo
  have e1 := ci.puts 0 h0
  have e2 := ci.cuts 0 h0
  have tk : X.tk 0 = (X.s 0).taken := rfl
  rw [tk] at e1 e2
  have all : ∀ f, X.took us f = allp us f := fun f => by
    have key : ∀ j, (us j).take (X.tk j) = us j := fun j => by
      by_cases hj : j < X.texts.length
      · have := (hr.eqs hq hj).1
        rw [show X.tk j = (us j).length from this, List.take_length]
      · rw [ci.none j (by omega)]; simp
    unfold IRoom.took allp
    rw [key, key, key, key]
  rw [all] at e1 e2
  rw [hts]
  omega
end
end Go.Proofs.Ytemkgikncmhoaaa

