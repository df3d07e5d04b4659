import Derived.Test.YtemkgikncmhoaaaM14
import Derived.Test.YtemkgikncmhoaaaM15
import Derived.Test.YtemkgikncmhoaaaM22
/-
  weave: what was kept, ranged over, and one of it struck. Own work.
-/
namespace Go.Proofs.Ytemkgikncmhoaaa
open Go.RowKit

theorem map_eraseIdx' {α β : Type} (f : α → β) : ∀ (l : List α) (j : Nat), (l.eraseIdx j).map f = (l.map f).eraseIdx j
  | [], j => by simp
  | a :: l, 0 => by simp
  | a :: l, j + 1 => by simp [map_eraseIdx' f l j]
theorem eraseIdx_filter (x : Nat) : ∀ (l : List IMsg) (j : Nat) (m : IMsg), l[j]? = some m → m.number = x → (l.map IMsg.number).Nodup → l.eraseIdx j = l.filter fun q => decide (q.number ≠ x)
  | [], j, m, h, _, _ => by simp at h
  | a :: l, 0, m, h, hx, hn => by
    obtain rfl : a = m := by simpa using h
    rw [List.map_cons, List.nodup_cons] at hn
    have : l.filter (fun q => decide (q.number ≠ x)) = l := by
      rw [List.filter_eq_self]
      intro q hq
      simp only [decide_eq_true_eq]
      intro e
      exact hn.1 (by rw [hx, ← e]; exact List.mem_map_of_mem hq)
    rw [List.eraseIdx_cons_zero, List.filter_cons, this]
    simp [hx]
  | a :: l, j + 1, m, h, hx, hn => by
    rw [List.map_cons, List.nodup_cons] at hn
    have h' : l[j]? = some m := by simpa using h
    have ha : a.number ≠ x := fun e => hn.1 (by rw [e, ← hx]; exact List.mem_map_of_mem (List.mem_of_getElem? h'))
    rw [List.eraseIdx_cons_succ, eraseIdx_filter x l j m h' hx hn.2, List.filter_cons]
    simp [ha]
/-- One is struck. -/
theorem KeptX.cut {own : Nat → Tag} {t : Tag} {w : World} {kb : Nat} {kept : List IMsg} (h : KeptX own t w kb kept) (hn : (kept.map IMsg.number).Nodup) {x : Nat} (hx : ∃ m ∈ kept, m.number = x) (ty : TypeId) :
    ∃ o, (Builtin.delete_ #[83, 3] ty #[.map (some kb), .int .i64 x]).run Try.prog w = .ok (.tuple #[]) (ChangeMaps.setBlock w kb o) ∧ KeptX own t (ChangeMaps.setBlock w kb o) kb (kept.filter fun q => decide (q.number ≠ x)) := by
  obtain ⟨h1, ents, clock, h2, h3, h4, h5⟩ := h
  have hl := (Array.getElem?_eq_some_iff.1 h2).1
  rcases findNow_kept x ents.toList kept 0 h3 with ⟨h6, _⟩ | ⟨j, q, h7, h8, _, h9⟩
  · obtain ⟨m, hm, hmx⟩ := hx
    exact absurd hmx (h6 m hm)
  · rw [Nat.zero_add] at h9
    have hjl : j < ents.toList.length := by
      have := (List.getElem?_eq_some_iff.1 h7).1
      have e := congrArg List.length h3
      simp only [List.length_map] at e
      omega
    refine ⟨.map (ents.eraseIdxIfInBounds j) clock, ?_, h1, _, _, heap_setBlock_same _ _ _ hl, ?_, ?_, ?_⟩
    · simp [Builtin.delete_, run_underlying Try.underlying83, MapKept.run_getObj_map h2, run_checkInt, run_findKey h9, Result.andThen, MapKept.run_setObj_map _ h2]
      rfl
    · have e : (ents.eraseIdxIfInBounds j).toList = ents.toList.eraseIdx j := by
        unfold Array.eraseIdxIfInBounds
        rw [dif_pos (by simpa using hjl)]
        simp
      rw [e, map_eraseIdx', h3, ← map_eraseIdx', eraseIdx_filter x kept j q h7 h8 hn]
    · intro e he
      have e' : (ents.eraseIdxIfInBounds j).toList = ents.toList.eraseIdx j := by
        unfold Array.eraseIdxIfInBounds
        rw [dif_pos (by simpa using hjl)]
        simp
      rw [e'] at he
      exact h4 e (List.mem_of_mem_eraseIdx he)
    · have e' : (ents.eraseIdxIfInBounds j).toList = ents.toList.eraseIdx j := by
        unfold Array.eraseIdxIfInBounds
        rw [dif_pos (by simpa using hjl)]
        simp
      rw [e']
      exact List.Sublist.nodup ((List.eraseIdx_sublist _ _).map _) h5
end Go.Proofs.Ytemkgikncmhoaaa

/-
  A room as plain data: what taking asks for, and that it is always so; taking as long as there is a next one. Plain mathematics. Own work.
-/
namespace Go.Proofs.Ytemkgikncmhoaaa
open Go.RowKit

/-- The next one among what was kept. -/
def IEnd.nextKept (E : IEnd) : Option IMsg := E.kept.find? fun m => decide (m.number = E.taken + 1)
def IRoom.stepA (X : IRoom) (i : Nat) (t : List UInt8) (E : IEnd) (m : IMsg) : IRoom := X.setA i ((E.taking m).1.does t) ((E.drop m.number).take m)
def IRoom.stepB (X : IRoom) (i : Nat) (S : IEnd) (m : IMsg) : IRoom := X.tell i ((S.drop m.number).take m) (S.taking m).1
def IRoom.takesA (X : IRoom) (i : Nat) : Nat → IRoom
  | 0 => X
  | f + 1 => match X.texts[i]?, X.ends[i]? with
    | some t, some E => (match E.nextKept with
      | some m => (X.stepA i t E m).takesA i f
      | none => X)
    | _, _ => X
def IRoom.takesB (X : IRoom) (i : Nat) : Nat → IRoom
  | 0 => X
  | f + 1 => match X.sends[i]? with
    | some S => (match S.nextKept with
      | some m => (X.stepB i S m).takesB i f
      | none => X)
    | _ => X
theorem IRoom.takesA_none {X : IRoom} {i : Nat} {t : List UInt8} {E : IEnd} (h1 : X.texts[i]? = some t) (h2 : X.ends[i]? = some E) (h : E.nextKept = none) (f : Nat) : X.takesA i f = X := by
  cases f with
  | zero => rfl
  | succ f => simp only [IRoom.takesA, h1, h2, h]
theorem IRoom.takesA_some {X : IRoom} {i : Nat} {t : List UInt8} {E : IEnd} {m : IMsg} (h1 : X.texts[i]? = some t) (h2 : X.ends[i]? = some E) (h : E.nextKept = some m) (f : Nat) : X.takesA i (f + 1) = (X.stepA i t E m).takesA i f := by
  simp only [IRoom.takesA, h1, h2, h]
theorem IRoom.takesB_none {X : IRoom} {i : Nat} {S : IEnd} (h2 : X.sends[i]? = some S) (h : S.nextKept = none) (f : Nat) : X.takesB i f = X := by
  cases f with
  | zero => rfl
  | succ f => simp only [IRoom.takesB, h2, h]
theorem IRoom.takesB_some {X : IRoom} {i : Nat} {S : IEnd} {m : IMsg} (h2 : X.sends[i]? = some S) (h : S.nextKept = some m) (f : Nat) : X.takesB i (f + 1) = (X.stepB i S m).takesB i f := by
  simp only [IRoom.takesB, h2, h]
theorem IEnd.nextKept_some {E : IEnd} {m : IMsg} (h : E.nextKept = some m) : m ∈ E.kept ∧ m.number = E.taken + 1 := by
  have h1 := List.mem_of_find?_eq_some h
  have h2 := List.find?_some h
  exact ⟨h1, by simpa using h2⟩
theorem IEnd.nextKept_of {E : IEnd} {m : IMsg} (hn : (E.kept.map IMsg.number).Nodup) (hm : m ∈ E.kept) (h : m.number = E.taken + 1) : E.nextKept = some m := by
  unfold IEnd.nextKept
  generalize E.kept = l at *
  induction l with
  | nil => simp at hm
  | cons a l ih =>
    rw [List.find?_cons]
    rcases List.mem_cons.1 hm with rfl | hm'
    · simp [h]
    · rw [List.map_cons, List.nodup_cons] at hn
      have ha : a.number ≠ E.taken + 1 := fun e => hn.1 (by rw [e, ← h]; exact List.mem_map_of_mem hm')
      simp only [ha, decide_false]
      exact ih hn.2 hm'
theorem IEnd.nextKept_none {E : IEnd} (h : ∀ m ∈ E.kept, m.number ≠ E.taken + 1) : E.nextKept = none := by
  unfold IEnd.nextKept
  rw [List.find?_eq_none]
  intro m hm
  simpa using h m hm

/-- What taking asks for. -/
structure Ready (E : IEnd) (m : IMsg) (t : List UInt8) : Prop where
  seen : E.seen ≤ m.ctx
  len : m.ctx - E.seen ≤ E.opn.length
  norm : m.op.Norm
  place : m.op.place ≤ 1000
  opn : ∀ x ∈ E.opn, x.Norm ∧ x.place ≤ 1000 ∧ m.op.client ≠ x.client
  ol : E.opn.length ≤ 240
  on : (E.taking m).1.Norm
  fits : (E.taking m).1.fits t.length
  tl : t.length ≤ 240
theorem form_place {us ds : List GMsg} {T : Nat → Nat → List UInt8} (g : Grid us ds T) (hu : Norms us) (hd : Norms ds) {j k : Nat} (h1 : 1 ≤ j) (h2 : j ≤ us.length) (h3 : k ≤ ds.length) (hc : (gmsg us j).ctx ≤ k) (hk : 1 ≤ k → (gmsg ds k).ctx ≤ j - 1) : (form us ds j k).place ≤ j + k := by
  have p1 : Pt us ds j k := ⟨h2, h3, fun _ => hc, fun h => by have := hk h; omega⟩
  have p2 : Pt us ds (j - 1) k := ⟨by omega, h3, fun h => Nat.le_trans (g.hist.mu (j - 1) j h (by omega) h2) hc, hk⟩
  obtain ⟨f, _⟩ := g.u j k h1 p1 p2
  have := f.place (form_norm hu hd h1 h2 h3)
  have := g.len _ _ _ rfl p2
  omega
section
variable {X : IRoom} {us ds : Nat → List GMsg} {T : Nat → Nat → Nat → List UInt8}
theorem RInv.readyA (h : RInv X us ds T) {i : Nat} {t : List UInt8} {E S : IEnd} (h1 : X.texts[i]? = some t) (h2 : X.ends[i]? = some E) (h3 : X.sends[i]? = some S) {n : Nat} (hn : n = E.taken + 1) (hd : n ≤ (ds i).length) : Ready E (imsg (ds i) n) t := by
  obtain ⟨hl, g1, g2, g3, g4⟩ := h.line i t E S h1 h2 h3
  obtain ⟨e, _, s1, s2⟩ := hl.a.took hl.g.hist hn hd
  obtain ⟨⟨f1, _⟩, _⟩ := hl.takeA hn hd
  have hds := h.ds180 (List.getElem?_eq_some_iff.1 h1).1
  have hp := (g4 n (by omega) hd)
  refine ⟨s1, s2, hp.1, by show (gmsg (ds i) n).op.place ≤ 1000; omega, ?_, by rw [hl.a.opn, formsOf_length]; omega, ?_, f1, h.text240 h1 h2 h3⟩
  · intro x hx
    rw [hl.a.opn] at hx
    simp only [formsOf, List.mem_map, List.mem_range] at hx
    obtain ⟨j, hj, rfl⟩ := hx
    have hc := hl.a.ctx (E.seen + j + 1) (by omega) (by omega)
    have hpl := form_place hl.g g3 g4 (j := E.seen + j + 1) (k := E.taken) (by omega) (by omega) hl.a.tk hc (fun hk => by
      have := hl.a.seen
      rw [if_neg (by omega)] at this
      omega)
    refine ⟨form_norm g3 g4 (by omega) (by omega) hl.a.tk, by have := hl.a.tk; omega, ?_⟩
    rw [form_client _ _ _ (by omega), hl.cu _ (by omega) (by omega)]
    exact hl.cd n (by omega) hd
  · rw [e]; exact form_norm g4 g3 (by omega) hd (Nat.le_refl _)
theorem RInv.readyB (h : RInv X us ds T) {i : Nat} {t : List UInt8} {E S : IEnd} (h1 : X.texts[i]? = some t) (h2 : X.ends[i]? = some E) (h3 : X.sends[i]? = some S) {n : Nat} (hn : n = S.taken + 1) (hd : n ≤ (us i).length) : Ready S (imsg (us i) n) X.server := by
  obtain ⟨hl, g1, g2, g3, g4⟩ := h.line i t E S h1 h2 h3
  obtain ⟨e, _, s1, s2⟩ := hl.b.took hl.g.hist.swap hn hd
  obtain ⟨⟨f1, _⟩, _⟩ := hl.takeB hn hd
  have hds := h.ds180 (List.getElem?_eq_some_iff.1 h1).1
  have hp := (g3 n (by omega) hd)
  refine ⟨s1, s2, hp.1, by show (gmsg (us i) n).op.place ≤ 1000; omega, ?_, by rw [hl.b.opn, formsOf_length]; omega, ?_, f1, h.server240⟩
  · intro x hx
    rw [hl.b.opn] at hx
    simp only [formsOf, List.mem_map, List.mem_range] at hx
    obtain ⟨j, hj, rfl⟩ := hx
    have hc := hl.b.ctx (S.seen + j + 1) (by omega) (by omega)
    have hpl := form_place hl.g.swap g4 g3 (j := S.seen + j + 1) (k := S.taken) (by omega) (by omega) hl.b.tk hc (fun hk => by
      have := hl.b.seen
      rw [if_neg (by omega)] at this
      omega)
    refine ⟨form_norm g4 g3 (by omega) (by omega) hl.b.tk, by have := hl.b.tk; omega, ?_⟩
    rw [form_client _ _ _ (by omega)]
    show (gmsg (us i) n).op.client ≠ _
    rw [hl.cu n (by omega) hd]
    exact fun e => hl.cd _ (by omega) (by omega) e.symm
  · rw [e]; exact form_norm g3 g4 (by omega) hd (Nat.le_refl _)
/-- The ends of the other lines, when the server takes. -/
theorem RInv.others (h : RInv X us ds T) : ∀ (j : Nat) (Z : IEnd), X.sends[j]? = some Z → Z.made < 240 ∧ Z.taken ≤ 240 ∧ Z.flying.length ≤ 12 ∧ Z.opn.length ≤ 240 := by
  intro j Z hZ
  have hj : j < X.texts.length := by have := (List.getElem?_eq_some_iff.1 hZ).1; have := h.ls; omega
  obtain ⟨t, E, S, a1, a2, a3⟩ := h.get hj
  obtain rfl : S = Z := by rw [hZ] at a3; simpa using a3.symm
  obtain ⟨hl, g1, g2, g3, g4⟩ := h.line j t E S a1 a2 a3
  have hds := h.ds180 hj
  have := hl.b.tk
  refine ⟨by rw [hl.b.made]; omega, by omega, hl.b.fly, by rw [hl.b.opn, formsOf_length]; omega⟩
theorem Ready.small {E : IEnd} {m : IMsg} {t : List UInt8} (h : Ready E m t) : (E.taking m).1.Small := by
  have hp := h.fits.place h.on
  have ht := h.tl
  obtain ⟨⟨c1, c2⟩, hv⟩ := h.on
  refine ⟨⟨c1, by omega⟩, ⟨by omega, by omega⟩, ⟨by omega, by omega⟩, ⟨by omega, by omega⟩⟩
/-- A kept one is one of the other row's. -/
theorem RInv.keptA (h : RInv X us ds T) {i : Nat} {t : List UInt8} {E S : IEnd} (h1 : X.texts[i]? = some t) (h2 : X.ends[i]? = some E) (h3 : X.sends[i]? = some S) {m : IMsg} (hm : m ∈ E.kept) : E.taken < m.number ∧ m.number ≤ (ds i).length ∧ m = imsg (ds i) m.number := by
  obtain ⟨hl, _⟩ := h.line i t E S h1 h2 h3
  obtain ⟨n, a1, a2, rfl⟩ := hl.a.kept m hm
  exact ⟨a1, a2, rfl⟩
theorem RInv.keptB (h : RInv X us ds T) {i : Nat} {t : List UInt8} {E S : IEnd} (h1 : X.texts[i]? = some t) (h2 : X.ends[i]? = some E) (h3 : X.sends[i]? = some S) {m : IMsg} (hm : m ∈ S.kept) : S.taken < m.number ∧ m.number ≤ (us i).length ∧ m = imsg (us i) m.number := by
  obtain ⟨hl, _⟩ := h.line i t E S h1 h2 h3
  obtain ⟨n, a1, a2, rfl⟩ := hl.b.kept m hm
  exact ⟨a1, a2, rfl⟩
theorem RInv.nodupA (h : RInv X us ds T) {i : Nat} {t : List UInt8} {E S : IEnd} (h1 : X.texts[i]? = some t) (h2 : X.ends[i]? = some E) (h3 : X.sends[i]? = some S) : (E.kept.map IMsg.number).Nodup ∧ E.taken ≤ 180 := by
  obtain ⟨hl, _⟩ := h.line i t E S h1 h2 h3
  have := hl.a.tk
  have := h.ds180 (List.getElem?_eq_some_iff.1 h1).1
  exact ⟨hl.a.kept1, by omega⟩
theorem RInv.nodupB (h : RInv X us ds T) {i : Nat} {t : List UInt8} {E S : IEnd} (h1 : X.texts[i]? = some t) (h2 : X.ends[i]? = some E) (h3 : X.sends[i]? = some S) : (S.kept.map IMsg.number).Nodup ∧ S.taken ≤ 60 := by
  obtain ⟨hl, _, g2, _⟩ := h.line i t E S h1 h2 h3
  have := hl.b.tk
  exact ⟨hl.b.kept1, by omega⟩
end
end Go.Proofs.Ytemkgikncmhoaaa

