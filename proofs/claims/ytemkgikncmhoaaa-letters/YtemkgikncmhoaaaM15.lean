import Derived.Test.YtemkgikncmhoaaaM13
import Derived.Test.YtemkgikncmhoaaaM14
/-
  weave: (*end).sendable, tick; (*Room).Tick. Own work.
-/
namespace Go.Proofs.Ytemkgikncmhoaaa
open Go.RowKit
attribute [local go_sem ↓] Go.wp_at_zero Go.wp_at_succ

set_option maxRecDepth 100000 in
set_option maxHeartbeats 400000 in
theorem xsendable (own : Nat → Tag) (rid k b tb window : Nat) (E : IEnd) (w : World) (h : EndX own rid k w b tb window E) (hl : E.waiting.length ≤ 1000) (hw : window ≤ 4) (a : Option Addr) (c : Nat) (h3 : w.cell? ⟨b, 3, none⟩ = some (.slice a E.waiting.length c)) (hc : E.waiting.length ≤ c) :
    Calls Try.prog 68 #[.pointer (some ⟨b, 0, none⟩)] w fun e w' => e = .returned (.slice a (min window E.waiting.length) c) ∧ w' = w.drew := by
  have c1 := h.c1
  clear h
  generalize E.waiting.length = n at *
  have hmin : (if (n : Int) < (window : Int) then (n : Int) else (window : Int)) = ((min window n : Nat) : Int) := by split <;> omega
  have hmc : ((min window n : Nat) : Int) ≤ (c : Int) := by omega
  go_enter Try.func68, Try.ntmps68
  go_wp2_with fail
  go_region
  all_goals go_wp2
  all_goals go_ret
  all_goals exact ⟨by rw [show min window n = (min (window : Int) (n : Int)).toNat by omega]; rfl, rfl⟩

/-- The first of what waits, as a slice. -/
theorem EndX.front {own : Nat → Tag} {rid k b tb window : Nat} {E : IEnd} {w : World} (h : EndX own rid k w b tb window E) (h0 : 0 < E.waiting.length) : ∃ g off c, w.cell? ⟨b, 3, none⟩ = some (.slice (some ⟨g, off, none⟩) E.waiting.length c) ∧ E.waiting.length ≤ c ∧ c ≤ maxLen ∧ own g = (rid, k, 3) ∧ g < w.heap.size ∧
    ∀ j u, (E.waiting.flatMap IMsg.cells)[j]? = some u → w.cell? ⟨g, off + j, none⟩ = some u := by
  obtain ⟨wv, ov, kb, fv, hc, hm, _⟩ := h
  obtain ⟨g, off, c, rfl, h1, h2, h3, h4, h5⟩ := hm.cells h0
  exact ⟨g, off, c, by rw [hc.cell]; rfl, h1, h2, h3, h4, h5⟩
theorem flatMap_take {α β : Type} (f : α → List β) (n : Nat) (hf : ∀ a, (f a).length = n) : ∀ (l : List α) (k : Nat), (l.take k).flatMap f = (l.flatMap f).take (k * n)
  | [], k => by simp
  | a :: l, 0 => by simp
  | a :: l, k + 1 => by
    rw [List.take_succ_cons, List.flatMap_cons, flatMap_take f n hf l k, List.flatMap_cons, Nat.add_mul, Nat.one_mul, List.take_append, hf]
    rw [show (f a).take (k * n + n) = f a from List.take_of_length_le (by rw [hf]; omega), Nat.add_sub_cancel]

set_option maxRecDepth 100000 in
set_option maxHeartbeats 400000 in
theorem xtick (own : Nat → Tag) (rid k b tb window : Nat) (E : IEnd) (w : World) (h : EndX own rid k w b tb window E) (hl : E.waiting.length ≤ 1000) (hw : window ≤ 4) (ht : E.taken ≤ 255) (hf : E.flying.length ≤ 12) (hx : ∀ m ∈ E.waiting, Bytes (m.bytes E.taken)) :
    Calls Try.prog 50 #[.pointer (some ⟨b, 0, none⟩)] w fun e w' => e = .returned (.tuple #[]) ∧ ∃ own', EndX own' rid k w' b tb window (E.tick window) ∧ Upd own own' (inFly rid k) w w' := by
  have HW : Hid (∀ w', EndX own rid k w' b tb window E → Calls Try.prog 36 #[.pointer (some ⟨b, 0, none⟩)] w' fun e w'' => e = .returned (.int .i64 E.waiting.length) ∧ w'' = w') := hide fun w' h => xwaits own rid k b tb window E w' h
  have HD : Hid (EndX own rid k w.drew b tb window E) := hide (h.upd ((Upd.refl own (fun _ => False) w).drew) (fun _ _ _ h => h))
  have HE := hide h
  by_cases h0 : 0 < E.waiting.length
  · have h0' : (0 : Int) < (E.waiting.length : Int) := by omega
    have HT : Hid (E.tick window = E.sends (E.waiting.take window)) := by apply hide; unfold IEnd.tick; rw [if_pos h0]
    obtain ⟨g, off, c, c3, g1, g2, g3, g4, g5⟩ := h.front h0
    have HS : Hid (Calls Try.prog 68 #[.pointer (some ⟨b, 0, none⟩)] w fun e w' => e = .returned (.slice (some ⟨g, off, none⟩) (min window E.waiting.length) c) ∧ w' = w.drew) := hide (xsendable own rid k b tb window E w h hl hw _ c c3 g1)
    have HSS : Hid (Calls Try.prog 67 #[.pointer (some ⟨b, 0, none⟩), .slice (some ⟨g, off, none⟩) (min window E.waiting.length) c] w.drew fun e w' => e = .returned (.tuple #[]) ∧ ∃ own', EndX own' rid k w' b tb window (E.sends (E.waiting.take window)) ∧ Upd own own' (inFly rid k) w.drew w') := by
      apply hide
      have := xsends own rid k b tb window g off c E (E.waiting.take window) w.drew (unhide HD) hf (fun m hm => hx m (List.mem_of_mem_take hm)) (by simp; omega) (fun _ => ⟨by rw [g3]; simp [inFly], g4⟩) (by
        intro j u hu
        rw [flatMap_take IMsg.cells 6 (fun _ => rfl)] at hu
        exact g5 j u (by rw [List.getElem?_take] at hu; split at hu; exact hu; cases hu))
      rwa [List.length_take] at this
    clear h g5 c3 hx
    rw [HT.out]
    go_enter Try.func50, Try.ntmps50
    go_wp2_with (first | (go_at_call 36; with_reducible refine (unhide HW _ (unhide HE)).mono ?_; rintro e w1 ⟨rfl, hw1⟩; obtain rfl := hw1.symm) | (go_at_call 68; with_reducible refine (unhide HS).mono ?_; rintro e w1 ⟨rfl, hw1⟩; obtain rfl := hw1.symm) | (go_at_call 67; with_reducible refine (unhide HSS).mono ?_; rintro e w1 ⟨rfl, own1, hE1, hU1⟩))
    go_end0
    exact ⟨rfl, own1, hE1, ((Upd.refl own _ w).drew).trans hU1⟩
  · have h0' : ¬ (0 : Int) < (E.waiting.length : Int) := by omega
    have e4 := h.c4
    by_cases h1 : 0 < E.taken
    · have h1' : (0 : Int) < (E.taken : Int) := by omega
      have HT : Hid (E.tick window = E.fly (ckd [2, (E.taken : Int)])) := by apply hide; unfold IEnd.tick; rw [if_neg h0, if_pos h1]
      have HWD : Hid (∀ w, Calls Try.prog 70 #[.int .i64 E.taken] w fun e w' => e = .returned (.string (ckd [2, (E.taken : Int)])) ∧ Below w.heap.size w w') := hide fun w => word_any E.taken w ht
      have HF : Hid (∀ w1, Below w.heap.size w w1 → Calls Try.prog 69 #[.pointer (some ⟨b, 0, none⟩), .slice (some ⟨w1.heap.size, 0, none⟩) 1 1] (w1.alloc (.cells #[.string (ckd [2, (E.taken : Int)])] 131)) fun e w' => e = .returned (.tuple #[]) ∧ ∃ own', EndX own' rid k w' b tb window (E.fly (ckd [2, (E.taken : Int)])) ∧ Upd own own' (inFly rid k) w w') := by
        apply hide
        intro w1 hb
        have U := (Upd.of_below own (fun _ => False) hb).alloc (.cells #[.string (ckd [2, (E.taken : Int)])] 131)
        refine (xfly own rid k b tb window w1.heap.size E _ _ (h.upd U (fun _ _ _ h => h)) hf (World.cell?_alloc_new _ _ _ _)).mono ?_
        rintro e w' ⟨rfl, own', a1, a2⟩
        exact ⟨rfl, own', a1, (U.mono (fun _ h => h.elim)).trans a2⟩
      rw [HT.out]
      generalize ckd [2, (E.taken : Int)] = d at *
      clear h hx
      go_enter Try.func50, Try.ntmps50
      go_wp2_with (first | (go_at_call 36; with_reducible refine (unhide HW _ (unhide HE)).mono ?_; rintro e w1 ⟨rfl, hw1⟩; obtain rfl := hw1.symm) | (go_at_call 70; with_reducible refine (unhide HWD _).mono ?_; rintro e w1 ⟨rfl, hb1⟩) | (go_at_call 69; with_reducible refine (unhide HF _ hb1).mono ?_; rintro e w2 ⟨rfl, own2, hE2, hU2⟩))
      go_end0
      exact ⟨rfl, own2, hE2, hU2⟩
    · have h1' : ¬ (0 : Int) < (E.taken : Int) := by omega
      have HT : Hid (E.tick window = E) := by apply hide; unfold IEnd.tick; rw [if_neg h0, if_neg h1]
      rw [HT.out]
      clear h hx
      go_enter Try.func50, Try.ntmps50
      go_wp2_with (first | (go_at_call 36; with_reducible refine (unhide HW _ (unhide HE)).mono ?_; rintro e w1 ⟨rfl, hw1⟩; obtain rfl := hw1.symm))
      go_end0
      exact ⟨rfl, own, unhide HE, Upd.refl _ _ _⟩

set_option maxRecDepth 100000 in
set_option maxHeartbeats 400000 in
theorem xTick_no (own : Nat → Tag) (rid b : Nat) (X : IRoom) (c : Int) (d : Bool) (w : World) (h : RoomX own rid w b X) (hc : I64 c) (hn : ¬ (0 ≤ c ∧ c < X.texts.length)) :
    Calls Try.prog 34 #[.pointer (some ⟨b, 0, none⟩), .int .i64 c, .bool d] w fun e w' => e = .returned (.int .i64 2) ∧ w' = w := by
  obtain ⟨mb, c1, lk⟩ := h.no hc hn d
  clear h hc hn
  go_enter Try.func34, Try.ntmps34
  go_wp2
  go_ret
  exact ⟨rfl, rfl⟩
end Go.Proofs.Ytemkgikncmhoaaa

/-
  Operations as an end may have them. Plain mathematics. Own work.
-/
namespace Go.Proofs.Ytemkgikncmhoaaa
open Go.RowKit

/-- An operation as an end may have it. -/
def ROp.Norm (o : ROp) : Prop := (0 ≤ o.client ∧ o.client ≤ 3) ∧ ((o.verb = 0 ∧ o.place = 0 ∧ o.letter = 0) ∨ (o.verb = 1 ∧ 0 ≤ o.place ∧ 33 ≤ o.letter ∧ o.letter ≤ 126) ∨ (o.verb = 2 ∧ 0 ≤ o.place ∧ o.letter = 0))
theorem ROp.Norm.turn {a b : ROp} (ha : a.Norm) (hb : b.Norm) : (a.turn b).Norm := by
  obtain ⟨c, v, p, l⟩ := a
  obtain ⟨d, u, q, m⟩ := b
  obtain ⟨⟨c1, c2⟩, hv⟩ := ha
  obtain ⟨_, hu⟩ := hb
  dsimp only at c1 c2 hv hu
  unfold ROp.turn
  dsimp only
  repeat' split
  all_goals refine ⟨⟨c1, c2⟩, ?_⟩
  all_goals dsimp only
  all_goals omega
end Go.Proofs.Ytemkgikncmhoaaa

/-
  A room as plain data: what its calls come to, and what is always so. Plain mathematics. Own work.
-/
namespace Go.Proofs.Ytemkgikncmhoaaa
open Go.RowKit

def IEnd.zero : IEnd := ⟨0, [], 0, 0, [], [], []⟩
def Norms (l : List GMsg) : Prop := ∀ i, 1 ≤ i → i ≤ l.length → (gmsg l i).op.Norm ∧ (gmsg l i).op.place ≤ 240
theorem Norms.push {l : List GMsg} (h : Norms l) (m : GMsg) (hm : m.op.Norm) (hp : m.op.place ≤ 240) : Norms (l ++ [m]) := by
  intro i h1 h2
  simp only [List.length_append, List.length_cons, List.length_nil] at h2
  by_cases hi : i ≤ l.length
  · rw [gmsg_push _ _ _ h1 hi]; exact h i h1 hi
  · obtain rfl : i = l.length + 1 := by omega
    rw [gmsg_last]; exact ⟨hm, hp⟩
theorem gF_norm : ∀ (f : Nat) (us ds : List GMsg) (i k : Nat), Norms us → Norms ds → 1 ≤ i → i ≤ us.length → k ≤ ds.length → (gF f us ds i k).Norm
  | 0, us, ds, i, k, h1, h2, hi, hl, hk => (h1 i hi hl).1
  | f + 1, us, ds, i, k, h1, h2, hi, hl, hk => by
    simp only [gF]
    split
    · exact (h1 i hi hl).1
    · exact (gF_norm f us ds i (k - 1) h1 h2 hi hl (by omega)).turn (gF_norm f ds us k (i - 1) h2 h1 (by omega) hk (by omega))
theorem form_norm {us ds : List GMsg} (h1 : Norms us) (h2 : Norms ds) {i k : Nat} (hi : 1 ≤ i) (hl : i ≤ us.length) (hk : k ≤ ds.length) : (form us ds i k).Norm := gF_norm _ _ _ _ _ h1 h2 hi hl hk

/-- How many the server has taken of client j's. -/
def IRoom.tk (X : IRoom) (j : Nat) : Nat := (X.sends.getD j .zero).taken
structure RInv (X : IRoom) (us ds : Nat → List GMsg) (T : Nat → Nat → Nat → List UInt8) : Prop where
  n1 : 1 ≤ X.texts.length
  n4 : X.texts.length ≤ 4
  le : X.ends.length = X.texts.length
  ls : X.sends.length = X.texts.length
  w1 : 1 ≤ X.window
  w4 : X.window ≤ 4
  line : ∀ i t E S, X.texts[i]? = some t → X.ends[i]? = some E → X.sends[i]? = some S → Line i (us i) (ds i) (T i) E S t X.server ∧ E.waiting.length ≤ X.window ∧ (us i).length ≤ 60 ∧ Norms (us i) ∧ Norms (ds i)
  tot : ∀ i, i < X.texts.length → (ds i).length + X.tk i = X.tk 0 + X.tk 1 + X.tk 2 + X.tk 3

section
variable {X : IRoom} {us ds : Nat → List GMsg} {T : Nat → Nat → Nat → List UInt8}
theorem RInv.get (h : RInv X us ds T) {i : Nat} (hi : i < X.texts.length) : ∃ t E S, X.texts[i]? = some t ∧ X.ends[i]? = some E ∧ X.sends[i]? = some S :=
  ⟨X.texts[i], X.ends[i]'(by rw [h.le]; exact hi), X.sends[i]'(by rw [h.ls]; exact hi), by simp [hi], by simp [h.le, hi], by simp [h.ls, hi]⟩
theorem IRoom.tk_eq {i : Nat} {S : IEnd} (hS : X.sends[i]? = some S) : X.tk i = S.taken := by unfold IRoom.tk; rw [List.getD_eq_getElem?_getD, hS]; rfl
theorem RInv.tk60 (h : RInv X us ds T) (j : Nat) : X.tk j ≤ 60 := by
  by_cases hj : j < X.texts.length
  · obtain ⟨t, E, S, h1, h2, h3⟩ := h.get hj
    rw [IRoom.tk_eq h3]
    obtain ⟨hl, _, hu, _⟩ := h.line j t E S h1 h2 h3
    exact Nat.le_trans hl.b.tk hu
  · unfold IRoom.tk
    rw [List.getD_eq_getElem?_getD, List.getElem?_eq_none (by rw [h.ls]; omega)]
    exact Nat.zero_le _
theorem RInv.ds180 (h : RInv X us ds T) {i : Nat} (hi : i < X.texts.length) : (ds i).length ≤ 180 := by
  have h0 := h.tk60 0
  have h1 := h.tk60 1
  have h2 := h.tk60 2
  have h3 := h.tk60 3
  have ht := h.tot i hi
  have hn := h.n4
  match i, hi with
  | 0, _ | 1, _ | 2, _ | 3, _ => omega
  | i + 4, hi => omega
theorem RInv.text240 (h : RInv X us ds T) {i : Nat} {t : List UInt8} {E S : IEnd} (h1 : X.texts[i]? = some t) (h2 : X.ends[i]? = some E) (h3 : X.sends[i]? = some S) : t.length ≤ 240 := by
  obtain ⟨hl, _, hu, _⟩ := h.line i t E S h1 h2 h3
  have := hl.g.len _ _ _ rfl hl.pa
  have := h.ds180 (List.getElem?_eq_some_iff.1 h1).1
  have := hl.a.tk
  rw [hl.ta]; omega
theorem RInv.server240 (h : RInv X us ds T) : X.server.length ≤ 240 := by
  obtain ⟨t, E, S, h1, h2, h3⟩ := h.get h.n1
  obtain ⟨hl, _, hu, _⟩ := h.line 0 t E S h1 h2 h3
  have := hl.g.len _ _ _ rfl hl.pb
  have := h.ds180 h.n1
  have := hl.b.tk
  rw [hl.tb]; omega
theorem ROp.fits.place {o : ROp} {n : Nat} (h : o.fits n) (hn : o.Norm) : o.place ≤ n := by
  obtain ⟨_, g⟩ := hn
  rcases h with h | ⟨_, _, h⟩ | ⟨_, _, h⟩ <;> omega
/-- A client's text and end turned. -/
def IRoom.setA (X : IRoom) (i : Nat) (t : List UInt8) (E : IEnd) : IRoom := { X with texts := X.texts.set i t, ends := X.ends.set i E }
def IRoom.setB (X : IRoom) (i : Nat) (S : IEnd) : IRoom := { X with sends := X.sends.set i S }
def upd {α : Type} (f : Nat → α) (i : Nat) (a : α) : Nat → α := fun j => if j = i then a else f j
theorem upd_same {α : Type} (f : Nat → α) (i : Nat) (a : α) : upd f i a i = a := if_pos rfl
theorem upd_other {α : Type} (f : Nat → α) {i j : Nat} (a : α) (h : j ≠ i) : upd f i a j = f j := if_neg h

theorem RInv.setA (h : RInv X us ds T) {i : Nat} {t : List UInt8} {E S : IEnd} (h1 : X.texts[i]? = some t) (h2 : X.ends[i]? = some E) (h3 : X.sends[i]? = some S) (u' : List GMsg) (T' : Nat → Nat → List UInt8) (t' : List UInt8) (E' : IEnd)
    (hl : Line i u' (ds i) T' E' S t' X.server) (hw : E'.waiting.length ≤ X.window) (hu : u'.length ≤ 60) (hn : Norms u') : RInv (X.setA i t' E') (upd us i u') ds (upd T i T') := by
  have hi := (List.getElem?_eq_some_iff.1 h1).1
  refine ⟨by simpa [IRoom.setA] using h.n1, by simpa [IRoom.setA] using h.n4, by simpa [IRoom.setA] using h.le, by simpa [IRoom.setA] using h.ls, h.w1, h.w4, ?_, ?_⟩
  · intro j tt EE SS a1 a2 a3
    by_cases hji : j = i
    · subst hji
      simp only [IRoom.setA, List.getElem?_set_self hi] at a1
      simp only [IRoom.setA, List.getElem?_set_self (show j < X.ends.length by rw [h.le]; exact hi)] at a2
      obtain rfl : t' = tt := by simpa using a1
      obtain rfl : E' = EE := by simpa using a2
      obtain rfl : S = SS := by have : X.sends[j]? = some SS := a3; rw [h3] at this; simpa using this
      rw [upd_same, upd_same]
      exact ⟨hl, hw, hu, hn, (h.line j t E S h1 h2 h3).2.2.2.2⟩
    · simp only [IRoom.setA, List.getElem?_set_ne (fun h => hji h.symm)] at a1 a2
      rw [upd_other _ _ hji, upd_other _ _ hji]
      exact h.line j tt EE SS a1 a2 a3
  · intro j hj
    exact h.tot j (by simpa [IRoom.setA] using hj)
/-- A client makes one. -/
theorem RInv.make (h : RInv X us ds T) {i : Nat} {t : List UInt8} {E S : IEnd} (h1 : X.texts[i]? = some t) (h2 : X.ends[i]? = some E) (h3 : X.sends[i]? = some S) (o : ROp) (hc : o.client = i) (hn : o.Norm) (hf : o.fits t.length) (hw : E.waiting.length < X.window) (hu : E.made < 60) :
    ∃ T', RInv (X.setA i (o.does t) (E.make o X.window)) (upd us i (us i ++ [⟨E.taken, o⟩])) ds T' := by
  obtain ⟨hl, g1, g2, g3, g4⟩ := h.line i t E S h1 h2 h3
  obtain ⟨T', hl'⟩ := hl.putA o X.window hc hf
  have f : (E.make o X.window).waiting = E.waiting ++ [E.next o] := by unfold IEnd.make; split; exact (IEnd.sends_fields _ _).2.1; rfl
  rw [hl.a.made] at hu
  have hp := hf.place hn
  have := h.text240 h1 h2 h3
  exact ⟨_, h.setA h1 h2 h3 _ T' _ _ hl' (by rw [f]; simp; omega) (by simp; omega) (g3.push _ hn (by show o.place ≤ 240; omega))⟩
/-- An end turned that has taken as before. -/
theorem RInv.setE (h : RInv X us ds T) {i : Nat} {t : List UInt8} {E S : IEnd} (h1 : X.texts[i]? = some t) (h2 : X.ends[i]? = some E) (h3 : X.sends[i]? = some S) {E' : IEnd} (hE : Half (us i) (ds i) E') (k1 : E'.taken = E.taken) (k2 : E'.known ≤ S.taken) (k3 : E.known ≤ E'.known) : RInv (X.setA i t E') us ds T := by
  obtain ⟨hl, g1, g2, g3, g4⟩ := h.line i t E S h1 h2 h3
  have := h.setA h1 h2 h3 (us i) (T i) t E' (hl.setA hE k1 k2) (by rw [hE.wait, tailOf_length]; rw [hl.a.wait, tailOf_length] at g1; omega) g2 g3
  rwa [show upd us i (us i) = us from funext fun j => by unfold upd; split <;> simp_all, show upd T i (T i) = T from funext fun j => by unfold upd; split <;> simp_all] at this
theorem IRoom.tk_setB {i : Nat} {S S' : IEnd} (h3 : X.sends[i]? = some S) (k : S'.taken = S.taken) (j : Nat) : (X.setB i S').tk j = X.tk j := by
  have hi := (List.getElem?_eq_some_iff.1 h3).1
  unfold IRoom.tk IRoom.setB
  simp only [List.getD_eq_getElem?_getD]
  by_cases hji : j = i
  · subst hji; rw [List.getElem?_set_self hi, h3]; exact k
  · rw [List.getElem?_set_ne (fun h => hji h.symm)]
theorem RInv.setS (h : RInv X us ds T) {i : Nat} {t : List UInt8} {E S : IEnd} (h1 : X.texts[i]? = some t) (h2 : X.ends[i]? = some E) (h3 : X.sends[i]? = some S) {S' : IEnd} (hS : Half (ds i) (us i) S') (k1 : S'.taken = S.taken) (k2 : S'.known ≤ E.taken) : RInv (X.setB i S') us ds T := by
  have hi := (List.getElem?_eq_some_iff.1 h3).1
  refine ⟨h.n1, h.n4, h.le, by simpa [IRoom.setB] using h.ls, h.w1, h.w4, ?_, ?_⟩
  · intro j tt EE SS a1 a2 a3
    by_cases hji : j = i
    · subst hji
      simp only [IRoom.setB, List.getElem?_set_self hi] at a3
      obtain rfl : S' = SS := by simpa using a3
      obtain rfl : t = tt := by have : X.texts[j]? = some tt := a1; rw [h1] at this; simpa using this
      obtain rfl : E = EE := by have : X.ends[j]? = some EE := a2; rw [h2] at this; simpa using this
      obtain ⟨hl, g⟩ := h.line j t E S h1 h2 h3
      exact ⟨hl.setB hS k1 k2, g⟩
    · simp only [IRoom.setB, List.getElem?_set_ne (fun h => hji h.symm)] at a3
      exact h.line j tt EE SS a1 a2 a3
  · intro j hj
    simp only [IRoom.tk_setB h3 k1]
    exact h.tot j hj

/-- A client takes the next one. -/
theorem RInv.takeA (h : RInv X us ds T) {i : Nat} {t : List UInt8} {E S : IEnd} (h1 : X.texts[i]? = some t) (h2 : X.ends[i]? = some E) (h3 : X.sends[i]? = some S) {n : Nat} (hn : n = E.taken + 1) (hd : n ≤ (ds i).length) :
    RInv (X.setA i ((E.taking (imsg (ds i) n)).1.does t) ((E.drop n).take (imsg (ds i) n))) us ds T := by
  obtain ⟨hl, g1, g2, g3, g4⟩ := h.line i t E S h1 h2 h3
  obtain ⟨⟨_, hl'⟩, _⟩ := hl.takeA hn hd
  have := h.setA h1 h2 h3 (us i) (T i) _ _ hl' g1 g2 g3
  rwa [show upd us i (us i) = us from funext fun j => by unfold upd; split <;> simp_all, show upd T i (T i) = T from funext fun j => by unfold upd; split <;> simp_all] at this
/-- What the server takes, it tells the others. -/
def IRoom.tell (X : IRoom) (i : Nat) (S : IEnd) (o : ROp) : IRoom := { X with server := o.does X.server, sends := X.sends.mapIdx fun j Z => if j = i then S else Z.make o X.window }
theorem RInv.takeB (h : RInv X us ds T) {i : Nat} {t : List UInt8} {E S : IEnd} (h1 : X.texts[i]? = some t) (h2 : X.ends[i]? = some E) (h3 : X.sends[i]? = some S) {n : Nat} (hn : n = S.taken + 1) (hd : n ≤ (us i).length) :
    ∃ T', RInv (X.tell i ((S.drop n).take (imsg (us i) n)) (S.taking (imsg (us i) n)).1) us (fun j => if j = i then ds i else ds j ++ [⟨X.tk j, (S.taking (imsg (us i) n)).1⟩]) T' := by
  obtain ⟨hl, g1, g2, g3, g4⟩ := h.line i t E S h1 h2 h3
  have hi := (List.getElem?_eq_some_iff.1 h1).1
  obtain ⟨⟨hf, hl'⟩, hc⟩ := hl.takeB hn hd
  have hno : (S.taking (imsg (us i) n)).1.Norm := by
    obtain ⟨e, _⟩ := hl.b.took hl.g.hist.swap hn hd
    rw [e]; exact form_norm g3 g4 (by omega) hd (Nat.le_refl _)
  generalize (S.taking (imsg (us i) n)).1 = o at *
  have hp := hf.place hno
  have hs := h.server240
  have hall : ∀ j, ∃ Tj, ∀ tt EE SS, j ≠ i → X.texts[j]? = some tt → X.ends[j]? = some EE → X.sends[j]? = some SS → Line j (us j) (ds j ++ [⟨SS.taken, o⟩]) Tj EE (SS.make o X.window) tt (o.does X.server) := by
    intro j
    by_cases hj : j < X.texts.length ∧ j ≠ i
    · obtain ⟨tt, EE, SS, a1, a2, a3⟩ := h.get hj.1
      obtain ⟨hlj, _⟩ := h.line j tt EE SS a1 a2 a3
      obtain ⟨Tj, hTj⟩ := hlj.putB o X.window (by rw [hc]; intro e; exact hj.2 (by omega)) hf
      refine ⟨Tj, fun t2 E2 S2 _ b1 b2 b3 => ?_⟩
      rw [a1] at b1; rw [a2] at b2; rw [a3] at b3
      obtain rfl : tt = t2 := by simpa using b1
      obtain rfl : EE = E2 := by simpa using b2
      obtain rfl : SS = S2 := by simpa using b3
      exact hTj
    · refine ⟨T j, fun tt EE SS b0 b1 _ _ => absurd ⟨(List.getElem?_eq_some_iff.1 b1).1, b0⟩ hj⟩
  obtain ⟨TT, hTT⟩ := Classical.axiomOfChoice hall
  have hget : ∀ j, (X.tell i ((S.drop n).take (imsg (us i) n)) o).sends[j]? = (X.sends[j]?).map fun Z => if j = i then (S.drop n).take (imsg (us i) n) else Z.make o X.window := by
    intro j; simp [IRoom.tell, List.getElem?_mapIdx]
  have hmt : ∀ Z : IEnd, (Z.make o X.window).taken = Z.taken := fun Z => by unfold IEnd.make; split; exact (IEnd.sends_fields _ _).2.2.1; rfl
  have htk : ∀ j, (X.tell i ((S.drop n).take (imsg (us i) n)) o).tk j = if j = i then X.tk j + 1 else X.tk j := by
    intro j
    unfold IRoom.tk
    rw [List.getD_eq_getElem?_getD, hget, List.getD_eq_getElem?_getD]
    by_cases hji : j = i
    · subst hji
      rw [h3]
      simp only [Option.map_some, if_true, Option.getD_some]
      exact hn
    · simp only [if_neg hji]
      cases X.sends[j]? with
      | none => rfl
      | some Z => exact hmt Z
  refine ⟨fun j => if j = i then T i else TT j, h.n1, h.n4, h.le, by simpa [IRoom.tell] using h.ls, h.w1, h.w4, ?_, ?_⟩
  · intro j tt EE SS a1 a2 a3
    rw [hget] at a3
    by_cases hji : j = i
    · subst hji
      rw [h3] at a3
      obtain rfl : (S.drop n).take (imsg (us j) n) = SS := by simpa using a3
      obtain rfl : t = tt := by have : X.texts[j]? = some tt := a1; rw [h1] at this; simpa using this
      obtain rfl : E = EE := by have : X.ends[j]? = some EE := a2; rw [h2] at this; simpa using this
      simp only [if_true]
      exact ⟨hl', g1, g2, g3, g4⟩
    · obtain ⟨Z, hZ, hZ2⟩ := Option.map_eq_some_iff.1 a3
      rw [if_neg hji] at hZ2
      subst hZ2
      simp only [if_neg hji]
      obtain ⟨_, b1, b2, b3, b4⟩ := h.line j tt EE Z a1 a2 hZ
      refine ⟨by rw [IRoom.tk_eq hZ]; exact hTT j tt EE Z hji a1 a2 hZ, b1, b2, b3, b4.push _ hno (by show o.place ≤ 240; omega)⟩
  · intro j hj
    simp only [htk]
    have ht := h.tot j hj
    have hn4 := h.n4
    have hi4 : i < 4 := by omega
    by_cases hji : j = i
    · subst hji
      rw [if_pos rfl, if_pos rfl]
      match j, hi4 with
      | 0, _ | 1, _ | 2, _ | 3, _ => simp; omega
    · rw [if_neg hji, if_neg hji, List.length_append, List.length_cons, List.length_nil]
      match i, hi4 with
      | 0, _ | 1, _ | 2, _ | 3, _ => simp; omega
end
end Go.Proofs.Ytemkgikncmhoaaa

/-
  weave: a room in memory, with its ends turned; (*Room).Tick. Own work.
-/
namespace Go.Proofs.Ytemkgikncmhoaaa
open Go.RowKit
attribute [local go_sem ↓] Go.wp_at_zero Go.wp_at_succ

/-- Where a room's pieces lie: so since New. -/
structure RAddr where
  tb : Nat
  mb : Nat
  ents : Array MapEntry
  clock : Nat
  es : List (Nat × Nat)
  ts : List Nat
def RoomF (A : RAddr) (own : Nat → Tag) (rid : Nat) (w : World) (b : Nat) (X : IRoom) : Prop := RoomXAt own rid w b X A.tb A.mb A.ents A.clock A.es A.ts
theorem RoomX.addr {own : Nat → Tag} {rid b : Nat} {w : World} {X : IRoom} (h : RoomX own rid w b X) : ∃ A, RoomF A own rid w b X := by
  obtain ⟨tb, mb, ents, clock, es, ts, h⟩ := h
  exact ⟨⟨tb, mb, ents, clock, es, ts⟩, h⟩
theorem RoomF.room {A : RAddr} {own : Nat → Tag} {rid b : Nat} {w : World} {X : IRoom} (h : RoomF A own rid w b X) : RoomX own rid w b X := ⟨_, _, _, _, _, _, h⟩
theorem RoomF.upd {A : RAddr} {own own' : Nat → Tag} {may : Tag → Prop} {w w' : World} {rid b : Nat} {X : IRoom} (h : RoomF A own rid w b X) (hu : Upd own own' may w w') (hm : ∀ i k, ¬ may (rid, i, k)) : RoomF A own' rid w' b X := RoomXAt.upd h hu hm

/-- What there is of client i's line. -/
structure Opened (A : RAddr) (own : Nat → Tag) (rid : Nat) (w : World) (b : Nat) (X : IRoom) (i : Nat) (t : List UInt8) (E S : IEnd) (mb eb sb tbi tb : Nat) : Prop where
  c1 : w.cell? ⟨b, 1, none⟩ = some (.map (some mb))
  lk0 : (Instr.lookup 74 (.map (some mb)) (.agg #[.int .i64 i, .bool false]) false).run Try.prog w = .ok (.pointer (some ⟨eb, 0, none⟩)) w
  lk1 : (Instr.lookup 74 (.map (some mb)) (.agg #[.int .i64 i, .bool true]) false).run Try.prog w = .ok (.pointer (some ⟨sb, 0, none⟩)) w
  at_ : A.es[i]? = some (eb, sb) ∧ A.ts[i]? = some tbi ∧ A.tb = tb ∧ A.mb = mb
  bt : own b = (rid, 100, 0)
  mbl : mb < w.heap.size
  mt : own mb = (rid, 100, 5)
  lk0w : ∀ w' : World, w'.heap[mb]? = w.heap[mb]? → (Instr.lookup 74 (.map (some mb)) (.agg #[.int .i64 i, .bool false]) false).run Try.prog w' = .ok (.pointer (some ⟨eb, 0, none⟩)) w'
  lk1w : ∀ w' : World, w'.heap[mb]? = w.heap[mb]? → (Instr.lookup 74 (.map (some mb)) (.agg #[.int .i64 i, .bool true]) false).run Try.prog w' = .ok (.pointer (some ⟨sb, 0, none⟩)) w'
  hE : EndX own rid (2 * i) w eb tbi X.window E
  hT : TextX own rid (2 * i) w tbi t
  hS : EndX own rid (2 * i + 1) w sb tb X.window S
  hV : TextX own rid 100 w tb X.server
  putA : ∀ own' w' t' E', Upd own own' (inClient rid (2 * i)) w w' → EndX own' rid (2 * i) w' eb tbi X.window E' → TextX own' rid (2 * i) w' tbi t' → RoomF A own' rid w' b (X.setA i t' E')
  putB : ∀ own' w' s' S', Upd own own' (fun x => inEnd rid (2 * i + 1) x ∨ inText rid 100 x) w w' → EndX own' rid (2 * i + 1) w' sb tb X.window S' → TextX own' rid 100 w' tb s' → RoomF A own' rid w' b { X with server := s', sends := X.sends.set i S' }

theorem RoomF.opened {A : RAddr} {own : Nat → Tag} {rid b : Nat} {w : World} {X : IRoom} (h : RoomF A own rid w b X) {i : Nat} {t : List UInt8} {E S : IEnd} (ht : X.texts[i]? = some t) (hE : X.ends[i]? = some E) (hS : X.sends[i]? = some S) : ∃ mb eb sb tbi tb, Opened A own rid w b X i t E S mb eb sb tbi tb := by
  obtain ⟨tb, mb, ents, clock, es, ts⟩ := A
  have h : RoomXAt own rid w b X tb mb ents clock es ts := h
  have hi := (List.getElem?_eq_some_iff.1 ht).1
  obtain ⟨p, hp⟩ : ∃ p, es[i]? = some p := ⟨es[i]'(by have := h.lenE; omega), by simp [h.lenE, hi]⟩
  obtain ⟨tbi, htb⟩ : ∃ q, ts[i]? = some q := ⟨ts[i]'(by have := h.lenT; omega), by simp [h.lenT, hi]⟩
  have hle : es.length ≤ 1000 := by have := h.lenE; have := h.le4; omega
  obtain ⟨b1, b2, b3⟩ := h.each i p tbi t E S hp htb ht hE hS
  have hml : mb < w.heap.size := (Array.getElem?_eq_some_iff.1 h.map).1
  have hi4 : i < 4 := by have := h.le4; omega
  refine ⟨mb, p.1, p.2, tbi, tb, by rw [h.cells.cell]; rfl, lookup_yes h.map h.ends hle hp false, lookup_yes h.map h.ends hle hp true, ⟨hp, htb, rfl, rfl⟩, h.cells.2, hml, h.mtag, fun w' hw' => lookup_yes (hw'.trans h.map) h.ends hle hp false, fun w' hw' => lookup_yes (hw'.trans h.map) h.ends hle hp true, b1, b2, b3, h.text, fun own' w' t' E' hu hE' hT' => ?_, fun own' w' s' S' hu hS' hV' => ?_⟩
  · have n1 : ∀ k, ¬ inClient rid (2 * i) (rid, 100, k) := fun k hk => by have := hk.2; simp at this; omega
    have n2 : ∀ j k, j ≠ i → ¬ inClient rid (2 * i) (rid, 2 * j, k) := fun j k hj hk => by have := hk.2; simp at this; omega
    have n3 : ∀ j k, ¬ inClient rid (2 * i) (rid, 2 * j + 1, k) := fun j k hk => by have := hk.2; simp at this; omega
    refine ⟨h.cells.upd hu (n1 _), h.text.upd hu (n1 _) (n1 _), (hu.block mb hml (by rw [h.mtag]; exact n1 _)).trans h.map, (hu.tags mb hml).trans h.mtag, h.ends, by simpa [IRoom.setA] using h.lenE, by simpa [IRoom.setA] using h.lenT, by simpa [IRoom.setA] using h.lenX, by simpa [IRoom.setA] using h.lenS, by simpa [IRoom.setA] using h.le4, ?_⟩
    intro j q tbj tt EE SS a1 a2 a3 a4 a5
    simp only [IRoom.setA] at a3 a4 a5
    by_cases hji : j = i
    · subst hji
      have hlx : j < X.ends.length := by have := h.lenX; omega
      simp only [List.getElem?_set_self hi] at a3
      simp only [List.getElem?_set_self hlx] at a4
      obtain rfl : t' = tt := by simpa using a3
      obtain rfl : E' = EE := by simpa using a4
      obtain rfl : p = q := by rw [hp] at a1; simpa using a1
      obtain rfl : tbi = tbj := by rw [htb] at a2; simpa using a2
      obtain rfl : S = SS := by rw [hS] at a5; simpa using a5
      exact ⟨hE', hT', b3.upd hu (fun _ _ _ => n3 _ _)⟩
    · simp only [List.getElem?_set_ne (fun h => hji h.symm)] at a3 a4
      obtain ⟨d1, d2, d3⟩ := h.each j q tbj tt EE SS a1 a2 a3 a4 a5
      exact ⟨d1.upd hu (fun _ _ _ => n2 j _ hji), d2.upd hu (n2 j _ hji) (n2 j _ hji), d3.upd hu (fun _ _ _ => n3 _ _)⟩
  · have m0 : ∀ k, k ≠ 1 → k ≠ 2 → ¬ (inEnd rid (2 * i + 1) (rid, 100, k) ∨ inText rid 100 (rid, 100, k)) := fun k k1 k2 hk => by
      rcases hk with hk | hk
      · have := hk.2.1; simp at this; omega
      · simp [inText, k1, k2] at hk
    have m1 : ∀ j k, ¬ (inEnd rid (2 * i + 1) (rid, 2 * j, k) ∨ inText rid 100 (rid, 2 * j, k)) ∨ 4 ≤ j := fun j k => by
      by_cases hj : 4 ≤ j
      · exact .inr hj
      · refine .inl ?_
        rintro (hk | hk)
        · have := hk.2.1; simp at this; omega
        · rcases hk with hk | hk <;> (simp at hk; omega)
    have m2 : ∀ j k, j ≠ i → ¬ (inEnd rid (2 * i + 1) (rid, 2 * j + 1, k) ∨ inText rid 100 (rid, 2 * j + 1, k)) := fun j k hj => by
      rintro (hk | hk)
      · have := hk.2.1; simp at this; omega
      · rcases hk with hk | hk <;> (simp at hk; omega)
    refine ⟨h.cells.upd hu (m0 _ (by decide) (by decide)), hV', (hu.block mb hml (by rw [h.mtag]; exact m0 _ (by decide) (by decide))).trans h.map, (hu.tags mb hml).trans h.mtag, h.ends, h.lenE, h.lenT, h.lenX, by simpa using h.lenS, h.le4, ?_⟩
    intro j q tbj tt EE SS a1 a2 a3 a4 a5
    have a3' : X.texts[j]? = some tt := a3
    have hj4 : j < 4 := by have := (List.getElem?_eq_some_iff.1 a3').1; have := h.le4; omega
    have m1' : ∀ k, ¬ (inEnd rid (2 * i + 1) (rid, 2 * j, k) ∨ inText rid 100 (rid, 2 * j, k)) := fun k => (m1 j k).resolve_right (by omega)
    by_cases hji : j = i
    · subst hji
      have hls : j < X.sends.length := by have := h.lenS; omega
      simp only [List.getElem?_set_self hls] at a5
      obtain rfl : S' = SS := by simpa using a5
      obtain rfl : p = q := by rw [hp] at a1; simpa using a1
      obtain rfl : tbi = tbj := by rw [htb] at a2; simpa using a2
      obtain rfl : t = tt := by rw [ht] at a3; simpa using a3
      obtain rfl : E = EE := by rw [hE] at a4; simpa using a4
      exact ⟨b1.upd hu (fun _ _ _ => m1' _), b2.upd hu (m1' _) (m1' _), hS'⟩
    · simp only [List.getElem?_set_ne (fun h => hji h.symm)] at a5
      obtain ⟨d1, d2, d3⟩ := h.each j q tbj tt EE SS a1 a2 a3 a4 a5
      exact ⟨d1.upd hu (fun _ _ _ => m1' _), d2.upd hu (m1' _) (m1' _), d3.upd hu (fun _ _ _ => m2 j _ hji)⟩
theorem RoomF.none_w {A : RAddr} {own : Nat → Tag} {rid b : Nat} {w : World} {X : IRoom} (h : RoomF A own rid w b X) {c : Int} (hc : I64 c) (hn : ¬ (0 ≤ c ∧ c < X.texts.length)) (s : Bool) :
    ∃ mb, w.cell? ⟨b, 1, none⟩ = some (.map (some mb)) ∧ mb < w.heap.size ∧ ∀ w' : World, w'.heap[mb]? = w.heap[mb]? → (Instr.lookup 74 (.map (some mb)) (.agg #[.int .i64 c, .bool s]) false).run Try.prog w' = .ok (.pointer none) w' := by
  obtain ⟨tb, mb, ents, clock, es, ts⟩ := A
  have h : RoomXAt own rid w b X tb mb ents clock es ts := h
  exact ⟨mb, by rw [h.cells.cell]; rfl, (Array.getElem?_eq_some_iff.1 h.map).1, fun w' hw' => lookup_no (hw'.trans h.map) h.ends (by have := h.lenE; have := h.le4; omega) hc (by rw [h.lenE]; exact hn) s⟩
/-- A client's end alone is turned. -/
theorem Opened.setE {A : RAddr} {own own' : Nat → Tag} {rid b i mb eb sb tbi tb : Nat} {w w' : World} {X : IRoom} {t : List UInt8} {E S E' : IEnd} (h : Opened A own rid w b X i t E S mb eb sb tbi tb) (hu : Upd own own' (inEnd rid (2 * i)) w w') (hE : EndX own' rid (2 * i) w' eb tbi X.window E') : RoomF A own' rid w' b (X.setA i t E') :=
  h.putA own' w' t E' (hu.mono fun _ h => h.client) hE (h.hT.upd hu (by simp [inEnd]) (by simp [inEnd]))
theorem Opened.setS {A : RAddr} {own own' : Nat → Tag} {rid b i mb eb sb tbi tb : Nat} {w w' : World} {X : IRoom} {t : List UInt8} {E S S' : IEnd} (h : Opened A own rid w b X i t E S mb eb sb tbi tb) (hi : i < 4) (hu : Upd own own' (inEnd rid (2 * i + 1)) w w') (hS : EndX own' rid (2 * i + 1) w' sb tb X.window S') : RoomF A own' rid w' b (X.setB i S') := by
  have := h.putB own' w' X.server S' (hu.mono fun _ h => .inl h) hS (h.hV.upd hu (fun h => by have := h.2.1; simp at this; omega) (fun h => by have := h.2.1; simp at this; omega))
  exact this

/-- An end of client i's line. -/
def IRoom.endOf (X : IRoom) (i : Nat) (s : Bool) : Option IEnd := if s then X.sends[i]? else X.ends[i]?
def IRoom.setEnd (X : IRoom) (i : Nat) (s : Bool) (E : IEnd) : IRoom := if s then { X with sends := X.sends.set i E } else { X with ends := X.ends.set i E }

set_option maxRecDepth 100000 in
set_option maxHeartbeats 400000 in
theorem xTick_0 (own : Nat → Tag) (rid b : Nat) (X : IRoom) (i : Nat) (t : List UInt8) (E S : IEnd) (w : World) (h : RoomX own rid w b X) (ht : X.texts[i]? = some t) (hE : X.ends[i]? = some E) (hS : X.sends[i]? = some S) (_hi4 : i < 4) (hw : X.window ≤ 4) (h1 : E.waiting.length ≤ 1000) (h2 : E.taken ≤ 255) (h3 : E.flying.length ≤ 12) (hx : ∀ m ∈ E.waiting, Bytes (m.bytes E.taken)) :
    Calls Try.prog 34 #[.pointer (some ⟨b, 0, none⟩), .int .i64 i, .bool false] w fun e w' => e = .returned (.int .i64 0) ∧ ∃ own', RoomX own' rid w' b (X.setA i t (E.tick X.window)) ∧ Upd own own' (inRoom rid) w w' := by
  obtain ⟨A, h⟩ := h.addr
  obtain ⟨mb, eb, sb, tbi, tb, O⟩ := h.opened ht hE hS
  have c1 := O.c1
  have lk := O.lk0
  have HT : Hid (Calls Try.prog 50 #[.pointer (some ⟨eb, 0, none⟩)] w fun e w' => e = .returned (.tuple #[]) ∧ ∃ own', RoomX own' rid w' b (X.setA i t (E.tick X.window)) ∧ Upd own own' (inRoom rid) w w') := by
    apply hide
    refine (xtick own rid (2 * i) eb tbi X.window E w O.hE h1 hw h2 h3 hx).mono ?_
    rintro e w' ⟨rfl, own', a1, a2⟩
    exact ⟨rfl, own', (O.setE (a2.mono fun _ h => h.inEnd) a1).room, a2.mono fun _ h => h.inEnd.1⟩
  clear h O hx
  go_enter Try.func34, Try.ntmps34
  go_wp2_with (first | (go_at_call 50; with_reducible refine (unhide HT).mono ?_; rintro e w1 ⟨rfl, hF⟩))
  go_ret
  exact ⟨rfl, hF⟩
set_option maxRecDepth 100000 in
set_option maxHeartbeats 400000 in
theorem xTick_1 (own : Nat → Tag) (rid b : Nat) (X : IRoom) (i : Nat) (t : List UInt8) (E S : IEnd) (w : World) (h : RoomX own rid w b X) (ht : X.texts[i]? = some t) (hE : X.ends[i]? = some E) (hS : X.sends[i]? = some S) (hi4 : i < 4) (hw : X.window ≤ 4) (h1 : S.waiting.length ≤ 1000) (h2 : S.taken ≤ 255) (h3 : S.flying.length ≤ 12) (hx : ∀ m ∈ S.waiting, Bytes (m.bytes S.taken)) :
    Calls Try.prog 34 #[.pointer (some ⟨b, 0, none⟩), .int .i64 i, .bool true] w fun e w' => e = .returned (.int .i64 0) ∧ ∃ own', RoomX own' rid w' b (X.setB i (S.tick X.window)) ∧ Upd own own' (inRoom rid) w w' := by
  obtain ⟨A, h⟩ := h.addr
  obtain ⟨mb, eb, sb, tbi, tb, O⟩ := h.opened ht hE hS
  have c1 := O.c1
  have lk := O.lk1
  have HT : Hid (Calls Try.prog 50 #[.pointer (some ⟨sb, 0, none⟩)] w fun e w' => e = .returned (.tuple #[]) ∧ ∃ own', RoomX own' rid w' b (X.setB i (S.tick X.window)) ∧ Upd own own' (inRoom rid) w w') := by
    apply hide
    refine (xtick own rid (2 * i + 1) sb tb X.window S w O.hS h1 hw h2 h3 hx).mono ?_
    rintro e w' ⟨rfl, own', a1, a2⟩
    exact ⟨rfl, own', (O.setS hi4 (a2.mono fun _ h => h.inEnd) a1).room, a2.mono fun _ h => h.inEnd.1⟩
  clear h O hx
  go_enter Try.func34, Try.ntmps34
  go_wp2_with (first | (go_at_call 50; with_reducible refine (unhide HT).mono ?_; rintro e w1 ⟨rfl, hF⟩))
  go_ret
  exact ⟨rfl, hF⟩
end Go.Proofs.Ytemkgikncmhoaaa

