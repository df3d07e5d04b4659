import Derived.Test.YtemkgikncmhoaaaM12
import Derived.Test.YtemkgikncmhoaaaM13
/-
  The grid of a line: forms, texts; a message more. Plain mathematics. Own work.
-/
namespace Go.Proofs.Ytemkgikncmhoaaa
open Go.RowKit

structure GMsg where
  ctx : Nat
  op : ROp
def gmsg (l : List GMsg) (i : Nat) : GMsg := l.getD (i - 1) ⟨0, .nop⟩
def gF : Nat → List GMsg → List GMsg → Nat → Nat → ROp
  | 0, us, _, i, _ => (gmsg us i).op
  | f + 1, us, ds, i, k => if k ≤ (gmsg us i).ctx then (gmsg us i).op else (gF f us ds i (k - 1)).turn (gF f ds us k (i - 1))
/-- The form of message i (from 1) of the first row, behind k of the second's. -/
def form (us ds : List GMsg) (i k : Nat) : ROp := gF (i + k) us ds i k

theorem form_base (us ds : List GMsg) (i k : Nat) (h : k ≤ (gmsg us i).ctx) : form us ds i k = (gmsg us i).op := by
  unfold form
  cases i + k with
  | zero => rfl
  | succ f => simp only [gF, if_pos h]
theorem form_step (us ds : List GMsg) (i k : Nat) (hi : 1 ≤ i) (h : (gmsg us i).ctx < k) : form us ds i k = (form us ds i (k - 1)).turn (form ds us k (i - 1)) := by
  unfold form
  obtain ⟨f, hf⟩ : ∃ f, i + k = f + 1 := ⟨i + k - 1, by omega⟩
  rw [hf, gF, if_neg (by omega), show i + (k - 1) = f by omega, show k + (i - 1) = f by omega]
theorem form_client (us ds : List GMsg) (i : Nat) (hi : 1 ≤ i) : ∀ k, (form us ds i k).client = (gmsg us i).op.client
  | 0 => by rw [form_base _ _ _ _ (Nat.zero_le _)]
  | k + 1 => by
    by_cases h : k + 1 ≤ (gmsg us i).ctx
    · rw [form_base _ _ _ _ h]
    · rw [form_step _ _ _ _ hi (by omega), ROp.turn_client]
      exact form_client us ds i hi k
theorem gF_same : ∀ (f : Nat) (us us' ds ds' : List GMsg) (i k : Nat), 1 ≤ i → (∀ j, 1 ≤ j → j ≤ i → gmsg us j = gmsg us' j) → (∀ j, 1 ≤ j → j ≤ k → gmsg ds j = gmsg ds' j) → gF f us ds i k = gF f us' ds' i k
  | 0, us, us', ds, ds', i, k, hi, h1, h2 => by simp only [gF, h1 i hi (Nat.le_refl _)]
  | f + 1, us, us', ds, ds', i, k, hi, h1, h2 => by
    simp only [gF, h1 i hi (Nat.le_refl _)]
    by_cases h : k ≤ (gmsg us' i).ctx
    · rw [if_pos h, if_pos h]
    · rw [if_neg h, if_neg h, gF_same f us us' ds ds' i (k - 1) hi h1 (fun j a b => h2 j a (by omega)), gF_same f ds ds' us us' k (i - 1) (by omega) h2 (fun j a b => h1 j a (by omega))]
theorem gmsg_push (us : List GMsg) (m : GMsg) (i : Nat) (h1 : 1 ≤ i) (h : i ≤ us.length) : gmsg (us ++ [m]) i = gmsg us i := by
  unfold gmsg
  rw [List.getD_eq_getElem?_getD, List.getD_eq_getElem?_getD, List.getElem?_append_left (by omega)]
theorem gmsg_last (us : List GMsg) (m : GMsg) : gmsg (us ++ [m]) (us.length + 1) = m := by
  unfold gmsg
  rw [List.getD_eq_getElem?_getD, Nat.add_sub_cancel, List.getElem?_append_right (Nat.le_refl _)]
  simp
theorem form_push (us ds : List GMsg) (m : GMsg) (i k : Nat) (h1 : 1 ≤ i) (h : i ≤ us.length) : form (us ++ [m]) ds i k = form us ds i k :=
  gF_same _ _ _ _ _ _ _ h1 (fun j a b => gmsg_push us m j a (by omega)) (fun _ _ _ => rfl)
theorem form_push' (us ds : List GMsg) (m : GMsg) (i k : Nat) (h1 : 1 ≤ i) (h : k ≤ ds.length) : form us (ds ++ [m]) i k = form us ds i k :=
  gF_same _ _ _ _ _ _ _ h1 (fun _ _ _ => rfl) (fun j a b => gmsg_push ds m j a (by omega))

/-- The contexts of the two rows are those of a run. -/
structure Hist (us ds : List GMsg) : Prop where
  mu : ∀ i j, 1 ≤ i → i ≤ j → j ≤ us.length → (gmsg us i).ctx ≤ (gmsg us j).ctx
  md : ∀ i j, 1 ≤ i → i ≤ j → j ≤ ds.length → (gmsg ds i).ctx ≤ (gmsg ds j).ctx
  bu : ∀ i, 1 ≤ i → i ≤ us.length → (gmsg us i).ctx ≤ ds.length
  bd : ∀ k, 1 ≤ k → k ≤ ds.length → (gmsg ds k).ctx ≤ us.length
  ac : ∀ i k, 1 ≤ i → i ≤ us.length → 1 ≤ k → k ≤ ds.length → (gmsg us i).ctx < k ∨ (gmsg ds k).ctx < i
  cl : ∀ i k, 1 ≤ i → i ≤ us.length → 1 ≤ k → k ≤ ds.length → (gmsg us i).op.client ≠ (gmsg ds k).op.client
theorem Hist.swap {us ds : List GMsg} (h : Hist us ds) : Hist ds us :=
  ⟨h.md, h.mu, h.bd, h.bu, fun i k a b c d => (h.ac k i c d a b).symm, fun i k a b c d => (h.cl k i c d a b).symm⟩
/-- A point that a run may have come to. -/
structure Pt (us ds : List GMsg) (i k : Nat) : Prop where
  li : i ≤ us.length
  lk : k ≤ ds.length
  ui : 1 ≤ i → (gmsg us i).ctx ≤ k
  dk : 1 ≤ k → (gmsg ds k).ctx ≤ i
theorem Pt.swap {us ds : List GMsg} {i k : Nat} (h : Pt us ds i k) : Pt ds us k i := ⟨h.lk, h.li, h.dk, h.ui⟩
/-- The texts at the points. -/
structure Grid (us ds : List GMsg) (T : Nat → Nat → List UInt8) : Prop where
  hist : Hist us ds
  start : T 0 0 = []
  u : ∀ i k, 1 ≤ i → Pt us ds i k → Pt us ds (i - 1) k → (form us ds i k).fits (T (i - 1) k).length ∧ T i k = (form us ds i k).does (T (i - 1) k)
  d : ∀ i k, 1 ≤ k → Pt us ds i k → Pt us ds i (k - 1) → (form ds us k i).fits (T i (k - 1)).length ∧ T i k = (form ds us k i).does (T i (k - 1))
theorem Grid.swap {us ds : List GMsg} {T : Nat → Nat → List UInt8} (h : Grid us ds T) : Grid ds us (fun k i => T i k) :=
  ⟨h.hist.swap, h.start, fun i k a b c => h.d k i a b.swap c.swap, fun i k a b c => h.u k i a b.swap c.swap⟩
theorem Grid.empty : Grid [] [] (fun _ _ => []) := by
  refine ⟨⟨?_, ?_, ?_, ?_, ?_, ?_⟩, rfl, ?_, ?_⟩
  · intro i j h1 h2 h3; simp at h3; omega
  · intro i j h1 h2 h3; simp at h3; omega
  · intro i h1 h2; simp at h2; omega
  · intro i h1 h2; simp at h2; omega
  · intro i k h1 h2; simp at h2; omega
  · intro i k h1 h2; simp at h2; omega
  · intro i k h1 h2; have := h2.li; simp at this; omega
  · intro i k h1 h2; have := h2.lk; simp at this; omega

theorem ROp.does_len (a : ROp) (s : List UInt8) (h : a.fits s.length) : (a.does s).length ≤ s.length + 1 := by
  obtain ⟨c, v, p, l⟩ := a
  rcases h with rfl | ⟨rfl, h1, h2⟩ | ⟨rfl, h1, h2⟩
  · rw [ROp.does_nop]; omega
  · obtain ⟨q, rfl⟩ := Int.eq_ofNat_of_zero_le h1
    dsimp only at h2
    rw [ROp.does_put, ins_len _ _ _ (by omega)]; omega
  · obtain ⟨q, rfl⟩ := Int.eq_ofNat_of_zero_le h1
    dsimp only at h2
    rw [ROp.does_cut, del_len _ _ (by omega)]; omega

section
variable {us ds : List GMsg} {T : Nat → Nat → List UInt8}
theorem Grid.len (h : Grid us ds T) : ∀ n i k, i + k = n → Pt us ds i k → (T i k).length ≤ n
  | 0, i, k, e, hp => by
    obtain rfl : i = 0 := by omega
    obtain rfl : k = 0 := by omega
    rw [h.start]; simp
  | n + 1, i, k, e, hp => by
    by_cases hu : 1 ≤ i ∧ Pt us ds (i - 1) k
    · obtain ⟨a, b⟩ := h.u i k hu.1 hp hu.2
      have := h.len n (i - 1) k (by omega) hu.2
      rw [b]
      have := ROp.does_len _ _ a
      omega
    · have hk : 1 ≤ k ∧ Pt us ds i (k - 1) := by
        by_cases hk0 : k = 0
        · exfalso
          apply hu
          subst hk0
          refine ⟨by omega, ⟨by have := hp.li; omega, hp.lk, fun h1 => ?_, fun h1 => by omega⟩⟩
          exact Nat.le_trans (h.hist.mu (i - 1) i h1 (by omega) hp.li) (hp.ui (by omega))
        · refine ⟨by omega, ⟨hp.li, by have := hp.lk; omega, fun h1 => ?_, fun h1 => ?_⟩⟩
          · rcases h.hist.ac i k h1 hp.li (by omega) hp.lk with g | g
            · omega
            · exfalso
              apply hu
              refine ⟨h1, ⟨by have := hp.li; omega, hp.lk, fun h2 => ?_, fun _ => by omega⟩⟩
              exact Nat.le_trans (h.hist.mu (i - 1) i h2 (by omega) hp.li) (hp.ui h1)
          · exact Nat.le_trans (h.hist.md (k - 1) k h1 (by omega) hp.lk) (hp.dk (by omega))
      obtain ⟨a, b⟩ := h.d i k hk.1 hp hk.2
      have := h.len n i (k - 1) (by omega) hk.2
      rw [b]
      have := ROp.does_len _ _ a
      omega

/-- A MESSAGE MORE, of the first row's end, which has taken k0 of the other's. -/
theorem Grid.push (h : Grid us ds T) (k0 : Nat) (o : ROp) (hk : k0 ≤ ds.length) (hm : ∀ i, 1 ≤ i → i ≤ us.length → (gmsg us i).ctx ≤ k0) (hc : ∀ k, 1 ≤ k → k ≤ ds.length → o.client ≠ (gmsg ds k).op.client) (hf : o.fits (T us.length k0).length) :
    ∃ T', Grid (us ++ [⟨k0, o⟩]) ds T' ∧ (∀ i k, i ≤ us.length → T' i k = T i k) ∧ T' (us.length + 1) k0 = o.does (T us.length k0) := by
  have hpt : ∀ k, k0 ≤ k → k ≤ ds.length → Pt us ds us.length k := fun k h1 h2 => ⟨Nat.le_refl _, h2, fun h3 => Nat.le_trans (hm _ h3 (Nat.le_refl _)) h1, fun h3 => h.hist.bd k h3 h2⟩
  have hlast : (gmsg (us ++ [⟨k0, o⟩]) (us.length + 1)) = ⟨k0, o⟩ := gmsg_last _ _
  have hbase : form (us ++ [⟨k0, o⟩]) ds (us.length + 1) k0 = o := by rw [form_base _ _ _ _ (by rw [hlast]; exact Nat.le_refl _), hlast]
  have hist : Hist (us ++ [⟨k0, o⟩]) ds := by
    have lp : (us ++ [(⟨k0, o⟩ : GMsg)]).length = us.length + 1 := by simp
    refine ⟨?_, h.hist.md, ?_, ?_, ?_, ?_⟩
    · intro i j h1 h2 h3
      rw [lp] at h3
      by_cases hj : j = us.length + 1
      · subst hj
        by_cases hi : i = us.length + 1
        · subst hi; exact Nat.le_refl _
        · rw [gmsg_push _ _ _ h1 (by omega), hlast]; exact hm i h1 (by omega)
      · rw [gmsg_push _ _ _ h1 (by omega), gmsg_push _ _ _ (by omega) (by omega)]; exact h.hist.mu i j h1 h2 (by omega)
    · intro i h1 h2
      rw [lp] at h2
      by_cases hi : i = us.length + 1
      · subst hi; rw [hlast]; exact hk
      · rw [gmsg_push _ _ _ h1 (by omega)]; exact h.hist.bu i h1 (by omega)
    · intro k h1 h2
      rw [lp]
      have := h.hist.bd k h1 h2
      omega
    · intro i k h1 h2 h3 h4
      rw [lp] at h2
      by_cases hi : i = us.length + 1
      · subst hi
        have := h.hist.bd k h3 h4
        exact .inr (by omega)
      · rw [gmsg_push _ _ _ h1 (by omega)]; exact h.hist.ac i k h1 (by omega) h3 h4
    · intro i k h1 h2 h3 h4
      rw [lp] at h2
      by_cases hi : i = us.length + 1
      · subst hi; rw [hlast]; exact hc k h3 h4
      · rw [gmsg_push _ _ _ h1 (by omega)]; exact h.hist.cl i k h1 (by omega) h3 h4
  have key : ∀ e, k0 + e ≤ ds.length → (form (us ++ [⟨k0, o⟩]) ds (us.length + 1) (k0 + e)).fits (T us.length (k0 + e)).length ∧
      (1 ≤ e → (form ds (us ++ [⟨k0, o⟩]) (k0 + e) (us.length + 1)).fits ((form (us ++ [⟨k0, o⟩]) ds (us.length + 1) (k0 + e - 1)).does (T us.length (k0 + e - 1))).length ∧
        (form (us ++ [⟨k0, o⟩]) ds (us.length + 1) (k0 + e)).does (T us.length (k0 + e)) = (form ds (us ++ [⟨k0, o⟩]) (k0 + e) (us.length + 1)).does ((form (us ++ [⟨k0, o⟩]) ds (us.length + 1) (k0 + e - 1)).does (T us.length (k0 + e - 1)))) := by
    intro e
    induction e with
    | zero => intro _; exact ⟨by simp only [Nat.add_zero]; rw [hbase]; exact hf, fun h => by omega⟩
    | succ e ih =>
      intro he
      obtain ⟨ih1, _⟩ := ih (by omega)
      obtain ⟨d1, d2⟩ := h.d us.length (k0 + (e + 1)) (by omega) (hpt _ (by omega) he) (hpt _ (by omega) (by omega))
      rw [show k0 + (e + 1) - 1 = k0 + e by omega] at d1 d2 ⊢
      have e1 : form (us ++ [⟨k0, o⟩]) ds (us.length + 1) (k0 + (e + 1)) = (form (us ++ [⟨k0, o⟩]) ds (us.length + 1) (k0 + e)).turn (form ds us (k0 + (e + 1)) us.length) := by
        rw [form_step _ _ _ _ (by omega) (by rw [hlast]; dsimp only; omega), show k0 + (e + 1) - 1 = k0 + e by omega, Nat.add_sub_cancel, form_push' _ _ _ _ _ (by omega) (Nat.le_refl _)]
      have e2 : form ds (us ++ [⟨k0, o⟩]) (k0 + (e + 1)) (us.length + 1) = (form ds us (k0 + (e + 1)) us.length).turn (form (us ++ [⟨k0, o⟩]) ds (us.length + 1) (k0 + e)) := by
        have := h.hist.bd (k0 + (e + 1)) (by omega) he
        rw [form_step _ _ _ _ (by omega) (by omega), show k0 + (e + 1) - 1 = k0 + e by omega, Nat.add_sub_cancel, form_push' _ _ _ _ _ (by omega) (Nat.le_refl _)]
      have hcl : (form (us ++ [⟨k0, o⟩]) ds (us.length + 1) (k0 + e)).client ≠ (form ds us (k0 + (e + 1)) us.length).client := by
        rw [form_client _ _ _ (by omega), form_client _ _ _ (by omega), hlast]
        exact hc _ (by omega) he
      have S := square _ _ _ hcl ih1 d1
      rw [e1, e2, d2]
      exact ⟨S.fa, fun _ => ⟨S.fb, S.same⟩⟩
  refine ⟨fun i k => if i ≤ us.length then T i k else (form (us ++ [⟨k0, o⟩]) ds (us.length + 1) k).does (T us.length k), ⟨hist, ?_, ?_, ?_⟩, fun i k hi => if_pos hi, ?_⟩
  · rw [if_pos (Nat.zero_le _)]; exact h.start
  · intro i k h1 hp hq
    have hil := hp.li
    simp only [List.length_append, List.length_cons, List.length_nil] at hil
    by_cases hi : i ≤ us.length
    · rw [if_pos hi, if_pos (by omega), form_push _ _ _ _ _ h1 hi]
      refine h.u i k h1 ⟨hi, hp.lk, fun h2 => ?_, hp.dk⟩ ⟨by omega, hp.lk, fun h2 => ?_, hq.dk⟩
      · have := hp.ui h2; rwa [gmsg_push _ _ _ h2 hi] at this
      · have := hq.ui h2; rwa [gmsg_push _ _ _ h2 (by omega)] at this
    · obtain rfl : i = us.length + 1 := by omega
      have h2 := hp.ui (by omega)
      rw [hlast] at h2
      dsimp only at h2
      rw [if_neg hi, if_pos (by omega), Nat.add_sub_cancel]
      obtain ⟨e, rfl⟩ : ∃ e, k = k0 + e := ⟨k - k0, by omega⟩
      exact ⟨(key e hp.lk).1, rfl⟩
  · intro i k h1 hp hq
    have hil := hp.li
    simp only [List.length_append, List.length_cons, List.length_nil] at hil
    by_cases hi : i ≤ us.length
    · rw [if_pos hi, if_pos hi, form_push' _ _ _ _ _ h1 hi]
      refine h.d i k h1 ⟨hi, hp.lk, fun h2 => ?_, hp.dk⟩ ⟨hi, hq.lk, fun h2 => ?_, hq.dk⟩
      · have := hp.ui h2; rwa [gmsg_push _ _ _ h2 hi] at this
      · have := hq.ui h2; rwa [gmsg_push _ _ _ h2 hi] at this
    · obtain rfl : i = us.length + 1 := by omega
      have h2 := hq.ui (by omega)
      rw [hlast] at h2
      dsimp only at h2
      rw [if_neg hi, if_neg hi]
      obtain ⟨e, rfl⟩ : ∃ e, k = k0 + (e + 1) := ⟨k - k0 - 1, by omega⟩
      exact (key (e + 1) hp.lk).2 (by omega)
  · dsimp only
    rw [if_neg (by omega), hbase]
end
end Go.Proofs.Ytemkgikncmhoaaa

/-
  A line's end as plain data beside the grid: what it has made, taken, kept, and what of it flies. Plain mathematics. Own work.
-/
namespace Go.Proofs.Ytemkgikncmhoaaa
open Go.RowKit

def imsg (own : List GMsg) (n : Nat) : IMsg := ⟨n, (gmsg own n).ctx, (gmsg own n).op⟩
/-- The messages above k. -/
def tailOf (own : List GMsg) (k : Nat) : List IMsg := (List.range (own.length - k)).map fun j => imsg own (k + j + 1)
/-- The forms of the messages above s, behind t of the other row's. -/
def formsOf (own oth : List GMsg) (s t : Nat) : List ROp := (List.range (own.length - s)).map fun j => form own oth (s + j + 1) t

theorem tailOf_length (own : List GMsg) (k : Nat) : (tailOf own k).length = own.length - k := by simp [tailOf]
theorem formsOf_length (own oth : List GMsg) (s t : Nat) : (formsOf own oth s t).length = own.length - s := by simp [formsOf]
theorem range_map_congr {α : Type} {f g : Nat → α} (n : Nat) (h : ∀ j, j < n → f j = g j) : (List.range n).map f = (List.range n).map g := by
  apply List.map_congr_left
  intro j hj
  exact h j (List.mem_range.1 hj)
theorem tailOf_push (own : List GMsg) (m : GMsg) (k : Nat) (h : k ≤ own.length) : tailOf (own ++ [m]) k = tailOf own k ++ [⟨own.length + 1, m.ctx, m.op⟩] := by
  unfold tailOf
  rw [show (own ++ [m]).length - k = (own.length - k) + 1 by simp; omega, List.range_succ, List.map_append]
  congr 1
  · apply range_map_congr
    intro j hj
    unfold imsg
    rw [gmsg_push _ _ _ (by omega) (by omega)]
  · simp only [List.map_cons, List.map_nil]
    rw [show k + (own.length - k) + 1 = own.length + 1 by omega]
    unfold imsg
    rw [gmsg_last]
theorem tailOf_drop (own : List GMsg) (k j : Nat) : (tailOf own k).drop j = tailOf own (k + j) := by
  apply List.ext_getElem?
  intro i
  rw [List.getElem?_drop]
  unfold tailOf
  simp only [List.getElem?_map]
  by_cases h : j + i < own.length - k
  · rw [List.getElem?_range h, List.getElem?_range (by omega)]
    simp only [Option.map_some]
    rw [show k + (j + i) + 1 = k + j + i + 1 by omega]
  · rw [List.getElem?_eq_none (by simp; omega), List.getElem?_eq_none (by simp; omega)]
    rfl
theorem formsOf_push (own oth : List GMsg) (k0 : Nat) (o : ROp) (s : Nat) (h : s ≤ own.length) : formsOf (own ++ [⟨k0, o⟩]) oth s k0 = formsOf own oth s k0 ++ [o] := by
  unfold formsOf
  rw [show (own ++ [(⟨k0, o⟩ : GMsg)]).length - s = (own.length - s) + 1 by simp; omega, List.range_succ, List.map_append]
  congr 1
  · apply range_map_congr
    intro j hj
    rw [form_push _ _ _ _ _ (by omega) (by omega)]
  · simp only [List.map_cons, List.map_nil]
    rw [show s + (own.length - s) + 1 = own.length + 1 by omega, form_base _ _ _ _ (by rw [gmsg_last]; exact Nat.le_refl _), gmsg_last]
theorem formsOf_push' (own oth : List GMsg) (m : GMsg) (s t : Nat) (h : t ≤ oth.length) : formsOf own (oth ++ [m]) s t = formsOf own oth s t := by
  unfold formsOf
  apply range_map_congr
  intro j hj
  rw [form_push' _ _ _ _ _ (by omega) h]
theorem formsOf_drop (own oth : List GMsg) (s j t : Nat) : (formsOf own oth s t).drop j = formsOf own oth (s + j) t := by
  apply List.ext_getElem?
  intro i
  rw [List.getElem?_drop]
  unfold formsOf
  simp only [List.getElem?_map]
  by_cases h : j + i < own.length - s
  · rw [List.getElem?_range h, List.getElem?_range (by omega)]
    simp only [Option.map_some]
    rw [show s + (j + i) + 1 = s + j + i + 1 by omega]
  · rw [List.getElem?_eq_none (by simp; omega), List.getElem?_eq_none (by simp; omega)]
    rfl

/-- Turning against several that are behind one another. -/
def turnAll (o : ROp) : List ROp → ROp × List ROp
  | [] => (o, [])
  | b :: r => ((turnAll (o.turn b) r).1, b.turn o :: (turnAll (o.turn b) r).2)
theorem turnAll_forms (us ds : List GMsg) (n : Nat) (hn : 1 ≤ n) : ∀ (cnt c : Nat), (gmsg us n).ctx ≤ c → (∀ j, j < cnt → (gmsg ds (c + j + 1)).ctx ≤ n - 1) →
    turnAll (form us ds n c) ((List.range cnt).map fun j => form ds us (c + j + 1) (n - 1)) = (form us ds n (c + cnt), (List.range cnt).map fun j => form ds us (c + j + 1) n)
  | 0, c, _, _ => by simp [turnAll]
  | cnt + 1, c, h1, h2 => by
    have e : ∀ f : Nat → ROp, (List.range (cnt + 1)).map f = f 0 :: (List.range cnt).map fun j => f (j + 1) := by
      intro f; rw [List.range_succ_eq_map, List.map_cons, List.map_map]; rfl
    have h0 := h2 0 (by omega)
    have e1 : (form us ds n c).turn (form ds us (c + 1) (n - 1)) = form us ds n (c + 1) := by
      rw [form_step us ds n (c + 1) hn (by omega), Nat.add_sub_cancel]
    have e2 : (form ds us (c + 1) (n - 1)).turn (form us ds n c) = form ds us (c + 1) n := by
      rw [form_step ds us (c + 1) n (by omega) (by rw [Nat.add_zero] at h0; omega), Nat.add_sub_cancel]
    have ih := turnAll_forms us ds n hn cnt (c + 1) (by omega) (fun j hj => by have := h2 (j + 1) (by omega); rwa [show c + (j + 1) + 1 = c + 1 + j + 1 by omega] at this)
    rw [e, e, turnAll]
    simp only [Nat.add_zero]
    rw [e1, e2]
    have r1 : (List.range cnt).map (fun j => form ds us (c + (j + 1) + 1) (n - 1)) = (List.range cnt).map fun j => form ds us (c + 1 + j + 1) (n - 1) := range_map_congr _ fun j _ => by rw [show c + (j + 1) + 1 = c + 1 + j + 1 by omega]
    have r2 : (List.range cnt).map (fun j => form ds us (c + (j + 1) + 1) n) = (List.range cnt).map fun j => form ds us (c + 1 + j + 1) n := range_map_congr _ fun j _ => by rw [show c + (j + 1) + 1 = c + 1 + j + 1 by omega]
    rw [r1, r2, ih, show c + 1 + cnt = c + (cnt + 1) by omega]

/-- What flies from an end. -/
inductive Dgm (own : List GMsg) (taken : Nat) : ByteArray → Prop
  | msg (n tk : Nat) (h1 : 1 ≤ n) (h2 : n ≤ own.length) (h3 : tk ≤ taken) : Dgm own taken (ckd ((imsg own n).bytes tk))
  | word (tk : Nat) (h3 : tk ≤ taken) : Dgm own taken (ckd [2, (tk : Int)])
/-- A spoilt one: its first byte turned over. -/
def spoil (d : ByteArray) : ByteArray := ⟨(d.data.toList.set 0 (255 - d.data.toList.headD 0)).toArray⟩
def Flies (own : List GMsg) (taken : Nat) (d : ByteArray) : Prop := Dgm own taken d ∨ ∃ d0, Dgm own taken d0 ∧ d = spoil d0

/-- An end, beside the rows of its line: its own, the other's. -/
structure Half (own oth : List GMsg) (E : IEnd) : Prop where
  kn : E.known ≤ own.length
  wait : E.waiting = tailOf own E.known
  tk : E.taken ≤ oth.length
  ctx : ∀ i, 1 ≤ i → i ≤ own.length → (gmsg own i).ctx ≤ E.taken
  seen : E.seen = if E.taken = 0 then 0 else (gmsg oth E.taken).ctx
  opn : E.opn = formsOf own oth E.seen E.taken
  kept : ∀ m ∈ E.kept, ∃ n, E.taken < n ∧ n ≤ oth.length ∧ m = imsg oth n
  kept1 : (E.kept.map IMsg.number).Nodup
  fly : E.flying.length ≤ 12
  flies : ∀ d ∈ E.flying, Flies own E.taken d
theorem Half.made {own oth : List GMsg} {E : IEnd} (h : Half own oth E) : E.made = own.length := by
  have := h.kn
  unfold IEnd.made
  rw [h.wait, tailOf_length]; omega
theorem Dgm.push {own : List GMsg} {taken : Nat} {d : ByteArray} (m : GMsg) (h : Dgm own taken d) : Dgm (own ++ [m]) taken d := by
  rcases h with ⟨n, tk, h1, h2, h3⟩ | ⟨tk, h3⟩
  · have : imsg (own ++ [m]) n = imsg own n := by unfold imsg; rw [gmsg_push _ _ _ h1 h2]
    rw [← this]
    exact .msg n tk h1 (by simp; omega) h3
  · exact .word tk h3
theorem Dgm.more {own : List GMsg} {taken taken' : Nat} {d : ByteArray} (h : Dgm own taken d) (hl : taken ≤ taken') : Dgm own taken' d := by
  rcases h with ⟨n, tk, h1, h2, h3⟩ | ⟨tk, h3⟩
  · exact .msg n tk h1 h2 (Nat.le_trans h3 hl)
  · exact .word tk (Nat.le_trans h3 hl)
theorem Flies.push {own : List GMsg} {taken : Nat} {d : ByteArray} (m : GMsg) (h : Flies own taken d) : Flies (own ++ [m]) taken d :=
  h.elim (fun h => .inl (h.push m)) fun ⟨d0, h1, h2⟩ => .inr ⟨d0, h1.push m, h2⟩
theorem Flies.more {own : List GMsg} {taken taken' : Nat} {d : ByteArray} (h : Flies own taken d) (hl : taken ≤ taken') : Flies own taken' d :=
  h.elim (fun h => .inl (h.more hl)) fun ⟨d0, h1, h2⟩ => .inr ⟨d0, h1.more hl, h2⟩

theorem IEnd.fly_flying (E : IEnd) (s : ByteArray) : ∀ d ∈ (E.fly s).flying, d ∈ E.flying ∨ d = s := by
  intro d hd
  unfold IEnd.fly at hd
  split at hd
  · simpa using hd
  · exact .inl hd
/-- Sending something that may fly. -/
theorem Half.flew {own oth : List GMsg} {E : IEnd} (h : Half own oth E) (s : ByteArray) (hs : Dgm own E.taken s) : Half own oth (E.fly s) := by
  obtain ⟨a1, a2, a3, a4, a5, a6⟩ := E.fly_fields s
  refine ⟨by rw [a1]; exact h.kn, by rw [a1, a2]; exact h.wait, by rw [a3]; exact h.tk, by rw [a3]; exact h.ctx, by rw [a4, a3]; exact h.seen, by rw [a5, a4, a3]; exact h.opn, by rw [a6, a3]; exact h.kept, by rw [a6]; exact h.kept1, ?_, fun d hd => ?_⟩
  · unfold IEnd.fly; split
    · simp; omega
    · exact h.fly
  · rw [a3]
    rcases E.fly_flying s d hd with g | rfl
    · exact h.flies d g
    · exact .inl hs
theorem Half.sent {own oth : List GMsg} (ms : List IMsg) : ∀ {E : IEnd}, Half own oth E → (∀ m ∈ ms, ∃ n, 1 ≤ n ∧ n ≤ own.length ∧ m = imsg own n) → Half own oth (E.sends ms) := by
  induction ms with
  | nil => intro E h _; exact h
  | cons m ms ih =>
    intro E h hm
    obtain ⟨n, h1, h2, rfl⟩ := hm m (by simp)
    exact ih (h.flew _ (.msg n E.taken h1 h2 (Nat.le_refl _))) fun m hm' => hm m (by simp [hm'])
/-- A message more. -/
theorem Half.make {own oth : List GMsg} {E : IEnd} (h : Half own oth E) (o : ROp) (window : Nat) (hs : E.seen ≤ own.length) : Half (own ++ [⟨E.taken, o⟩]) oth (E.make o window) := by
  have hg : Half (own ++ [⟨E.taken, o⟩]) oth (E.grow o) := by
    refine ⟨by simp [IEnd.grow]; have := h.kn; omega, ?_, h.tk, ?_, h.seen, ?_, h.kept, h.kept1, h.fly, fun d hd => (h.flies d hd).push _⟩
    · show E.waiting ++ [E.next o] = tailOf (own ++ [⟨E.taken, o⟩]) E.known
      rw [tailOf_push _ _ _ h.kn, h.wait]
      unfold IEnd.next
      rw [h.made]
    · intro i h1 h2
      simp only [List.length_append, List.length_cons, List.length_nil] at h2
      show _ ≤ E.taken
      by_cases hi : i ≤ own.length
      · rw [gmsg_push _ _ _ h1 hi]; exact h.ctx i h1 hi
      · obtain rfl : i = own.length + 1 := by omega
        rw [gmsg_last]; exact Nat.le_refl _
    · show E.opn ++ [o] = formsOf (own ++ [⟨E.taken, o⟩]) oth E.seen E.taken
      rw [formsOf_push _ _ _ _ _ hs, h.opn]
  unfold IEnd.make
  split
  · refine Half.sent [E.next o] hg ?_
    intro m hm
    obtain rfl : m = E.next o := by simpa using hm
    refine ⟨own.length + 1, by omega, by simp, ?_⟩
    unfold imsg IEnd.next
    rw [gmsg_last, h.made]
  · exact hg
/-- The other end made one more. -/
theorem Half.other {own oth : List GMsg} {E : IEnd} (h : Half own oth E) (m : GMsg) : Half own (oth ++ [m]) E := by
  refine ⟨h.kn, h.wait, by simp; have := h.tk; omega, h.ctx, ?_, ?_, ?_, h.kept1, h.fly, h.flies⟩
  · rw [h.seen]
    split
    · rfl
    · rw [gmsg_push _ _ _ (by omega) h.tk]
  · rw [formsOf_push' _ _ _ _ _ h.tk]; exact h.opn
  · intro x hx
    obtain ⟨n, h1, h2, rfl⟩ := h.kept x hx
    exact ⟨n, h1, by simp; omega, by unfold imsg; rw [gmsg_push _ _ _ (by omega) h2]⟩
end Go.Proofs.Ytemkgikncmhoaaa

/-
  A line's end as plain data: learning, keeping, ticking, taking; the two ends of a line together. Plain mathematics. Own work.
-/
namespace Go.Proofs.Ytemkgikncmhoaaa
open Go.RowKit

def IEnd.tick (E : IEnd) (window : Nat) : IEnd :=
  if 0 < E.waiting.length then E.sends (E.waiting.take window) else if 0 < E.taken then E.fly (ckd [2, (E.taken : Int)]) else E
def IEnd.moved (E : IEnd) (n : Nat) : IEnd := { E with waiting := E.waiting.drop (n - E.known), known := n }
def IEnd.fresh (E : IEnd) (window n : Nat) : List IMsg := (((E.moved n).waiting.take window).filter fun m => decide (E.known + min window E.waiting.length < m.number))
def IEnd.learn (E : IEnd) (window n : Nat) : IEnd :=
  if n ≤ E.known ∨ E.made < n then E else (E.moved n).sends (E.fresh window n)
def IEnd.keep (E : IEnd) (window : Nat) (m : IMsg) : IEnd :=
  if m.number < E.taken + 1 ∨ E.taken + 1 + window ≤ m.number ∨ m.number ∈ E.kept.map IMsg.number then E else { E with kept := E.kept ++ [m] }
def IEnd.drop (E : IEnd) (n : Nat) : IEnd := { E with kept := E.kept.filter fun m => decide (m.number ≠ n) }
def IEnd.taking (E : IEnd) (m : IMsg) : ROp × List ROp := turnAll m.op (E.opn.drop (m.ctx - E.seen))
def IEnd.take (E : IEnd) (m : IMsg) : IEnd := { E with opn := (E.taking m).2, seen := m.ctx, taken := m.number }

theorem imsg_mem_tail {own : List GMsg} {k : Nat} {m : IMsg} (h : m ∈ tailOf own k) : ∃ n, k < n ∧ n ≤ own.length ∧ m = imsg own n := by
  simp only [tailOf, List.mem_map, List.mem_range] at h
  obtain ⟨j, hj, rfl⟩ := h
  exact ⟨k + j + 1, by omega, by omega, rfl⟩
section
variable {own oth : List GMsg} {E : IEnd} {window : Nat}
theorem Half.ticked (h : Half own oth E) : Half own oth (E.tick window) := by
  unfold IEnd.tick
  split
  · refine h.sent _ fun m hm => ?_
    have hm' := List.mem_of_mem_take hm
    rw [h.wait] at hm'
    obtain ⟨n, h1, h2, rfl⟩ := imsg_mem_tail hm'
    exact ⟨n, by omega, h2, rfl⟩
  · split
    · exact h.flew _ (.word _ (Nat.le_refl _))
    · exact h
theorem Half.moved (h : Half own oth E) {n : Nat} (h1 : E.known < n) (h2 : n ≤ own.length) : Half own oth (E.moved n) := by
  refine ⟨h2, ?_, h.tk, h.ctx, h.seen, h.opn, h.kept, h.kept1, h.fly, h.flies⟩
  show E.waiting.drop (n - E.known) = tailOf own n
  rw [h.wait, tailOf_drop, show E.known + (n - E.known) = n by omega]
theorem Half.learnt (h : Half own oth E) (n : Nat) : Half own oth (E.learn window n) := by
  unfold IEnd.learn
  split
  · exact h
  · rename_i hn
    rw [h.made] at hn
    have hm := h.moved (n := n) (by omega) (by omega)
    refine hm.sent _ fun m hm' => ?_
    have h1 := List.mem_of_mem_take (List.mem_filter.1 hm').1
    rw [hm.wait] at h1
    obtain ⟨q, h2, h3, rfl⟩ := imsg_mem_tail h1
    exact ⟨q, by omega, h3, rfl⟩
theorem Half.learn_fields (E : IEnd) (window n : Nat) : (E.learn window n).taken = E.taken ∧ (E.learn window n).seen = E.seen ∧ (E.learn window n).opn = E.opn ∧ (E.learn window n).kept = E.kept ∧ (E.learn window n).known = (if n ≤ E.known ∨ E.made < n then E.known else n) := by
  unfold IEnd.learn
  split
  · exact ⟨rfl, rfl, rfl, rfl, rfl⟩
  · obtain ⟨a1, a2, a3, a4, a5, a6⟩ := IEnd.sends_fields (E.fresh window n) (E.moved n)
    exact ⟨a3, a4, a5, a6, a1⟩
theorem Half.keeps (h : Half own oth E) {n : Nat} (h1 : 1 ≤ n) (h2 : n ≤ oth.length) : Half own oth (E.keep window (imsg oth n)) := by
  unfold IEnd.keep
  split
  · exact h
  · rename_i hk
    simp only [not_or] at hk
    obtain ⟨k1, k2, k3⟩ := hk
    refine ⟨h.kn, h.wait, h.tk, h.ctx, h.seen, h.opn, ?_, ?_, h.fly, h.flies⟩
    · intro m hm
      simp only [List.mem_append, List.mem_singleton] at hm
      rcases hm with hm | rfl
      · exact h.kept m hm
      · exact ⟨n, by show E.taken < n; simp only [imsg] at k1; omega, h2, rfl⟩
    · show ((E.kept ++ [imsg oth n]).map IMsg.number).Nodup
      rw [List.map_append, List.nodup_append]
      refine ⟨h.kept1, by simp, ?_⟩
      intro a ha b hb
      obtain rfl : b = (imsg oth n).number := by simpa using hb
      rintro rfl
      exact k3 ha
/-- The next one is taken. -/
theorem Half.took (h : Half own oth E) (hh : Hist own oth) {n : Nat} (hn : n = E.taken + 1) (h2 : n ≤ oth.length) :
    E.taking (imsg oth n) = (form oth own n own.length, formsOf own oth (gmsg oth n).ctx n) ∧ Half own oth ((E.drop n).take (imsg oth n)) ∧ E.seen ≤ (gmsg oth n).ctx ∧ (gmsg oth n).ctx - E.seen ≤ E.opn.length := by
  have hc : (gmsg oth n).ctx ≤ own.length := hh.bd n (by omega) h2
  have hs : E.seen ≤ (gmsg oth n).ctx := by
    rw [h.seen]
    split
    · omega
    · exact hh.md E.taken n (by omega) (by omega) h2
  have hd : E.opn.drop ((gmsg oth n).ctx - E.seen) = formsOf own oth (gmsg oth n).ctx E.taken := by
    rw [h.opn, formsOf_drop, show E.seen + ((gmsg oth n).ctx - E.seen) = (gmsg oth n).ctx by omega]
  have ht : turnAll (form oth own n (gmsg oth n).ctx) (formsOf own oth (gmsg oth n).ctx E.taken) = (form oth own n own.length, formsOf own oth (gmsg oth n).ctx n) := by
    have := turnAll_forms oth own n (by omega) (own.length - (gmsg oth n).ctx) (gmsg oth n).ctx (Nat.le_refl _) (fun j hj => by
      have := h.ctx ((gmsg oth n).ctx + j + 1) (by omega) (by omega)
      omega)
    rw [show n - 1 = E.taken by omega, show (gmsg oth n).ctx + (own.length - (gmsg oth n).ctx) = own.length by omega] at this
    exact this
  have hb : form oth own n (gmsg oth n).ctx = (gmsg oth n).op := form_base _ _ _ _ (Nat.le_refl _)
  have htk : E.taking (imsg oth n) = (form oth own n own.length, formsOf own oth (gmsg oth n).ctx n) := by
    unfold IEnd.taking
    show turnAll (gmsg oth n).op (E.opn.drop ((gmsg oth n).ctx - E.seen)) = _
    rw [hd, ← hb]; exact ht
  refine ⟨htk, ?_, hs, by rw [h.opn, formsOf_length]; omega⟩
  refine ⟨h.kn, h.wait, h2, fun i h1 h3 => ?_, ?_, ?_, ?_, ?_, h.fly, fun d hd => (h.flies d hd).more (show E.taken ≤ n by omega)⟩
  · show _ ≤ n
    have := h.ctx i h1 h3; omega
  · show (gmsg oth n).ctx = if n = 0 then 0 else (gmsg oth n).ctx
    rw [if_neg (by omega)]
  · show ((E.drop n).taking (imsg oth n)).2 = formsOf own oth (gmsg oth n).ctx n
    have : (E.drop n).taking (imsg oth n) = E.taking (imsg oth n) := rfl
    rw [this, htk]
  · intro m hm
    have hm2 : m ∈ E.kept ∧ m.number ≠ n := by simpa [IEnd.take, IEnd.drop] using hm
    obtain ⟨q, q1, q2, rfl⟩ := h.kept m hm2.1
    refine ⟨q, ?_, q2, rfl⟩
    show n < q
    have : q ≠ n := hm2.2
    omega
  · show (((E.kept.filter _).map IMsg.number)).Nodup
    exact List.Sublist.nodup (List.Sublist.map _ List.filter_sublist) h.kept1
end

/-- The two ends of client c's line, and their texts. -/
structure Line (c : Nat) (us ds : List GMsg) (T : Nat → Nat → List UInt8) (E S : IEnd) (t s : List UInt8) : Prop where
  a : Half us ds E
  b : Half ds us S
  g : Grid us ds T
  ka : E.known ≤ S.taken
  kb : S.known ≤ E.taken
  ta : t = T us.length E.taken
  tb : s = T S.taken ds.length
  cu : ∀ i, 1 ≤ i → i ≤ us.length → (gmsg us i).op.client = c
  cd : ∀ i, 1 ≤ i → i ≤ ds.length → (gmsg ds i).op.client ≠ c
section
variable {c : Nat} {us ds : List GMsg} {T : Nat → Nat → List UInt8} {E S : IEnd} {t s : List UInt8}
theorem Line.pa (h : Line c us ds T E S t s) : Pt us ds us.length E.taken := ⟨Nat.le_refl _, h.a.tk, fun h1 => h.a.ctx _ h1 (Nat.le_refl _), fun h1 => h.g.hist.bd _ h1 h.a.tk⟩
theorem Line.pb (h : Line c us ds T E S t s) : Pt us ds S.taken ds.length := ⟨h.b.tk, Nat.le_refl _, fun h1 => h.g.hist.bu _ h1 h.b.tk, fun h1 => h.b.ctx _ h1 (Nat.le_refl _)⟩
theorem Line.seena (h : Line c us ds T E S t s) : E.seen ≤ us.length := by
  rw [h.a.seen]; split
  · omega
  · exact h.g.hist.bd _ (by omega) h.a.tk
theorem Line.seenb (h : Line c us ds T E S t s) : S.seen ≤ ds.length := by
  rw [h.b.seen]; split
  · omega
  · exact h.g.hist.bu _ (by omega) h.b.tk
/-- The client makes one. -/
theorem Line.putA (h : Line c us ds T E S t s) (o : ROp) (window : Nat) (ho : o.client = c) (hf : o.fits t.length) : ∃ T', Line c (us ++ [⟨E.taken, o⟩]) ds T' (E.make o window) S (o.does t) s := by
  obtain ⟨T', g1, g2, g3⟩ := h.g.push E.taken o h.a.tk h.a.ctx (fun k h1 h2 => by rw [ho]; exact fun e => h.cd k h1 h2 e.symm) (by rw [← h.ta]; exact hf)
  obtain ⟨_, f1⟩ : True ∧ (E.make o window).taken = E.taken := ⟨trivial, by unfold IEnd.make; split; exact (IEnd.sends_fields _ _).2.2.1; rfl⟩
  have f2 : (E.make o window).known = E.known := by unfold IEnd.make; split; exact (IEnd.sends_fields _ _).1; rfl
  refine ⟨T', h.a.make o window h.seena, h.b.other _, g1, by rw [f2]; exact h.ka, by rw [f1]; exact h.kb, ?_, ?_, ?_, h.cd⟩
  · rw [f1, List.length_append, List.length_cons, List.length_nil, g3, ← h.ta]
  · rw [g2 _ _ h.b.tk]; exact h.tb
  · intro i h1 h2
    simp only [List.length_append, List.length_cons, List.length_nil] at h2
    by_cases hi : i ≤ us.length
    · rw [gmsg_push _ _ _ h1 hi]; exact h.cu i h1 hi
    · obtain rfl : i = us.length + 1 := by omega
      rw [gmsg_last]; exact ho
/-- The server makes one. -/
theorem Line.putB (h : Line c us ds T E S t s) (o : ROp) (window : Nat) (ho : o.client ≠ c) (hf : o.fits s.length) : ∃ T', Line c us (ds ++ [⟨S.taken, o⟩]) T' E (S.make o window) t (o.does s) := by
  obtain ⟨T', g1, g2, g3⟩ := h.g.swap.push S.taken o h.b.tk h.b.ctx (fun k h1 h2 => by rw [h.cu k h1 h2]; exact ho) (by rw [← h.tb]; exact hf)
  have f1 : (S.make o window).taken = S.taken := by unfold IEnd.make; split; exact (IEnd.sends_fields _ _).2.2.1; rfl
  have f2 : (S.make o window).known = S.known := by unfold IEnd.make; split; exact (IEnd.sends_fields _ _).1; rfl
  refine ⟨fun i k => T' k i, h.a.other _, h.b.make o window h.seenb, g1.swap, by rw [f1]; exact h.ka, by rw [f2]; exact h.kb, ?_, ?_, h.cu, ?_⟩
  · show t = T' E.taken us.length
    rw [g2 _ _ h.a.tk]; exact h.ta
  · show o.does s = T' (ds ++ [(⟨S.taken, o⟩ : GMsg)]).length (S.make o window).taken
    rw [f1, List.length_append, List.length_cons, List.length_nil, g3, ← h.tb]
  · intro i h1 h2
    simp only [List.length_append, List.length_cons, List.length_nil] at h2
    by_cases hi : i ≤ ds.length
    · rw [gmsg_push _ _ _ h1 hi]; exact h.cd i h1 hi
    · obtain rfl : i = ds.length + 1 := by omega
      rw [gmsg_last]; exact ho
/-- The client takes the next one. -/
theorem Line.takeA (h : Line c us ds T E S t s) {n : Nat} (hn : n = E.taken + 1) (h2 : n ≤ ds.length) : ((E.taking (imsg ds n)).1.fits t.length ∧ Line c us ds T ((E.drop n).take (imsg ds n)) S ((E.taking (imsg ds n)).1.does t) s) ∧ (E.taking (imsg ds n)).1.client = (gmsg ds n).op.client := by
  obtain ⟨e, hE, _⟩ := h.a.took h.g.hist hn h2
  rw [e]
  obtain ⟨d1, d2⟩ := h.g.d us.length n (by omega) ⟨Nat.le_refl _, h2, fun h1 => by have := h.a.ctx _ h1 (Nat.le_refl _); omega, fun h1 => h.g.hist.bd _ h1 h2⟩ (by rw [show n - 1 = E.taken by omega]; exact h.pa)
  rw [show n - 1 = E.taken by omega, ← h.ta] at d1 d2
  refine ⟨⟨d1, hE, h.b, h.g, h.ka, ?_, d2.symm, h.tb, h.cu, h.cd⟩, form_client _ _ _ (by omega) _⟩
  show S.known ≤ n
  have := h.kb; omega
/-- The server takes the next one. -/
theorem Line.takeB (h : Line c us ds T E S t s) {n : Nat} (hn : n = S.taken + 1) (h2 : n ≤ us.length) : ((S.taking (imsg us n)).1.fits s.length ∧ Line c us ds T E ((S.drop n).take (imsg us n)) t ((S.taking (imsg us n)).1.does s)) ∧ (S.taking (imsg us n)).1.client = c := by
  obtain ⟨e, hE, _⟩ := h.b.took h.g.hist.swap hn h2
  rw [e]
  obtain ⟨d1, d2⟩ := h.g.u n ds.length (by omega) ⟨h2, Nat.le_refl _, fun h1 => h.g.hist.bu _ h1 h2, fun h1 => by have := h.b.ctx _ h1 (Nat.le_refl _); omega⟩ (by rw [show n - 1 = S.taken by omega]; exact h.pb)
  rw [show n - 1 = S.taken by omega, ← h.tb] at d1 d2
  refine ⟨⟨d1, h.a, hE, h.g, ?_, h.kb, h.ta, d2.symm, h.cu, h.cd⟩, by rw [form_client _ _ _ (by omega)]; exact h.cu n (by omega) h2⟩
  show E.known ≤ n
  have := h.ka; omega
/-- An end turned that has taken and known as before. -/
theorem Line.setA (h : Line c us ds T E S t s) {E' : IEnd} (hE : Half us ds E') (h1 : E'.taken = E.taken) (h2 : E'.known ≤ S.taken) : Line c us ds T E' S t s := ⟨hE, h.b, h.g, h2, by rw [h1]; exact h.kb, by rw [h1]; exact h.ta, h.tb, h.cu, h.cd⟩
theorem Line.setB (h : Line c us ds T E S t s) {S' : IEnd} (hS : Half ds us S') (h1 : S'.taken = S.taken) (h2 : S'.known ≤ E.taken) : Line c us ds T E S' t s := ⟨h.a, hS, h.g, by rw [h1]; exact h.ka, h2, h.ta, by rw [h1]; exact h.tb, h.cu, h.cd⟩
theorem Line.empty (c : Nat) : Line c [] [] (fun _ _ => []) ⟨0, [], 0, 0, [], [], []⟩ ⟨0, [], 0, 0, [], [], []⟩ [] [] := by
  have hh : Half [] [] ⟨0, [], 0, 0, [], [], []⟩ := ⟨by simp, by simp [tailOf], by simp, fun i h1 h2 => by simp at h2; omega, by simp, by simp [formsOf], by simp, by simp, by simp, by simp⟩
  exact ⟨hh, hh, Grid.empty, by simp, by simp, rfl, rfl, fun i h1 h2 => by simp at h2; omega, fun i h1 h2 => by simp at h2; omega⟩
end
end Go.Proofs.Ytemkgikncmhoaaa

