import Derived.Test.YtemkgikncmhoaaaM09
import Derived.Test.YtemkgikncmhoaaaM11
namespace Go.Proofs.Ytemkgikncmhoaaa
open Go.RowKit

def imsg (own : List GMsg) (n : Nat) : IMsg := ⟨n, (gmsg own n).ctx, (gmsg own n).op⟩
/-- The messages above k. -/
def tailOf (own : List GMsg) (k : Nat) : List IMsg := (List.range (own.length - k)).map fun j => imsg own (k + j + 1)
/-- The forms of the messages above s, behind t of the other row's. -/
def formsOf (own oth : List GMsg) (s t : Nat) : List ROp := (List.range (own.length - s)).map fun j => form own oth (s + j + 1) t

theorem tailOf_length (own : List GMsg) (k : Nat) : (tailOf own k).length = own.length - k := by simp [tailOf]
theorem formsOf_length (own oth : List GMsg) (s t : Nat) : (formsOf own oth s t).length = own.length - s := by simp [formsOf]
theorem range_map_congr {α : Type} {f g : Nat → α} (n : Nat) (h : ∀ j, j < n → f j = g j) : (List.range n).map f = (List.range n).map g := by
 apply List.map_congr_left
 intro j hj
 exact h j (List.mem_range.1 hj)
theorem tailOf_push (own : List GMsg) (m : GMsg) (k : Nat) (h : k ≤ own.length) : tailOf (own ++ [m]) k = tailOf own k ++ [⟨own.length + 1, m.ctx, m.op⟩] := by
 unfold tailOf
 rw [show (own ++ [m]).length - k = (own.length - k) + 1 by simp; omega, List.range_succ, List.map_append]
 congr 1
 ·apply range_map_congr
  intro j hj
  unfold imsg
  rw [gmsg_push _ _ _ (by omega) (by omega)]
 ·simp only [List.map_cons, List.map_nil]
  rw [show k + (own.length - k) + 1 = own.length + 1 by omega]
  unfold imsg
  rw [gmsg_last]
theorem tailOf_drop (own : List GMsg) (k j : Nat) : (tailOf own k).drop j = tailOf own (k + j) := by
 apply List.ext_getElem?
 intro i
 rw [List.getElem?_drop]
 unfold tailOf
 simp only [List.getElem?_map]
 by_cases h : j + i < own.length - k
 ·rw [List.getElem?_range h, List.getElem?_range (by omega)]
  simp only [Option.map_some]
  rw [show k + (j + i) + 1 = k + j + i + 1 by omega]
 ·rw [List.getElem?_eq_none (by simp; omega), List.getElem?_eq_none (by simp; omega)]
  rfl
theorem formsOf_push (own oth : List GMsg) (k0 : Nat) (o : ROp) (s : Nat) (h : s ≤ own.length) : formsOf (own ++ [⟨k0, o⟩]) oth s k0 = formsOf own oth s k0 ++ [o] := by
 unfold formsOf
 rw [show (own ++ [(⟨k0, o⟩ : GMsg)]).length - s = (own.length - s) + 1 by simp; omega, List.range_succ, List.map_append]
 congr 1
 ·apply range_map_congr
  intro j hj
  rw [form_push _ _ _ _ _ (by omega) (by omega)]
 ·simp only [List.map_cons, List.map_nil]
  rw [show s + (own.length - s) + 1 = own.length + 1 by omega, form_base _ _ _ _ (by rw [gmsg_last]; exact Nat.le_refl _), gmsg_last]
theorem formsOf_push' (own oth : List GMsg) (m : GMsg) (s t : Nat) (h : t ≤ oth.length) : formsOf own (oth ++ [m]) s t = formsOf own oth s t := by
 unfold formsOf
 apply range_map_congr
 intro j hj
 rw [form_push' _ _ _ _ _ (by omega) h]
theorem formsOf_drop (own oth : List GMsg) (s j t : Nat) : (formsOf own oth s t).drop j = formsOf own oth (s + j) t := by
 apply List.ext_getElem?
 intro i
 rw [List.getElem?_drop]
 unfold formsOf
 simp only [List.getElem?_map]
 by_cases h : j + i < own.length - s
 ·rw [List.getElem?_range h, List.getElem?_range (by omega)]
  simp only [Option.map_some]
  rw [show s + (j + i) + 1 = s + j + i + 1 by omega]
 ·rw [List.getElem?_eq_none (by simp; omega), List.getElem?_eq_none (by simp; omega)]
  rfl

/-- Turning against several that are behind one another. -/
def turnAll (o : ROp) : List ROp → ROp × List ROp
 | [] => (o, [])
 | b :: r => ((turnAll (o.turn b) r).1, b.turn o :: (turnAll (o.turn b) r).2)
theorem turnAll_forms (us ds : List GMsg) (n : Nat) (hn : 1 ≤ n) : ∀ (cnt c : Nat), (gmsg us n).ctx ≤ c → (∀ j, j < cnt → (gmsg ds (c + j + 1)).ctx ≤ n - 1) →
  turnAll (form us ds n c) ((List.range cnt).map fun j => form ds us (c + j + 1) (n - 1)) = (form us ds n (c + cnt), (List.range cnt).map fun j => form ds us (c + j + 1) n)
 | 0, c, _, _ => by simp [turnAll]
 | cnt + 1, c, h1, h2 => by
  have e : ∀ f : Nat → ROp, (List.range (cnt + 1)).map f = f 0 :: (List.range cnt).map fun j => f (j + 1) := by
   intro f; rw [List.range_succ_eq_map, List.map_cons, List.map_map]; rfl
  have h0 := h2 0 (by omega)
  have e1 : (form us ds n c).turn (form ds us (c + 1) (n - 1)) = form us ds n (c + 1) := by
   rw [form_step us ds n (c + 1) hn (by omega), Nat.add_sub_cancel]
  have e2 : (form ds us (c + 1) (n - 1)).turn (form us ds n c) = form ds us (c + 1) n := by
   rw [form_step ds us (c + 1) n (by omega) (by rw [Nat.add_zero] at h0; omega), Nat.add_sub_cancel]
  have ih := turnAll_forms us ds n hn cnt (c + 1) (by omega) (fun j hj => by have := h2 (j + 1) (by omega); rwa [show c + (j + 1) + 1 = c + 1 + j + 1 by omega] at this)
  rw [e, e, turnAll]
  simp only [Nat.add_zero]
  rw [e1, e2]
  have r1 : (List.range cnt).map (fun j => form ds us (c + (j + 1) + 1) (n - 1)) = (List.range cnt).map fun j => form ds us (c + 1 + j + 1) (n - 1) := range_map_congr _ fun j _ => by rw [show c + (j + 1) + 1 = c + 1 + j + 1 by omega]
  have r2 : (List.range cnt).map (fun j => form ds us (c + (j + 1) + 1) n) = (List.range cnt).map fun j => form ds us (c + 1 + j + 1) n := range_map_congr _ fun j _ => by rw [show c + (j + 1) + 1 = c + 1 + j + 1 by omega]
  rw [r1, r2, ih, show c + 1 + cnt = c + (cnt + 1) by omega]

/-- What flies from an end. -/
inductive Dgm (own : List GMsg) (taken : Nat) : ByteArray → Prop
 | msg (n tk : Nat) (h1 : 1 ≤ n) (h2 : n ≤ own.length) (h3 : tk ≤ taken) : Dgm own taken (ckd ((imsg own n).bytes tk))
 | word (tk : Nat) (h3 : tk ≤ taken) : Dgm own taken (ckd [2, (tk : Int)])
/-- A spoilt one: its first byte turned over. -/
def spoil (d : ByteArray) : ByteArray := ⟨(d.data.toList.set 0 (255 - d.data.toList.headD 0)).toArray⟩
def Flies (own : List GMsg) (taken : Nat) (d : ByteArray) : Prop := Dgm own taken d ∨ ∃ d0, Dgm own taken d0 ∧ d = spoil d0

/-- An end, beside the rows of its line: its own, the other's. -/
structure Half (own oth : List GMsg) (E : IEnd) : Prop where
 kn : E.known ≤ own.length
 wait : E.waiting = tailOf own E.known
 tk : E.taken ≤ oth.length
 ctx : ∀ i, 1 ≤ i → i ≤ own.length → (gmsg own i).ctx ≤ E.taken
 seen : E.seen = if E.taken = 0 then 0 else (gmsg oth E.taken).ctx
 opn : E.opn = formsOf own oth E.seen E.taken
 kept : ∀ m ∈ E.kept, ∃ n, E.taken < n ∧ n ≤ oth.length ∧ m = imsg oth n
 kept1 : (E.kept.map IMsg.number).Nodup
 fly : E.flying.length ≤ 12
 flies : ∀ d ∈ E.flying, Flies own E.taken d
theorem Half.made {own oth : List GMsg} {E : IEnd} (h : Half own oth E) : E.made = own.length := by
 have := h.kn
 unfold IEnd.made
 rw [h.wait, tailOf_length]; omega
theorem Dgm.push {own : List GMsg} {taken : Nat} {d : ByteArray} (m : GMsg) (h : Dgm own taken d) : Dgm (own ++ [m]) taken d := by
 rcases h with ⟨n, tk, h1, h2, h3⟩ | ⟨tk, h3⟩
 ·have : imsg (own ++ [m]) n = imsg own n := by unfold imsg; rw [gmsg_push _ _ _ h1 h2]
  rw [← this]
  exact .msg n tk h1 (by simp; omega) h3
 ·exact .word tk h3
theorem Dgm.more {own : List GMsg} {taken taken' : Nat} {d : ByteArray} (h : Dgm own taken d) (hl : taken ≤ taken') : Dgm own taken' d := by
 rcases h with ⟨n, tk, h1, h2, h3⟩ | ⟨tk, h3⟩
 ·exact .msg n tk h1 h2 (Nat.le_trans h3 hl)
 ·exact .word tk (Nat.le_trans h3 hl)
theorem Flies.push {own : List GMsg} {taken : Nat} {d : ByteArray} (m : GMsg) (h : Flies own taken d) : Flies (own ++ [m]) taken d :=
 h.elim (fun h => .inl (h.push m)) fun ⟨d0, h1, h2⟩ => .inr ⟨d0, h1.push m, h2⟩
theorem Flies.more {own : List GMsg} {taken taken' : Nat} {d : ByteArray} (h : Flies own taken d) (hl : taken ≤ taken') : Flies own taken' d :=
 h.elim (fun h => .inl (h.more hl)) fun ⟨d0, h1, h2⟩ => .inr ⟨d0, h1.more hl, h2⟩

theorem IEnd.fly_flying (E : IEnd) (s : ByteArray) : ∀ d ∈ (E.fly s).flying, d ∈ E.flying ∨ d = s := by
 intro d hd
 unfold IEnd.fly at hd
 split at hd
 ·simpa using hd
 ·exact .inl hd
/-- Sending something that may fly. -/
theorem Half.flew {own oth : List GMsg} {E : IEnd} (h : Half own oth E) (s : ByteArray) (hs : Dgm own E.taken s) : Half own oth (E.fly s) := by
 obtain ⟨a1, a2, a3, a4, a5, a6⟩ := E.fly_fields s
 refine ⟨by rw [a1]; exact h.kn, by rw [a1, a2]; exact h.wait, by rw [a3]; exact h.tk, by rw [a3]; exact h.ctx, by rw [a4, a3]; exact h.seen, by rw [a5, a4, a3]; exact h.opn, by rw [a6, a3]; exact h.kept, by rw [a6]; exact h.kept1, ?_, fun d hd => ?_⟩
 ·unfold IEnd.fly; split
  ·simp; omega
  ·exact h.fly
 ·rw [a3]
  rcases E.fly_flying s d hd with g | rfl
  ·exact h.flies d g
  ·exact .inl hs
theorem Half.sent {own oth : List GMsg} (ms : List IMsg) : ∀ {E : IEnd}, Half own oth E → (∀ m ∈ ms, ∃ n, 1 ≤ n ∧ n ≤ own.length ∧ m = imsg own n) → Half own oth (E.sends ms) := by
 induction ms with
 | nil => intro E h _; exact h
 | cons m ms ih =>
  intro E h hm
  obtain ⟨n, h1, h2, rfl⟩ := hm m (by simp)
  exact ih (h.flew _ (.msg n E.taken h1 h2 (Nat.le_refl _))) fun m hm' => hm m (by simp [hm'])
/-- A message more. -/
theorem Half.make {own oth : List GMsg} {E : IEnd} (h : Half own oth E) (o : ROp) (window : Nat) (hs : E.seen ≤ own.length) : Half (own ++ [⟨E.taken, o⟩]) oth (E.make o window) := by
 have hg : Half (own ++ [⟨E.taken, o⟩]) oth (E.grow o) := by
  refine ⟨by simp [IEnd.grow]; have := h.kn; omega, ?_, h.tk, ?_, h.seen, ?_, h.kept, h.kept1, h.fly, fun d hd => (h.flies d hd).push _⟩
  ·show E.waiting ++ [E.next o] = tailOf (own ++ [⟨E.taken, o⟩]) E.known
   rw [tailOf_push _ _ _ h.kn, h.wait]
   unfold IEnd.next
   rw [h.made]
  ·intro i h1 h2
   simp only [List.length_append, List.length_cons, List.length_nil] at h2
   show _ ≤ E.taken
   by_cases hi : i ≤ own.length
   ·rw [gmsg_push _ _ _ h1 hi]; exact h.ctx i h1 hi
   ·obtain rfl : i = own.length + 1 := by omega
    rw [gmsg_last]; exact Nat.le_refl _
  ·show E.opn ++ [o] = formsOf (own ++ [⟨E.taken, o⟩]) oth E.seen E.taken
   rw [formsOf_push _ _ _ _ _ hs, h.opn]
 unfold IEnd.make
 split
 ·refine Half.sent [E.next o] hg ?_
  intro m hm
  obtain rfl : m = E.next o := by simpa using hm
  refine ⟨own.length + 1, by omega, by simp, ?_⟩
  unfold imsg IEnd.next
  rw [gmsg_last, h.made]
 ·exact hg
/-- The other end made one more. -/
theorem Half.other {own oth : List GMsg} {E : IEnd} (h : Half own oth E) (m : GMsg) : Half own (oth ++ [m]) E := by
 refine ⟨h.kn, h.wait, by simp; have := h.tk; omega, h.ctx, ?_, ?_, ?_, h.kept1, h.fly, h.flies⟩
 ·rw [h.seen]
  split
  ·rfl
  ·rw [gmsg_push _ _ _ (by omega) h.tk]
 ·rw [formsOf_push' _ _ _ _ _ h.tk]; exact h.opn
 ·intro x hx
  obtain ⟨n, h1, h2, rfl⟩ := h.kept x hx
  exact ⟨n, h1, by simp; omega, by unfold imsg; rw [gmsg_push _ _ _ (by omega) h2]⟩
end Go.Proofs.Ytemkgikncmhoaaa

namespace Go.Proofs.Ytemkgikncmhoaaa
open Go.RowKit

def IEnd.tick (E : IEnd) (window : Nat) : IEnd :=
 if 0 < E.waiting.length then E.sends (E.waiting.take window) else if 0 < E.taken then E.fly (ckd [2, (E.taken : Int)]) else E
def IEnd.moved (E : IEnd) (n : Nat) : IEnd := { E with waiting := E.waiting.drop (n - E.known), known := n }
def IEnd.fresh (E : IEnd) (window n : Nat) : List IMsg := (((E.moved n).waiting.take window).filter fun m => decide (E.known + min window E.waiting.length < m.number))
def IEnd.learn (E : IEnd) (window n : Nat) : IEnd :=
 if n ≤ E.known ∨ E.made < n then E else (E.moved n).sends (E.fresh window n)
def IEnd.keep (E : IEnd) (window : Nat) (m : IMsg) : IEnd :=
 if m.number < E.taken + 1 ∨ E.taken + 1 + window ≤ m.number ∨ m.number ∈ E.kept.map IMsg.number then E else { E with kept := E.kept ++ [m] }
def IEnd.drop (E : IEnd) (n : Nat) : IEnd := { E with kept := E.kept.filter fun m => decide (m.number ≠ n) }
def IEnd.taking (E : IEnd) (m : IMsg) : ROp × List ROp := turnAll m.op (E.opn.drop (m.ctx - E.seen))
def IEnd.take (E : IEnd) (m : IMsg) : IEnd := { E with opn := (E.taking m).2, seen := m.ctx, taken := m.number }

theorem imsg_mem_tail {own : List GMsg} {k : Nat} {m : IMsg} (h : m ∈ tailOf own k) : ∃ n, k < n ∧ n ≤ own.length ∧ m = imsg own n := by
 simp only [tailOf, List.mem_map, List.mem_range] at h
 obtain ⟨j, hj, rfl⟩ := h
 exact ⟨k + j + 1, by omega, by omega, rfl⟩
section
variable {own oth : List GMsg} {E : IEnd} {window : Nat}
theorem Half.ticked (h : Half own oth E) : Half own oth (E.tick window) := by
 unfold IEnd.tick
 split
 ·refine h.sent _ fun m hm => ?_
  have hm' := List.mem_of_mem_take hm
  rw [h.wait] at hm'
  obtain ⟨n, h1, h2, rfl⟩ := imsg_mem_tail hm'
  exact ⟨n, by omega, h2, rfl⟩
 ·split
  ·exact h.flew _ (.word _ (Nat.le_refl _))
  ·exact h
theorem Half.moved (h : Half own oth E) {n : Nat} (h1 : E.known < n) (h2 : n ≤ own.length) : Half own oth (E.moved n) := by
 refine ⟨h2, ?_, h.tk, h.ctx, h.seen, h.opn, h.kept, h.kept1, h.fly, h.flies⟩
 show E.waiting.drop (n - E.known) = tailOf own n
 rw [h.wait, tailOf_drop, show E.known + (n - E.known) = n by omega]
theorem Half.learnt (h : Half own oth E) (n : Nat) : Half own oth (E.learn window n) := by
 unfold IEnd.learn
 split
 ·exact h
 ·rename_i hn
  rw [h.made] at hn
  have hm := h.moved (n := n) (by omega) (by omega)
  refine hm.sent _ fun m hm' => ?_
  have h1 := List.mem_of_mem_take (List.mem_filter.1 hm').1
  rw [hm.wait] at h1
  obtain ⟨q, h2, h3, rfl⟩ := imsg_mem_tail h1
  exact ⟨q, by omega, h3, rfl⟩
theorem Half.learn_fields (E : IEnd) (window n : Nat) : (E.learn window n).taken = E.taken ∧ (E.learn window n).seen = E.seen ∧ (E.learn window n).opn = E.opn ∧ (E.learn window n).kept = E.kept ∧ (E.learn window n).known = (if n ≤ E.known ∨ E.made < n then E.known else n) := by
 unfold IEnd.learn
 split
 ·exact ⟨rfl, rfl, rfl, rfl, rfl⟩
 ·obtain ⟨a1, a2, a3, a4, a5, a6⟩ := IEnd.sends_fields (E.fresh window n) (E.moved n)
  exact ⟨a3, a4, a5, a6, a1⟩
theorem Half.keeps (h : Half own oth E) {n : Nat} (h1 : 1 ≤ n) (h2 : n ≤ oth.length) : Half own oth (E.keep window (imsg oth n)) := by
 unfold IEnd.keep
 split
 ·exact h
 ·rename_i hk
  simp only [not_or] at hk
  obtain ⟨k1, k2, k3⟩ := hk
  refine ⟨h.kn, h.wait, h.tk, h.ctx, h.seen, h.opn, ?_, ?_, h.fly, h.flies⟩
  ·intro m hm
   simp only [List.mem_append, List.mem_singleton] at hm
   rcases hm with hm | rfl
   ·exact h.kept m hm
   ·exact ⟨n, by show E.taken < n; simp only [imsg] at k1; omega, h2, rfl⟩
  ·show ((E.kept ++ [imsg oth n]).map IMsg.number).Nodup
   rw [List.map_append, List.nodup_append]
   refine ⟨h.kept1, by simp, ?_⟩
   intro a ha b hb
   obtain rfl : b = (imsg oth n).number := by simpa using hb
   rintro rfl
   exact k3 ha
/-- The next one is taken. -/
theorem Half.took (h : Half own oth E) (hh : Hist own oth) {n : Nat} (hn : n = E.taken + 1) (h2 : n ≤ oth.length) :
  E.taking (imsg oth n) = (form oth own n own.length, formsOf own oth (gmsg oth n).ctx n) ∧ Half own oth ((E.drop n).take (imsg oth n)) ∧ E.seen ≤ (gmsg oth n).ctx ∧ (gmsg oth n).ctx - E.seen ≤ E.opn.length := by
 have hc : (gmsg oth n).ctx ≤ own.length := hh.bd n (by omega) h2
 have hs : E.seen ≤ (gmsg oth n).ctx := by
  rw [h.seen]
  split
  ·omega
  ·exact hh.md E.taken n (by omega) (by omega) h2
 have hd : E.opn.drop ((gmsg oth n).ctx - E.seen) = formsOf own oth (gmsg oth n).ctx E.taken := by
  rw [h.opn, formsOf_drop, show E.seen + ((gmsg oth n).ctx - E.seen) = (gmsg oth n).ctx by omega]
 have ht : turnAll (form oth own n (gmsg oth n).ctx) (formsOf own oth (gmsg oth n).ctx E.taken) = (form oth own n own.length, formsOf own oth (gmsg oth n).ctx n) := by
  have := turnAll_forms oth own n (by omega) (own.length - (gmsg oth n).ctx) (gmsg oth n).ctx (Nat.le_refl _) (fun j hj => by
   have := h.ctx ((gmsg oth n).ctx + j + 1) (by omega) (by omega)
   omega)
  rw [show n - 1 = E.taken by omega, show (gmsg oth n).ctx + (own.length - (gmsg oth n).ctx) = own.length by omega] at this
  exact this
 have hb : form oth own n (gmsg oth n).ctx = (gmsg oth n).op := form_base _ _ _ _ (Nat.le_refl _)
 have htk : E.taking (imsg oth n) = (form oth own n own.length, formsOf own oth (gmsg oth n).ctx n) := by
  unfold IEnd.taking
  show turnAll (gmsg oth n).op (E.opn.drop ((gmsg oth n).ctx - E.seen)) = _
  rw [hd, ← hb]; exact ht
 refine ⟨htk, ?_, hs, by rw [h.opn, formsOf_length]; omega⟩
 refine ⟨h.kn, h.wait, h2, fun i h1 h3 => ?_, ?_, ?_, ?_, ?_, h.fly, fun d hd => (h.flies d hd).more (show E.taken ≤ n by omega)⟩
 ·show _ ≤ n
  have := h.ctx i h1 h3; omega
 ·show (gmsg oth n).ctx = if n = 0 then 0 else (gmsg oth n).ctx
  rw [if_neg (by omega)]
 ·show ((E.drop n).taking (imsg oth n)).2 = formsOf own oth (gmsg oth n).ctx n
  have : (E.drop n).taking (imsg oth n) = E.taking (imsg oth n) := rfl
  rw [this, htk]
 ·intro m hm
  have hm2 : m ∈ E.kept ∧ m.number ≠ n := by simpa [IEnd.take, IEnd.drop] using hm
  obtain ⟨q, q1, q2, rfl⟩ := h.kept m hm2.1
  refine ⟨q, ?_, q2, rfl⟩
  show n < q
  have : q ≠ n := hm2.2
  omega
 ·show (((E.kept.filter _).map IMsg.number)).Nodup
  exact List.Sublist.nodup (List.Sublist.map _ List.filter_sublist) h.kept1
end

/-- The two ends of client c's line, and their texts. -/
structure Line (c : Nat) (us ds : List GMsg) (T : Nat → Nat → List UInt8) (E S : IEnd) (t s : List UInt8) : Prop where
 a : Half us ds E
 b : Half ds us S
 g : Grid us ds T
 ka : E.known ≤ S.taken
 kb : S.known ≤ E.taken
 ta : t = T us.length E.taken
 tb : s = T S.taken ds.length
 cu : ∀ i, 1 ≤ i → i ≤ us.length → (gmsg us i).op.client = c
 cd : ∀ i, 1 ≤ i → i ≤ ds.length → (gmsg ds i).op.client ≠ c
section
variable {c : Nat} {us ds : List GMsg} {T : Nat → Nat → List UInt8} {E S : IEnd} {t s : List UInt8}
theorem Line.pa (h : Line c us ds T E S t s) : Pt us ds us.length E.taken := ⟨Nat.le_refl _, h.a.tk, fun h1 => h.a.ctx _ h1 (Nat.le_refl _), fun h1 => h.g.hist.bd _ h1 h.a.tk⟩
theorem Line.pb (h : Line c us ds T E S t s) : Pt us ds S.taken ds.length := ⟨h.b.tk, Nat.le_refl _, fun h1 => h.g.hist.bu _ h1 h.b.tk, fun h1 => h.b.ctx _ h1 (Nat.le_refl _)⟩
theorem Line.seena (h : Line c us ds T E S t s) : E.seen ≤ us.length := by
 rw [h.a.seen]; split
 ·omega
 ·exact h.g.hist.bd _ (by omega) h.a.tk
theorem Line.seenb (h : Line c us ds T E S t s) : S.seen ≤ ds.length := by
 rw [h.b.seen]; split
 ·omega
 ·exact h.g.hist.bu _ (by omega) h.b.tk
/-- The client makes one. -/
theorem Line.putA (h : Line c us ds T E S t s) (o : ROp) (window : Nat) (ho : o.client = c) (hf : o.fits t.length) : ∃ T', Line c (us ++ [⟨E.taken, o⟩]) ds T' (E.make o window) S (o.does t) s := by
 obtain ⟨T', g1, g2, g3⟩ := h.g.push E.taken o h.a.tk h.a.ctx (fun k h1 h2 => by rw [ho]; exact fun e => h.cd k h1 h2 e.symm) (by rw [← h.ta]; exact hf)
 obtain ⟨_, f1⟩ : True ∧ (E.make o window).taken = E.taken := ⟨trivial, by unfold IEnd.make; split; exact (IEnd.sends_fields _ _).2.2.1; rfl⟩
 have f2 : (E.make o window).known = E.known := by unfold IEnd.make; split; exact (IEnd.sends_fields _ _).1; rfl
 refine ⟨T', h.a.make o window h.seena, h.b.other _, g1, by rw [f2]; exact h.ka, by rw [f1]; exact h.kb, ?_, ?_, ?_, h.cd⟩
 ·rw [f1, List.length_append, List.length_cons, List.length_nil, g3, ← h.ta]
 ·rw [g2 _ _ h.b.tk]; exact h.tb
 ·intro i h1 h2
  simp only [List.length_append, List.length_cons, List.length_nil] at h2
  by_cases hi : i ≤ us.length
  ·rw [gmsg_push _ _ _ h1 hi]; exact h.cu i h1 hi
  ·obtain rfl : i = us.length + 1 := by omega
   rw [gmsg_last]; exact ho
/-- The server makes one. -/
theorem Line.putB (h : Line c us ds T E S t s) (o : ROp) (window : Nat) (ho : o.client ≠ c) (hf : o.fits s.length) : ∃ T', Line c us (ds ++ [⟨S.taken, o⟩]) T' E (S.make o window) t (o.does s) := by
 obtain ⟨T', g1, g2, g3⟩ := h.g.swap.push S.taken o h.b.tk h.b.ctx (fun k h1 h2 => by rw [h.cu k h1 h2]; exact ho) (by rw [← h.tb]; exact hf)
 have f1 : (S.make o window).taken = S.taken := by unfold IEnd.make; split; exact (IEnd.sends_fields _ _).2.2.1; rfl
 have f2 : (S.make o window).known = S.known := by unfold IEnd.make; split; exact (IEnd.sends_fields _ _).1; rfl
 refine ⟨fun i k => T' k i, h.a.other _, h.b.make o window h.seenb, g1.swap, by rw [f1]; exact h.ka, by rw [f2]; exact h.kb, ?_, ?_, h.cu, ?_⟩
 ·show t = T' E.taken us.length
  rw [g2 _ _ h.a.tk]; exact h.ta
 ·show o.does s = T' (ds ++ [(⟨S.taken, o⟩ : GMsg)]).length (S.make o window).taken
  rw [f1, List.length_append, List.length_cons, List.length_nil, g3, ← h.tb]
 ·intro i h1 h2
  simp only [List.length_append, List.length_cons, List.length_nil] at h2
  by_cases hi : i ≤ ds.length
  ·rw [gmsg_push _ _ _ h1 hi]; exact h.cd i h1 hi
  ·obtain rfl : i = ds.length + 1 := by omega
   rw [gmsg_last]; exact ho
/-- The client takes the next one. -/
theorem Line.takeA (h : Line c us ds T E S t s) {n : Nat} (hn : n = E.taken + 1) (h2 : n ≤ ds.length) : ((E.taking (imsg ds n)).1.fits t.length ∧ Line c us ds T ((E.drop n).take (imsg ds n)) S ((E.taking (imsg ds n)).1.does t) s) ∧ (E.taking (imsg ds n)).1.client = (gmsg ds n).op.client := by
 obtain ⟨e, hE, _⟩ := h.a.took h.g.hist hn h2
 rw [e]
 obtain ⟨d1, d2⟩ := h.g.d us.length n (by omega) ⟨Nat.le_refl _, h2, fun h1 => by have := h.a.ctx _ h1 (Nat.le_refl _); omega, fun h1 => h.g.hist.bd _ h1 h2⟩ (by rw [show n - 1 = E.taken by omega]; exact h.pa)
 rw [show n - 1 = E.taken by omega, ← h.ta] at d1 d2
 refine ⟨⟨d1, hE, h.b, h.g, h.ka, ?_, d2.symm, h.tb, h.cu, h.cd⟩, form_client _ _ _ (by omega) _⟩
 show S.known ≤ n
 have := h.kb; omega
/-- The server takes the next one. -/
theorem Line.takeB (h : Line c us ds T E S t s) {n : Nat} (hn : n = S.taken + 1) (h2 : n ≤ us.length) : ((S.taking (imsg us n)).1.fits s.length ∧ Line c us ds T E ((S.drop n).take (imsg us n)) t ((S.taking (imsg us n)).1.does s)) ∧ (S.taking (imsg us n)).1.client = c := by
 obtain ⟨e, hE, _⟩ := h.b.took h.g.hist.swap hn h2
 rw [e]
 obtain ⟨d1, d2⟩ := h.g.u n ds.length (by omega) ⟨h2, Nat.le_refl _, fun h1 => h.g.hist.bu _ h1 h2, fun h1 => by have := h.b.ctx _ h1 (Nat.le_refl _); omega⟩ (by rw [show n - 1 = S.taken by omega]; exact h.pb)
 rw [show n - 1 = S.taken by omega, ← h.tb] at d1 d2
 refine ⟨⟨d1, h.a, hE, h.g, ?_, h.kb, h.ta, d2.symm, h.cu, h.cd⟩, by rw [form_client _ _ _ (by omega)]; exact h.cu n (by omega) h2⟩
 show E.known ≤ n
 have := h.ka; omega
/-- An end turned that has taken and known as before. -/
theorem Line.setA (h : Line c us ds T E S t s) {E' : IEnd} (hE : Half us ds E') (h1 : E'.taken = E.taken) (h2 : E'.known ≤ S.taken) : Line c us ds T E' S t s := ⟨hE, h.b, h.g, h2, by rw [h1]; exact h.kb, by rw [h1]; exact h.ta, h.tb, h.cu, h.cd⟩
theorem Line.setB (h : Line c us ds T E S t s) {S' : IEnd} (hS : Half ds us S') (h1 : S'.taken = S.taken) (h2 : S'.known ≤ E.taken) : Line c us ds T E S' t s := ⟨h.a, hS, h.g, by rw [h1]; exact h.ka, h2, h.ta, by rw [h1]; exact h.tb, h.cu, h.cd⟩
end
end Go.Proofs.Ytemkgikncmhoaaa

namespace Go.Proofs.Ytemkgikncmhoaaa
open Go.RowKit
attribute [local go_sem ↓] Go.wp_at_zero Go.wp_at_succ

set_option maxRecDepth 100000 in
set_option maxHeartbeats 400000 in
theorem xsendable (own : Nat → Tag) (rid k b tb window : Nat) (E : IEnd) (w : World) (h : EndX own rid k w b tb window E) (hl : E.waiting.length ≤ 1000) (hw : window ≤ 4) (a : Option Addr) (c : Nat) (h3 : w.cell? ⟨b, 3, none⟩ = some (.slice a E.waiting.length c)) (hc : E.waiting.length ≤ c) :
  Calls Try.prog 68 #[.pointer (some ⟨b, 0, none⟩)] w fun e w' => e = .returned (.slice a (min window E.waiting.length) c) ∧ w' = w.drew := by
 have c1 := h.c1
 clear h
 generalize E.waiting.length = n at *
 have hmin : (if (n : Int) < (window : Int) then (n : Int) else (window : Int)) = ((min window n : Nat) : Int) := by split <;> omega
 have hmc : ((min window n : Nat) : Int) ≤ (c : Int) := by omega
 go_enter Try.func68, Try.ntmps68
 go_wp2_with fail
 go_region
 all_goals go_wp2
 all_goals go_ret
 all_goals exact ⟨by rw [show min window n = (min (window : Int) (n : Int)).toNat by omega]; rfl, rfl⟩

/-- The first of what waits, as a slice. -/
theorem EndX.front {own : Nat → Tag} {rid k b tb window : Nat} {E : IEnd} {w : World} (h : EndX own rid k w b tb window E) (h0 : 0 < E.waiting.length) : ∃ g off c, w.cell? ⟨b, 3, none⟩ = some (.slice (some ⟨g, off, none⟩) E.waiting.length c) ∧ E.waiting.length ≤ c ∧ c ≤ maxLen ∧ own g = (rid, k, 3) ∧ g < w.heap.size ∧
  ∀ j u, (E.waiting.flatMap IMsg.cells)[j]? = some u → w.cell? ⟨g, off + j, none⟩ = some u := by
 obtain ⟨wv, ov, kb, fv, hc, hm, _⟩ := h
 obtain ⟨g, off, c, rfl, h1, h2, h3, h4, h5⟩ := hm.cells h0
 exact ⟨g, off, c, by rw [hc.cell]; rfl, h1, h2, h3, h4, h5⟩
theorem flatMap_take {α β : Type} (f : α → List β) (n : Nat) (hf : ∀ a, (f a).length = n) : ∀ (l : List α) (k : Nat), (l.take k).flatMap f = (l.flatMap f).take (k * n)
 | [], k => by simp
 | a :: l, 0 => by simp
 | a :: l, k + 1 => by
  rw [List.take_succ_cons, List.flatMap_cons, flatMap_take f n hf l k, List.flatMap_cons, Nat.add_mul, Nat.one_mul, List.take_append, hf]
  rw [show (f a).take (k * n + n) = f a from List.take_of_length_le (by rw [hf]; omega), Nat.add_sub_cancel]

set_option maxRecDepth 100000 in
set_option maxHeartbeats 400000 in
theorem xtick (own : Nat → Tag) (rid k b tb window : Nat) (E : IEnd) (w : World) (h : EndX own rid k w b tb window E) (hl : E.waiting.length ≤ 1000) (hw : window ≤ 4) (ht : E.taken ≤ 255) (hf : E.flying.length ≤ 12) (hx : ∀ m ∈ E.waiting, Bytes (m.bytes E.taken)) :
  Calls Try.prog 50 #[.pointer (some ⟨b, 0, none⟩)] w fun e w' => e = .returned (.tuple #[]) ∧ ∃ own', EndX own' rid k w' b tb window (E.tick window) ∧ Upd own own' (inFly rid k) w w' := by
 have HW : Hid (∀ w', EndX own rid k w' b tb window E → Calls Try.prog 36 #[.pointer (some ⟨b, 0, none⟩)] w' fun e w'' => e = .returned (.int .i64 E.waiting.length) ∧ w'' = w') := hide fun w' h => xwaits own rid k b tb window E w' h
 have HD : Hid (EndX own rid k w.drew b tb window E) := hide (h.upd ((Upd.refl own (fun _ => False) w).drew) (fun _ _ _ h => h))
 have HE := hide h
 by_cases h0 : 0 < E.waiting.length
 ·have h0' : (0 : Int) < (E.waiting.length : Int) := by omega
  have HT : Hid (E.tick window = E.sends (E.waiting.take window)) := by apply hide; unfold IEnd.tick; rw [if_pos h0]
  obtain ⟨g, off, c, c3, g1, g2, g3, g4, g5⟩ := h.front h0
  have HS : Hid (Calls Try.prog 68 #[.pointer (some ⟨b, 0, none⟩)] w fun e w' => e = .returned (.slice (some ⟨g, off, none⟩) (min window E.waiting.length) c) ∧ w' = w.drew) := hide (xsendable own rid k b tb window E w h hl hw _ c c3 g1)
  have HSS : Hid (Calls Try.prog 67 #[.pointer (some ⟨b, 0, none⟩), .slice (some ⟨g, off, none⟩) (min window E.waiting.length) c] w.drew fun e w' => e = .returned (.tuple #[]) ∧ ∃ own', EndX own' rid k w' b tb window (E.sends (E.waiting.take window)) ∧ Upd own own' (inFly rid k) w.drew w') := by
   apply hide
   have := xsends own rid k b tb window g off c E (E.waiting.take window) w.drew (unhide HD) hf (fun m hm => hx m (List.mem_of_mem_take hm)) (by simp; omega) (fun _ => ⟨by rw [g3]; simp [inFly], g4⟩) (by
    intro j u hu
    rw [flatMap_take IMsg.cells 6 (fun _ => rfl)] at hu
    exact g5 j u (by rw [List.getElem?_take] at hu; split at hu; exact hu; cases hu))
   rwa [List.length_take] at this
  clear h g5 c3 hx
  rw [HT.out]
  go_enter Try.func50, Try.ntmps50
  go_wp2_with (first | (go_at_call 36; with_reducible refine (unhide HW _ (unhide HE)).mono ?_; rintro e w1 ⟨rfl, hw1⟩; obtain rfl := hw1.symm) | (go_at_call 68; with_reducible refine (unhide HS).mono ?_; rintro e w1 ⟨rfl, hw1⟩; obtain rfl := hw1.symm) | (go_at_call 67; with_reducible refine (unhide HSS).mono ?_; rintro e w1 ⟨rfl, own1, hE1, hU1⟩))
  go_end0
  exact ⟨rfl, own1, hE1, ((Upd.refl own _ w).drew).trans hU1⟩
 ·have h0' : ¬ (0 : Int) < (E.waiting.length : Int) := by omega
  have e4 := h.c4
  by_cases h1 : 0 < E.taken
  ·have h1' : (0 : Int) < (E.taken : Int) := by omega
   have HT : Hid (E.tick window = E.fly (ckd [2, (E.taken : Int)])) := by apply hide; unfold IEnd.tick; rw [if_neg h0, if_pos h1]
   have HWD : Hid (∀ w, Calls Try.prog 70 #[.int .i64 E.taken] w fun e w' => e = .returned (.string (ckd [2, (E.taken : Int)])) ∧ Below w.heap.size w w') := hide fun w => word_any E.taken w ht
   have HF : Hid (∀ w1, Below w.heap.size w w1 → Calls Try.prog 69 #[.pointer (some ⟨b, 0, none⟩), .slice (some ⟨w1.heap.size, 0, none⟩) 1 1] (w1.alloc (.cells #[.string (ckd [2, (E.taken : Int)])] 131)) fun e w' => e = .returned (.tuple #[]) ∧ ∃ own', EndX own' rid k w' b tb window (E.fly (ckd [2, (E.taken : Int)])) ∧ Upd own own' (inFly rid k) w w') := by
    apply hide
    intro w1 hb
    have U := (Upd.of_below own (fun _ => False) hb).alloc (.cells #[.string (ckd [2, (E.taken : Int)])] 131)
    refine (xfly own rid k b tb window w1.heap.size E _ _ (h.upd U (fun _ _ _ h => h)) hf (World.cell?_alloc_new _ _ _ _)).mono ?_
    rintro e w' ⟨rfl, own', a1, a2⟩
    exact ⟨rfl, own', a1, (U.mono (fun _ h => h.elim)).trans a2⟩
   rw [HT.out]
   generalize ckd [2, (E.taken : Int)] = d at *
   clear h hx
   go_enter Try.func50, Try.ntmps50
   go_wp2_with (first | (go_at_call 36; with_reducible refine (unhide HW _ (unhide HE)).mono ?_; rintro e w1 ⟨rfl, hw1⟩; obtain rfl := hw1.symm) | (go_at_call 70; with_reducible refine (unhide HWD _).mono ?_; rintro e w1 ⟨rfl, hb1⟩) | (go_at_call 69; with_reducible refine (unhide HF _ hb1).mono ?_; rintro e w2 ⟨rfl, own2, hE2, hU2⟩))
   go_end0
   exact ⟨rfl, own2, hE2, hU2⟩
  ·have h1' : ¬ (0 : Int) < (E.taken : Int) := by omega
   have HT : Hid (E.tick window = E) := by apply hide; unfold IEnd.tick; rw [if_neg h0, if_neg h1]
   rw [HT.out]
   clear h hx
   go_enter Try.func50, Try.ntmps50
   go_wp2_with (first | (go_at_call 36; with_reducible refine (unhide HW _ (unhide HE)).mono ?_; rintro e w1 ⟨rfl, hw1⟩; obtain rfl := hw1.symm))
   go_end0
   exact ⟨rfl, own, unhide HE, Upd.refl _ _ _⟩

set_option maxRecDepth 100000 in
set_option maxHeartbeats 400000 in
theorem xTick_no (own : Nat → Tag) (rid b : Nat) (X : IRoom) (c : Int) (d : Bool) (w : World) (h : RoomX own rid w b X) (hc : I64 c) (hn : ¬ (0 ≤ c ∧ c < X.texts.length)) :
  Calls Try.prog 34 #[.pointer (some ⟨b, 0, none⟩), .int .i64 c, .bool d] w fun e w' => e = .returned (.int .i64 2) ∧ w' = w := by
 obtain ⟨mb, c1, lk⟩ := h.no hc hn d
 clear h hc hn
 go_enter Try.func34, Try.ntmps34
 go_wp2
 go_ret
 exact ⟨rfl, rfl⟩
end Go.Proofs.Ytemkgikncmhoaaa

namespace Go.Proofs.Ytemkgikncmhoaaa
open Go.RowKit

/-- An operation as an end may have it. -/
def ROp.Norm (o : ROp) : Prop := (0 ≤ o.client ∧ o.client ≤ 3) ∧ ((o.verb = 0 ∧ o.place = 0 ∧ o.letter = 0) ∨ (o.verb = 1 ∧ 0 ≤ o.place ∧ 33 ≤ o.letter ∧ o.letter ≤ 126) ∨ (o.verb = 2 ∧ 0 ≤ o.place ∧ o.letter = 0))
theorem ROp.Norm.turn {a b : ROp} (ha : a.Norm) (hb : b.Norm) : (a.turn b).Norm := by
 obtain ⟨c, v, p, l⟩ := a
 obtain ⟨d, u, q, m⟩ := b
 obtain ⟨⟨c1, c2⟩, hv⟩ := ha
 obtain ⟨_, hu⟩ := hb
 dsimp only at c1 c2 hv hu
 unfold ROp.turn
 dsimp only
 repeat' split
 all_goals refine ⟨⟨c1, c2⟩, ?_⟩
 all_goals dsimp only
 all_goals omega
end Go.Proofs.Ytemkgikncmhoaaa

namespace Go.Proofs.Ytemkgikncmhoaaa
open Go.RowKit

def IEnd.zero : IEnd := ⟨0, [], 0, 0, [], [], []⟩
def Norms (l : List GMsg) : Prop := ∀ i, 1 ≤ i → i ≤ l.length → (gmsg l i).op.Norm ∧ (gmsg l i).op.place ≤ 240
theorem Norms.push {l : List GMsg} (h : Norms l) (m : GMsg) (hm : m.op.Norm) (hp : m.op.place ≤ 240) : Norms (l ++ [m]) := by
 intro i h1 h2
 simp only [List.length_append, List.length_cons, List.length_nil] at h2
 by_cases hi : i ≤ l.length
 ·rw [gmsg_push _ _ _ h1 hi]; exact h i h1 hi
 ·obtain rfl : i = l.length + 1 := by omega
  rw [gmsg_last]; exact ⟨hm, hp⟩
theorem gF_norm : ∀ (f : Nat) (us ds : List GMsg) (i k : Nat), Norms us → Norms ds → 1 ≤ i → i ≤ us.length → k ≤ ds.length → (gF f us ds i k).Norm
 | 0, us, ds, i, k, h1, h2, hi, hl, hk => (h1 i hi hl).1
 | f + 1, us, ds, i, k, h1, h2, hi, hl, hk => by
  simp only [gF]
  split
  ·exact (h1 i hi hl).1
  ·exact (gF_norm f us ds i (k - 1) h1 h2 hi hl (by omega)).turn (gF_norm f ds us k (i - 1) h2 h1 (by omega) hk (by omega))
theorem form_norm {us ds : List GMsg} (h1 : Norms us) (h2 : Norms ds) {i k : Nat} (hi : 1 ≤ i) (hl : i ≤ us.length) (hk : k ≤ ds.length) : (form us ds i k).Norm := gF_norm _ _ _ _ _ h1 h2 hi hl hk

/-- How many the server has taken of client j's. -/
def IRoom.tk (X : IRoom) (j : Nat) : Nat := (X.sends.getD j .zero).taken
structure RInv (X : IRoom) (us ds : Nat → List GMsg) (T : Nat → Nat → Nat → List UInt8) : Prop where
 n1 : 1 ≤ X.texts.length
 n4 : X.texts.length ≤ 4
 le : X.ends.length = X.texts.length
 ls : X.sends.length = X.texts.length
 w1 : 1 ≤ X.window
 w4 : X.window ≤ 4
 line : ∀ i t E S, X.texts[i]? = some t → X.ends[i]? = some E → X.sends[i]? = some S → Line i (us i) (ds i) (T i) E S t X.server ∧ E.waiting.length ≤ X.window ∧ (us i).length ≤ 60 ∧ Norms (us i) ∧ Norms (ds i)
 tot : ∀ i, i < X.texts.length → (ds i).length + X.tk i = X.tk 0 + X.tk 1 + X.tk 2 + X.tk 3

section
variable {X : IRoom} {us ds : Nat → List GMsg} {T : Nat → Nat → Nat → List UInt8}
theorem RInv.get (h : RInv X us ds T) {i : Nat} (hi : i < X.texts.length) : ∃ t E S, X.texts[i]? = some t ∧ X.ends[i]? = some E ∧ X.sends[i]? = some S :=
 ⟨X.texts[i], X.ends[i]'(by rw [h.le]; exact hi), X.sends[i]'(by rw [h.ls]; exact hi), by simp [hi], by simp [h.le, hi], by simp [h.ls, hi]⟩
theorem IRoom.tk_eq {i : Nat} {S : IEnd} (hS : X.sends[i]? = some S) : X.tk i = S.taken := by unfold IRoom.tk; rw [List.getD_eq_getElem?_getD, hS]; rfl
theorem RInv.tk60 (h : RInv X us ds T) (j : Nat) : X.tk j ≤ 60 := by
 by_cases hj : j < X.texts.length
 ·obtain ⟨t, E, S, h1, h2, h3⟩ := h.get hj
  rw [IRoom.tk_eq h3]
  obtain ⟨hl, _, hu, _⟩ := h.line j t E S h1 h2 h3
  exact Nat.le_trans hl.b.tk hu
 ·unfold IRoom.tk
  rw [List.getD_eq_getElem?_getD, List.getElem?_eq_none (by rw [h.ls]; omega)]
  exact Nat.zero_le _
theorem RInv.ds180 (h : RInv X us ds T) {i : Nat} (hi : i < X.texts.length) : (ds i).length ≤ 180 := by
 have h0 := h.tk60 0
 have h1 := h.tk60 1
 have h2 := h.tk60 2
 have h3 := h.tk60 3
 have ht := h.tot i hi
 have hn := h.n4
 match i, hi with
 | 0, _ | 1, _ | 2, _ | 3, _ => omega
 | i + 4, hi => omega
theorem RInv.text240 (h : RInv X us ds T) {i : Nat} {t : List UInt8} {E S : IEnd} (h1 : X.texts[i]? = some t) (h2 : X.ends[i]? = some E) (h3 : X.sends[i]? = some S) : t.length ≤ 240 := by
 obtain ⟨hl, _, hu, _⟩ := h.line i t E S h1 h2 h3
 have := hl.g.len _ _ _ rfl hl.pa
 have := h.ds180 (List.getElem?_eq_some_iff.1 h1).1
 have := hl.a.tk
 rw [hl.ta]; omega
theorem RInv.server240 (h : RInv X us ds T) : X.server.length ≤ 240 := by
 obtain ⟨t, E, S, h1, h2, h3⟩ := h.get h.n1
 obtain ⟨hl, _, hu, _⟩ := h.line 0 t E S h1 h2 h3
 have := hl.g.len _ _ _ rfl hl.pb
 have := h.ds180 h.n1
 have := hl.b.tk
 rw [hl.tb]; omega
theorem ROp.fits.place {o : ROp} {n : Nat} (h : o.fits n) (hn : o.Norm) : o.place ≤ n := by
 obtain ⟨_, g⟩ := hn
 rcases h with h | ⟨_, _, h⟩ | ⟨_, _, h⟩ <;> omega
/-- A client's text and end turned. -/
def IRoom.setA (X : IRoom) (i : Nat) (t : List UInt8) (E : IEnd) : IRoom := { X with texts := X.texts.set i t, ends := X.ends.set i E }
def IRoom.setB (X : IRoom) (i : Nat) (S : IEnd) : IRoom := { X with sends := X.sends.set i S }
def upd {α : Type} (f : Nat → α) (i : Nat) (a : α) : Nat → α := fun j => if j = i then a else f j
theorem upd_same {α : Type} (f : Nat → α) (i : Nat) (a : α) : upd f i a i = a := if_pos rfl
theorem upd_other {α : Type} (f : Nat → α) {i j : Nat} (a : α) (h : j ≠ i) : upd f i a j = f j := if_neg h

theorem RInv.setA (h : RInv X us ds T) {i : Nat} {t : List UInt8} {E S : IEnd} (h1 : X.texts[i]? = some t) (h2 : X.ends[i]? = some E) (h3 : X.sends[i]? = some S) (u' : List GMsg) (T' : Nat → Nat → List UInt8) (t' : List UInt8) (E' : IEnd)
  (hl : Line i u' (ds i) T' E' S t' X.server) (hw : E'.waiting.length ≤ X.window) (hu : u'.length ≤ 60) (hn : Norms u') : RInv (X.setA i t' E') (upd us i u') ds (upd T i T') := by
 have hi := (List.getElem?_eq_some_iff.1 h1).1
 refine ⟨by simpa [IRoom.setA] using h.n1, by simpa [IRoom.setA] using h.n4, by simpa [IRoom.setA] using h.le, by simpa [IRoom.setA] using h.ls, h.w1, h.w4, ?_, ?_⟩
 ·intro j tt EE SS a1 a2 a3
  by_cases hji : j = i
  ·subst hji
   simp only [IRoom.setA, List.getElem?_set_self hi] at a1
   simp only [IRoom.setA, List.getElem?_set_self (show j < X.ends.length by rw [h.le]; exact hi)] at a2
   obtain rfl : t' = tt := by simpa using a1
   obtain rfl : E' = EE := by simpa using a2
   obtain rfl : S = SS := by have : X.sends[j]? = some SS := a3; rw [h3] at this; simpa using this
   rw [upd_same, upd_same]
   exact ⟨hl, hw, hu, hn, (h.line j t E S h1 h2 h3).2.2.2.2⟩
  ·simp only [IRoom.setA, List.getElem?_set_ne (fun h => hji h.symm)] at a1 a2
   rw [upd_other _ _ hji, upd_other _ _ hji]
   exact h.line j tt EE SS a1 a2 a3
 ·intro j hj
  exact h.tot j (by simpa [IRoom.setA] using hj)
/-- A client makes one. -/
theorem RInv.make (h : RInv X us ds T) {i : Nat} {t : List UInt8} {E S : IEnd} (h1 : X.texts[i]? = some t) (h2 : X.ends[i]? = some E) (h3 : X.sends[i]? = some S) (o : ROp) (hc : o.client = i) (hn : o.Norm) (hf : o.fits t.length) (hw : E.waiting.length < X.window) (hu : E.made < 60) :
  ∃ T', RInv (X.setA i (o.does t) (E.make o X.window)) (upd us i (us i ++ [⟨E.taken, o⟩])) ds T' := by
 obtain ⟨hl, g1, g2, g3, g4⟩ := h.line i t E S h1 h2 h3
 obtain ⟨T', hl'⟩ := hl.putA o X.window hc hf
 have f : (E.make o X.window).waiting = E.waiting ++ [E.next o] := by unfold IEnd.make; split; exact (IEnd.sends_fields _ _).2.1; rfl
 rw [hl.a.made] at hu
 have hp := hf.place hn
 have := h.text240 h1 h2 h3
 exact ⟨_, h.setA h1 h2 h3 _ T' _ _ hl' (by rw [f]; simp; omega) (by simp; omega) (g3.push _ hn (by show o.place ≤ 240; omega))⟩
/-- An end turned that has taken as before. -/
theorem RInv.setE (h : RInv X us ds T) {i : Nat} {t : List UInt8} {E S : IEnd} (h1 : X.texts[i]? = some t) (h2 : X.ends[i]? = some E) (h3 : X.sends[i]? = some S) {E' : IEnd} (hE : Half (us i) (ds i) E') (k1 : E'.taken = E.taken) (k2 : E'.known ≤ S.taken) (k3 : E.known ≤ E'.known) : RInv (X.setA i t E') us ds T := by
 obtain ⟨hl, g1, g2, g3, g4⟩ := h.line i t E S h1 h2 h3
 have := h.setA h1 h2 h3 (us i) (T i) t E' (hl.setA hE k1 k2) (by rw [hE.wait, tailOf_length]; rw [hl.a.wait, tailOf_length] at g1; omega) g2 g3
 rwa [show upd us i (us i) = us from funext fun j => by unfold upd; split <;> simp_all, show upd T i (T i) = T from funext fun j => by unfold upd; split <;> simp_all] at this
theorem IRoom.tk_setB {i : Nat} {S S' : IEnd} (h3 : X.sends[i]? = some S) (k : S'.taken = S.taken) (j : Nat) : (X.setB i S').tk j = X.tk j := by
 have hi := (List.getElem?_eq_some_iff.1 h3).1
 unfold IRoom.tk IRoom.setB
 simp only [List.getD_eq_getElem?_getD]
 by_cases hji : j = i
 ·subst hji; rw [List.getElem?_set_self hi, h3]; exact k
 ·rw [List.getElem?_set_ne (fun h => hji h.symm)]
theorem RInv.setS (h : RInv X us ds T) {i : Nat} {t : List UInt8} {E S : IEnd} (h1 : X.texts[i]? = some t) (h2 : X.ends[i]? = some E) (h3 : X.sends[i]? = some S) {S' : IEnd} (hS : Half (ds i) (us i) S') (k1 : S'.taken = S.taken) (k2 : S'.known ≤ E.taken) : RInv (X.setB i S') us ds T := by
 have hi := (List.getElem?_eq_some_iff.1 h3).1
 refine ⟨h.n1, h.n4, h.le, by simpa [IRoom.setB] using h.ls, h.w1, h.w4, ?_, ?_⟩
 ·intro j tt EE SS a1 a2 a3
  by_cases hji : j = i
  ·subst hji
   simp only [IRoom.setB, List.getElem?_set_self hi] at a3
   obtain rfl : S' = SS := by simpa using a3
   obtain rfl : t = tt := by have : X.texts[j]? = some tt := a1; rw [h1] at this; simpa using this
   obtain rfl : E = EE := by have : X.ends[j]? = some EE := a2; rw [h2] at this; simpa using this
   obtain ⟨hl, g⟩ := h.line j t E S h1 h2 h3
   exact ⟨hl.setB hS k1 k2, g⟩
  ·simp only [IRoom.setB, List.getElem?_set_ne (fun h => hji h.symm)] at a3
   exact h.line j tt EE SS a1 a2 a3
 ·intro j hj
  simp only [IRoom.tk_setB h3 k1]
  exact h.tot j hj

/-- A client takes the next one. -/
theorem RInv.takeA (h : RInv X us ds T) {i : Nat} {t : List UInt8} {E S : IEnd} (h1 : X.texts[i]? = some t) (h2 : X.ends[i]? = some E) (h3 : X.sends[i]? = some S) {n : Nat} (hn : n = E.taken + 1) (hd : n ≤ (ds i).length) :
  RInv (X.setA i ((E.taking (imsg (ds i) n)).1.does t) ((E.drop n).take (imsg (ds i) n))) us ds T := by
 obtain ⟨hl, g1, g2, g3, g4⟩ := h.line i t E S h1 h2 h3
 obtain ⟨⟨_, hl'⟩, _⟩ := hl.takeA hn hd
 have := h.setA h1 h2 h3 (us i) (T i) _ _ hl' g1 g2 g3
 rwa [show upd us i (us i) = us from funext fun j => by unfold upd; split <;> simp_all, show upd T i (T i) = T from funext fun j => by unfold upd; split <;> simp_all] at this
/-- What the server takes, it tells the others. -/
def IRoom.tell (X : IRoom) (i : Nat) (S : IEnd) (o : ROp) : IRoom := { X with server := o.does X.server, sends := X.sends.mapIdx fun j Z => if j = i then S else Z.make o X.window }
theorem RInv.takeB (h : RInv X us ds T) {i : Nat} {t : List UInt8} {E S : IEnd} (h1 : X.texts[i]? = some t) (h2 : X.ends[i]? = some E) (h3 : X.sends[i]? = some S) {n : Nat} (hn : n = S.taken + 1) (hd : n ≤ (us i).length) :
  ∃ T', RInv (X.tell i ((S.drop n).take (imsg (us i) n)) (S.taking (imsg (us i) n)).1) us (fun j => if j = i then ds i else ds j ++ [⟨X.tk j, (S.taking (imsg (us i) n)).1⟩]) T' := by
 obtain ⟨hl, g1, g2, g3, g4⟩ := h.line i t E S h1 h2 h3
 have hi := (List.getElem?_eq_some_iff.1 h1).1
 obtain ⟨⟨hf, hl'⟩, hc⟩ := hl.takeB hn hd
 have hno : (S.taking (imsg (us i) n)).1.Norm := by
  obtain ⟨e, _⟩ := hl.b.took hl.g.hist.swap hn hd
  rw [e]; exact form_norm g3 g4 (by omega) hd (Nat.le_refl _)
 generalize (S.taking (imsg (us i) n)).1 = o at *
 have hp := hf.place hno
 have hs := h.server240
 have hall : ∀ j, ∃ Tj, ∀ tt EE SS, j ≠ i → X.texts[j]? = some tt → X.ends[j]? = some EE → X.sends[j]? = some SS → Line j (us j) (ds j ++ [⟨SS.taken, o⟩]) Tj EE (SS.make o X.window) tt (o.does X.server) := by
  intro j
  by_cases hj : j < X.texts.length ∧ j ≠ i
  ·obtain ⟨tt, EE, SS, a1, a2, a3⟩ := h.get hj.1
   obtain ⟨hlj, _⟩ := h.line j tt EE SS a1 a2 a3
   obtain ⟨Tj, hTj⟩ := hlj.putB o X.window (by rw [hc]; intro e; exact hj.2 (by omega)) hf
   refine ⟨Tj, fun t2 E2 S2 _ b1 b2 b3 => ?_⟩
   rw [a1] at b1; rw [a2] at b2; rw [a3] at b3
   obtain rfl : tt = t2 := by simpa using b1
   obtain rfl : EE = E2 := by simpa using b2
   obtain rfl : SS = S2 := by simpa using b3
   exact hTj
  ·refine ⟨T j, fun tt EE SS b0 b1 _ _ => absurd ⟨(List.getElem?_eq_some_iff.1 b1).1, b0⟩ hj⟩
 obtain ⟨TT, hTT⟩ := Classical.axiomOfChoice hall
 have hget : ∀ j, (X.tell i ((S.drop n).take (imsg (us i) n)) o).sends[j]? = (X.sends[j]?).map fun Z => if j = i then (S.drop n).take (imsg (us i) n) else Z.make o X.window := by
  intro j; simp [IRoom.tell, List.getElem?_mapIdx]
 have hmt : ∀ Z : IEnd, (Z.make o X.window).taken = Z.taken := fun Z => by unfold IEnd.make; split; exact (IEnd.sends_fields _ _).2.2.1; rfl
 have htk : ∀ j, (X.tell i ((S.drop n).take (imsg (us i) n)) o).tk j = if j = i then X.tk j + 1 else X.tk j := by
  intro j
  unfold IRoom.tk
  rw [List.getD_eq_getElem?_getD, hget, List.getD_eq_getElem?_getD]
  by_cases hji : j = i
  ·subst hji
   rw [h3]
   simp only [Option.map_some, if_true, Option.getD_some]
   exact hn
  ·simp only [if_neg hji]
   cases X.sends[j]? with
   | none => rfl
   | some Z => exact hmt Z
 refine ⟨fun j => if j = i then T i else TT j, h.n1, h.n4, h.le, by simpa [IRoom.tell] using h.ls, h.w1, h.w4, ?_, ?_⟩
 ·intro j tt EE SS a1 a2 a3
  rw [hget] at a3
  by_cases hji : j = i
  ·subst hji
   rw [h3] at a3
   obtain rfl : (S.drop n).take (imsg (us j) n) = SS := by simpa using a3
   obtain rfl : t = tt := by have : X.texts[j]? = some tt := a1; rw [h1] at this; simpa using this
   obtain rfl : E = EE := by have : X.ends[j]? = some EE := a2; rw [h2] at this; simpa using this
   simp only [if_true]
   exact ⟨hl', g1, g2, g3, g4⟩
  ·obtain ⟨Z, hZ, hZ2⟩ := Option.map_eq_some_iff.1 a3
   rw [if_neg hji] at hZ2
   subst hZ2
   simp only [if_neg hji]
   obtain ⟨_, b1, b2, b3, b4⟩ := h.line j tt EE Z a1 a2 hZ
   refine ⟨by rw [IRoom.tk_eq hZ]; exact hTT j tt EE Z hji a1 a2 hZ, b1, b2, b3, b4.push _ hno (by show o.place ≤ 240; omega)⟩
 ·intro j hj
  simp only [htk]
  have ht := h.tot j hj
  have hn4 := h.n4
  have hi4 : i < 4 := by omega
  by_cases hji : j = i
  ·subst hji
   rw [if_pos rfl, if_pos rfl]
   match j, hi4 with
   | 0, _ | 1, _ | 2, _ | 3, _ => simp; omega
  ·rw [if_neg hji, if_neg hji, List.length_append, List.length_cons, List.length_nil]
   match i, hi4 with
   | 0, _ | 1, _ | 2, _ | 3, _ => simp; omega
end
end Go.Proofs.Ytemkgikncmhoaaa

