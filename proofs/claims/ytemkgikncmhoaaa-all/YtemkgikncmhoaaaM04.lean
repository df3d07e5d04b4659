import Derived.Test.YtemkgikncmhoaaaM03
import Derived.ArgAppend
namespace Go.Proofs.Ytemkgikncmhoaaa
open Go.RowKit

/-- A slice that is alone in its block, at some place there. -/
def RowO (own : Nat → Tag) (t : Tag) (w : World) (e : TypeId) (size : Nat) (v : Value) (n : Nat) (xs : List Value) : Prop :=
 xs.length = n * size ∧ ((v = .slice none 0 0 ∧ n = 0) ∨
  ∃ g off cap cur, v = .slice (some ⟨g, off, none⟩) n cap ∧ own g = t ∧ w.heap[g]? = some (.cells cur e (0, 0)) ∧ n ≤ cap ∧ cap ≤ maxLen ∧ off + cap * size ≤ cur.size ∧ (cur.toList.drop off).take (n * size) = xs)

section
variable {own own' : Nat → Tag} {may : Tag → Prop} {w w' : World} {t : Tag} {e : TypeId} {size : Nat} {v : Value} {n : Nat} {xs : List Value}
theorem RowO.of_owns (h : OwnsT own t w e size v n xs) : RowO own t w e size v n xs := by
 refine ⟨h.1.1, ?_⟩
 rcases h.1.2 with hn | ⟨g, cap, cur, rfl, hb, hg, h1, h2, h3, h4⟩
 ·exact .inl hn
 ·exact .inr ⟨g, 0, cap, cur, rfl, h.2 g rfl, hg, h1, h2, by omega, by simpa using h4⟩
theorem RowO.nil (own : Nat → Tag) (t : Tag) (w : World) (e : TypeId) (size : Nat) : RowO own t w e size (.slice none 0 0) 0 [] := ⟨by simp, .inl ⟨rfl, rfl⟩⟩
theorem RowO.upd (h : RowO own t w e size v n xs) (hu : Upd own own' may w w') (hm : ¬ may t) : RowO own' t w' e size v n xs := by
 refine ⟨h.1, ?_⟩
 rcases h.2 with hn | ⟨g, off, cap, cur, rfl, ho, hg, rest⟩
 ·exact .inl hn
 ·have hl := (Array.getElem?_eq_some_iff.1 hg).1
  exact .inr ⟨g, off, cap, cur, rfl, (hu.tags g hl).trans ho, (hu.block g hl (by rw [ho]; exact hm)).trans hg, rest⟩
theorem RowO.alloc (h : RowO own t w e size v n xs) (o : Obj) : RowO own t (w.alloc o) e size v n xs := h.upd ((Upd.refl own (fun _ => False) w).alloc o) (fun h => h)
theorem RowO.drew (h : RowO own t w e size v n xs) : RowO own t w.drew e size v n xs := h
theorem RowO.other (h : RowO own t w e size v n xs) {p : Addr} (hp : own p.block ≠ t) (u : Value) : RowO own t (w.setCell p u) e size v n xs :=
 h.upd (own' := own) (may := fun x => x = own p.block) (Upd.setCell (p := p) (Upd.refl own (fun x => x = own p.block) w) (show own p.block = own p.block from rfl) u) (fun e => hp e.symm)
theorem RowO.shape (h : RowO own t w e size v n xs) : ∃ a c, v = .slice a n c ∧ n ≤ c ∧ c ≤ maxLen := by
 rcases h.2 with ⟨rfl, rfl⟩ | ⟨g, off, cap, cur, rfl, _, _, h1, h2, _⟩
 ·exact ⟨none, 0, rfl, Nat.le_refl _, by simp [maxLen]⟩
 ·exact ⟨_, _, rfl, h1, h2⟩
/-- The cells of a row that is not empty. -/
theorem RowO.cells (h : RowO own t w e size v n xs) (h0 : 0 < n) : ∃ g off cap, v = .slice (some ⟨g, off, none⟩) n cap ∧ n ≤ cap ∧ cap ≤ maxLen ∧ own g = t ∧ g < w.heap.size ∧ ∀ j u, xs[j]? = some u → w.cell? ⟨g, off + j, none⟩ = some u := by
 rcases h.2 with ⟨_, rfl⟩ | ⟨g, off, cap, cur, rfl, ho, hg, h1, h2, h3, h4⟩
 ·omega
 ·refine ⟨g, off, cap, rfl, h1, h2, ho, (Array.getElem?_eq_some_iff.1 hg).1, fun j u hu => ?_⟩
  have hj : j < n * size := by have := (List.getElem?_eq_some_iff.1 hu).1; rw [h.1] at this; exact this
  rw [← h4, List.getElem?_take_of_lt hj, List.getElem?_drop] at hu
  simp only [World.cell?, hg]
  simpa using hu
/-- 'x = x[k:]'. -/
theorem RowO.drop (h : RowO own t w e size v n xs) {k : Nat} (hk : k ≤ n) : ∃ a c, v = .slice a n c ∧ n ≤ c ∧ c ≤ maxLen ∧ RowO own t w e size (.slice (if c = k then a else a.map (·.add (k * size))) (n - k) (c - k)) (n - k) (xs.drop (k * size)) := by
 have hlen : (xs.drop (k * size)).length = (n - k) * size := by rw [List.length_drop, h.1, Nat.sub_mul]
 rcases h.2 with ⟨rfl, rfl⟩ | ⟨g, off, cap, cur, rfl, ho, hg, h1, h2, h3, h4⟩
 ·obtain rfl : k = 0 := by omega
  exact ⟨none, 0, rfl, Nat.le_refl _, by simp [maxLen], hlen, .inl ⟨by simp, by simp⟩⟩
 ·refine ⟨some ⟨g, off, none⟩, cap, rfl, h1, h2, hlen, .inr ?_⟩
  by_cases hc : cap = k
  ·have hkn : n = k := by omega
   subst hkn
   refine ⟨g, off, cap - n, cur, by simp [hc], ho, hg, by omega, by omega, ?_, ?_⟩
   ·simp [hc]; exact Nat.le_trans (Nat.le_add_right _ _) h3
   ·simp [List.drop_eq_nil_of_le, h.1]
  ·refine ⟨g, off + k * size, cap - k, cur, by simp [hc, Addr.add_lit], ho, hg, by omega, by omega, ?_, ?_⟩
   ·rw [Nat.sub_mul]
    have := Nat.mul_le_mul_right size (show k ≤ cap by omega)
    omega
   ·rw [← h4, List.drop_take, List.drop_drop, Nat.sub_mul, Nat.add_comm off]
end

def setL (cur : Array Value) (o : Nat) : List Value → Array Value
 | [] => cur
 | v :: r => setL (cur.setIfInBounds o v) (o + 1) r
theorem setL_size : ∀ (vs : List Value) (cur : Array Value) (o : Nat), (setL cur o vs).size = cur.size
 | [], _, _ => rfl
 | v :: r, cur, o => by rw [setL, setL_size r]; simp
theorem setCells_heap (g : Nat) (e : TypeId) : ∀ (vs : List Value) (o : Nat) (w : World) (cur : Array Value), w.heap[g]? = some (.cells cur e (0, 0)) → (w.setCells g o vs).heap[g]? = some (.cells (setL cur o vs) e (0, 0))
 | [], _, _, _, h => h
 | v :: r, o, w, cur, h => by
  rw [World.setCells, setL]
  refine setCells_heap g e r (o + 1) _ _ ?_
  simp [World.setCell, Array.getElem?_modify, h]
theorem upd_setCells {own own' : Nat → Tag} {may : Tag → Prop} {w : World} (g : Nat) (hg : may (own' g)) : ∀ (vs : List Value) (o : Nat) (w1 : World), Upd own own' may w w1 → Upd own own' may w (w1.setCells g o vs)
 | [], _, _, h => h
 | v :: r, o, _, h => upd_setCells g hg r (o + 1) _ (Upd.setCell (p := ⟨g, o, none⟩) h hg v)
theorem setL_take (off : Nat) : ∀ (vs : List Value) (cur : Array Value) (k : Nat), off + k + vs.length ≤ cur.size → ((setL cur (off + k) vs).toList.drop off).take (k + vs.length) = (cur.toList.drop off).take k ++ vs
 | [], cur, k, _ => by simp [setL]
 | v :: r, cur, k, h => by
  simp only [List.length_cons] at h
  have ih := setL_take off r (cur.setIfInBounds (off + k) v) (k + 1) (by simp; omega)
  rw [setL, Nat.add_assoc off k 1, show k + (v :: r).length = k + 1 + r.length by simp; omega, ih]
  have hk : k < (cur.toList.drop off).length := by simp; omega
  have e1 : ((cur.setIfInBounds (off + k) v).toList.drop off).take (k + 1) = (cur.toList.drop off).take k ++ [v] := by
   rw [Array.toList_setIfInBounds, List.drop_set, if_neg (by omega), Nat.add_sub_cancel_left, List.take_add_one, List.take_set_of_le (Nat.le_refl _)]
   simp [List.getElem?_set_self hk]
  rw [e1]; simp

/-- APPEND to such a row. -/
theorem run_append_O {P : Program} (w : World) (t ty e : TypeId) (i : TypeInfo) (z : Value) (size bytes : Nat) (ht : P.underlying t = some (.slice e)) (hi : P.info? e = some i) (hz : i.zero = some z)
  (hsize : i.size = size) (hby : i.bytes = bytes) (hzs : z.cells.size = size) (hsz : 0 < size)
  (v : Value) (n : Nat) (xs : List Value) (own : Nat → Tag) (tg : Tag) (hown : RowO own tg w e size v n xs)
  (a : Addr) (m c : Nat) (news : List Value) (hl : news.length = m * size) (hnews : ∀ j u, news[j]? = some u → w.cell? (a.add j) = some u) (h1 : ∀ u ∈ news, u.oneCell' = true)
  (h63 : n + m ≤ maxLen) (hbytes : (n + m) * bytes ≤ 140737488355328) :
  ∃ v' w', (Builtin.append_ #[t, t] ty #[v, .slice (some a) m c]).run P w = .ok v' w' ∧ RowO (retag own w.heap.size tg) tg w' e size v' (n + m) (xs ++ news) ∧ Upd own (retag own w.heap.size tg) (fun x => x = tg) w w' := by
 have hlen : (xs ++ news).length = (n + m) * size := by rw [List.length_append, hown.1, hl, Nat.add_mul]
 rcases hown.2 with ⟨rfl, rfl⟩ | ⟨g, off, cap, cur, rfl, ho, hg, hnc, hcm, hfit, htake⟩
 ·obtain ⟨v', w', hr, h2, h3⟩ := run_append_T (P := P) w t ty e i z size bytes ht hi hz hsize hby hzs hsz (.slice none 0 0) 0 xs own tg ⟨⟨hown.1, .inl ⟨rfl, rfl⟩⟩, fun g hg => by simp [Value.ownBlock] at hg⟩ a m c news hl hnews h1 h63 hbytes
  exact ⟨v', w', hr, RowO.of_owns h2, h3⟩
 ·have hgl := (Array.getElem?_eq_some_iff.1 hg).1
  by_cases hroom : n + m ≤ cap
  ·subst hsize
   have hin : ∀ j, j < news.length → off + n * i.size + j < cur.size := by
    intro j hj
    have := Nat.mul_le_mul_right i.size hroom
    rw [Nat.add_mul, ← hl] at this
    omega
   have hr := run_append_room_cells (P := P) w t ty e i ht hi g off n cap a m c news hl hnews h1 hroom (fun j hj => by simp [World.cell?, hg, hin j hj]) (fun j hj => by simp [World.frozen?, hg])
   refine ⟨_, _, hr, ⟨hlen, .inr ⟨g, off, cap, _, rfl, (retag_lt hgl).trans ho, setCells_heap g e news (off + n * i.size) w cur hg, hroom, hcm, by rw [setL_size]; exact hfit, ?_⟩⟩, ?_⟩
   ·have hb : off + n * i.size + news.length ≤ cur.size := by
     have := Nat.mul_le_mul_right i.size hroom
     rw [Nat.add_mul, ← hl] at this
     omega
    rw [Nat.add_mul, ← hl, setL_take off news cur (n * i.size) hb, htake]
   ·exact upd_setCells g (by rw [retag_lt hgl]; exact ho) news _ w (Upd.retag (Upd.refl own _ w) _ _ (Nat.le_refl _))
  ·have hcs : ∀ j u, xs[j]? = some u → w.cell? (Addr.add ⟨g, off, none⟩ j) = some u := by
    intro j u hu
    have hj : j < n * size := by have := (List.getElem?_eq_some_iff.1 hu).1; rw [hown.1] at this; exact this
    rw [← htake, List.getElem?_take_of_lt hj, List.getElem?_drop] at hu
    rw [Addr.add_lit]
    simp only [World.cell?, hg]
    simpa using hu
   obtain ⟨v', w', hr, h2, h3⟩ := run_append_arg_grows (P := P) w t ty e i z size bytes ht hi hz hsize hby hzs hsz ⟨g, off, none⟩ n cap xs hown.1 hcs a m c news hl hnews (by omega) h63 hbytes
   refine ⟨v', w', hr, RowO.of_owns ⟨⟨h2.1, h2.2.imp id fun ⟨g, cap, cur, hv, _, rest⟩ => ⟨g, cap, cur, hv, Nat.zero_le _, rest⟩⟩, fun g' hg' => retag_ge (h2.lt g' hg').1⟩, ⟨h3.os, h3.tape, h3.output, h3.size, fun k hk _ => h3.block k hk (by simp), fun k hk => retag_lt hk⟩⟩

theorem step_append_O {P : Program} (w : World) {ops : Array Oper} {o : Oper} {a : Act} {K : Act → World → Prop} {Q : Exit → Act → World → Prop} {E : Prop} (hgd : o.guard = none) (s x : Operand) (t : TypeId)
  (ho : o.op = .call { callee := .builtin .append, args := #[s, x], argTypes := #[t, t] })
  (e : TypeId) (i : TypeInfo) (z : Value) (size bytes : Nat) (ht : P.underlying t = some (.slice e)) (hi : P.info? e = some i) (hz : i.zero = some z)
  (hsize : i.size = size) (hby : i.bytes = bytes) (hzs : z.cells.size = size) (hsz : 0 < size)
  (v : Value) (n : Nat) (xs : List Value) (own : Nat → Tag) (tg : Tag) (hs : a.eval s = v) (hown : RowO own tg w e size v n xs)
  (ad : Addr) (m c : Nat) (news : List Value) (hx : a.eval x = .slice (some ad) m c) (hl : news.length = m * size) (hnews : ∀ j u, news[j]? = some u → w.cell? (ad.add j) = some u) (h1 : ∀ u ∈ news, u.oneCell' = true)
  (h63 : n + m ≤ maxLen) (hbytes : (n + m) * bytes ≤ 140737488355328) (H : Nat) (hH : w.heap.size = H)
  (h : ∀ a' c' w', RowO (retag own H tg) tg w' e size (.slice a' (n + m) c') (n + m) (xs ++ news) → Upd own (retag own H tg) (fun x => x = tg) w w' → K (a.put o.dst (.slice a' (n + m) c')) w') :
  if Region.wanted o (yielded ops a.tmps) = true then Oper.wp P o a w K Q else E := by
 subst hH
 have hw : Region.wanted o (yielded ops a.tmps) = true := by simp [Region.wanted, hgd]
 rw [if_pos hw]
 obtain ⟨v', w', hr, h2, h3⟩ := run_append_O (P := P) w t o.type e i z size bytes ht hi hz hsize hby hzs hsz v n xs own tg hown ad m c news hl hnews h1 h63 hbytes
 obtain ⟨a', c', rfl, _⟩ := h2.shape
 unfold Oper.wp execOp
 simp only [ho, resolve, invoke, builtin, Sem.run_bind, Sem.run_pure, Result.andThen_ok, List.map_toArray, List.map_cons, List.map_nil, hs, hx, hr]
 exact h a' c' w' h2 h3
/-- 'x.f = append(x.f, ..)': behind the append, the value is stored into the cell it came from. -/
theorem app_store_O {own own' : Nat → Tag} {t0 tg : Tag} {w w1 : World} {b k : Nat} {vals : Array Value} {T e : TypeId} {size n : Nat} {v : Value} {xs : List Value} {o : Obj}
  (hc : CellsT own t0 w b vals T) (hu : Upd own own' (fun x => x = tg) (w.alloc o).drew w1) (hne : t0 ≠ tg) (ho : RowO own' tg w1 e size v n xs) :
  CellsT own' t0 (w1.setCell ⟨b, k, none⟩ v) b (vals.setIfInBounds k v) T ∧ RowO own' tg (w1.setCell ⟨b, k, none⟩ v) e size v n xs ∧ Upd own own' (fun t => t = tg ∨ t = t0) w (w1.setCell ⟨b, k, none⟩ v) := by
 have c1 : CellsT own' t0 w1 b vals T := ((hc.alloc o).drew).upd hu hne
 refine ⟨c1.set k v, ho.other (p := ⟨b, k, none⟩) (by rw [c1.2]; exact hne) v, ?_⟩
 exact Upd.setCell (p := ⟨b, k, none⟩) ((((Upd.refl own _ w).alloc o).drew).trans (hu.mono (fun t ht => .inl ht))) (.inr c1.2) v
end Go.Proofs.Ytemkgikncmhoaaa

