import Derived.Test.YtemkgikncmhoaaaM01
import Derived.Test.YtemkgikncmhoaaaChecked
import Derived.WalkKit
import Derived.WalkSpells
import Derived.WalkLawsBesides
import Derived.Handy
import Derived.Deep.DeepMust
namespace Go.Proofs.Ytemkgikncmhoaaa
open Go.RowKit

theorem Try.info5 : (Try.prog.info? 5).map (fun i => (i.zero, i.size, i.bytes)) = some (some (.int .u8 0), 1, 1) := by kernel_rfl

def strOf (ns : List Int) : ByteArray := ⟨(ns.map byteOf).toArray⟩

theorem foldl_push (ns : List Int) : ∀ r : ByteArray, ns.foldl (fun r n => r.push (UInt8.ofNat n.toNat)) r = ⟨r.data ++ (ns.map byteOf).toArray⟩ := by
 induction ns with
 | nil => intro r; simp
 | cons n ns ih =>
  intro r
  rw [List.foldl_cons, ih]
  apply congrArg ByteArray.mk
  apply Array.ext'
  simp [ByteArray.push, byteOf]

/-- 'string(b)' of a row of bytes, nil too. -/
theorem run_string_own (w : World) (base : Nat) (v : Value) (n : Nat) (ns : List Int) (h : w.ownsRow base 5 1 v n (ns.map (Value.int .u8))) :
  (convert 89 9 v).run Try.prog w = .ok (.string (strOf ns)) w := by
 have hl : ns.length = n := by simpa using h.1
 rcases h.2 with ⟨rfl, h0⟩ | ⟨g, cap, cur, rfl, hb, hg, hnc, hcm, hcs, htake⟩
 ·subst h0
  obtain rfl : ns = [] := List.eq_nil_of_length_eq_zero hl
  rw [run_convert_bytes_string w _ _ 5 none 0 0 Try.underlying89 Try.underlying5 Try.underlying9]
  simp [Conv.bytesToString, strOf, Sem.run_pure]
  try rfl
 ·rw [run_convert_bytes_string w _ _ 5 _ n cap Try.underlying89 Try.underlying5 Try.underlying9]
  rw [run_bytesToString w ⟨g, 0, none⟩ n cap ns ?_, foldl_push]
  ·simp [strOf]
  ·have := run_firstCells_some (P := Try.prog) w 1 n ⟨g, 0, none⟩ n cap (ns.map (Value.int .u8)) (by simp [hl]) (h.cells (g := g) rfl)
   simpa [Builtin.firstCells] using this

/-! ### Tags: a ghost colour for each block. Blocks of different tags are different blocks; a call turns blocks of some tags alone. -/
abbrev Tag := Nat × Nat × Nat
def retag (own : Nat → Tag) (n : Nat) (t : Tag) : Nat → Tag := fun k => if k < n then own k else t
theorem retag_lt {own : Nat → Tag} {n k : Nat} {t : Tag} (h : k < n) : retag own n t k = own k := if_pos h
theorem retag_ge {own : Nat → Tag} {n k : Nat} {t : Tag} (h : n ≤ k) : retag own n t k = t := if_neg (by omega)

structure Upd (own own' : Nat → Tag) (may : Tag → Prop) (w w' : World) : Prop where
 os : w'.os = w.os
 tape : w'.tape = w.tape
 output : w'.output = w.output
 size : w.heap.size ≤ w'.heap.size
 block : ∀ k, k < w.heap.size → ¬ may (own k) → w'.heap[k]? = w.heap[k]?
 tags : ∀ k, k < w.heap.size → own' k = own k

section
variable {own own' own'' : Nat → Tag} {may : Tag → Prop} {w w' w'' : World}
theorem Upd.refl (own : Nat → Tag) (may : Tag → Prop) (w : World) : Upd own own may w w := ⟨rfl, rfl, rfl, Nat.le_refl _, fun _ _ _ => rfl, fun _ _ => rfl⟩
theorem Upd.trans (h : Upd own own' may w w') (k : Upd own' own'' may w' w'') : Upd own own'' may w w'' :=
 ⟨k.os.trans h.os, k.tape.trans h.tape, k.output.trans h.output, Nat.le_trans h.size k.size,
  fun i hi hm => (k.block i (Nat.lt_of_lt_of_le hi h.size) (by rw [h.tags i hi]; exact hm)).trans (h.block i hi hm),
  fun i hi => (k.tags i (Nat.lt_of_lt_of_le hi h.size)).trans (h.tags i hi)⟩
theorem Upd.mono {may' : Tag → Prop} (h : Upd own own' may w w') (hm : ∀ t, may t → may' t) : Upd own own' may' w w' :=
 ⟨h.os, h.tape, h.output, h.size, fun i hi hn => h.block i hi (fun hk => hn (hm _ hk)), h.tags⟩
theorem Upd.drew (h : Upd own own' may w w') : Upd own own' may w w'.drew := ⟨h.os, h.tape, h.output, h.size, h.block, h.tags⟩
theorem Upd.alloc (h : Upd own own' may w w') (o : Obj) : Upd own own' may w (w'.alloc o) :=
 ⟨h.os, h.tape, h.output, by have := h.size; simp; omega, fun k hk hn => (Below.heap_alloc _ _ _ (Nat.lt_of_lt_of_le hk h.size)).trans (h.block k hk hn), h.tags⟩
theorem Upd.setCell (h : Upd own own' may w w') {p : Addr} (hp : may (own' p.block)) (u : Value) : Upd own own' may w (w'.setCell p u) :=
 ⟨h.os, h.tape, h.output, by have := h.size; simpa [World.setCell] using this, fun k hk hn => (Below.heap_setCell _ _ _ _ (fun e => hn (by rw [← h.tags k hk, e]; exact hp))).trans (h.block k hk hn), h.tags⟩
/-- New blocks may be tagged at will. -/
theorem Upd.retag (h : Upd own own' may w w') (n : Nat) (t : Tag) (hn : w.heap.size ≤ n) : Upd own (retag own' n t) may w w' :=
 ⟨h.os, h.tape, h.output, h.size, h.block, fun k hk => (retag_lt (Nat.lt_of_lt_of_le hk hn)).trans (h.tags k hk)⟩
theorem Upd.below (h : Upd own own' may w w') {B : Nat} (hB : B ≤ w.heap.size) (hm : ∀ k, k < B → ¬ may (own k)) : Below B w w' :=
 ⟨h.os, h.tape, h.output, h.size, fun k hk => h.block k (Nat.lt_of_lt_of_le hk hB) (hm k hk)⟩
/-- Nothing old has turned. -/
theorem Upd.of_below (own : Nat → Tag) (may : Tag → Prop) (h : Below w.heap.size w w') : Upd own own may w w' :=
 ⟨h.os, h.tape, h.output, h.size, fun k hk _ => h.block k hk, fun _ _ => rfl⟩
theorem Upd.cell (h : Upd own own' may w w') {p : Addr} {v : Value} (hc : w.cell? p = some v) (hm : ¬ may (own p.block)) : w'.cell? p = some v :=
 (World.cell?_of_block (h.block p.block (World.block_lt_of_cell? w p hc) hm)).trans hc
theorem Upd.frozen (h : Upd own own' may w w') {p : Addr} (hl : p.block < w.heap.size) (hm : ¬ may (own p.block)) (hf : w.frozen? p = false) : w'.frozen? p = false :=
 (World.frozen?_of_block (h.block p.block hl hm)).trans hf
end

/-- A slice that owns its block, of a tag. -/
def OwnsT (own : Nat → Tag) (t : Tag) (w : World) (e : TypeId) (size : Nat) (v : Value) (n : Nat) (xs : List Value) : Prop :=
 w.ownsRow 0 e size v n xs ∧ ∀ g, v.ownBlock = some g → own g = t
/-- A block of cells, of a tag. -/
def CellsT (own : Nat → Tag) (t : Tag) (w : World) (b : Nat) (vals : Array Value) (e : TypeId) : Prop := w.heap[b]? = some (.cells vals e (0, 0)) ∧ own b = t

section
variable {own own' : Nat → Tag} {may : Tag → Prop} {w w' : World} {t : Tag} {e : TypeId} {size : Nat} {v : Value} {n : Nat} {xs : List Value} {b : Nat} {vals : Array Value}
theorem OwnsT.upd (h : OwnsT own t w e size v n xs) (hu : Upd own own' may w w') (hm : ¬ may t) : OwnsT own' t w' e size v n xs := by
 obtain ⟨⟨h0, h1⟩, h2⟩ := h
 refine ⟨⟨h0, ?_⟩, fun g hg => ?_⟩
 ·rcases h1 with hn | ⟨g, cap, cur, rfl, hb, hgg, rest⟩
  ·exact .inl hn
  ·refine .inr ⟨g, cap, cur, rfl, hb, ?_, rest⟩
   rw [hu.block g (Array.getElem?_eq_some_iff.1 hgg).1 (by rw [h2 g rfl]; exact hm)]
   exact hgg
 ·rcases h1 with ⟨rfl, _⟩ | ⟨g', cap, cur, rfl, hb, hgg, rest⟩
  ·simp [Value.ownBlock] at hg
  ·simp [Value.ownBlock] at hg
   subst hg
   rw [hu.tags g' (Array.getElem?_eq_some_iff.1 hgg).1]
   exact h2 g' rfl
theorem CellsT.upd (h : CellsT own t w b vals e) (hu : Upd own own' may w w') (hm : ¬ may t) : CellsT own' t w' b vals e := by
 have hb := (Array.getElem?_eq_some_iff.1 h.1).1
 exact ⟨(hu.block b hb (by rw [h.2]; exact hm)).trans h.1, (hu.tags b hb).trans h.2⟩
theorem CellsT.lt (h : CellsT own t w b vals e) : b < w.heap.size := (Array.getElem?_eq_some_iff.1 h.1).1
theorem CellsT.cell (h : CellsT own t w b vals e) (k : Nat) : w.cell? ⟨b, k, none⟩ = vals[k]? := by simp [World.cell?, h.1]
theorem CellsT.frozen (h : CellsT own t w b vals e) (k : Nat) : w.frozen? ⟨b, k, none⟩ = false := by simp [World.frozen?, h.1]
theorem CellsT.set (h : CellsT own t w b vals e) (k : Nat) (u : Value) : CellsT own t (w.setCell ⟨b, k, none⟩ u) b (vals.setIfInBounds k u) e := by
 refine ⟨?_, h.2⟩
 simp [World.setCell, Array.getElem?_modify, h.1]
theorem CellsT.alloc (h : CellsT own t w b vals e) (o : Obj) : CellsT own t (w.alloc o) b vals e := ⟨(Below.heap_alloc _ _ _ h.lt).trans h.1, h.2⟩
theorem CellsT.drew (h : CellsT own t w b vals e) : CellsT own t w.drew b vals e := h
theorem CellsT.other (h : CellsT own t w b vals e) {p : Addr} (hp : p.block ≠ b) (u : Value) : CellsT own t (w.setCell p u) b vals e := ⟨(Below.heap_setCell _ _ _ _ (by omega)).trans h.1, h.2⟩
theorem CellsT.new (w : World) (vals : Array Value) (e : TypeId) (own : Nat → Tag) (t : Tag) : CellsT (retag own w.heap.size t) t (w.alloc (.cells vals e)) w.heap.size vals e :=
 ⟨heap_alloc_new w _, retag_ge (Nat.le_refl _)⟩
theorem OwnsT.alloc (h : OwnsT own t w e size v n xs) (o : Obj) : OwnsT own t (w.alloc o) e size v n xs := ⟨h.1.alloc o, h.2⟩
theorem OwnsT.nil (own : Nat → Tag) (t : Tag) (w : World) (e : TypeId) (size : Nat) : OwnsT own t w e size (.slice none 0 0) 0 [] := ⟨World.ownsRow_nil w 0 e size, fun g hg => by simp [Value.ownBlock] at hg⟩
theorem OwnsT.other (h : OwnsT own t w e size v n xs) {p : Addr} (hp : own p.block ≠ t) (u : Value) : OwnsT own t (w.setCell p u) e size v n xs :=
 OwnsT.upd (own' := own) (may := fun x => x = own p.block) h (Upd.setCell (p := p) (Upd.refl own (fun x => x = own p.block) w) (show own p.block = own p.block from rfl) u) (fun e => hp e.symm)
/-- What a row's value looks like. -/
theorem OwnsT.shape (h : OwnsT own t w e size v n xs) : ∃ a c, v = .slice a n c ∧ n ≤ c ∧ c ≤ maxLen := by
 rcases h.1.2 with ⟨rfl, rfl⟩ | ⟨g, cap, cur, rfl, _, _, h1, h2, _⟩
 ·exact ⟨none, 0, rfl, Nat.le_refl _, by simp [maxLen]⟩
 ·exact ⟨_, _, rfl, h1, h2⟩
end

/-- APPEND, of a row that owns its block: the new value's block is the old one's or a new one. -/
theorem run_append_T {P : Program} (w : World) (t ty e : TypeId) (i : TypeInfo) (z : Value) (size bytes : Nat) (ht : P.underlying t = some (.slice e)) (hi : P.info? e = some i) (hz : i.zero = some z)
  (hsize : i.size = size) (hby : i.bytes = bytes) (hzs : z.cells.size = size) (hsz : 0 < size)
  (v : Value) (n : Nat) (xs : List Value) (own : Nat → Tag) (tg : Tag) (hown : OwnsT own tg w e size v n xs)
  (a : Addr) (m c : Nat) (news : List Value) (hl : news.length = m * size) (hnews : ∀ j u, news[j]? = some u → w.cell? (a.add j) = some u) (h1 : ∀ u ∈ news, u.oneCell' = true)
  (h63 : n + m ≤ maxLen) (hbytes : (n + m) * bytes ≤ 140737488355328) :
  ∃ v' w', (Builtin.append_ #[t, t] ty #[v, .slice (some a) m c]).run P w = .ok v' w' ∧ OwnsT (retag own w.heap.size tg) tg w' e size v' (n + m) (xs ++ news) ∧ Upd own (retag own w.heap.size tg) (fun x => x = tg) w w' := by
 have key : ∃ v' w', (Builtin.append_ #[t, t] ty #[v, .slice (some a) m c]).run P w = .ok v' w' ∧ w'.ownsRow 0 e size v' (n + m) (xs ++ news) ∧ w.grownBy w' v.ownBlock ∧ ∀ g, v'.ownBlock = some g → v.ownBlock = some g ∨ w.heap.size ≤ g := by
  rcases hown.1.2 with ⟨rfl, rfl⟩ | ⟨g, cap, cur, rfl, hbg, hg, hnc, hcm, hcs, htake⟩
  ·have h0 : w.ownsRow w.heap.size e size (.slice none 0 0) 0 xs := ⟨hown.1.1, .inl ⟨rfl, rfl⟩⟩
   obtain ⟨v', w', hr, ho, hgr, _⟩ := run_append_own (P := P) w w.heap.size t ty e i z size bytes ht hi hz hsize hby hzs hsz _ 0 xs h0 a m c news hl hnews h1 h63 hbytes (Nat.le_refl _)
   exact ⟨v', w', hr, ⟨ho.1, ho.2.imp id fun ⟨g, cap, cur, hv, _, rest⟩ => ⟨g, cap, cur, hv, Nat.zero_le _, rest⟩⟩, hgr, fun g hg => .inr (ho.lt g hg).1⟩
  ·subst hsize
   by_cases hroom : n + m ≤ cap
   ·have hfit : n * i.size + news.length ≤ cur.size := by rw [hl, hcs, ← Nat.add_mul]; exact Nat.mul_le_mul_right _ hroom
    have hr := run_append_room (P := P) w t ty e i ht hi g n cap cur hg a m c news hl hnews h1 hroom hfit
    obtain ⟨v', w', hr', ho, hgr, _⟩ := run_append_own (P := P) w 0 t ty e i z i.size bytes ht hi hz rfl hby hzs hsz _ n xs hown.1 a m c news hl hnews h1 h63 hbytes (Nat.zero_le _)
    rw [hr] at hr'
    simp only [Result.ok.injEq] at hr'
    obtain ⟨rfl, rfl⟩ := hr'
    exact ⟨_, _, hr, ho, hgr, fun g' hg' => .inl (by simpa [Value.ownBlock] using hg')⟩
   ·have hr := run_append_grow (P := P) w t ty e i z ht hi hz ⟨g, 0, none⟩ n cap xs hown.1.1 (hown.1.cells (g := g) rfl) a m c news hl hnews (by omega) (by simp only [maxLen] at h63; omega) (by subst hby; exact growslice_fits (by omega) hbytes)
    obtain ⟨v', w', hr', ho, hgr, _⟩ := run_append_own (P := P) w 0 t ty e i z i.size bytes ht hi hz rfl hby hzs hsz _ n xs hown.1 a m c news hl hnews h1 h63 hbytes (Nat.zero_le _)
    rw [hr] at hr'
    simp only [Result.ok.injEq] at hr'
    obtain ⟨rfl, rfl⟩ := hr'
    exact ⟨_, _, hr, ho, hgr, fun g' hg' => .inr (by simp [Value.ownBlock] at hg'; omega)⟩
 obtain ⟨v', w', hr, ho, hgr, hf⟩ := key
 have hlt := hown.1.lt
 refine ⟨v', w', hr, ⟨ho, fun g hg => ?_⟩, ⟨hgr.os, hgr.tape, hgr.output, hgr.size, fun k hk hn => hgr.block k hk (fun e => hn (hown.2 k e.symm)), fun k hk => retag_lt hk⟩⟩
 rcases hf g hg with h' | h'
 ·rw [retag_lt (hlt g h').2]; exact hown.2 g h'
 ·exact retag_ge h'

theorem wpList_append_T {P : Program} (w : World) {ops : Array Oper} {rest : List Oper} {o : Oper} {a : Act} {Q : Exit → Act → World → Prop} (hgd : o.guard = none) (s x : Operand) (t : TypeId)
  (ho : o.op = .call { callee := .builtin .append, args := #[s, x], argTypes := #[t, t] })
  (e : TypeId) (i : TypeInfo) (z : Value) (size bytes : Nat) (ht : P.underlying t = some (.slice e)) (hi : P.info? e = some i) (hz : i.zero = some z)
  (hsize : i.size = size) (hby : i.bytes = bytes) (hzs : z.cells.size = size) (hsz : 0 < size)
  (v : Value) (n : Nat) (xs : List Value) (own : Nat → Tag) (tg : Tag) (hs : a.eval s = v) (hown : OwnsT own tg w e size v n xs)
  (ad : Addr) (m c : Nat) (news : List Value) (hx : a.eval x = .slice (some ad) m c) (hl : news.length = m * size) (hnews : ∀ j u, news[j]? = some u → w.cell? (ad.add j) = some u) (h1 : ∀ u ∈ news, u.oneCell' = true)
  (h63 : n + m ≤ maxLen) (hbytes : (n + m) * bytes ≤ 140737488355328)
  (h : ∀ v' w', OwnsT (retag own w.heap.size tg) tg w' e size v' (n + m) (xs ++ news) → Upd own (retag own w.heap.size tg) (fun x => x = tg) w w' → wpList P ops Q rest (a.put o.dst v') w') : wpList P ops Q (o :: rest) a w := by
 refine wpList_plain hgd fun _ hK => ?_
 obtain ⟨v', w', hr, h2, h3⟩ := run_append_T (P := P) w t o.type e i z size bytes ht hi hz hsize hby hzs hsz v n xs own tg hown ad m c news hl hnews h1 h63 hbytes
 unfold Oper.wp execOp
 simp only [ho, resolve, invoke, builtin, Sem.run_bind, Sem.run_pure, Result.andThen_ok, List.map_toArray, List.map_cons, List.map_nil, hs, hx, hr]
 exact hK _ _ (h v' w' h2 h3)

theorem OwnsT.drew {own : Nat → Tag} {w : World} {t : Tag} {e : TypeId} {size : Nat} {v : Value} {n : Nat} {xs : List Value} (h : OwnsT own t w e size v n xs) : OwnsT own t w.drew e size v n xs := h

/-- 'x.f = append(x.f, ..)': behind the append, the value is stored into the cell it came from. -/
theorem app_store {own own' : Nat → Tag} {t0 tg : Tag} {w w1 : World} {b k : Nat} {vals : Array Value} {T e : TypeId} {size n : Nat} {v : Value} {xs : List Value} {o : Obj}
  (hc : CellsT own t0 w b vals T) (hu : Upd own own' (fun x => x = tg) (w.alloc o).drew w1) (hne : t0 ≠ tg) (ho : OwnsT own' tg w1 e size v n xs) :
  CellsT own' t0 (w1.setCell ⟨b, k, none⟩ v) b (vals.setIfInBounds k v) T ∧ OwnsT own' tg (w1.setCell ⟨b, k, none⟩ v) e size v n xs ∧ Upd own own' (fun t => t = tg ∨ t = t0) w (w1.setCell ⟨b, k, none⟩ v) := by
 have c1 : CellsT own' t0 w1 b vals T := ((hc.alloc o).drew).upd hu hne
 refine ⟨c1.set k v, ho.other (p := ⟨b, k, none⟩) (by rw [c1.2]; exact hne) v, ?_⟩
 exact Upd.setCell (p := ⟨b, k, none⟩) ((((Upd.refl own _ w).alloc o).drew).trans (hu.mono (fun t ht => .inl ht))) (.inr c1.2) v

/-- A store into an element of a row (one cell an element). -/
theorem OwnsT.set {own : Nat → Tag} {w : World} {t : Tag} {e : TypeId} {g n cap i : Nat} {xs : List Value} (h : OwnsT own t w e 1 (.slice (some ⟨g, 0, none⟩) n cap) n xs) (u : Value) :
  OwnsT own t (w.setCell ⟨g, i, none⟩ u) e 1 (.slice (some ⟨g, 0, none⟩) n cap) n (xs.set i u) := by
 obtain ⟨⟨h0, h1⟩, h2⟩ := h
 refine ⟨⟨by simpa using h0, ?_⟩, h2⟩
 rcases h1 with ⟨h, _⟩ | ⟨g', cap', cur, hv, hb, hg, h3, h4, h5, h6⟩
 ·simp at h
 ·simp only [Value.slice.injEq, Option.some.injEq, Addr.mk.injEq, true_and, and_true] at hv
  obtain ⟨rfl, rfl⟩ := hv
  refine .inr ⟨g, cap, cur.setIfInBounds i u, rfl, hb, ?_, h3, h4, by simpa using h5, ?_⟩
  ·simp [World.setCell, Array.getElem?_modify, hg]
  ·rw [Array.toList_setIfInBounds, List.take_set, h6]
/-- An element of a row. -/
theorem OwnsT.get {own : Nat → Tag} {w : World} {t : Tag} {e : TypeId} {v : Value} {n i : Nat} {xs : List Value} {u : Value} (h : OwnsT own t w e 1 v n xs) (hu : xs[i]? = some u) :
  ∃ g cap, v = .slice (some ⟨g, 0, none⟩) n cap ∧ n ≤ cap ∧ cap ≤ maxLen ∧ w.cell? ⟨g, i, none⟩ = some u ∧ w.frozen? ⟨g, i, none⟩ = false ∧ own g = t ∧ g < w.heap.size := by
 have hi := (List.getElem?_eq_some_iff.1 hu).1
 have hl := h.1.1
 rcases h.1.2 with ⟨rfl, h0⟩ | ⟨g, cap, cur, rfl, hb, hg, h3, h4, h5, h6⟩
 ·omega
 ·have := h.1.cells (g := g) rfl i u hu
  rw [Addr.add_lit, Nat.zero_add] at this
  exact ⟨g, cap, rfl, h3, h4, this, by simp [World.frozen?, hg], h.2 g rfl, (Array.getElem?_eq_some_iff.1 hg).1⟩

end Go.Proofs.Ytemkgikncmhoaaa

namespace Go.Proofs.Ytemkgikncmhoaaa
open Go.RowKit

theorem take_snoc' (xs : List Int) (k : Nat) (h : k < xs.length) : xs.take (k + 1) = xs.take k ++ [xs.getD k 0] := by
 rw [List.take_succ_eq_append_getElem h]; simp [h]

set_option maxRecDepth 100000 in
set_option maxHeartbeats 400000 in
theorem checked_any (xs : List Int) (b c : Nat) (w : World) (hx : Bytes xs) (hn : xs.length ≤ 8) (hb : b < w.heap.size) (hc : ∀ j, j < xs.length → w.cell? ⟨b, j, none⟩ = some (.int .i64 (xs.getD j 0))) :
  Calls Try.prog 103 #[.slice (some ⟨b, 0, none⟩) xs.length c] w fun e w' => e = .returned (.string (ckd xs)) ∧ Below w.heap.size w w' := by
 obtain ⟨i, hi, hz0, hz1, hz2⟩ := info_parts Try.info5
 go_enter Try.func103, Try.ntmps103
 go_wp2
 go_loopw [3, 4, 5, 6] (fun s t v i wr => ∃ k : Nat, k ≤ xs.length ∧ i = .int .i64 k ∧ s = .int .i64 (sumTo xs k) ∧ t = .int .i64 (wsumTo xs k) ∧ Below w.heap.size w wr ∧ wr.ownsRow w.heap.size 5 1 v k ((xs.take k).map (Value.int .u8))) (fun _ _ _ i _ => xs.length - (intOf i).toNat)
 case atStart => exact ⟨0, Nat.zero_le _, rfl, rfl, rfl, Below.refl _ _, by simpa using World.ownsRow_nil _ _ _ _⟩
 case round =>
  obtain ⟨k, hk, rfl, rfl, rfl, hbel, hown⟩ := hrel
  by_cases hlt : k < xs.length
  ·have hck := hc k hlt
   have hcr := (hbel.cell (p := ⟨b, k, none⟩) hb).trans hck
   clear hck hc
   have hs1 := sumTo_bd xs hx k
   have hw1 := wsumTo_bd xs hx _ hn k hk
   have hm1 := mul_bd xs hx k (by omega)
   have hx1 := hx k
   have HT : Hid (xs.take (k + 1) = xs.take k ++ [xs.getD k 0]) := take_snoc' xs k hlt
   have HS : Hid (sumTo xs (k + 1) = sumTo xs k + xs.getD k 0) := rfl
   have HW : Hid (wsumTo xs (k + 1) = wsumTo xs k + ((k : Int) + 1) * xs.getD k 0) := rfl
   have hnl : xs.length < 9 := by omega
   generalize xs.getD k 0 = x at *
   generalize sumTo xs k = s at *
   generalize wsumTo xs k = t at *
   have hnews : ∀ j u, [Value.int .u8 x][j]? = some u → (wr.alloc (Obj.cells #[Value.int .u8 x] 5)).cell? (Addr.add ⟨wr.heap.size, 0, none⟩ j) = some u := by
    intro j u hu
    rw [Addr.add_lit]; simpa [World.cell?_alloc_new] using hu
   go_wp2_with (at_builtin; go_must (refine wpList_append_own _ rfl (.tmp 28) (.tmp 34) 89 rfl w.heap.size 5 i (.int .u8 0) 1 1 Try.underlying89 hi hz0 hz1 hz2 rfl (by decide) _ k _ rfl (hown.alloc _) _ 1 1 _ rfl (by simp) hnews (by intro u hu; simp at hu; subst hu; rfl) (by simp [maxLen]; omega) (by omega) (by have := hbel.size; simp; omega) ?_))
   intro v' w' hown' hgr _
   go_wp2
   go_roundw
   case rel =>
    refine ⟨k + 1, by omega, by go_num, by rw [HS.out], by rw [HW.out], ?_, ?_⟩
    ·exact (hbel.alloc hbel.size _).grown hgr (by have := hbel.size; simp; omega) (fun g hg => (hown.lt g hg).1)
    ·rw [HT.out]; simpa using hown'
   case measure => simp [intOf]; omega
  ·obtain rfl : k = xs.length := by omega
   have hs1 := sumTo_bd xs hx xs.length
   have hw1 := wsumTo_bd xs hx _ hn xs.length (Nat.le_refl _)
   have HF : Hid (ckd xs = ⟨(xs.map byteOf ++ [byteOf (sumTo xs xs.length % 251), byteOf (wsumTo xs xs.length % 251)]).toArray⟩) := rfl
   generalize sumTo xs xs.length = s at *
   generalize wsumTo xs xs.length = t at *
   rw [List.take_length] at hown
   have hnl : xs.length < 9 := by omega
   have hnews : ∀ j u, [Value.int .u8 (s % 251), Value.int .u8 (t % 251)][j]? = some u → (wr.alloc (Obj.cells #[Value.int .u8 (s % 251), Value.int .u8 (t % 251)] 5)).cell? (Addr.add ⟨wr.heap.size, 0, none⟩ j) = some u := by
    intro j u hu
    rw [Addr.add_lit]; simpa [World.cell?_alloc_new] using hu
   go_wp2_with (at_builtin; go_must (refine wpList_append_own _ rfl (.tmp 36) (.tmp 43) 89 rfl w.heap.size 5 i (.int .u8 0) 1 1 Try.underlying89 hi hz0 hz1 hz2 rfl (by decide) _ xs.length _ rfl (hown.alloc _) _ 2 2 _ rfl (by simp) hnews (by intro u hu; simp at hu; rcases hu with rfl | rfl <;> rfl) (by simp [maxLen]; omega) (by omega) (by have := hbel.size; simp; omega) ?_))
   intro v' w' hown' hgr _
   have hbel' : Below w.heap.size w w' := (hbel.alloc hbel.size _).grown hgr (by have := hbel.size; simp; omega) (fun g hg => (hown.lt g hg).1)
   clear hnews hgr hown hbel
   have hcv := run_string_own w' w.heap.size v' (xs.length + 2) (xs ++ [s % 251, t % 251]) (by simpa using hown')
   go_wp2
   go_ret
   refine ⟨?_, hbel'⟩
   rw [HF.out]; simp [strOf]

/-- .. of a list literal: its block is known whole. -/
theorem checked_lit (xs : List Int) (n b c : Nat) (w : World) (hl : xs.length = n) (hx : Bytes xs) (hn : n ≤ 8) (hb : w.heap[b]? = some (.cells (xs.map (Value.int .i64)).toArray 3 (0, 0))) :
  Calls Try.prog 103 #[.slice (some ⟨b, 0, none⟩) n c] w fun e w' => e = .returned (.string (ckd xs)) ∧ Below w.heap.size w w' := by
 subst hl
 refine checked_any xs b c w hx hn (Array.getElem?_eq_some_iff.1 hb).1 (fun j hj => ?_)
 simp [World.cell?, hb, hj]

end Go.Proofs.Ytemkgikncmhoaaa

namespace Go.Proofs.Ytemkgikncmhoaaa
open Go.RowKit

structure ROp where
 client : Int
 verb : Int
 place : Int
 letter : Int
structure RMsg where
 ctx : Nat
 forms : List ROp
structure REnd where
 rows : List RMsg
 taken : Nat
 known : Nat
 sent : Nat
 kept : List Nat
 out : List ByteArray
 spoilt : List Bool
structure RLine where
 a : REnd
 b : REnd
structure RRoom where
 window : Nat
 server : List UInt8
 texts : List (List UInt8)
 lines : List RLine

def ROp.cells (o : ROp) : List Value := [.int .i64 o.client, .int .i64 o.verb, .int .i64 o.place, .int .u8 o.letter]
def I (n : Nat) : Value := .int .i64 n

/-- A row of messages. -/
def RowsAt (own : Nat → Tag) (rid c s : Nat) (w : World) (r : Value) (ms : List RMsg) : Prop :=
 ∃ fs : List Value, fs.length = ms.length ∧ OwnsT own (rid, c, 1 + s) w 167 2 r ms.length ((List.zipWith (fun m f => [Value.int .i64 (m.ctx : Int), f]) ms fs).flatten) ∧
  ∀ i m f, ms[i]? = some m → fs[i]? = some f → OwnsT own (rid, c, 20 + 2 * i + s) w 149 4 f m.forms.length (m.forms.flatMap ROp.cells)
/-- An end's four rows. -/
def EndAt (own : Nat → Tag) (rid c s : Nat) (w : World) (r k o sp : Value) (E : REnd) : Prop :=
 RowsAt own rid c s w r E.rows ∧ OwnsT own (rid, c, 3 + s) w 3 1 k E.kept.length (E.kept.map I) ∧
  OwnsT own (rid, c, 5 + s) w 9 1 o E.out.length (E.out.map Value.string) ∧ OwnsT own (rid, c, 7 + s) w 4 1 sp E.spoilt.length (E.spoilt.map Value.bool)
def LineAt (own : Nat → Tag) (rid c : Nat) (w : World) (b : Nat) (L : RLine) : Prop :=
 ∃ r0 r1 k0 k1 o0 o1 s0 s1 : Value, CellsT own (rid, c, 0) w b #[r0, r1, .int .i64 L.a.taken, .int .i64 L.b.taken, .int .i64 L.a.known, .int .i64 L.b.known, .int .i64 L.a.sent, .int .i64 L.b.sent, k0, k1, o0, o1, s0, s1] 122 ∧
  EndAt own rid c 0 w r0 k0 o0 s0 L.a ∧ EndAt own rid c 1 w r1 k1 o1 s1 L.b
/-- The tags of a line. -/
def inLine (rid c : Nat) (t : Tag) : Prop := t.1 = rid ∧ t.2.1 = c

section
variable {own own' : Nat → Tag} {may : Tag → Prop} {w w' : World} {rid c s b : Nat} {r k o sp : Value} {ms : List RMsg} {E : REnd} {L : RLine}
theorem RowsAt.upd (h : RowsAt own rid c s w r ms) (hu : Upd own own' may w w') (h1 : ¬ may (rid, c, 1 + s)) (h2 : ∀ i, ¬ may (rid, c, 20 + 2 * i + s)) : RowsAt own' rid c s w' r ms := by
 obtain ⟨fs, hl, ho, hf⟩ := h
 exact ⟨fs, hl, ho.upd hu h1, fun i m f hm hff => (hf i m f hm hff).upd hu (h2 i)⟩
theorem LineAt.upd (h : LineAt own rid c w b L) (hu : Upd own own' may w w') (hm : ∀ k, ¬ may (rid, c, k)) : LineAt own' rid c w' b L := by
 obtain ⟨r0, r1, k0, k1, o0, o1, s0, s1, hc, ⟨a1, a2, a3, a4⟩, ⟨b1, b2, b3, b4⟩⟩ := h
 exact ⟨r0, r1, k0, k1, o0, o1, s0, s1, hc.upd hu (hm _), ⟨a1.upd hu (hm _) (fun _ => hm _), a2.upd hu (hm _), a3.upd hu (hm _), a4.upd hu (hm _)⟩, ⟨b1.upd hu (hm _) (fun _ => hm _), b2.upd hu (hm _), b3.upd hu (hm _), b4.upd hu (hm _)⟩⟩
end

theorem LineAt.lt {own : Nat → Tag} {rid c b : Nat} {w : World} {L : RLine} (h : LineAt own rid c w b L) : b < w.heap.size ∧ own b = (rid, c, 0) := by
 obtain ⟨r0, r1, k0, k1, o0, o1, s0, s1, hc, _⟩ := h
 exact ⟨hc.lt, hc.2⟩
theorem LineAt.cells {own : Nat → Tag} {rid c b : Nat} {w : World} {L : RLine} (h : LineAt own rid c w b L) : w.cell? ⟨b, 2, none⟩ = some (.int .i64 L.a.taken) ∧ w.cell? ⟨b, 3, none⟩ = some (.int .i64 L.b.taken) ∧
  w.cell? ⟨b, 4, none⟩ = some (.int .i64 L.a.known) ∧ w.cell? ⟨b, 5, none⟩ = some (.int .i64 L.b.known) ∧ w.cell? ⟨b, 6, none⟩ = some (.int .i64 L.a.sent) ∧ w.cell? ⟨b, 7, none⟩ = some (.int .i64 L.b.sent) ∧ ∀ k, w.frozen? ⟨b, k, none⟩ = false := by
 obtain ⟨r0, r1, k0, k1, o0, o1, s0, s1, hc, _⟩ := h
 refine ⟨?_, ?_, ?_, ?_, ?_, ?_, hc.frozen⟩ <;> (rw [hc.cell]; rfl)
/-- The numbers of a line are cells of its block. -/
theorem LineAt.set2 {own : Nat → Tag} {rid c b : Nat} {w : World} {L : RLine} (h : LineAt own rid c w b L) (n : Nat) :
  LineAt own rid c (w.setCell ⟨b, 2, none⟩ (.int .i64 n)) b { L with a := { L.a with taken := n } } ∧ Upd own own (inLine rid c) w (w.setCell ⟨b, 2, none⟩ (.int .i64 n)) := by
 obtain ⟨r0, r1, k0, k1, o0, o1, s0, s1, hc, ⟨a1, a2, a3, a4⟩, ⟨b1, b2, b3, b4⟩⟩ := h
 have U : Upd own own (fun t => t = (rid, c, 0)) w (w.setCell ⟨b, 2, none⟩ (.int .i64 n)) := Upd.setCell (p := ⟨b, 2, none⟩) (Upd.refl own _ w) hc.2 _
 refine ⟨⟨r0, r1, k0, k1, o0, o1, s0, s1, hc.set 2 _, ⟨a1.upd U (by simp) (by simp), a2.upd U (by simp), a3.upd U (by simp), a4.upd U (by simp)⟩, ⟨b1.upd U (by simp) (by simp), b2.upd U (by simp), b3.upd U (by simp), b4.upd U (by simp)⟩⟩, U.mono (by rintro t rfl; exact ⟨rfl, rfl⟩)⟩
theorem LineAt.set3 {own : Nat → Tag} {rid c b : Nat} {w : World} {L : RLine} (h : LineAt own rid c w b L) (n : Nat) :
  LineAt own rid c (w.setCell ⟨b, 3, none⟩ (.int .i64 n)) b { L with b := { L.b with taken := n } } ∧ Upd own own (inLine rid c) w (w.setCell ⟨b, 3, none⟩ (.int .i64 n)) := by
 obtain ⟨r0, r1, k0, k1, o0, o1, s0, s1, hc, ⟨a1, a2, a3, a4⟩, ⟨b1, b2, b3, b4⟩⟩ := h
 have U : Upd own own (fun t => t = (rid, c, 0)) w (w.setCell ⟨b, 3, none⟩ (.int .i64 n)) := Upd.setCell (p := ⟨b, 3, none⟩) (Upd.refl own _ w) hc.2 _
 refine ⟨⟨r0, r1, k0, k1, o0, o1, s0, s1, hc.set 3 _, ⟨a1.upd U (by simp) (by simp), a2.upd U (by simp), a3.upd U (by simp), a4.upd U (by simp)⟩, ⟨b1.upd U (by simp) (by simp), b2.upd U (by simp), b3.upd U (by simp), b4.upd U (by simp)⟩⟩, U.mono (by rintro t rfl; exact ⟨rfl, rfl⟩)⟩
theorem LineAt.set4 {own : Nat → Tag} {rid c b : Nat} {w : World} {L : RLine} (h : LineAt own rid c w b L) (n : Nat) :
  LineAt own rid c (w.setCell ⟨b, 4, none⟩ (.int .i64 n)) b { L with a := { L.a with known := n } } ∧ Upd own own (inLine rid c) w (w.setCell ⟨b, 4, none⟩ (.int .i64 n)) := by
 obtain ⟨r0, r1, k0, k1, o0, o1, s0, s1, hc, ⟨a1, a2, a3, a4⟩, ⟨b1, b2, b3, b4⟩⟩ := h
 have U : Upd own own (fun t => t = (rid, c, 0)) w (w.setCell ⟨b, 4, none⟩ (.int .i64 n)) := Upd.setCell (p := ⟨b, 4, none⟩) (Upd.refl own _ w) hc.2 _
 refine ⟨⟨r0, r1, k0, k1, o0, o1, s0, s1, hc.set 4 _, ⟨a1.upd U (by simp) (by simp), a2.upd U (by simp), a3.upd U (by simp), a4.upd U (by simp)⟩, ⟨b1.upd U (by simp) (by simp), b2.upd U (by simp), b3.upd U (by simp), b4.upd U (by simp)⟩⟩, U.mono (by rintro t rfl; exact ⟨rfl, rfl⟩)⟩
theorem LineAt.set5 {own : Nat → Tag} {rid c b : Nat} {w : World} {L : RLine} (h : LineAt own rid c w b L) (n : Nat) :
  LineAt own rid c (w.setCell ⟨b, 5, none⟩ (.int .i64 n)) b { L with b := { L.b with known := n } } ∧ Upd own own (inLine rid c) w (w.setCell ⟨b, 5, none⟩ (.int .i64 n)) := by
 obtain ⟨r0, r1, k0, k1, o0, o1, s0, s1, hc, ⟨a1, a2, a3, a4⟩, ⟨b1, b2, b3, b4⟩⟩ := h
 have U : Upd own own (fun t => t = (rid, c, 0)) w (w.setCell ⟨b, 5, none⟩ (.int .i64 n)) := Upd.setCell (p := ⟨b, 5, none⟩) (Upd.refl own _ w) hc.2 _
 refine ⟨⟨r0, r1, k0, k1, o0, o1, s0, s1, hc.set 5 _, ⟨a1.upd U (by simp) (by simp), a2.upd U (by simp), a3.upd U (by simp), a4.upd U (by simp)⟩, ⟨b1.upd U (by simp) (by simp), b2.upd U (by simp), b3.upd U (by simp), b4.upd U (by simp)⟩⟩, U.mono (by rintro t rfl; exact ⟨rfl, rfl⟩)⟩
theorem LineAt.set6 {own : Nat → Tag} {rid c b : Nat} {w : World} {L : RLine} (h : LineAt own rid c w b L) (n : Nat) :
  LineAt own rid c (w.setCell ⟨b, 6, none⟩ (.int .i64 n)) b { L with a := { L.a with sent := n } } ∧ Upd own own (inLine rid c) w (w.setCell ⟨b, 6, none⟩ (.int .i64 n)) := by
 obtain ⟨r0, r1, k0, k1, o0, o1, s0, s1, hc, ⟨a1, a2, a3, a4⟩, ⟨b1, b2, b3, b4⟩⟩ := h
 have U : Upd own own (fun t => t = (rid, c, 0)) w (w.setCell ⟨b, 6, none⟩ (.int .i64 n)) := Upd.setCell (p := ⟨b, 6, none⟩) (Upd.refl own _ w) hc.2 _
 refine ⟨⟨r0, r1, k0, k1, o0, o1, s0, s1, hc.set 6 _, ⟨a1.upd U (by simp) (by simp), a2.upd U (by simp), a3.upd U (by simp), a4.upd U (by simp)⟩, ⟨b1.upd U (by simp) (by simp), b2.upd U (by simp), b3.upd U (by simp), b4.upd U (by simp)⟩⟩, U.mono (by rintro t rfl; exact ⟨rfl, rfl⟩)⟩
theorem LineAt.set7 {own : Nat → Tag} {rid c b : Nat} {w : World} {L : RLine} (h : LineAt own rid c w b L) (n : Nat) :
  LineAt own rid c (w.setCell ⟨b, 7, none⟩ (.int .i64 n)) b { L with b := { L.b with sent := n } } ∧ Upd own own (inLine rid c) w (w.setCell ⟨b, 7, none⟩ (.int .i64 n)) := by
 obtain ⟨r0, r1, k0, k1, o0, o1, s0, s1, hc, ⟨a1, a2, a3, a4⟩, ⟨b1, b2, b3, b4⟩⟩ := h
 have U : Upd own own (fun t => t = (rid, c, 0)) w (w.setCell ⟨b, 7, none⟩ (.int .i64 n)) := Upd.setCell (p := ⟨b, 7, none⟩) (Upd.refl own _ w) hc.2 _
 refine ⟨⟨r0, r1, k0, k1, o0, o1, s0, s1, hc.set 7 _, ⟨a1.upd U (by simp) (by simp), a2.upd U (by simp), a3.upd U (by simp), a4.upd U (by simp)⟩, ⟨b1.upd U (by simp) (by simp), b2.upd U (by simp), b3.upd U (by simp), b4.upd U (by simp)⟩⟩, U.mono (by rintro t rfl; exact ⟨rfl, rfl⟩)⟩

def bstr (t : List UInt8) : Value := .string ⟨t.toArray⟩
def ptr (b : Nat) : Value := .pointer (some ⟨b, 0, none⟩)
def RoomY (own : Nat → Tag) (rid : Nat) (w : World) (b : Nat) (R : RRoom) : Prop :=
 ∃ (tx lx : Value) (bs : List Nat), CellsT own (rid, 100, 0) w b #[.int .i64 R.window, bstr R.server, tx, lx] 106 ∧ OwnsT own (rid, 100, 1) w 9 1 tx R.texts.length (R.texts.map bstr) ∧
  OwnsT own (rid, 100, 2) w 113 1 lx R.texts.length (bs.map ptr) ∧ bs.length = R.texts.length ∧ R.lines.length = R.texts.length ∧ R.texts.length ≤ 4 ∧
  ∀ i L bb, R.lines[i]? = some L → bs[i]? = some bb → LineAt own rid i w bb L
def inRoom (rid : Nat) (t : Tag) : Prop := t.1 = rid
theorem RoomY.upd {own own' : Nat → Tag} {may : Tag → Prop} {w w' : World} {rid b : Nat} {R : RRoom} (h : RoomY own rid w b R) (hu : Upd own own' may w w') (hm : ∀ i k, ¬ may (rid, i, k)) : RoomY own' rid w' b R := by
 obtain ⟨tx, lx, bs, hc, ht, hl, h1, h2, h3, h4⟩ := h
 exact ⟨tx, lx, bs, hc.upd hu (hm _ _), ht.upd hu (hm _ _), hl.upd hu (hm _ _), h1, h2, h3, fun i L bb hL hb => (h4 i L bb hL hb).upd hu (fun _ => hm _ _)⟩

/-! ### What the functions come to -/
def REnd.fly (E : REnd) (s : ByteArray) : REnd := if E.out.length < 12 then { E with out := E.out ++ [s], spoilt := E.spoilt ++ [false] } else E
def RMsg.first (m : RMsg) : ROp := m.forms.headD ⟨0, 0, 0, 0⟩
def msgBytes (n : Nat) (m : RMsg) (taken : Nat) : List Int := [1, n, m.ctx, taken, m.first.client, m.first.verb, m.first.place, m.first.letter]
/-- Sending message n, once. -/
def REnd.send1 (E : REnd) (n : Nat) : REnd :=
 let E' := E.fly (ckd (msgBytes n (E.rows.getD (n - 1) ⟨0, []⟩) E.taken))
 if E'.sent < n then { E' with sent := n } else E'
/-- Sending k messages from 'from' on. -/
def REnd.sendN (E : REnd) (m : Nat) : Nat → REnd
 | 0 => E
 | k + 1 => (E.sendN m k).send1 (m + k)
def REnd.may (E : REnd) (window : Nat) : Nat := min (E.known + window) E.rows.length
def REnd.make (E : REnd) (a : ROp) (window : Nat) : REnd :=
 let E' : REnd := { E with rows := E.rows ++ [(⟨E.taken, [a]⟩ : RMsg)] }
 E'.sendN (E'.sent + 1) (E'.may window - E'.sent)
end Go.Proofs.Ytemkgikncmhoaaa

namespace Go.Proofs.Ytemkgikncmhoaaa
open Go.RowKit

theorem heap_alloc_two (w : World) (o o' : Obj) : ((w.alloc o).alloc o').heap[w.heap.size + 1]? = some o' := by
 have h := heap_alloc_new (w.alloc o) o'
 rw [World.size_alloc] at h
 exact h

/-- A row of bytes, as a string of any string type. -/
theorem run_string_at (w : World) (T : TypeId) (hT : Try.prog.underlying T = some .string) (a : Addr) (n cap : Nat) (ns : List Int) (hl : ns.length = n) (h : ∀ j u, (ns.map (Value.int .u8))[j]? = some u → w.cell? (a.add j) = some u) :
  (convert 89 T (.slice (some a) n cap)).run Try.prog w = .ok (.string (strOf ns)) w := by
 rw [run_convert_bytes_string w _ _ 5 _ n cap Try.underlying89 Try.underlying5 hT]
 rw [run_bytesToString w a n cap ns ?_, foldl_push]
 ·simp [strOf]
 ·have := run_firstCells_some (P := Try.prog) w 1 n a n cap (ns.map (Value.int .u8)) (by simp [hl]) h
  simpa [Builtin.firstCells] using this

set_option maxRecDepth 100000 in
set_option maxHeartbeats 800000 in
theorem checkOf_any (xs : List Int) (n b c : Nat) (w : World) (hln : xs.length = n) (hx : Bytes xs) (hn : n ≤ 8) (hc : ∀ j, j < xs.length → w.cell? ⟨b, j, none⟩ = some (.int .u8 (xs.getD j 0))) :
  Calls Try.prog 99 #[.slice (some ⟨b, 0, none⟩) n c] w fun e w' => e = .returned (.agg #[.int .u8 (sumTo xs xs.length % 251), .int .u8 (wsumTo xs xs.length % 251)]) ∧ Below w.heap.size w w' := by
 subst hln
 have HC := hide hc
 clear hc
 obtain ⟨r1, HR1⟩ : ∃ r, Hid (r = sumTo xs xs.length) := ⟨_, rfl⟩
 obtain ⟨r2, HR2⟩ : ∃ r, Hid (r = wsumTo xs xs.length) := ⟨_, rfl⟩
 rw [← HR1.out, ← HR2.out]
 go_enter Try.func99, Try.ntmps99
 go_wp2
 go_loop [3, 4, 9] (fun s t i => ∃ k : Nat, k ≤ xs.length ∧ i = .int .i64 k ∧ s = .int .i64 (sumTo xs k) ∧ t = .int .i64 (wsumTo xs k)) (fun _ _ i => xs.length - (intOf i).toNat)
 case atStart => exact ⟨0, Nat.zero_le _, rfl, rfl, rfl⟩
 case round =>
  obtain ⟨k, hk, rfl, rfl, rfl⟩ := hrel
  by_cases hlt : k < xs.length
  ·have hck := unhide HC k hlt
   have hs1 := sumTo_bd xs hx k
   have hw1 := wsumTo_bd xs hx _ hn k hk
   have hm1 := mul_bd xs hx k (by omega)
   have hx1 := hx k
   have HS : Hid (sumTo xs (k + 1) = sumTo xs k + xs.getD k 0) := rfl
   have HW : Hid (wsumTo xs (k + 1) = wsumTo xs k + ((k : Int) + 1) * xs.getD k 0) := rfl
   have hnl : xs.length < 9 := by omega
   have hck2 : ∀ o, (w.alloc o).cell? ⟨b, k, none⟩ = some (.int .u8 (xs.getD k 0)) := fun o => by rw [World.cell?_alloc_lt _ _ _ (World.block_lt_of_cell? w _ hck)]; exact hck
   generalize xs.getD k 0 = x at *
   generalize sumTo xs k = s at *
   generalize wsumTo xs k = t at *
   go_wp2
   go_round
   case rel => exact ⟨k + 1, by omega, by go_num, by rw [HS.out], by rw [HW.out]⟩
   case measure => simp [intOf]; omega
  ·obtain rfl : k = xs.length := by omega
   have hs1 := sumTo_bd xs hx xs.length
   have hw1 := wsumTo_bd xs hx _ hn xs.length (Nat.le_refl _)
   generalize sumTo xs xs.length = s at *
   generalize wsumTo xs xs.length = t at *
   have hnl : xs.length < 9 := by omega
   go_wp2
   go_returns
   rw [HR1.out, HR2.out]
   exact ⟨rfl, (Below.refl _ _).alloc (Nat.le_refl _) _⟩

set_option maxRecDepth 100000 in
set_option maxHeartbeats 800000 in
theorem write_any (xs : List Int) (n b c : Nat) (w : World) (hln : xs.length = n) (hx : Bytes xs) (hn : n ≤ 8) (hb : w.heap[b]? = some (.cells (xs.map (Value.int .u8)).toArray 5 (0, 0))) :
  Calls Try.prog 83 #[.slice (some ⟨b, 0, none⟩) n c] w fun e w' => e = .returned (.string (ckd xs)) ∧ Below w.heap.size w w' := by
 subst hln
 have hbl : b < w.heap.size := (Array.getElem?_eq_some_iff.1 hb).1
 have hc : ∀ j, j < xs.length → w.cell? ⟨b, j, none⟩ = some (.int .u8 (xs.getD j 0)) := fun j hj => by simp [World.cell?, hb, hj]
 have HCK := hide fun w' hc' => checkOf_any xs xs.length b c w' rfl hx hn hc'
 have HC := hide hc
 have HF : Hid (ckd xs = ⟨(xs.map byteOf ++ [byteOf (sumTo xs xs.length % 251), byteOf (wsumTo xs xs.length % 251)]).toArray⟩) := rfl
 have hs1 := sumTo_bd xs hx xs.length
 have hw1 := wsumTo_bd xs hx _ hn xs.length (Nat.le_refl _)
 clear hc
 go_enter Try.func83, Try.ntmps83
 go_wp2_with (first | (go_at_call 99; refine (unhide HCK _ (unhide HC)).mono ?_; rintro e w1 ⟨rfl, hb1⟩))
 generalize sumTo xs xs.length % 251 = s at *
 generalize wsumTo xs xs.length % 251 = t at *
 have hcw : ∀ j u, (xs.map (Value.int .u8))[j]? = some u → (w1.alloc (Obj.cells #[Value.int IntKind.u8 s, Value.int IntKind.u8 t] 161)).drew.cell? (Addr.add ⟨b, 0, none⟩ j) = some u := by
  intro j u hu
  have h1 : w.cell? ⟨b, j, none⟩ = some u := by simp [World.cell?, hb]; simpa using hu
  have h2 : w1.cell? ⟨b, j, none⟩ = some u := (hb1.cell hbl).trans h1
  rw [Addr.add_lit, Nat.zero_add]
  exact (World.cell?_alloc_lt _ _ _ (World.block_lt_of_cell? w1 _ h2)).trans h2
 have hcv1 := run_string_at _ 131 Try.underlying131 ⟨b, 0, none⟩ xs.length c xs rfl hcw
 have hcv2 := run_string_at (w1.alloc (Obj.cells #[Value.int IntKind.u8 s, Value.int IntKind.u8 t] 161)).drew 131 Try.underlying131 ⟨w1.heap.size, 0, none⟩ 2 2 [s, t] rfl (by
  intro j u hu
  rw [Addr.add_lit, Nat.zero_add]
  exact (World.cell?_alloc_new _ _ _ _).trans (by simpa using hu))
 have HB := hide ((hb1.alloc hb1.size (Obj.cells #[Value.int IntKind.u8 s, Value.int IntKind.u8 t] 161)))
 clear hcw hb1 hb
 simp only [strOf] at hcv1 hcv2
 go_region
 all_goals
  go_wp2
  go_ret
  refine ⟨?_, (unhide HB).drew⟩
  rw [HF.out]
  refine congrArg (fun s => Ending.returned (Value.string s)) ?_
  apply ByteArray.ext
  apply Array.ext'
  simp
set_option maxRecDepth 100000 in
set_option maxHeartbeats 800000 in
theorem datagram_any (n ctx cl kd pl lt taken : Int) (w : World) (hx : Bytes [1, n, ctx, taken, cl, kd, pl, lt]) :
  Calls Try.prog 82 #[.agg #[.int .i64 n, .int .i64 ctx, .int .i64 cl, .int .i64 kd, .int .i64 pl, .int .u8 lt], .int .i64 taken] w fun e w' => e = .returned (.string (ckd [1, n, ctx, taken, cl, kd, pl, lt])) ∧ Below w.heap.size w w' := by
 have x1 := hx 1
 have x2 := hx 2
 have x3 := hx 3
 have x4 := hx 4
 have x5 := hx 5
 have x6 := hx 6
 have x7 := hx 7
 simp only [List.getD_cons_succ, List.getD_cons_zero] at x1 x2 x3 x4 x5 x6 x7
 go_enter Try.func82, Try.ntmps82
 go_wp2_with fail
 refine (write_any [1, n, ctx, taken, cl, kd, pl, lt] 8 _ _ _ rfl hx (by decide) ?_).mono ?_
 ·exact heap_alloc_two _ _ _
 rintro e w3 ⟨rfl, hb3⟩
 go_wp2
 go_ret
 refine ⟨rfl, ((((Below.refl _ _).alloc (Nat.le_refl _) _).alloc (by simp) _).trans (hb3.mono (by simp; omega)))⟩

set_option maxRecDepth 100000 in
set_option maxHeartbeats 800000 in
theorem word_any (taken : Nat) (w : World) (ht : taken ≤ 255) :
  Calls Try.prog 70 #[.int .i64 taken] w fun e w' => e = .returned (.string (ckd [2, (taken : Int)])) ∧ Below w.heap.size w w' := by
 have hx : Bytes [2, (taken : Int)] := by
  intro q
  match q with
  | 0 | 1 => refine ⟨?_, ?_⟩ <;> simp <;> omega
  | q + 2 => simp
 have x1 : (0 : Int) ≤ (taken : Int) ∧ (taken : Int) ≤ 255 := ⟨by omega, by omega⟩
 go_enter Try.func70, Try.ntmps70
 go_wp2_with fail
 refine (write_any [2, (taken : Int)] 2 _ _ _ rfl hx (by decide) ?_).mono ?_
 ·exact heap_alloc_new _ _
 rintro e w3 ⟨rfl, hb3⟩
 go_wp2
 go_ret
 refine ⟨rfl, (((Below.refl _ _).alloc (Nat.le_refl _) _).trans (hb3.mono (by simp)))⟩
end Go.Proofs.Ytemkgikncmhoaaa

