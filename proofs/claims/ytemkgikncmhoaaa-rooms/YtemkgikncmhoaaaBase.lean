/-
  Laws for slices that the call itself made: reading a byte row as a string, append with the new value's block told, frames by tags. Own work.
-/
import Derived.Test.YtemkgikncmhoaaaChecked
import Derived.Test.YtemkgikncmhoaaaPure
import Derived.WalkKit
import Derived.WalkSpells
import Derived.WalkLawsBesides
import Derived.Handy
import Derived.Deep.DeepMust
namespace Go.Proofs.Ytemkgikncmhoaaa
open Go.RowKit

theorem Try.info5 : (Try.prog.info? 5).map (fun i => (i.zero, i.size, i.bytes)) = some (some (.int .u8 0), 1, 1) := by kernel_rfl

def strOf (ns : List Int) : ByteArray := ⟨(ns.map byteOf).toArray⟩

theorem foldl_push (ns : List Int) : ∀ r : ByteArray, ns.foldl (fun r n => r.push (UInt8.ofNat n.toNat)) r = ⟨r.data ++ (ns.map byteOf).toArray⟩ := by
  induction ns with
  | nil => intro r; simp
  | cons n ns ih =>
    intro r
    rw [List.foldl_cons, ih]
    apply congrArg ByteArray.mk
    apply Array.ext'
    simp [ByteArray.push, byteOf]

/-- 'string(b)' of a row of bytes, nil too. -/
theorem run_string_own (w : World) (base : Nat) (v : Value) (n : Nat) (ns : List Int) (h : w.ownsRow base 5 1 v n (ns.map (Value.int .u8))) :
    (convert 89 9 v).run Try.prog w = .ok (.string (strOf ns)) w := by
  have hl : ns.length = n := by simpa using h.1
  rcases h.2 with ⟨rfl, h0⟩ | ⟨g, cap, cur, rfl, hb, hg, hnc, hcm, hcs, htake⟩
  · subst h0
    obtain rfl : ns = [] := List.eq_nil_of_length_eq_zero hl
    rw [run_convert_bytes_string w _ _ 5 none 0 0 Try.underlying89 Try.underlying5 Try.underlying9]
    simp [Conv.bytesToString, strOf, Sem.run_pure]
    try rfl
  · rw [run_convert_bytes_string w _ _ 5 _ n cap Try.underlying89 Try.underlying5 Try.underlying9]
    rw [run_bytesToString w ⟨g, 0, none⟩ n cap ns ?_, foldl_push]
    · simp [strOf]
    · have := run_firstCells_some (P := Try.prog) w 1 n ⟨g, 0, none⟩ n cap (ns.map (Value.int .u8)) (by simp [hl]) (h.cells (g := g) rfl)
      simpa [Builtin.firstCells] using this

/-! ### Tags: a ghost colour for each block. Blocks of different tags are different blocks; a call turns blocks of some tags alone. -/
abbrev Tag := Nat × Nat × Nat
def retag (own : Nat → Tag) (n : Nat) (t : Tag) : Nat → Tag := fun k => if k < n then own k else t
theorem retag_lt {own : Nat → Tag} {n k : Nat} {t : Tag} (h : k < n) : retag own n t k = own k := if_pos h
theorem retag_ge {own : Nat → Tag} {n k : Nat} {t : Tag} (h : n ≤ k) : retag own n t k = t := if_neg (by omega)

structure Upd (own own' : Nat → Tag) (may : Tag → Prop) (w w' : World) : Prop where
  os : w'.os = w.os
  tape : w'.tape = w.tape
  output : w'.output = w.output
  size : w.heap.size ≤ w'.heap.size
  block : ∀ k, k < w.heap.size → ¬ may (own k) → w'.heap[k]? = w.heap[k]?
  tags : ∀ k, k < w.heap.size → own' k = own k

section
variable {own own' own'' : Nat → Tag} {may : Tag → Prop} {w w' w'' : World}
theorem Upd.refl (own : Nat → Tag) (may : Tag → Prop) (w : World) : Upd own own may w w := ⟨rfl, rfl, rfl, Nat.le_refl _, fun _ _ _ => rfl, fun _ _ => rfl⟩
theorem Upd.trans (h : Upd own own' may w w') (k : Upd own' own'' may w' w'') : Upd own own'' may w w'' :=
  ⟨k.os.trans h.os, k.tape.trans h.tape, k.output.trans h.output, Nat.le_trans h.size k.size,
    fun i hi hm => (k.block i (Nat.lt_of_lt_of_le hi h.size) (by rw [h.tags i hi]; exact hm)).trans (h.block i hi hm),
    fun i hi => (k.tags i (Nat.lt_of_lt_of_le hi h.size)).trans (h.tags i hi)⟩
theorem Upd.mono {may' : Tag → Prop} (h : Upd own own' may w w') (hm : ∀ t, may t → may' t) : Upd own own' may' w w' :=
  ⟨h.os, h.tape, h.output, h.size, fun i hi hn => h.block i hi (fun hk => hn (hm _ hk)), h.tags⟩
theorem Upd.drew (h : Upd own own' may w w') : Upd own own' may w w'.drew := ⟨h.os, h.tape, h.output, h.size, h.block, h.tags⟩
theorem Upd.alloc (h : Upd own own' may w w') (o : Obj) : Upd own own' may w (w'.alloc o) :=
  ⟨h.os, h.tape, h.output, by have := h.size; simp; omega, fun k hk hn => (Below.heap_alloc _ _ _ (Nat.lt_of_lt_of_le hk h.size)).trans (h.block k hk hn), h.tags⟩
theorem Upd.setCell (h : Upd own own' may w w') {p : Addr} (hp : may (own' p.block)) (u : Value) : Upd own own' may w (w'.setCell p u) :=
  ⟨h.os, h.tape, h.output, by have := h.size; simpa [World.setCell] using this, fun k hk hn => (Below.heap_setCell _ _ _ _ (fun e => hn (by rw [← h.tags k hk, e]; exact hp))).trans (h.block k hk hn), h.tags⟩
/-- New blocks may be tagged at will. -/
theorem Upd.retag (h : Upd own own' may w w') (n : Nat) (t : Tag) (hn : w.heap.size ≤ n) : Upd own (retag own' n t) may w w' :=
  ⟨h.os, h.tape, h.output, h.size, h.block, fun k hk => (retag_lt (Nat.lt_of_lt_of_le hk hn)).trans (h.tags k hk)⟩
theorem Upd.below (h : Upd own own' may w w') {B : Nat} (hB : B ≤ w.heap.size) (hm : ∀ k, k < B → ¬ may (own k)) : Below B w w' :=
  ⟨h.os, h.tape, h.output, h.size, fun k hk => h.block k (Nat.lt_of_lt_of_le hk hB) (hm k hk)⟩
/-- Nothing old has turned. -/
theorem Upd.of_below (own : Nat → Tag) (may : Tag → Prop) (h : Below w.heap.size w w') : Upd own own may w w' :=
  ⟨h.os, h.tape, h.output, h.size, fun k hk _ => h.block k hk, fun _ _ => rfl⟩
theorem Upd.cell (h : Upd own own' may w w') {p : Addr} {v : Value} (hc : w.cell? p = some v) (hm : ¬ may (own p.block)) : w'.cell? p = some v :=
  (World.cell?_of_block (h.block p.block (World.block_lt_of_cell? w p hc) hm)).trans hc
theorem Upd.frozen (h : Upd own own' may w w') {p : Addr} (hl : p.block < w.heap.size) (hm : ¬ may (own p.block)) (hf : w.frozen? p = false) : w'.frozen? p = false :=
  (World.frozen?_of_block (h.block p.block hl hm)).trans hf
end

/-- A slice that owns its block, of a tag. -/
def OwnsT (own : Nat → Tag) (t : Tag) (w : World) (e : TypeId) (size : Nat) (v : Value) (n : Nat) (xs : List Value) : Prop :=
  w.ownsRow 0 e size v n xs ∧ ∀ g, v.ownBlock = some g → own g = t
/-- A block of cells, of a tag. -/
def CellsT (own : Nat → Tag) (t : Tag) (w : World) (b : Nat) (vals : Array Value) (e : TypeId) : Prop := w.heap[b]? = some (.cells vals e (0, 0)) ∧ own b = t

section
variable {own own' : Nat → Tag} {may : Tag → Prop} {w w' : World} {t : Tag} {e : TypeId} {size : Nat} {v : Value} {n : Nat} {xs : List Value} {b : Nat} {vals : Array Value}
theorem OwnsT.upd (h : OwnsT own t w e size v n xs) (hu : Upd own own' may w w') (hm : ¬ may t) : OwnsT own' t w' e size v n xs := by
  obtain ⟨⟨h0, h1⟩, h2⟩ := h
  refine ⟨⟨h0, ?_⟩, fun g hg => ?_⟩
  · rcases h1 with hn | ⟨g, cap, cur, rfl, hb, hgg, rest⟩
    · exact .inl hn
    · refine .inr ⟨g, cap, cur, rfl, hb, ?_, rest⟩
      rw [hu.block g (Array.getElem?_eq_some_iff.1 hgg).1 (by rw [h2 g rfl]; exact hm)]
      exact hgg
  · rcases h1 with ⟨rfl, _⟩ | ⟨g', cap, cur, rfl, hb, hgg, rest⟩
    · simp [Value.ownBlock] at hg
    · simp [Value.ownBlock] at hg
      subst hg
      rw [hu.tags g' (Array.getElem?_eq_some_iff.1 hgg).1]
      exact h2 g' rfl
theorem CellsT.upd (h : CellsT own t w b vals e) (hu : Upd own own' may w w') (hm : ¬ may t) : CellsT own' t w' b vals e := by
  have hb := (Array.getElem?_eq_some_iff.1 h.1).1
  exact ⟨(hu.block b hb (by rw [h.2]; exact hm)).trans h.1, (hu.tags b hb).trans h.2⟩
theorem CellsT.lt (h : CellsT own t w b vals e) : b < w.heap.size := (Array.getElem?_eq_some_iff.1 h.1).1
theorem CellsT.cell (h : CellsT own t w b vals e) (k : Nat) : w.cell? ⟨b, k, none⟩ = vals[k]? := by simp [World.cell?, h.1]
theorem CellsT.frozen (h : CellsT own t w b vals e) (k : Nat) : w.frozen? ⟨b, k, none⟩ = false := by simp [World.frozen?, h.1]
theorem CellsT.set (h : CellsT own t w b vals e) (k : Nat) (u : Value) : CellsT own t (w.setCell ⟨b, k, none⟩ u) b (vals.setIfInBounds k u) e := by
  refine ⟨?_, h.2⟩
  simp [World.setCell, Array.getElem?_modify, h.1]
theorem CellsT.alloc (h : CellsT own t w b vals e) (o : Obj) : CellsT own t (w.alloc o) b vals e := ⟨(Below.heap_alloc _ _ _ h.lt).trans h.1, h.2⟩
theorem CellsT.drew (h : CellsT own t w b vals e) : CellsT own t w.drew b vals e := h
theorem CellsT.other (h : CellsT own t w b vals e) {p : Addr} (hp : p.block ≠ b) (u : Value) : CellsT own t (w.setCell p u) b vals e := ⟨(Below.heap_setCell _ _ _ _ (by omega)).trans h.1, h.2⟩
theorem CellsT.new (w : World) (vals : Array Value) (e : TypeId) (own : Nat → Tag) (t : Tag) : CellsT (retag own w.heap.size t) t (w.alloc (.cells vals e)) w.heap.size vals e :=
  ⟨heap_alloc_new w _, retag_ge (Nat.le_refl _)⟩
theorem OwnsT.alloc (h : OwnsT own t w e size v n xs) (o : Obj) : OwnsT own t (w.alloc o) e size v n xs := ⟨h.1.alloc o, h.2⟩
theorem OwnsT.nil (own : Nat → Tag) (t : Tag) (w : World) (e : TypeId) (size : Nat) : OwnsT own t w e size (.slice none 0 0) 0 [] := ⟨World.ownsRow_nil w 0 e size, fun g hg => by simp [Value.ownBlock] at hg⟩
theorem OwnsT.other (h : OwnsT own t w e size v n xs) {p : Addr} (hp : own p.block ≠ t) (u : Value) : OwnsT own t (w.setCell p u) e size v n xs :=
  OwnsT.upd (own' := own) (may := fun x => x = own p.block) h (Upd.setCell (p := p) (Upd.refl own (fun x => x = own p.block) w) (show own p.block = own p.block from rfl) u) (fun e => hp e.symm)
/-- What a row's value looks like. -/
theorem OwnsT.shape (h : OwnsT own t w e size v n xs) : ∃ a c, v = .slice a n c ∧ n ≤ c ∧ c ≤ maxLen := by
  rcases h.1.2 with ⟨rfl, rfl⟩ | ⟨g, cap, cur, rfl, _, _, h1, h2, _⟩
  · exact ⟨none, 0, rfl, Nat.le_refl _, by simp [maxLen]⟩
  · exact ⟨_, _, rfl, h1, h2⟩
end

/-- APPEND, of a row that owns its block: the new value's block is the old one's or a new one. -/
theorem run_append_T {P : Program} (w : World) (t ty e : TypeId) (i : TypeInfo) (z : Value) (size bytes : Nat) (ht : P.underlying t = some (.slice e)) (hi : P.info? e = some i) (hz : i.zero = some z)
    (hsize : i.size = size) (hby : i.bytes = bytes) (hzs : z.cells.size = size) (hsz : 0 < size)
    (v : Value) (n : Nat) (xs : List Value) (own : Nat → Tag) (tg : Tag) (hown : OwnsT own tg w e size v n xs)
    (a : Addr) (m c : Nat) (news : List Value) (hl : news.length = m * size) (hnews : ∀ j u, news[j]? = some u → w.cell? (a.add j) = some u) (h1 : ∀ u ∈ news, u.oneCell' = true)
    (h63 : n + m ≤ maxLen) (hbytes : (n + m) * bytes ≤ 140737488355328) :
    ∃ v' w', (Builtin.append_ #[t, t] ty #[v, .slice (some a) m c]).run P w = .ok v' w' ∧ OwnsT (retag own w.heap.size tg) tg w' e size v' (n + m) (xs ++ news) ∧ Upd own (retag own w.heap.size tg) (fun x => x = tg) w w' := by
  have key : ∃ v' w', (Builtin.append_ #[t, t] ty #[v, .slice (some a) m c]).run P w = .ok v' w' ∧ w'.ownsRow 0 e size v' (n + m) (xs ++ news) ∧ w.grownBy w' v.ownBlock ∧ ∀ g, v'.ownBlock = some g → v.ownBlock = some g ∨ w.heap.size ≤ g := by
    rcases hown.1.2 with ⟨rfl, rfl⟩ | ⟨g, cap, cur, rfl, hbg, hg, hnc, hcm, hcs, htake⟩
    · have h0 : w.ownsRow w.heap.size e size (.slice none 0 0) 0 xs := ⟨hown.1.1, .inl ⟨rfl, rfl⟩⟩
      obtain ⟨v', w', hr, ho, hgr, _⟩ := run_append_own (P := P) w w.heap.size t ty e i z size bytes ht hi hz hsize hby hzs hsz _ 0 xs h0 a m c news hl hnews h1 h63 hbytes (Nat.le_refl _)
      exact ⟨v', w', hr, ⟨ho.1, ho.2.imp id fun ⟨g, cap, cur, hv, _, rest⟩ => ⟨g, cap, cur, hv, Nat.zero_le _, rest⟩⟩, hgr, fun g hg => .inr (ho.lt g hg).1⟩
    · subst hsize
      by_cases hroom : n + m ≤ cap
      · have hfit : n * i.size + news.length ≤ cur.size := by rw [hl, hcs, ← Nat.add_mul]; exact Nat.mul_le_mul_right _ hroom
        have hr := run_append_room (P := P) w t ty e i ht hi g n cap cur hg a m c news hl hnews h1 hroom hfit
        obtain ⟨v', w', hr', ho, hgr, _⟩ := run_append_own (P := P) w 0 t ty e i z i.size bytes ht hi hz rfl hby hzs hsz _ n xs hown.1 a m c news hl hnews h1 h63 hbytes (Nat.zero_le _)
        rw [hr] at hr'
        simp only [Result.ok.injEq] at hr'
        obtain ⟨rfl, rfl⟩ := hr'
        exact ⟨_, _, hr, ho, hgr, fun g' hg' => .inl (by simpa [Value.ownBlock] using hg')⟩
      · have hr := run_append_grow (P := P) w t ty e i z ht hi hz ⟨g, 0, none⟩ n cap xs hown.1.1 (hown.1.cells (g := g) rfl) a m c news hl hnews (by omega) (by simp only [maxLen] at h63; omega) (by subst hby; exact growslice_fits (by omega) hbytes)
        obtain ⟨v', w', hr', ho, hgr, _⟩ := run_append_own (P := P) w 0 t ty e i z i.size bytes ht hi hz rfl hby hzs hsz _ n xs hown.1 a m c news hl hnews h1 h63 hbytes (Nat.zero_le _)
        rw [hr] at hr'
        simp only [Result.ok.injEq] at hr'
        obtain ⟨rfl, rfl⟩ := hr'
        exact ⟨_, _, hr, ho, hgr, fun g' hg' => .inr (by simp [Value.ownBlock] at hg'; omega)⟩
  obtain ⟨v', w', hr, ho, hgr, hf⟩ := key
  have hlt := hown.1.lt
  refine ⟨v', w', hr, ⟨ho, fun g hg => ?_⟩, ⟨hgr.os, hgr.tape, hgr.output, hgr.size, fun k hk hn => hgr.block k hk (fun e => hn (hown.2 k e.symm)), fun k hk => retag_lt hk⟩⟩
  rcases hf g hg with h' | h'
  · rw [retag_lt (hlt g h').2]; exact hown.2 g h'
  · exact retag_ge h'

theorem wpList_append_T {P : Program} (w : World) {ops : Array Oper} {rest : List Oper} {o : Oper} {a : Act} {Q : Exit → Act → World → Prop} (hgd : o.guard = none) (s x : Operand) (t : TypeId)
    (ho : o.op = .call { callee := .builtin .append, args := #[s, x], argTypes := #[t, t] })
    (e : TypeId) (i : TypeInfo) (z : Value) (size bytes : Nat) (ht : P.underlying t = some (.slice e)) (hi : P.info? e = some i) (hz : i.zero = some z)
    (hsize : i.size = size) (hby : i.bytes = bytes) (hzs : z.cells.size = size) (hsz : 0 < size)
    (v : Value) (n : Nat) (xs : List Value) (own : Nat → Tag) (tg : Tag) (hs : a.eval s = v) (hown : OwnsT own tg w e size v n xs)
    (ad : Addr) (m c : Nat) (news : List Value) (hx : a.eval x = .slice (some ad) m c) (hl : news.length = m * size) (hnews : ∀ j u, news[j]? = some u → w.cell? (ad.add j) = some u) (h1 : ∀ u ∈ news, u.oneCell' = true)
    (h63 : n + m ≤ maxLen) (hbytes : (n + m) * bytes ≤ 140737488355328)
    (h : ∀ v' w', OwnsT (retag own w.heap.size tg) tg w' e size v' (n + m) (xs ++ news) → Upd own (retag own w.heap.size tg) (fun x => x = tg) w w' → wpList P ops Q rest (a.put o.dst v') w') : wpList P ops Q (o :: rest) a w := by
  refine wpList_plain hgd fun _ hK => ?_
  obtain ⟨v', w', hr, h2, h3⟩ := run_append_T (P := P) w t o.type e i z size bytes ht hi hz hsize hby hzs hsz v n xs own tg hown ad m c news hl hnews h1 h63 hbytes
  unfold Oper.wp execOp
  simp only [ho, resolve, invoke, builtin, Sem.run_bind, Sem.run_pure, Result.andThen_ok, List.map_toArray, List.map_cons, List.map_nil, hs, hx, hr]
  exact hK _ _ (h v' w' h2 h3)

theorem OwnsT.drew {own : Nat → Tag} {w : World} {t : Tag} {e : TypeId} {size : Nat} {v : Value} {n : Nat} {xs : List Value} (h : OwnsT own t w e size v n xs) : OwnsT own t w.drew e size v n xs := h

/-- 'x.f = append(x.f, ..)': behind the append, the value is stored into the cell it came from. -/
theorem app_store {own own' : Nat → Tag} {t0 tg : Tag} {w w1 : World} {b k : Nat} {vals : Array Value} {T e : TypeId} {size n : Nat} {v : Value} {xs : List Value} {o : Obj}
    (hc : CellsT own t0 w b vals T) (hu : Upd own own' (fun x => x = tg) (w.alloc o).drew w1) (hne : t0 ≠ tg) (ho : OwnsT own' tg w1 e size v n xs) :
    CellsT own' t0 (w1.setCell ⟨b, k, none⟩ v) b (vals.setIfInBounds k v) T ∧ OwnsT own' tg (w1.setCell ⟨b, k, none⟩ v) e size v n xs ∧ Upd own own' (fun t => t = tg ∨ t = t0) w (w1.setCell ⟨b, k, none⟩ v) := by
  have c1 : CellsT own' t0 w1 b vals T := ((hc.alloc o).drew).upd hu hne
  refine ⟨c1.set k v, ho.other (p := ⟨b, k, none⟩) (by rw [c1.2]; exact hne) v, ?_⟩
  exact Upd.setCell (p := ⟨b, k, none⟩) ((((Upd.refl own _ w).alloc o).drew).trans (hu.mono (fun t ht => .inl ht))) (.inr c1.2) v

/-- A store into an element of a row (one cell an element). -/
theorem OwnsT.set {own : Nat → Tag} {w : World} {t : Tag} {e : TypeId} {g n cap i : Nat} {xs : List Value} (h : OwnsT own t w e 1 (.slice (some ⟨g, 0, none⟩) n cap) n xs) (u : Value) :
    OwnsT own t (w.setCell ⟨g, i, none⟩ u) e 1 (.slice (some ⟨g, 0, none⟩) n cap) n (xs.set i u) := by
  obtain ⟨⟨h0, h1⟩, h2⟩ := h
  refine ⟨⟨by simpa using h0, ?_⟩, h2⟩
  rcases h1 with ⟨h, _⟩ | ⟨g', cap', cur, hv, hb, hg, h3, h4, h5, h6⟩
  · simp at h
  · simp only [Value.slice.injEq, Option.some.injEq, Addr.mk.injEq, true_and, and_true] at hv
    obtain ⟨rfl, rfl⟩ := hv
    refine .inr ⟨g, cap, cur.setIfInBounds i u, rfl, hb, ?_, h3, h4, by simpa using h5, ?_⟩
    · simp [World.setCell, Array.getElem?_modify, hg]
    · rw [Array.toList_setIfInBounds, List.take_set, h6]
/-- An element of a row. -/
theorem OwnsT.get {own : Nat → Tag} {w : World} {t : Tag} {e : TypeId} {v : Value} {n i : Nat} {xs : List Value} {u : Value} (h : OwnsT own t w e 1 v n xs) (hu : xs[i]? = some u) :
    ∃ g cap, v = .slice (some ⟨g, 0, none⟩) n cap ∧ n ≤ cap ∧ cap ≤ maxLen ∧ w.cell? ⟨g, i, none⟩ = some u ∧ w.frozen? ⟨g, i, none⟩ = false ∧ own g = t ∧ g < w.heap.size := by
  have hi := (List.getElem?_eq_some_iff.1 hu).1
  have hl := h.1.1
  rcases h.1.2 with ⟨rfl, h0⟩ | ⟨g, cap, cur, rfl, hb, hg, h3, h4, h5, h6⟩
  · omega
  · have := h.1.cells (g := g) rfl i u hu
    rw [Addr.add_lit, Nat.zero_add] at this
    exact ⟨g, cap, rfl, h3, h4, this, by simp [World.frozen?, hg], h.2 g rfl, (Array.getElem?_eq_some_iff.1 hg).1⟩

end Go.Proofs.Ytemkgikncmhoaaa
