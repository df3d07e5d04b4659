/-
  weaveref: its state as plain data, how it lies in memory, and what its functions come to. Own work.
-/
import Derived.Test.YtemkgikncmhoaaaChk
namespace Go.Proofs.Ytemkgikncmhoaaa
open Go.RowKit

structure ROp where
  client : Int
  verb : Int
  place : Int
  letter : Int
structure RMsg where
  ctx : Nat
  forms : List ROp
structure REnd where
  rows : List RMsg
  taken : Nat
  known : Nat
  sent : Nat
  kept : List Nat
  out : List ByteArray
  spoilt : List Bool
structure RLine where
  a : REnd
  b : REnd
structure RRoom where
  window : Nat
  server : List UInt8
  texts : List (List UInt8)
  lines : List RLine

def ROp.cells (o : ROp) : List Value := [.int .i64 o.client, .int .i64 o.verb, .int .i64 o.place, .int .u8 o.letter]
def I (n : Nat) : Value := .int .i64 n

/-- A row of messages. -/
def RowsAt (own : Nat → Tag) (rid c s : Nat) (w : World) (r : Value) (ms : List RMsg) : Prop :=
  ∃ fs : List Value, fs.length = ms.length ∧ OwnsT own (rid, c, 1 + s) w 167 2 r ms.length ((List.zipWith (fun m f => [Value.int .i64 (m.ctx : Int), f]) ms fs).flatten) ∧
    ∀ i m f, ms[i]? = some m → fs[i]? = some f → OwnsT own (rid, c, 20 + 2 * i + s) w 149 4 f m.forms.length (m.forms.flatMap ROp.cells)
/-- An end's four rows. -/
def EndAt (own : Nat → Tag) (rid c s : Nat) (w : World) (r k o sp : Value) (E : REnd) : Prop :=
  RowsAt own rid c s w r E.rows ∧ OwnsT own (rid, c, 3 + s) w 3 1 k E.kept.length (E.kept.map I) ∧
    OwnsT own (rid, c, 5 + s) w 9 1 o E.out.length (E.out.map Value.string) ∧ OwnsT own (rid, c, 7 + s) w 4 1 sp E.spoilt.length (E.spoilt.map Value.bool)
def LineAt (own : Nat → Tag) (rid c : Nat) (w : World) (b : Nat) (L : RLine) : Prop :=
  ∃ r0 r1 k0 k1 o0 o1 s0 s1 : Value, CellsT own (rid, c, 0) w b #[r0, r1, .int .i64 L.a.taken, .int .i64 L.b.taken, .int .i64 L.a.known, .int .i64 L.b.known, .int .i64 L.a.sent, .int .i64 L.b.sent, k0, k1, o0, o1, s0, s1] 122 ∧
    EndAt own rid c 0 w r0 k0 o0 s0 L.a ∧ EndAt own rid c 1 w r1 k1 o1 s1 L.b
/-- The tags of a line. -/
def inLine (rid c : Nat) (t : Tag) : Prop := t.1 = rid ∧ t.2.1 = c

section
variable {own own' : Nat → Tag} {may : Tag → Prop} {w w' : World} {rid c s b : Nat} {r k o sp : Value} {ms : List RMsg} {E : REnd} {L : RLine}
theorem RowsAt.upd (h : RowsAt own rid c s w r ms) (hu : Upd own own' may w w') (h1 : ¬ may (rid, c, 1 + s)) (h2 : ∀ i, ¬ may (rid, c, 20 + 2 * i + s)) : RowsAt own' rid c s w' r ms := by
  obtain ⟨fs, hl, ho, hf⟩ := h
  exact ⟨fs, hl, ho.upd hu h1, fun i m f hm hff => (hf i m f hm hff).upd hu (h2 i)⟩
theorem RowsAt.alloc (h : RowsAt own rid c s w r ms) (x : Obj) : RowsAt own rid c s (w.alloc x) r ms := h.upd (Upd.alloc (Upd.refl own (fun _ => False) w) x) (fun h => h) (fun _ h => h)
theorem RowsAt.drew (h : RowsAt own rid c s w r ms) : RowsAt own rid c s w.drew r ms := h
theorem RowsAt.other (h : RowsAt own rid c s w r ms) {p : Addr} (h1 : own p.block ≠ (rid, c, 1 + s)) (h2 : ∀ i, own p.block ≠ (rid, c, 20 + 2 * i + s)) (u : Value) : RowsAt own rid c s (w.setCell p u) r ms :=
  h.upd (Upd.setCell (p := p) (Upd.refl own (fun x => x = own p.block) w) (show own p.block = own p.block from rfl) u) (fun e => h1 e.symm) (fun i e => h2 i e.symm)
theorem LineAt.upd (h : LineAt own rid c w b L) (hu : Upd own own' may w w') (hm : ∀ k, ¬ may (rid, c, k)) : LineAt own' rid c w' b L := by
  obtain ⟨r0, r1, k0, k1, o0, o1, s0, s1, hc, ⟨a1, a2, a3, a4⟩, ⟨b1, b2, b3, b4⟩⟩ := h
  exact ⟨r0, r1, k0, k1, o0, o1, s0, s1, hc.upd hu (hm _), ⟨a1.upd hu (hm _) (fun _ => hm _), a2.upd hu (hm _), a3.upd hu (hm _), a4.upd hu (hm _)⟩, ⟨b1.upd hu (hm _) (fun _ => hm _), b2.upd hu (hm _), b3.upd hu (hm _), b4.upd hu (hm _)⟩⟩
end

theorem LineAt.lt {own : Nat → Tag} {rid c b : Nat} {w : World} {L : RLine} (h : LineAt own rid c w b L) : b < w.heap.size ∧ own b = (rid, c, 0) := by
  obtain ⟨r0, r1, k0, k1, o0, o1, s0, s1, hc, _⟩ := h
  exact ⟨hc.lt, hc.2⟩
theorem LineAt.cells {own : Nat → Tag} {rid c b : Nat} {w : World} {L : RLine} (h : LineAt own rid c w b L) : w.cell? ⟨b, 2, none⟩ = some (.int .i64 L.a.taken) ∧ w.cell? ⟨b, 3, none⟩ = some (.int .i64 L.b.taken) ∧
    w.cell? ⟨b, 4, none⟩ = some (.int .i64 L.a.known) ∧ w.cell? ⟨b, 5, none⟩ = some (.int .i64 L.b.known) ∧ w.cell? ⟨b, 6, none⟩ = some (.int .i64 L.a.sent) ∧ w.cell? ⟨b, 7, none⟩ = some (.int .i64 L.b.sent) ∧ ∀ k, w.frozen? ⟨b, k, none⟩ = false := by
  obtain ⟨r0, r1, k0, k1, o0, o1, s0, s1, hc, _⟩ := h
  refine ⟨?_, ?_, ?_, ?_, ?_, ?_, hc.frozen⟩ <;> (rw [hc.cell]; rfl)
/-- The numbers of a line are cells of its block. -/
theorem LineAt.set2 {own : Nat → Tag} {rid c b : Nat} {w : World} {L : RLine} (h : LineAt own rid c w b L) (n : Nat) :
    LineAt own rid c (w.setCell ⟨b, 2, none⟩ (.int .i64 n)) b { L with a := { L.a with taken := n } } ∧ Upd own own (inLine rid c) w (w.setCell ⟨b, 2, none⟩ (.int .i64 n)) := by
  obtain ⟨r0, r1, k0, k1, o0, o1, s0, s1, hc, ⟨a1, a2, a3, a4⟩, ⟨b1, b2, b3, b4⟩⟩ := h
  have U : Upd own own (fun t => t = (rid, c, 0)) w (w.setCell ⟨b, 2, none⟩ (.int .i64 n)) := Upd.setCell (p := ⟨b, 2, none⟩) (Upd.refl own _ w) hc.2 _
  refine ⟨⟨r0, r1, k0, k1, o0, o1, s0, s1, hc.set 2 _, ⟨a1.upd U (by simp) (by simp), a2.upd U (by simp), a3.upd U (by simp), a4.upd U (by simp)⟩, ⟨b1.upd U (by simp) (by simp), b2.upd U (by simp), b3.upd U (by simp), b4.upd U (by simp)⟩⟩, U.mono (by rintro t rfl; exact ⟨rfl, rfl⟩)⟩
theorem LineAt.set3 {own : Nat → Tag} {rid c b : Nat} {w : World} {L : RLine} (h : LineAt own rid c w b L) (n : Nat) :
    LineAt own rid c (w.setCell ⟨b, 3, none⟩ (.int .i64 n)) b { L with b := { L.b with taken := n } } ∧ Upd own own (inLine rid c) w (w.setCell ⟨b, 3, none⟩ (.int .i64 n)) := by
  obtain ⟨r0, r1, k0, k1, o0, o1, s0, s1, hc, ⟨a1, a2, a3, a4⟩, ⟨b1, b2, b3, b4⟩⟩ := h
  have U : Upd own own (fun t => t = (rid, c, 0)) w (w.setCell ⟨b, 3, none⟩ (.int .i64 n)) := Upd.setCell (p := ⟨b, 3, none⟩) (Upd.refl own _ w) hc.2 _
  refine ⟨⟨r0, r1, k0, k1, o0, o1, s0, s1, hc.set 3 _, ⟨a1.upd U (by simp) (by simp), a2.upd U (by simp), a3.upd U (by simp), a4.upd U (by simp)⟩, ⟨b1.upd U (by simp) (by simp), b2.upd U (by simp), b3.upd U (by simp), b4.upd U (by simp)⟩⟩, U.mono (by rintro t rfl; exact ⟨rfl, rfl⟩)⟩
theorem LineAt.set4 {own : Nat → Tag} {rid c b : Nat} {w : World} {L : RLine} (h : LineAt own rid c w b L) (n : Nat) :
    LineAt own rid c (w.setCell ⟨b, 4, none⟩ (.int .i64 n)) b { L with a := { L.a with known := n } } ∧ Upd own own (inLine rid c) w (w.setCell ⟨b, 4, none⟩ (.int .i64 n)) := by
  obtain ⟨r0, r1, k0, k1, o0, o1, s0, s1, hc, ⟨a1, a2, a3, a4⟩, ⟨b1, b2, b3, b4⟩⟩ := h
  have U : Upd own own (fun t => t = (rid, c, 0)) w (w.setCell ⟨b, 4, none⟩ (.int .i64 n)) := Upd.setCell (p := ⟨b, 4, none⟩) (Upd.refl own _ w) hc.2 _
  refine ⟨⟨r0, r1, k0, k1, o0, o1, s0, s1, hc.set 4 _, ⟨a1.upd U (by simp) (by simp), a2.upd U (by simp), a3.upd U (by simp), a4.upd U (by simp)⟩, ⟨b1.upd U (by simp) (by simp), b2.upd U (by simp), b3.upd U (by simp), b4.upd U (by simp)⟩⟩, U.mono (by rintro t rfl; exact ⟨rfl, rfl⟩)⟩
theorem LineAt.set5 {own : Nat → Tag} {rid c b : Nat} {w : World} {L : RLine} (h : LineAt own rid c w b L) (n : Nat) :
    LineAt own rid c (w.setCell ⟨b, 5, none⟩ (.int .i64 n)) b { L with b := { L.b with known := n } } ∧ Upd own own (inLine rid c) w (w.setCell ⟨b, 5, none⟩ (.int .i64 n)) := by
  obtain ⟨r0, r1, k0, k1, o0, o1, s0, s1, hc, ⟨a1, a2, a3, a4⟩, ⟨b1, b2, b3, b4⟩⟩ := h
  have U : Upd own own (fun t => t = (rid, c, 0)) w (w.setCell ⟨b, 5, none⟩ (.int .i64 n)) := Upd.setCell (p := ⟨b, 5, none⟩) (Upd.refl own _ w) hc.2 _
  refine ⟨⟨r0, r1, k0, k1, o0, o1, s0, s1, hc.set 5 _, ⟨a1.upd U (by simp) (by simp), a2.upd U (by simp), a3.upd U (by simp), a4.upd U (by simp)⟩, ⟨b1.upd U (by simp) (by simp), b2.upd U (by simp), b3.upd U (by simp), b4.upd U (by simp)⟩⟩, U.mono (by rintro t rfl; exact ⟨rfl, rfl⟩)⟩
theorem LineAt.set6 {own : Nat → Tag} {rid c b : Nat} {w : World} {L : RLine} (h : LineAt own rid c w b L) (n : Nat) :
    LineAt own rid c (w.setCell ⟨b, 6, none⟩ (.int .i64 n)) b { L with a := { L.a with sent := n } } ∧ Upd own own (inLine rid c) w (w.setCell ⟨b, 6, none⟩ (.int .i64 n)) := by
  obtain ⟨r0, r1, k0, k1, o0, o1, s0, s1, hc, ⟨a1, a2, a3, a4⟩, ⟨b1, b2, b3, b4⟩⟩ := h
  have U : Upd own own (fun t => t = (rid, c, 0)) w (w.setCell ⟨b, 6, none⟩ (.int .i64 n)) := Upd.setCell (p := ⟨b, 6, none⟩) (Upd.refl own _ w) hc.2 _
  refine ⟨⟨r0, r1, k0, k1, o0, o1, s0, s1, hc.set 6 _, ⟨a1.upd U (by simp) (by simp), a2.upd U (by simp), a3.upd U (by simp), a4.upd U (by simp)⟩, ⟨b1.upd U (by simp) (by simp), b2.upd U (by simp), b3.upd U (by simp), b4.upd U (by simp)⟩⟩, U.mono (by rintro t rfl; exact ⟨rfl, rfl⟩)⟩
theorem LineAt.set7 {own : Nat → Tag} {rid c b : Nat} {w : World} {L : RLine} (h : LineAt own rid c w b L) (n : Nat) :
    LineAt own rid c (w.setCell ⟨b, 7, none⟩ (.int .i64 n)) b { L with b := { L.b with sent := n } } ∧ Upd own own (inLine rid c) w (w.setCell ⟨b, 7, none⟩ (.int .i64 n)) := by
  obtain ⟨r0, r1, k0, k1, o0, o1, s0, s1, hc, ⟨a1, a2, a3, a4⟩, ⟨b1, b2, b3, b4⟩⟩ := h
  have U : Upd own own (fun t => t = (rid, c, 0)) w (w.setCell ⟨b, 7, none⟩ (.int .i64 n)) := Upd.setCell (p := ⟨b, 7, none⟩) (Upd.refl own _ w) hc.2 _
  refine ⟨⟨r0, r1, k0, k1, o0, o1, s0, s1, hc.set 7 _, ⟨a1.upd U (by simp) (by simp), a2.upd U (by simp), a3.upd U (by simp), a4.upd U (by simp)⟩, ⟨b1.upd U (by simp) (by simp), b2.upd U (by simp), b3.upd U (by simp), b4.upd U (by simp)⟩⟩, U.mono (by rintro t rfl; exact ⟨rfl, rfl⟩)⟩

def bstr (t : List UInt8) : Value := .string ⟨t.toArray⟩
def ptr (b : Nat) : Value := .pointer (some ⟨b, 0, none⟩)
def RoomY (own : Nat → Tag) (rid : Nat) (w : World) (b : Nat) (R : RRoom) : Prop :=
  ∃ (tx lx : Value) (bs : List Nat), CellsT own (rid, 100, 0) w b #[.int .i64 R.window, bstr R.server, tx, lx] 106 ∧ OwnsT own (rid, 100, 1) w 9 1 tx R.texts.length (R.texts.map bstr) ∧
    OwnsT own (rid, 100, 2) w 113 1 lx R.texts.length (bs.map ptr) ∧ bs.length = R.texts.length ∧ R.lines.length = R.texts.length ∧ R.texts.length ≤ 4 ∧
    ∀ i L bb, R.lines[i]? = some L → bs[i]? = some bb → LineAt own rid i w bb L
def inRoom (rid : Nat) (t : Tag) : Prop := t.1 = rid
theorem RoomY.upd {own own' : Nat → Tag} {may : Tag → Prop} {w w' : World} {rid b : Nat} {R : RRoom} (h : RoomY own rid w b R) (hu : Upd own own' may w w') (hm : ∀ i k, ¬ may (rid, i, k)) : RoomY own' rid w' b R := by
  obtain ⟨tx, lx, bs, hc, ht, hl, h1, h2, h3, h4⟩ := h
  exact ⟨tx, lx, bs, hc.upd hu (hm _ _), ht.upd hu (hm _ _), hl.upd hu (hm _ _), h1, h2, h3, fun i L bb hL hb => (h4 i L bb hL hb).upd hu (fun _ => hm _ _)⟩

/-! ### What the functions come to -/
def REnd.fly (E : REnd) (s : ByteArray) : REnd := if E.out.length < 12 then { E with out := E.out ++ [s], spoilt := E.spoilt ++ [false] } else E
def RMsg.first (m : RMsg) : ROp := m.forms.headD ⟨0, 0, 0, 0⟩
def msgBytes (n : Nat) (m : RMsg) (taken : Nat) : List Int := [1, n, m.ctx, taken, m.first.client, m.first.verb, m.first.place, m.first.letter]
/-- Sending message n, once. -/
def REnd.send1 (E : REnd) (n : Nat) : REnd :=
  let E' := E.fly (ckd (msgBytes n (E.rows.getD (n - 1) ⟨0, []⟩) E.taken))
  if E'.sent < n then { E' with sent := n } else E'
/-- Sending k messages from 'from' on. -/
def REnd.sendN (E : REnd) (m : Nat) : Nat → REnd
  | 0 => E
  | k + 1 => (E.sendN m k).send1 (m + k)
def REnd.may (E : REnd) (window : Nat) : Nat := min (E.known + window) E.rows.length
def REnd.make (E : REnd) (a : ROp) (window : Nat) : REnd :=
  let E' : REnd := { E with rows := E.rows ++ [(⟨E.taken, [a]⟩ : RMsg)] }
  E'.sendN (E'.sent + 1) (E'.may window - E'.sent)
end Go.Proofs.Ytemkgikncmhoaaa
