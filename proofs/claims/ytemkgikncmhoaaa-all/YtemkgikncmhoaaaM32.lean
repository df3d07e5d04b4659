import Derived.Test.YtemkgikncmhoaaaM08
import Derived.Test.YtemkgikncmhoaaaM29
import Derived.Test.YtemkgikncmhoaaaM31
namespace Go.Proofs.Ytemkgikncmhoaaa
open Go.RowKit

def RRoom.setLine (R : RRoom) (i : Nat) (L : RLine) : RRoom := { R with lines := R.lines.set i L }
def RRoom.setText (R : RRoom) (i : Nat) (t : List UInt8) : RRoom := { R with texts := R.texts.set i t }
def RRoom.setServer (R : RRoom) (t : List UInt8) : RRoom := { R with server := t }
/-- A room whose lines lie at these blocks. -/
def RoomB (A : List Nat) (own : Nat → Tag) (rid : Nat) (w : World) (b : Nat) (R : RRoom) : Prop :=
 ∃ (tx lx : Value), CellsT own (rid, 100, 0) w b #[.int .i64 R.window, bstr R.server, tx, lx] 106 ∧ OwnsT own (rid, 100, 1) w 9 1 tx R.texts.length (R.texts.map bstr) ∧
  OwnsT own (rid, 100, 2) w 113 1 lx R.texts.length (A.map ptr) ∧ A.length = R.texts.length ∧ R.lines.length = R.texts.length ∧ R.texts.length ≤ 4 ∧
  ∀ i L bb, R.lines[i]? = some L → A[i]? = some bb → LineAt own rid i w bb L
theorem RoomY.addr {own : Nat → Tag} {rid b : Nat} {w : World} {R : RRoom} (h : RoomY own rid w b R) : ∃ A, RoomB A own rid w b R := by
 obtain ⟨tx, lx, A, h⟩ := h
 exact ⟨A, tx, lx, h⟩
section
variable {A : List Nat} {own own' : Nat → Tag} {rid b : Nat} {w w' : World} {R : RRoom}
theorem RoomB.room (h : RoomB A own rid w b R) : RoomY own rid w b R := by
 obtain ⟨tx, lx, h⟩ := h
 exact ⟨tx, lx, A, h⟩
theorem RoomB.upd {may : Tag → Prop} (h : RoomB A own rid w b R) (hu : Upd own own' may w w') (hm : ∀ i k, ¬ may (rid, i, k)) : RoomB A own' rid w' b R := by
 obtain ⟨tx, lx, hc, ht, hl, h1, h2, h3, h4⟩ := h
 exact ⟨tx, lx, hc.upd hu (hm _ _), ht.upd hu (hm _ _), hl.upd hu (hm _ _), h1, h2, h3, fun i L bb hL hb => (h4 i L bb hL hb).upd hu (fun _ => hm _ _)⟩
theorem RoomB.lens (h : RoomB A own rid w b R) : R.texts.length ≤ 4 ∧ R.lines.length = R.texts.length := by
 obtain ⟨tx, lx, hc, ht, hl, h1, h2, h3, h4⟩ := h
 exact ⟨h3, h2⟩
/-- Where a line lies. -/
theorem RoomB.at_ (h : RoomB A own rid w b R) {i lb lg lc : Nat} (hi : i < R.texts.length) (c3 : w.cell? ⟨b, 3, none⟩ = some (.slice (some ⟨lg, 0, none⟩) R.texts.length lc)) (c5 : w.cell? ⟨lg, i, none⟩ = some (.pointer (some ⟨lb, 0, none⟩))) : A[i]? = some lb := by
 obtain ⟨tx, lx, hc, htx, hlx, h1, h2, h3, h4⟩ := h
 have e2 : lx = .slice (some ⟨lg, 0, none⟩) R.texts.length lc := by
  have := hc.cell 3; rw [c3] at this; simpa using this.symm
 subst e2
 have hA : A[i]? = some (A[i]'(by omega)) := List.getElem?_eq_getElem (by omega)
 have := hlx.1.cells (g := lg) rfl i (ptr (A[i]'(by omega))) (by rw [List.getElem?_map, hA]; rfl)
 rw [Addr.add_lit, Nat.zero_add, c5] at this
 simp only [ptr, Option.some.injEq, Value.pointer.injEq, Addr.mk.injEq, and_true] at this
 rw [hA, ← this]
theorem RoomB.line (h : RoomB A own rid w b R) {i lb lg lc : Nat} {L' : RLine} (hi4 : i < 100) (hi : i < R.texts.length) (c3 : w.cell? ⟨b, 3, none⟩ = some (.slice (some ⟨lg, 0, none⟩) R.texts.length lc)) (c5 : w.cell? ⟨lg, i, none⟩ = some (.pointer (some ⟨lb, 0, none⟩)))
  (hu : Upd own own' (inLine rid i) w w') (hL : LineAt own' rid i w' lb L') : RoomB A own' rid w' b (R.setLine i L') := by
 obtain ⟨tx, lx, hc, htx, hlx, h1, h2, h3, h4⟩ := h
 have n1 : ∀ k, ¬ inLine rid i (rid, 100, k) := fun k hk => by have := hk.2; simp at this; omega
 have e2 : lx = .slice (some ⟨lg, 0, none⟩) R.texts.length lc := by
  have := hc.cell 3; rw [c3] at this; simpa using this.symm
 subst e2
 refine ⟨tx, _, hc.upd hu (n1 _), htx.upd hu (n1 _), hlx.upd hu (n1 _), h1, by simpa [RRoom.setLine] using h2, h3, fun j M bb hM hbb => ?_⟩
 simp only [RRoom.setLine] at hM
 by_cases hji : j = i
 ·subst hji
  obtain rfl : L' = M := by
   rw [List.getElem?_set_self (by omega)] at hM; simpa using hM
  have := hlx.1.cells (g := lg) rfl j (ptr bb) (by simp [hbb])
  rw [Addr.add_lit, Nat.zero_add, c5] at this
  simp only [ptr, Option.some.injEq, Value.pointer.injEq, Addr.mk.injEq, and_true] at this
  subst this
  exact hL
 ·rw [List.getElem?_set_ne (fun h => hji h.symm)] at hM
  exact (h4 j M bb hM hbb).upd hu (fun k hk => hji hk.2)
theorem RoomB.text (h : RoomB A own rid w b R) {i tg tc : Nat} (c2 : w.cell? ⟨b, 2, none⟩ = some (.slice (some ⟨tg, 0, none⟩) R.texts.length tc)) (t' : List UInt8) :
  RoomB A own rid (w.setCell ⟨tg, i, none⟩ (.string ⟨t'.toArray⟩)) b (R.setText i t') ∧ Upd own own (inRoom rid) w (w.setCell ⟨tg, i, none⟩ (.string ⟨t'.toArray⟩)) := by
 obtain ⟨tx, lx, hc, htx, hlx, h1, h2, h3, h4⟩ := h
 have e1 : tx = .slice (some ⟨tg, 0, none⟩) R.texts.length tc := by
  have := hc.cell 2; rw [c2] at this; simpa using this.symm
 subst e1
 have htg := htx.2 tg rfl
 have U1 : Upd own own (fun x => x = (rid, 100, 1)) w (w.setCell ⟨tg, i, none⟩ (.string ⟨t'.toArray⟩)) := Upd.setCell (p := ⟨tg, i, none⟩) (Upd.refl own _ w) htg _
 refine ⟨⟨_, lx, hc.upd U1 (by simp), ?_, ?_, by simpa [RRoom.setText] using h1, by simpa [RRoom.setText] using h2, by simpa [RRoom.setText] using h3, fun j M bb hM hbb => ?_⟩, U1.mono (by rintro t rfl; rfl)⟩
 ·have := htx.set (i := i) (.string ⟨t'.toArray⟩)
  simpa [RRoom.setText, List.map_set, bstr] using this
 ·have := hlx.upd U1 (by simp)
  simpa [RRoom.setText] using this
 ·have hj4 := (List.getElem?_eq_some_iff.1 hbb).1
  exact (h4 j M bb hM hbb).upd U1 (by simp; omega)
theorem RoomB.serve (h : RoomB A own rid w b R) (t' : List UInt8) : RoomB A own rid (w.setCell ⟨b, 1, none⟩ (.string ⟨t'.toArray⟩)) b (R.setServer t') ∧ Upd own own (inRoom rid) w (w.setCell ⟨b, 1, none⟩ (.string ⟨t'.toArray⟩)) := by
 obtain ⟨tx, lx, hc, htx, hlx, h1, h2, h3, h4⟩ := h
 have U1 : Upd own own (fun x => x = (rid, 100, 0)) w (w.setCell ⟨b, 1, none⟩ (.string ⟨t'.toArray⟩)) := Upd.setCell (p := ⟨b, 1, none⟩) (Upd.refl own _ w) hc.2 _
 refine ⟨⟨tx, lx, hc.set 1 _, htx.upd U1 (by simp), hlx.upd U1 (by simp), h1, h2, h3, fun j M bb hM hbb => ?_⟩, U1.mono (by rintro t rfl; rfl)⟩
 have hj4 := (List.getElem?_eq_some_iff.1 hbb).1
 exact (h4 j M bb hM hbb).upd U1 (by simp; omega)
/-- The cells of a room. -/
theorem RoomY.heads (h : RoomY own rid w b R) : ∃ tx lx, w.cell? ⟨b, 0, none⟩ = some (.int .i64 R.window) ∧ w.cell? ⟨b, 1, none⟩ = some (bstr R.server) ∧ w.cell? ⟨b, 2, none⟩ = some tx ∧ w.cell? ⟨b, 3, none⟩ = some lx ∧ b < w.heap.size ∧ own b = (rid, 100, 0) ∧ (∀ k, w.frozen? ⟨b, k, none⟩ = false) ∧ R.lines.length = R.texts.length ∧ R.texts.length ≤ 4 := by
 obtain ⟨tx, lx, bs, hc, htx, hlx, h1, h2, h3, h4⟩ := h
 exact ⟨tx, lx, by rw [hc.cell]; rfl, by rw [hc.cell]; rfl, by rw [hc.cell]; rfl, by rw [hc.cell]; rfl, hc.lt, hc.2, hc.frozen, h2, h3⟩
end

/-- What Form may have turned of a line: forms more, nothing else. -/
structure Rows (us ds : List GMsg) (ra rb : List RMsg) : Prop where
 ha : histOf ra = us
 hb : histOf rb = ds
 ma : MemoR us ds ra
 mb : MemoR ds us rb
end Go.Proofs.Ytemkgikncmhoaaa

namespace Go.Proofs.Ytemkgikncmhoaaa
open Go.RowKit

def REnd.know (E : REnd) (tk : Nat) : REnd := if E.known < tk ∧ tk ≤ E.rows.length then { E with known := tk } else E
def REnd.heard (E : REnd) (window tk : Nat) : REnd := (E.know tk).sendN (E.sent + 1) ((E.know tk).may window - E.sent)
def REnd.keep (E : REnd) (window n : Nat) : REnd := if E.taken < n ∧ n ≤ E.taken + window then { E with kept := E.kept ++ [n] } else E
/-- One that flies is lost; doubled; spoilt. -/
def REnd.lose (E : REnd) (n : Nat) : REnd := { E with out := E.out.take n ++ E.out.drop (n + 1), spoilt := E.spoilt.take n ++ E.spoilt.drop (n + 1) }
def REnd.double (E : REnd) (d : ByteArray) (m : Bool) : REnd := if E.out.length < 12 then { E with out := E.out ++ [d], spoilt := E.spoilt ++ [m] } else E
def REnd.spoil (E : REnd) (n : Nat) (d : ByteArray) : REnd := { E with out := E.out.set n d, spoilt := E.spoilt.set n true }

theorem wrapB (b : UInt8) : wrap64 (b.toNat : Int) = (b.toNat : Int) := by
 have := b.toNat_lt
 unfold wrap64
 omega
theorem REnd.Ok.know {E : REnd} (h : E.Ok) (tk : Nat) (ht : tk ≤ 240) : (E.know tk).Ok := by
 unfold REnd.know
 split
 ·exact ⟨h.rows, h.taken, ht, h.sent, h.out, h.spoilt, h.msgs⟩
 ·exact h
theorem REnd.know_fields (E : REnd) (tk : Nat) : (E.know tk).rows = E.rows ∧ (E.know tk).sent = E.sent ∧ (E.know tk).taken = E.taken ∧ (E.know tk).kept = E.kept := by
 unfold REnd.know
 split <;> exact ⟨rfl, rfl, rfl, rfl⟩
theorem REnd.may_le (E : REnd) (window : Nat) : E.may window ≤ E.rows.length := Nat.min_le_right _ _
theorem REnd.heard_fields (E : REnd) (window tk : Nat) : (E.heard window tk).rows = E.rows ∧ (E.heard window tk).taken = E.taken ∧ (E.heard window tk).kept = E.kept := by
 obtain ⟨a, _, c, d⟩ := E.know_fields tk
 obtain ⟨x, y, _, z⟩ := (E.know tk).sendN_rows (E.sent + 1) ((E.know tk).may window - E.sent)
 exact ⟨x.trans a, y.trans c, z.trans d⟩

/-- What comes first: what is known, and what may be sent for it. -/
theorem heard_0 (own : Nat → Tag) (rid c lb : Nat) (L : RLine) (window tk : Nat) (w : World) (hok : L.a.Ok) (htk : tk ≤ 240) (hs : L.a.sent ≤ (L.a.know tk).may window) (a t : Int) (ha : a = ((L.a.sent + 1 : Nat) : Int)) (ht : t = (((L.a.know tk).may window : Nat) : Int)) (hL : LineAt own rid c w lb { L with a := L.a.know tk }) :
  Calls Try.prog 93 #[.pointer (some ⟨lb, 0, none⟩), .int .i64 0, .int .i64 a, .int .i64 t] w fun e w' => e = .returned (.tuple #[]) ∧ ∃ own', LineAt own' rid c w' lb { L with a := L.a.heard window tk } ∧ Upd own own' (inLine rid c) w w' := by
 obtain rfl : t = ((L.a.sent + 1 : Nat) : Int) + (((L.a.know tk).may window - L.a.sent : Nat) : Int) - 1 := by omega
 subst ha
 have := (L.a.know tk).may_le window
 have eh : L.a.heard window tk = (L.a.know tk).sendN (L.a.sent + 1) ((L.a.know tk).may window - L.a.sent) := rfl
 rw [eh]
 have hk2 := hok.know tk htk
 clear eh hok hs
 generalize L.a.know tk = EK at *
 generalize EK.may window = mw at *
 have key := send_0 own rid c lb { L with a := EK } (L.a.sent + 1) (mw - L.a.sent) w hL hk2 (by omega) (by show _ ≤ EK.rows.length + 1; omega)
 exact key
/-- What comes first: what is known, and what may be sent for it. -/
theorem heard_1 (own : Nat → Tag) (rid c lb : Nat) (L : RLine) (window tk : Nat) (w : World) (hok : L.b.Ok) (htk : tk ≤ 240) (hs : L.b.sent ≤ (L.b.know tk).may window) (a t : Int) (ha : a = ((L.b.sent + 1 : Nat) : Int)) (ht : t = (((L.b.know tk).may window : Nat) : Int)) (hL : LineAt own rid c w lb { L with b := L.b.know tk }) :
  Calls Try.prog 93 #[.pointer (some ⟨lb, 0, none⟩), .int .i64 1, .int .i64 a, .int .i64 t] w fun e w' => e = .returned (.tuple #[]) ∧ ∃ own', LineAt own' rid c w' lb { L with b := L.b.heard window tk } ∧ Upd own own' (inLine rid c) w w' := by
 obtain rfl : t = ((L.b.sent + 1 : Nat) : Int) + (((L.b.know tk).may window - L.b.sent : Nat) : Int) - 1 := by omega
 subst ha
 have := (L.b.know tk).may_le window
 have eh : L.b.heard window tk = (L.b.know tk).sendN (L.b.sent + 1) ((L.b.know tk).may window - L.b.sent) := rfl
 rw [eh]
 have hk2 := hok.know tk htk
 clear eh hok hs
 generalize L.b.know tk = EK at *
 generalize EK.may window = mw at *
 have key := send_1 own rid c lb { L with b := EK } (L.b.sent + 1) (mw - L.b.sent) w hL hk2 (by omega) (by show _ ≤ EK.rows.length + 1; omega)
 exact key
end Go.Proofs.Ytemkgikncmhoaaa

namespace Go.Proofs.Ytemkgikncmhoaaa
open Go.RowKit

def marks (fl : List ByteArray) : List Bool := fl.map fun d => (readD d).isNone

/-- The two, but for what was sent. -/
structure EndQ (K : Nat) (own oth : List GMsg) (E : IEnd) (L : REnd) : Prop where
 hist : histOf L.rows = own
 memo : MemoR own oth L.rows
 taken : L.taken = E.taken
 known : L.known = E.known
 kept : ∀ n, E.taken < n → (n ∈ L.kept ↔ n ∈ E.kept.map IMsg.number)
 keptK : L.kept.length ≤ K
 out : L.out = E.flying
 spoilt : L.spoilt = marks E.flying
def EndR (window K : Nat) (own oth : List GMsg) (E : IEnd) (L : REnd) : Prop := EndQ K own oth E L ∧ L.sent = E.sentTo window

section
variable {window K : Nat} {own oth : List GMsg} {E : IEnd} {L : REnd}
theorem EndQ.len (h : EndQ K own oth E L) : L.rows.length = own.length := by rw [← h.hist, histOf_len]
theorem EndQ.get (h : EndQ K own oth E L) {i : Nat} {m : RMsg} (hm : L.rows[i]? = some m) : gmsg own (i + 1) = ⟨m.ctx, m.first⟩ := by rw [← h.hist]; exact histOf_get hm
theorem EndQ.ok (h : EndQ K own oth E L) (hs : L.sent ≤ own.length) (hf : Half own oth E) (hn : Norms own) (lo : own.length ≤ 240) (lt : oth.length ≤ 240) : L.Ok := by
 have h1 := h.len
 have h2 := hf.tk
 have h3 := hf.kn
 refine ⟨by omega, by rw [h.taken]; omega, by rw [h.known]; omega, by omega, by rw [h.out]; exact hf.fly, by rw [h.spoilt, h.out, marks, List.length_map], fun m hm => ?_⟩
 obtain ⟨i, hi⟩ := List.mem_iff_getElem?.1 hm
 have hi2 := (List.getElem?_eq_some_iff.1 hi).1
 have hg := h.get hi
 obtain ⟨n1, n2⟩ := hn (i + 1) (by omega) (by omega)
 have hc := hf.ctx (i + 1) (by omega) (by omega)
 rw [hg] at n1 n2 hc
 obtain ⟨c1, c2⟩ := n1
 dsimp only at c1 c2 n2 hc
 refine ⟨by omega, (h.memo i m hi).1, by omega, by omega, ?_⟩
 rcases c2 with ⟨a, b, c⟩ | ⟨a, b, c, d⟩ | ⟨a, b, c⟩ <;> (refine ⟨?_, ?_, ?_, ?_, ?_, ?_⟩ <;> omega)
theorem Half.sent_le (hf : Half own oth E) : E.sentTo window ≤ own.length := by
 have := hf.sentTo_eq (window := window)
 have := hf.kn
 omega
theorem EndR.ok (h : EndR window K own oth E L) (hf : Half own oth E) (hn : Norms own) (lo : own.length ≤ 240) (lt : oth.length ≤ 240) : L.Ok := h.1.ok (by rw [h.2]; exact hf.sent_le) hf hn lo lt
theorem EndQ.air (h : EndQ K own oth E L) (fl : List ByteArray) : EndQ K own oth { E with flying := fl } { L with out := fl, spoilt := marks fl } :=
 ⟨h.hist, h.memo, h.taken, h.known, h.kept, h.keptK, rfl, rfl⟩
theorem EndQ.setSent (h : EndQ K own oth E L) (n : Nat) : EndQ K own oth E { L with sent := n } := ⟨h.hist, h.memo, h.taken, h.known, h.kept, h.keptK, h.out, h.spoilt⟩
theorem EndQ.fly (h : EndQ K own oth E L) {s : ByteArray} (hs : (readD s).isNone = false) : EndQ K own oth (E.fly s) (L.fly s) := by
 unfold IEnd.fly REnd.fly
 rw [h.out]
 split
 ·have := h.air (E.flying ++ [s])
  simp only [marks, List.map_append, List.map_cons, List.map_nil, hs] at this
  rw [h.spoilt]
  exact this
 ·exact h
theorem EndQ.mono (h : EndQ K own oth E L) {K' : Nat} (hk : K ≤ K') : EndQ K' own oth E L := ⟨h.hist, h.memo, h.taken, h.known, h.kept, Nat.le_trans h.keptK hk, h.out, h.spoilt⟩
theorem EndR.mono (h : EndR window K own oth E L) {K' : Nat} (hk : K ≤ K') : EndR window K' own oth E L := ⟨h.1.mono hk, h.2⟩
theorem EndQ.bytes (h : EndQ K own oth E L) {n : Nat} (h1 : 1 ≤ n) (h2 : n ≤ own.length) : msgBytes n (L.rows.getD (n - 1) ⟨0, []⟩) L.taken = (imsg own n).bytes E.taken := by
 have hl := h.len
 have hm : L.rows[n - 1]? = some (L.rows[n - 1]'(by omega)) := List.getElem?_eq_getElem (by omega)
 have hg := h.get hm
 rw [show n - 1 + 1 = n by omega] at hg
 rw [List.getD_eq_getElem?_getD, hm]
 simp only [Option.getD_some, msgBytes, IMsg.bytes, imsg, hg, h.taken]
theorem EndQ.send1 (h : EndQ K own oth E L) {n : Nat} (h1 : 1 ≤ n) (h2 : n ≤ own.length) (hb : Bytes ((imsg own n).bytes E.taken)) : EndQ K own oth (E.fly (ckd ((imsg own n).bytes E.taken))) (L.send1 n) := by
 unfold REnd.send1
 rw [h.bytes h1 h2]
 have := h.fly (s := ckd ((imsg own n).bytes E.taken)) (by rw [readD_msg _ _ hb]; rfl)
 dsimp only
 split
 ·exact this.setSent n
 ·exact this
theorem EndQ.sendN (h : EndQ K own oth E L) (hb : ∀ n, 1 ≤ n → n ≤ own.length → Bytes ((imsg own n).bytes E.taken)) (m : Nat) (h1 : 1 ≤ m) : ∀ k, m + k ≤ own.length + 1 → EndQ K own oth (E.sends ((List.range k).map fun j => imsg own (m + j))) (L.sendN m k)
 | 0, _ => h
 | k + 1, hk => by
  have ih := EndQ.sendN h hb m h1 k (by omega)
  rw [List.range_succ, List.map_append, IEnd.sends_append]
  have ht : (E.sends ((List.range k).map fun j => imsg own (m + j))).taken = E.taken := (IEnd.sends_fields _ E).2.2.1
  have := ih.send1 (n := m + k) (by omega) (by omega) (by rw [ht]; exact hb _ (by omega) (by omega))
  exact this
theorem sendN_sent (L : REnd) (m : Nat) : ∀ k, (L.sendN m k).sent = if k = 0 then L.sent else max L.sent (m + k - 1)
 | 0 => rfl
 | k + 1 => by
  have ih := sendN_sent L m k
  rw [if_neg (by omega)]
  show ((L.sendN m k).send1 (m + k)).sent = _
  unfold REnd.send1
  dsimp only
  have hf := ((L.sendN m k).fly_rows (ckd (msgBytes (m + k) ((L.sendN m k).rows.getD (m + k - 1) ⟨0, []⟩) (L.sendN m k).taken))).2.2.2.1
  split
  ·rename_i hlt
   rw [hf, ih] at hlt
   show m + k = _
   split at hlt <;> omega
  ·rename_i hlt
   rw [hf, ih] at hlt
   rw [hf, ih]
   split at hlt
   ·rename_i h0; rw [if_pos h0]; omega
   ·rename_i h0; rw [if_neg h0]; omega
theorem MemoR.push {ms : List RMsg} (h : MemoR own oth ms) (hh : ms.length = own.length) (k0 : Nat) (o : ROp) (hk : k0 ≤ oth.length) : MemoR (own ++ [⟨k0, o⟩]) oth (ms ++ [⟨k0, [o]⟩]) := by
 intro i m hm
 by_cases hi : i < ms.length
 ·rw [List.getElem?_append_left hi] at hm
  obtain ⟨a, b, c⟩ := h i m hm
  exact ⟨a, b, fun j f hj => by rw [form_push _ _ _ _ _ (by omega) (by omega)]; exact c j f hj⟩
 ·have hi2 := (List.getElem?_eq_some_iff.1 hm).1
  simp only [List.length_append, List.length_cons, List.length_nil] at hi2
  obtain rfl : i = ms.length := by omega
  rw [List.getElem?_append_right (Nat.le_refl _), Nat.sub_self] at hm
  obtain rfl : (⟨k0, [o]⟩ : RMsg) = m := by simpa using hm
  refine ⟨by simp, by simp; omega, fun j f hj => ?_⟩
  have hj2 := (List.getElem?_eq_some_iff.1 hj).1
  simp only [List.length_cons, List.length_nil] at hj2
  obtain rfl : j = 0 := by omega
  obtain rfl : o = f := by simpa using hj
  rw [hh, form_base _ _ _ _ (by rw [gmsg_last]; exact Nat.le_refl _), gmsg_last]
theorem MemoR.other {ms : List RMsg} (h : MemoR own oth ms) (m0 : GMsg) : MemoR own (oth ++ [m0]) ms := by
 intro i m hm
 obtain ⟨a, b, c⟩ := h i m hm
 refine ⟨a, by simp; omega, fun j f hj => ?_⟩
 have hj2 := (List.getElem?_eq_some_iff.1 hj).1
 rw [form_push' _ _ _ _ _ (by omega) (by omega)]; exact c j f hj
theorem EndQ.other (h : EndQ K own oth E L) (m0 : GMsg) : EndQ K own (oth ++ [m0]) E L := ⟨h.hist, h.memo.other m0, h.taken, h.known, h.kept, h.keptK, h.out, h.spoilt⟩
theorem EndR.other (h : EndR window K own oth E L) (m0 : GMsg) : EndR window K own (oth ++ [m0]) E L := ⟨h.1.other m0, h.2⟩
theorem EndQ.grow (h : EndQ K own oth E L) (hf : Half own oth E) (o : ROp) : EndQ K (own ++ [⟨E.taken, o⟩]) oth (E.grow o) { L with rows := L.rows ++ [⟨L.taken, [o]⟩] } := by
 refine ⟨?_, ?_, h.taken, h.known, h.kept, h.keptK, h.out, h.spoilt⟩
 ·have := h.hist
  rw [← this]
  simp [histOf, h.taken, RMsg.first]
 ·rw [h.taken]; exact h.memo.push h.len _ _ hf.tk
theorem EndR.make (h : EndR window K own oth E L) (hf : Half own oth E) (o : ROp) (hb : Bytes ((imsg (own ++ [⟨E.taken, o⟩]) (own.length + 1)).bytes E.taken)) : EndR window K (own ++ [⟨E.taken, o⟩]) oth (E.make o window) (L.make o window) := by
 have hg := h.1.grow hf o
 have hs := h.2
 have hse := hf.sentTo_eq (window := window)
 have hl := h.1.len
 have hkn := hf.kn
 have hk := h.1.known
 have hmd := hf.made
 have hw : E.waiting.length = own.length - E.known := by rw [hf.wait, tailOf_length]
 have hm : ({ L with rows := L.rows ++ [(⟨L.taken, [o]⟩ : RMsg)] } : REnd).may window = min (L.known + window) (L.rows.length + 1) := by simp [REnd.may]
 have hnx : E.next o = imsg (own ++ [⟨E.taken, o⟩]) (own.length + 1) := by
  unfold IEnd.next imsg; rw [gmsg_last, hmd]
 have em : L.make o window = ({ L with rows := L.rows ++ [(⟨L.taken, [o]⟩ : RMsg)] } : REnd).sendN (L.sent + 1) (min (L.known + window) (L.rows.length + 1) - L.sent) := by
  unfold REnd.make; simp only [hm]
 rw [em]
 have hgs : (E.grow o).sentTo window = E.known + min window (E.waiting.length + 1) := by unfold IEnd.sentTo IEnd.grow; simp
 unfold IEnd.make
 split
 ·rename_i hc
  rw [show min (L.known + window) (L.rows.length + 1) - L.sent = 1 by omega]
  refine ⟨?_, ?_⟩
  ·have e1 : ({ L with rows := L.rows ++ [(⟨L.taken, [o]⟩ : RMsg)] } : REnd).sendN (L.sent + 1) 1 = ({ L with rows := L.rows ++ [(⟨L.taken, [o]⟩ : RMsg)] } : REnd).send1 (own.length + 1) := by
    rw [show L.sent = own.length by omega]; rfl
   rw [e1, hnx]
   exact hg.send1 (by omega) (by simp) hb
  ·rw [sendN_sent, if_neg (by omega), (sends_made (window := window) _ _).2, hgs]
   show max L.sent _ = _
   omega
 ·rename_i hc
  rw [show min (L.known + window) (L.rows.length + 1) - L.sent = 0 by omega]
  refine ⟨hg, ?_⟩
  show L.sent = _
  rw [hgs]; omega
theorem fresh_list (own : List GMsg) (tk s : Nat) (h : tk ≤ s) : ∀ c, (((List.range c).map fun j => imsg own (tk + j + 1)).filter fun m => decide (s < m.number)) = (List.range (c - (s - tk))).map fun j => imsg own (s + 1 + j)
 | 0 => by simp
 | c + 1 => by
  rw [List.range_succ, List.map_append, List.filter_append, fresh_list own tk s h c]
  by_cases hc : s < tk + c + 1
  ·have e : c + 1 - (s - tk) = c - (s - tk) + 1 := by omega
   rw [e, List.range_succ, List.map_append]
   congr 1
   have e2 : s + 1 + (c - (s - tk)) = tk + c + 1 := by omega
   simp only [List.map_cons, List.map_nil, e2]
   exact List.filter_cons_of_pos (p := fun m : IMsg => decide (s < m.number)) (a := imsg own (tk + c + 1)) (l := []) (decide_eq_true hc)
  ·rw [show c + 1 - (s - tk) = 0 by omega, show c - (s - tk) = 0 by omega]
   simp only [List.map_cons, List.map_nil]
   have := List.filter_cons_of_neg (p := fun m : IMsg => decide (s < m.number)) (a := imsg own (tk + c + 1)) (l := []) (fun h => hc (of_decide_eq_true h))
   rw [this]
   rfl
theorem EndR.heard (h : EndR window K own oth E L) (hf : Half own oth E) (hb : ∀ n, 1 ≤ n → n ≤ own.length → Bytes ((imsg own n).bytes E.taken)) (tk : Nat) (ht : tk ≤ E.sentTo window) : EndR window K own oth (E.learn window tk) (L.heard window tk) := by
 have hs := h.2
 have hse := hf.sentTo_eq (window := window)
 have hl := h.1.len
 have hkn := hf.kn
 have hk := h.1.known
 unfold REnd.heard REnd.know
 rcases hf.learn_cases (window := window) tk with ⟨a, e⟩ | ⟨a1, a2, e⟩ <;> rw [e]
 ·rw [if_neg (by omega)]
  unfold REnd.may
  rw [show min (L.known + window) L.rows.length - L.sent = 0 by omega]
  exact h
 ·rw [if_pos (by omega)]
  have hm := hf.sentTo_moved (window := window) a1 a2
  have hq : EndQ K own oth (E.moved tk) { L with known := tk } := ⟨h.1.hist, h.1.memo, h.1.taken, rfl, h.1.kept, h.1.keptK, h.1.out, h.1.spoilt⟩
  have em : ({ L with known := tk } : REnd).may window = min (tk + window) own.length := by unfold REnd.may; rw [← hl]
  rw [em]
  have hw : (E.moved tk).waiting = tailOf own tk := (hf.moved a1 a2).wait
  have efr : E.fresh window tk = (List.range (min (tk + window) own.length - L.sent)).map fun j => imsg own (L.sent + 1 + j) := by
   unfold IEnd.fresh
   rw [hw, tailOf_take, ← show E.sentTo window = E.known + min window E.waiting.length from rfl, ← hs, fresh_list own tk L.sent (by omega)]
   congr 1
   congr 1
   omega
  rw [efr]
  refine ⟨hq.sendN hb (L.sent + 1) (by omega) _ (by omega), ?_⟩
  rw [sendN_sent, (sends_made (window := window) _ _).2, hm]
  have e0 : ({ L with known := tk } : REnd).sent = L.sent := rfl
  rw [e0]
  split
  ·omega
  ·rw [Nat.max_eq_right (by omega)]
   omega
theorem EndR.keep (h : EndR window K own oth E L) (m : IMsg) : EndR window (K + 1) own oth (E.keep window m) (L.keep window m.number) := by
 obtain ⟨hq, hs⟩ := h
 unfold IEnd.keep REnd.keep
 have htk := hq.taken
 by_cases h1 : E.taken < m.number ∧ m.number ≤ E.taken + window
 ·rw [if_pos (show L.taken < m.number ∧ m.number ≤ L.taken + window by omega)]
  by_cases h2 : m.number ∈ E.kept.map IMsg.number
  ·rw [if_pos (.inr (.inr h2))]
   refine ⟨⟨hq.hist, hq.memo, hq.taken, hq.known, fun n hn => ?_, by simp; exact hq.keptK, hq.out, hq.spoilt⟩, hs⟩
   show n ∈ L.kept ++ [m.number] ↔ _
   rw [List.mem_append, hq.kept n hn, List.mem_singleton]
   exact ⟨fun h => h.elim (fun h => h) (fun h => by rw [h]; exact h2), .inl⟩
  ·rw [if_neg (by simp only [not_or]; exact ⟨by omega, by omega, h2⟩)]
   refine ⟨⟨hq.hist, hq.memo, hq.taken, hq.known, fun n hn => ?_, by simp; exact hq.keptK, hq.out, hq.spoilt⟩, hs⟩
   show n ∈ L.kept ++ [m.number] ↔ n ∈ (E.kept ++ [m]).map IMsg.number
   rw [List.mem_append, hq.kept n hn, List.map_append, List.mem_append]
   simp
 ·rw [if_neg (show ¬ (L.taken < m.number ∧ m.number ≤ L.taken + window) by omega), if_pos (by omega)]
  exact ⟨hq.mono (Nat.le_succ _), hs⟩
theorem EndR.take (h : EndR window K own oth E L) {n : Nat} (hn : n = E.taken + 1) {ra : List RMsg} (h1 : histOf ra = own) (h2 : MemoR own oth ra) : EndR window K own oth ((E.drop n).take (imsg oth n)) { L with rows := ra, taken := L.taken + 1 } := by
 obtain ⟨hq, hs⟩ := h
 refine ⟨⟨h1, h2, by show L.taken + 1 = n; rw [hq.taken, hn], hq.known, fun q hqn => ?_, hq.keptK, hq.out, hq.spoilt⟩, hs⟩
 have hqn' : n < q := hqn
 show q ∈ L.kept ↔ q ∈ (E.kept.filter _).map IMsg.number
 rw [hq.kept q (by omega)]
 simp only [List.mem_map, List.mem_filter, decide_eq_true_eq]
 constructor
 ·rintro ⟨m, a, rfl⟩; exact ⟨m, ⟨a, by omega⟩, rfl⟩
 ·rintro ⟨m, ⟨a, _⟩, rfl⟩; exact ⟨m, a, rfl⟩
theorem EndR.rows (h : EndR window K own oth E L) {ra : List RMsg} (h1 : histOf ra = own) (h2 : MemoR own oth ra) : EndR window K own oth E { L with rows := ra } :=
 ⟨⟨h1, h2, h.1.taken, h.1.known, h.1.kept, h.1.keptK, h.1.out, h.1.spoilt⟩, h.2⟩
theorem EndR.fly (h : EndR window K own oth E L) {s : ByteArray} (hs : (readD s).isNone = false) : EndR window K own oth (E.fly s) (L.fly s) := by
 refine ⟨h.1.fly hs, ?_⟩
 rw [(L.fly_rows s).2.2.2.1, h.2]
 unfold IEnd.sentTo
 rw [(E.fly_fields s).1, (E.fly_fields s).2.1]
theorem EndR.word (h : EndR window K own oth E L) (ht : E.taken ≤ 255) : EndR window K own oth E.word L.word := by
 unfold IEnd.word REnd.word
 rw [h.1.taken]
 exact h.fly (by rw [readD_word _ ht]; rfl)
theorem EndR.tick (h : EndR window K own oth E L) (hf : Half own oth E) (hb : ∀ n, 1 ≤ n → n ≤ own.length → Bytes ((imsg own n).bytes E.taken)) (hw : 1 ≤ window) (ht : E.taken ≤ 255) : EndR window K own oth (E.tick window) (L.tick window) := by
 have hs := h.2
 have hse := hf.sentTo_eq (window := window)
 have hl := h.1.len
 have hkn := hf.kn
 have hk := h.1.known
 have hwl : E.waiting.length = own.length - E.known := by rw [hf.wait, tailOf_length]
 have em : L.may window = min (E.known + window) own.length := by unfold REnd.may; rw [hl, hk]
 unfold IEnd.tick REnd.tick
 rw [em, h.1.taken, hk]
 by_cases h0 : 0 < E.waiting.length
 ·rw [if_pos h0, if_neg (by omega), hf.wait, tailOf_take]
  have := h.1.sendN hb (E.known + 1) (by omega) (min (E.known + window) own.length - E.known) (by omega)
  rw [show min window (own.length - E.known) = min (E.known + window) own.length - E.known by omega]
  simp only [show ∀ j, E.known + j + 1 = E.known + 1 + j from fun j => by omega]
  refine ⟨this, ?_⟩
  rw [sendN_sent, (sends_made (window := window) _ _).2]
  split <;> omega
 ·rw [if_neg h0, show min (E.known + window) own.length - E.known = 0 by omega]
  by_cases h1 : 0 < E.taken
  ·rw [if_pos h1, if_pos ⟨by omega, h1⟩]
   have := h.word ht
   exact this
  ·rw [if_neg h1, if_neg (fun h => h1 h.2)]
   exact h
theorem EndR.lose (h : EndR window K own oth E L) (n : Nat) : EndR window K own oth (E.lose n) (L.lose n) := by
 refine ⟨?_, h.2⟩
 have := h.1.air (E.flying.take n ++ E.flying.drop (n + 1))
 unfold REnd.lose
 rw [h.1.out, h.1.spoilt]
 simp only [marks, List.map_append, List.map_take, List.map_drop] at this ⊢
 exact this
theorem EndR.double (h : EndR window K own oth E L) (d : ByteArray) : EndR window K own oth (E.fly d) (L.double d (readD d).isNone) := by
 unfold REnd.double
 rw [h.1.out]
 refine ⟨?_, ?_⟩
 ·unfold IEnd.fly
  split
  ·have := h.1.air (E.flying ++ [d])
   rw [h.1.spoilt]
   simp only [marks, List.map_append, List.map_cons, List.map_nil] at this ⊢
   exact this
  ·exact h.1
 ·unfold IEnd.sentTo
  rw [(E.fly_fields d).1, (E.fly_fields d).2.1]
  have := h.2
  split <;> exact this
theorem EndR.spoil (h : EndR window K own oth E L) (n : Nat) {d : ByteArray} (hd : readD d = none) : EndR window K own oth { E with flying := E.flying.set n d } (L.spoil n d) := by
 refine ⟨?_, h.2⟩
 have := h.1.air (E.flying.set n d)
 unfold REnd.spoil
 rw [h.1.out, h.1.spoilt]
 simp only [marks, List.map_set, hd, Option.isNone_none] at this ⊢
 exact this
theorem EndR.next (h : EndR window K own oth E L) : L.taken + 1 ∈ L.kept ↔ E.nextKept ≠ none := by
 rw [h.1.taken, h.1.kept (E.taken + 1) (Nat.lt_succ_self _), List.mem_map]
 constructor
 ·rintro ⟨m, a, b⟩ e
  exact (nextKept_iff E).1 e m a b
 ·intro e
  cases hn : E.nextKept with
  | none => exact absurd hn e
  | some m => exact ⟨m, (IEnd.nextKept_some hn).1, (IEnd.nextKept_some hn).2⟩
end
end Go.Proofs.Ytemkgikncmhoaaa

