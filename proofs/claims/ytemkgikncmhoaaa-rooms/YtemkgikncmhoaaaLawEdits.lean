/-
  weavelaw: edits, lines (Flying, Peek), pick, num. Own work.
-/
import Derived.Test.YtemkgikncmhoaaaPairs2
namespace Go.Proofs.Ytemkgikncmhoaaa
open Go.RowKit

theorem num_any (n : Int) (w : World) : Calls Try.prog 44 #[.int .i64 n] w fun e w' => e = .returned (.int .i64 n) ∧ w' = w := by
  go_enter Try.func44, Try.ntmps44
  go_wp2
  go_ret
  exact ⟨rfl, rfl⟩

def inPair (rx ry : Nat) (t : Tag) : Prop := t.1 = rx ∨ t.1 = ry
structure PairAt (own : Nat → Tag) (w : World) (rx ry xb yb : Nat) (X : IRoom) (R : RRoom) : Prop where
  x : RoomX own rx w xb X
  y : RoomY own ry w yb R
  inv : Inv X R
theorem PairAt.upd {own own' : Nat → Tag} {may : Tag → Prop} {w w' : World} {rx ry xb yb : Nat} {X : IRoom} {R : RRoom} (h : PairAt own w rx ry xb yb X R) (hu : Upd own own' may w w') (h1 : ∀ i k, ¬ may (rx, i, k)) (h2 : ∀ i k, ¬ may (ry, i, k)) : PairAt own' w' rx ry xb yb X R :=
  ⟨h.x.upd hu h1, h.y.upd hu h2, h.inv⟩

/-- One call behind the other. -/
theorem two_walk {own : Nat → Tag} {w : World} {rx ry xb yb : Nat} {X : IRoom} {R : RRoom} {fx fy : FuncId} {args : List Value} {V : Value → Prop} (h : Two own w rx ry xb yb X R fx fy args V) (hY : RoomY own ry w yb R) (hne : rx ≠ ry) (h0 : rx ≠ 0) :
    ∃ v, V v ∧ Calls Try.prog fx (.pointer (some ⟨xb, 0, none⟩) :: args).toArray w fun e w1 => e = .returned v ∧ (∀ b, b < w.heap.size → own b = (0, 0, 0) → ∀ o, w1.cell? ⟨b, o, none⟩ = w.cell? ⟨b, o, none⟩) ∧
      Calls Try.prog fy (.pointer (some ⟨yb, 0, none⟩) :: args).toArray w1 fun e w2 => e = .returned v ∧ ∃ own' X' R', PairAt own' w2 rx ry xb yb X' R' ∧ X'.texts.length = X.texts.length ∧ Upd own own' (inPair rx ry) w w2 := by
  obtain ⟨v, X', R', hV, hI, hlen, hx, hy⟩ := h
  refine ⟨v, hV, hx.mono ?_⟩
  rintro e w1 ⟨rfl, own1, hX1, hU1⟩
  refine ⟨rfl, fun b hb hb0 o => World.cell?_of_block (hU1.block b hb (by rw [hb0]; exact fun h => h0 h.symm)), ?_⟩
  refine (hy own1 w1 (hY.upd hU1 (fun i k h => hne h.symm))).mono ?_
  rintro e w2 ⟨rfl, own2, hY2, hU2⟩
  exact ⟨rfl, own2, X', R', ⟨hX1.upd hU2 (fun i k h => hne h), hY2, hI⟩, hlen, (hU1.mono (fun _ h => .inl h)).trans (hU2.mono (fun _ h => .inr h))⟩

/-- The two boxes that a law function lays first. -/
theorem boxes (own : Nat → Tag) (w : World) (p o : Array Value) :
    Upd own (retag own w.heap.size (0, 0, 0)) (fun _ => False) w ((w.alloc (.cells p 69)).alloc (.cells o 64)) ∧
    (∀ k, ((w.alloc (.cells p 69)).alloc (.cells o 64)).cell? ⟨w.heap.size, k, none⟩ = p[k]?) ∧ (∀ k, ((w.alloc (.cells p 69)).alloc (.cells o 64)).cell? ⟨w.heap.size + 1, k, none⟩ = o[k]?) := by
  refine ⟨Upd.retag (((Upd.refl own (fun _ => False) w).alloc _).alloc _) _ _ (Nat.le_refl _), fun k => ?_, fun k => ?_⟩
  · rw [World.cell?_alloc_lt _ _ _ (by simp)]; exact World.cell?_alloc_new _ _ _ _
  · have := World.cell?_alloc_new (w.alloc (.cells p 69)) o 64 k
    rw [World.size_alloc] at this
    exact this

def OpV (kd wn c n m l : Int) (bb : Bool) : Array Value := #[.int .i64 kd, .int .i64 wn, .int .i64 c, .int .i64 n, .int .i64 m, .int .u8 l, .bool bb]
def PairV (xb yb : Nat) : Array Value := #[.pointer (some ⟨xb, 0, none⟩), .pointer (some ⟨yb, 0, none⟩)]

def EditsPost (own : Nat → Tag) (w : World) (rx ry xb yb : Nat) (X : IRoom) (e : Ending) (w' : World) : Prop :=
  e = .returned (.bool true) ∧ ∃ own' X' R', PairAt own' w' rx ry xb yb X' R' ∧ X'.texts.length = X.texts.length ∧ Upd own own' (inPair rx ry) w w'

set_option maxRecDepth 100000 in
set_option maxHeartbeats 800000 in
theorem edits_put (own : Nat → Tag) (w : World) (rx ry xb yb : Nat) (X : IRoom) (R : RRoom) (h : PairAt own w rx ry xb yb X R) (hne : rx ≠ ry) (h0 : rx ≠ 0) (wn c n m l : Int) (bb : Bool) (hc : I64 c) (hl : 0 ≤ l ∧ l ≤ 255) :
    Calls Try.prog 46 #[.agg (PairV xb yb), .agg (OpV 2 wn c n m l bb)] w (EditsPost own w rx ry xb yb X) := by
  obtain ⟨V, zp, zo⟩ := boxes own w (PairV xb yb) (OpV 2 wn c n m l bb)
  have h1 := h.upd V (fun _ _ h => h) (fun _ _ h => h)
  have N0 : retag own w.heap.size (0, 0, 0) w.heap.size = (0, 0, 0) := retag_ge (Nat.le_refl _)
  have N1 : retag own w.heap.size (0, 0, 0) (w.heap.size + 1) = (0, 0, 0) := retag_ge (by omega)
  have s0 : w.heap.size < ((w.alloc (.cells (PairV xb yb) 69)).alloc (.cells (OpV 2 wn c n m l bb) 64)).heap.size := by simp; omega
  have s1 : w.heap.size + 1 < ((w.alloc (.cells (PairV xb yb) 69)).alloc (.cells (OpV 2 wn c n m l bb) 64)).heap.size := by simp
  obtain ⟨v, hV, hcall⟩ := two_walk (two_put _ _ rx ry xb yb X R h1.x h1.inv c n l hc hl) h1.y hne h0
  have p0 := zp 0
  have p1 := zp 1
  have z0 := zo 0
  have z2 := zo 2
  have z3 := zo 3
  have z5 := zo 5
  have HFIN : Hid (∀ w2 own' X' R', PairAt own' w2 rx ry xb yb X' R' → X'.texts.length = X.texts.length → Upd (retag own w.heap.size (0, 0, 0)) own' (inPair rx ry) ((w.alloc (.cells (PairV xb yb) 69)).alloc (.cells (OpV 2 wn c n m l bb) 64)) w2 → EditsPost own w rx ry xb yb X (.returned (.bool true)) w2) := hide fun w2 own' X' R' a1 a2 a3 => ⟨rfl, own', X', R', a1, a2, (V.mono (fun _ h => h.elim)).trans a3⟩
  have HC := hide hcall
  clear V zp zo h h1 hcall
  obtain ⟨nv, rfl⟩ := hV
  unfold OpV PairV at *
  simp only [List.getElem?_toArray, List.getElem?_cons_zero, List.getElem?_cons_succ] at p0 p1 z0 z2 z3 z5
  go_enter Try.func46, Try.ntmps46
  go_wp2_with fail
  generalize (w.alloc (.cells #[.pointer (some ⟨xb, 0, none⟩), .pointer (some ⟨yb, 0, none⟩)] 69)).alloc (.cells #[.int .i64 2, .int .i64 wn, .int .i64 c, .int .i64 n, .int .i64 m, .int .u8 l, .bool bb] 64) = W at *
  generalize retag own w.heap.size (0, 0, 0) = own1 at *
  generalize w.heap.size = N at *
  refine (unhide HC).mono ?_
  rintro e w1 ⟨rfl, hcell, hcall2⟩
  have q1 := (hcell _ s0 N0 1).trans p1
  have y2 := (hcell _ s1 N1 2).trans z2
  have y3 := (hcell _ s1 N1 3).trans z3
  have y5 := (hcell _ s1 N1 5).trans z5
  have HC2 := hide hcall2
  clear hcell hcall2
  go_wp2_with (first | (go_at_call 61; refine (unhide HC2).mono ?_; rintro e w2 ⟨rfl, own2, X2, R2, hP2, hl2, hU2⟩) | (go_at_call 44; refine (num_any _ _).mono ?_; rintro e w' ⟨rfl, rfl⟩))
  go_ret
  exact unhide HFIN _ _ _ _ hP2 hl2 hU2

set_option maxRecDepth 100000 in
set_option maxHeartbeats 800000 in
theorem edits_cut (own : Nat → Tag) (w : World) (rx ry xb yb : Nat) (X : IRoom) (R : RRoom) (h : PairAt own w rx ry xb yb X R) (hne : rx ≠ ry) (h0 : rx ≠ 0) (wn c n m l : Int) (bb : Bool) (hc : I64 c) :
    Calls Try.prog 46 #[.agg (PairV xb yb), .agg (OpV 3 wn c n m l bb)] w (EditsPost own w rx ry xb yb X) := by
  obtain ⟨V, zp, zo⟩ := boxes own w (PairV xb yb) (OpV 3 wn c n m l bb)
  have h1 := h.upd V (fun _ _ h => h) (fun _ _ h => h)
  have N0 : retag own w.heap.size (0, 0, 0) w.heap.size = (0, 0, 0) := retag_ge (Nat.le_refl _)
  have N1 : retag own w.heap.size (0, 0, 0) (w.heap.size + 1) = (0, 0, 0) := retag_ge (by omega)
  have s0 : w.heap.size < ((w.alloc (.cells (PairV xb yb) 69)).alloc (.cells (OpV 3 wn c n m l bb) 64)).heap.size := by simp; omega
  have s1 : w.heap.size + 1 < ((w.alloc (.cells (PairV xb yb) 69)).alloc (.cells (OpV 3 wn c n m l bb) 64)).heap.size := by simp
  obtain ⟨v, hV, hcall⟩ := two_walk (two_cut _ _ rx ry xb yb X R h1.x h1.inv c n hc) h1.y hne h0
  have p0 := zp 0
  have p1 := zp 1
  have z0 := zo 0
  have z2 := zo 2
  have z3 := zo 3
  have HFIN : Hid (∀ w2 own' X' R', PairAt own' w2 rx ry xb yb X' R' → X'.texts.length = X.texts.length → Upd (retag own w.heap.size (0, 0, 0)) own' (inPair rx ry) ((w.alloc (.cells (PairV xb yb) 69)).alloc (.cells (OpV 3 wn c n m l bb) 64)) w2 → EditsPost own w rx ry xb yb X (.returned (.bool true)) w2) := hide fun w2 own' X' R' a1 a2 a3 => ⟨rfl, own', X', R', a1, a2, (V.mono (fun _ h => h.elim)).trans a3⟩
  have HC := hide hcall
  clear V zp zo h h1 hcall
  obtain ⟨nv, rfl⟩ := hV
  unfold OpV PairV at *
  simp only [List.getElem?_toArray, List.getElem?_cons_zero, List.getElem?_cons_succ] at p0 p1 z0 z2 z3
  go_enter Try.func46, Try.ntmps46
  go_wp2_with fail
  generalize (w.alloc (.cells #[.pointer (some ⟨xb, 0, none⟩), .pointer (some ⟨yb, 0, none⟩)] 69)).alloc (.cells #[.int .i64 3, .int .i64 wn, .int .i64 c, .int .i64 n, .int .i64 m, .int .u8 l, .bool bb] 64) = W at *
  generalize retag own w.heap.size (0, 0, 0) = own1 at *
  generalize w.heap.size = N at *
  refine (unhide HC).mono ?_
  rintro e w1 ⟨rfl, hcell, hcall2⟩
  have q1 := (hcell _ s0 N0 1).trans p1
  have y2 := (hcell _ s1 N1 2).trans z2
  have y3 := (hcell _ s1 N1 3).trans z3
  have HC2 := hide hcall2
  clear hcell hcall2
  go_wp2_with (first | (go_at_call 62; refine (unhide HC2).mono ?_; rintro e w2 ⟨rfl, own2, X2, R2, hP2, hl2, hU2⟩) | (go_at_call 44; refine (num_any _ _).mono ?_; rintro e w' ⟨rfl, rfl⟩))
  go_ret
  exact unhide HFIN _ _ _ _ hP2 hl2 hU2

set_option maxRecDepth 100000 in
set_option maxHeartbeats 800000 in
theorem edits_read (own : Nat → Tag) (w : World) (rx ry xb yb : Nat) (X : IRoom) (R : RRoom) (h : PairAt own w rx ry xb yb X R) (hne : rx ≠ ry) (h0 : rx ≠ 0) (wn c n m l : Int) (bb : Bool) (hc : I64 c) :
    Calls Try.prog 46 #[.agg (PairV xb yb), .agg (OpV 4 wn c n m l bb)] w (EditsPost own w rx ry xb yb X) := by
  obtain ⟨V, zp, zo⟩ := boxes own w (PairV xb yb) (OpV 4 wn c n m l bb)
  have h1 := h.upd V (fun _ _ h => h) (fun _ _ h => h)
  have N0 : retag own w.heap.size (0, 0, 0) w.heap.size = (0, 0, 0) := retag_ge (Nat.le_refl _)
  have N1 : retag own w.heap.size (0, 0, 0) (w.heap.size + 1) = (0, 0, 0) := retag_ge (by omega)
  have s0 : w.heap.size < ((w.alloc (.cells (PairV xb yb) 69)).alloc (.cells (OpV 4 wn c n m l bb) 64)).heap.size := by simp; omega
  have s1 : w.heap.size + 1 < ((w.alloc (.cells (PairV xb yb) 69)).alloc (.cells (OpV 4 wn c n m l bb) 64)).heap.size := by simp
  obtain ⟨v, hV, hcall⟩ := two_walk (two_read _ _ rx ry xb yb X R h1.x h1.inv c hc) h1.y hne h0
  have p0 := zp 0
  have p1 := zp 1
  have z0 := zo 0
  have z2 := zo 2
  have HFIN : Hid (∀ w2 own' X' R', PairAt own' w2 rx ry xb yb X' R' → X'.texts.length = X.texts.length → Upd (retag own w.heap.size (0, 0, 0)) own' (inPair rx ry) ((w.alloc (.cells (PairV xb yb) 69)).alloc (.cells (OpV 4 wn c n m l bb) 64)) w2 → EditsPost own w rx ry xb yb X (.returned (.bool true)) w2) := hide fun w2 own' X' R' a1 a2 a3 => ⟨rfl, own', X', R', a1, a2, (V.mono (fun _ h => h.elim)).trans a3⟩
  have HC := hide hcall
  clear V zp zo h h1 hcall
  obtain ⟨sv, nv, rfl⟩ := hV
  unfold OpV PairV at *
  simp only [List.getElem?_toArray, List.getElem?_cons_zero, List.getElem?_cons_succ] at p0 p1 z0 z2
  go_enter Try.func46, Try.ntmps46
  go_wp2_with fail
  generalize (w.alloc (.cells #[.pointer (some ⟨xb, 0, none⟩), .pointer (some ⟨yb, 0, none⟩)] 69)).alloc (.cells #[.int .i64 4, .int .i64 wn, .int .i64 c, .int .i64 n, .int .i64 m, .int .u8 l, .bool bb] 64) = W at *
  generalize retag own w.heap.size (0, 0, 0) = own1 at *
  generalize w.heap.size = N at *
  refine (unhide HC).mono ?_
  rintro e w1 ⟨rfl, hcell, hcall2⟩
  have q1 := (hcell _ s0 N0 1).trans p1
  have y2 := (hcell _ s1 N1 2).trans z2
  have HC2 := hide hcall2
  clear hcell hcall2
  go_wp2_with (first | (go_at_call 63; refine (unhide HC2).mono ?_; rintro e w2 ⟨rfl, own2, X2, R2, hP2, hl2, hU2⟩) | (go_at_call 44; refine (num_any _ _).mono ?_; rintro e w' ⟨rfl, rfl⟩))
  go_ret
  exact unhide HFIN _ _ _ _ hP2 hl2 hU2

set_option maxRecDepth 100000 in
set_option maxHeartbeats 800000 in
theorem edits_waits (own : Nat → Tag) (w : World) (rx ry xb yb : Nat) (X : IRoom) (R : RRoom) (h : PairAt own w rx ry xb yb X R) (hne : rx ≠ ry) (h0 : rx ≠ 0) (wn c n m l : Int) (bb : Bool) (hc : I64 c) :
    Calls Try.prog 46 #[.agg (PairV xb yb), .agg (OpV 5 wn c n m l bb)] w (EditsPost own w rx ry xb yb X) := by
  obtain ⟨V, zp, zo⟩ := boxes own w (PairV xb yb) (OpV 5 wn c n m l bb)
  have h1 := h.upd V (fun _ _ h => h) (fun _ _ h => h)
  have N0 : retag own w.heap.size (0, 0, 0) w.heap.size = (0, 0, 0) := retag_ge (Nat.le_refl _)
  have N1 : retag own w.heap.size (0, 0, 0) (w.heap.size + 1) = (0, 0, 0) := retag_ge (by omega)
  have s0 : w.heap.size < ((w.alloc (.cells (PairV xb yb) 69)).alloc (.cells (OpV 5 wn c n m l bb) 64)).heap.size := by simp; omega
  have s1 : w.heap.size + 1 < ((w.alloc (.cells (PairV xb yb) 69)).alloc (.cells (OpV 5 wn c n m l bb) 64)).heap.size := by simp
  obtain ⟨v, hV, hcall⟩ := two_walk (two_waits _ _ rx ry xb yb X R h1.x h1.inv c hc) h1.y hne h0
  have p0 := zp 0
  have p1 := zp 1
  have z0 := zo 0
  have z2 := zo 2
  have HFIN : Hid (∀ w2 own' X' R', PairAt own' w2 rx ry xb yb X' R' → X'.texts.length = X.texts.length → Upd (retag own w.heap.size (0, 0, 0)) own' (inPair rx ry) ((w.alloc (.cells (PairV xb yb) 69)).alloc (.cells (OpV 5 wn c n m l bb) 64)) w2 → EditsPost own w rx ry xb yb X (.returned (.bool true)) w2) := hide fun w2 own' X' R' a1 a2 a3 => ⟨rfl, own', X', R', a1, a2, (V.mono (fun _ h => h.elim)).trans a3⟩
  have HC := hide hcall
  clear V zp zo h h1 hcall
  obtain ⟨sv, nv, rfl⟩ := hV
  unfold OpV PairV at *
  simp only [List.getElem?_toArray, List.getElem?_cons_zero, List.getElem?_cons_succ] at p0 p1 z0 z2
  go_enter Try.func46, Try.ntmps46
  go_wp2_with fail
  generalize (w.alloc (.cells #[.pointer (some ⟨xb, 0, none⟩), .pointer (some ⟨yb, 0, none⟩)] 69)).alloc (.cells #[.int .i64 5, .int .i64 wn, .int .i64 c, .int .i64 n, .int .i64 m, .int .u8 l, .bool bb] 64) = W at *
  generalize retag own w.heap.size (0, 0, 0) = own1 at *
  generalize w.heap.size = N at *
  refine (unhide HC).mono ?_
  rintro e w1 ⟨rfl, hcell, hcall2⟩
  have q1 := (hcell _ s0 N0 1).trans p1
  have y2 := (hcell _ s1 N1 2).trans z2
  have HC2 := hide hcall2
  clear hcell hcall2
  go_wp2_with (first | (go_at_call 64; refine (unhide HC2).mono ?_; rintro e w2 ⟨rfl, own2, X2, R2, hP2, hl2, hU2⟩) | (go_at_call 44; refine (num_any _ _).mono ?_; rintro e w' ⟨rfl, rfl⟩))
  go_ret
  exact unhide HFIN _ _ _ _ hP2 hl2 hU2

set_option maxRecDepth 100000 in
set_option maxHeartbeats 800000 in
theorem lines_flying (own : Nat → Tag) (w : World) (rx ry xb yb : Nat) (X : IRoom) (R : RRoom) (h : PairAt own w rx ry xb yb X R) (hne : rx ≠ ry) (h0 : rx ≠ 0) (wn c n m l : Int) (bb : Bool) (hc : I64 c) :
    Calls Try.prog 45 #[.agg (PairV xb yb), .agg (OpV 6 wn c n m l bb)] w (EditsPost own w rx ry xb yb X) := by
  obtain ⟨V, zp, zo⟩ := boxes own w (PairV xb yb) (OpV 6 wn c n m l bb)
  have h1 := h.upd V (fun _ _ h => h) (fun _ _ h => h)
  have N0 : retag own w.heap.size (0, 0, 0) w.heap.size = (0, 0, 0) := retag_ge (Nat.le_refl _)
  have N1 : retag own w.heap.size (0, 0, 0) (w.heap.size + 1) = (0, 0, 0) := retag_ge (by omega)
  have s0 : w.heap.size < ((w.alloc (.cells (PairV xb yb) 69)).alloc (.cells (OpV 6 wn c n m l bb) 64)).heap.size := by simp; omega
  have s1 : w.heap.size + 1 < ((w.alloc (.cells (PairV xb yb) 69)).alloc (.cells (OpV 6 wn c n m l bb) 64)).heap.size := by simp
  obtain ⟨v, hV, hcall⟩ := two_walk (two_flying _ _ rx ry xb yb X R h1.x h1.inv c bb hc) h1.y hne h0
  have p0 := zp 0
  have p1 := zp 1
  have z0 := zo 0
  have z2 := zo 2
  have z6 := zo 6
  have HFIN : Hid (∀ w2 own' X' R', PairAt own' w2 rx ry xb yb X' R' → X'.texts.length = X.texts.length → Upd (retag own w.heap.size (0, 0, 0)) own' (inPair rx ry) ((w.alloc (.cells (PairV xb yb) 69)).alloc (.cells (OpV 6 wn c n m l bb) 64)) w2 → EditsPost own w rx ry xb yb X (.returned (.bool true)) w2) := hide fun w2 own' X' R' a1 a2 a3 => ⟨rfl, own', X', R', a1, a2, (V.mono (fun _ h => h.elim)).trans a3⟩
  have HC := hide hcall
  clear V zp zo h h1 hcall
  obtain ⟨nv, rfl⟩ := hV
  unfold OpV PairV at *
  simp only [List.getElem?_toArray, List.getElem?_cons_zero, List.getElem?_cons_succ] at p0 p1 z0 z2 z6
  go_enter Try.func45, Try.ntmps45
  go_wp2_with fail
  generalize (w.alloc (.cells #[.pointer (some ⟨xb, 0, none⟩), .pointer (some ⟨yb, 0, none⟩)] 69)).alloc (.cells #[.int .i64 6, .int .i64 wn, .int .i64 c, .int .i64 n, .int .i64 m, .int .u8 l, .bool bb] 64) = W at *
  generalize retag own w.heap.size (0, 0, 0) = own1 at *
  generalize w.heap.size = N at *
  refine (unhide HC).mono ?_
  rintro e w1 ⟨rfl, hcell, hcall2⟩
  have q1 := (hcell _ s0 N0 1).trans p1
  have y2 := (hcell _ s1 N1 2).trans z2
  have y6 := (hcell _ s1 N1 6).trans z6
  have HC2 := hide hcall2
  clear hcell hcall2
  go_wp2_with (first | (go_at_call 47; refine (unhide HC2).mono ?_; rintro e w2 ⟨rfl, own2, X2, R2, hP2, hl2, hU2⟩) | (go_at_call 44; refine (num_any _ _).mono ?_; rintro e w' ⟨rfl, rfl⟩))
  go_ret
  exact unhide HFIN _ _ _ _ hP2 hl2 hU2

set_option maxRecDepth 100000 in
set_option maxHeartbeats 800000 in
theorem lines_peek (own : Nat → Tag) (w : World) (rx ry xb yb : Nat) (X : IRoom) (R : RRoom) (h : PairAt own w rx ry xb yb X R) (hne : rx ≠ ry) (h0 : rx ≠ 0) (wn c n m l : Int) (bb : Bool) (hc : I64 c) :
    Calls Try.prog 45 #[.agg (PairV xb yb), .agg (OpV 7 wn c n m l bb)] w (EditsPost own w rx ry xb yb X) := by
  obtain ⟨V, zp, zo⟩ := boxes own w (PairV xb yb) (OpV 7 wn c n m l bb)
  have h1 := h.upd V (fun _ _ h => h) (fun _ _ h => h)
  have N0 : retag own w.heap.size (0, 0, 0) w.heap.size = (0, 0, 0) := retag_ge (Nat.le_refl _)
  have N1 : retag own w.heap.size (0, 0, 0) (w.heap.size + 1) = (0, 0, 0) := retag_ge (by omega)
  have s0 : w.heap.size < ((w.alloc (.cells (PairV xb yb) 69)).alloc (.cells (OpV 7 wn c n m l bb) 64)).heap.size := by simp; omega
  have s1 : w.heap.size + 1 < ((w.alloc (.cells (PairV xb yb) 69)).alloc (.cells (OpV 7 wn c n m l bb) 64)).heap.size := by simp
  obtain ⟨v, hV, hcall⟩ := two_walk (two_peek _ _ rx ry xb yb X R h1.x h1.inv c bb n hc) h1.y hne h0
  have p0 := zp 0
  have p1 := zp 1
  have z0 := zo 0
  have z2 := zo 2
  have z6 := zo 6
  have z3 := zo 3
  have HFIN : Hid (∀ w2 own' X' R', PairAt own' w2 rx ry xb yb X' R' → X'.texts.length = X.texts.length → Upd (retag own w.heap.size (0, 0, 0)) own' (inPair rx ry) ((w.alloc (.cells (PairV xb yb) 69)).alloc (.cells (OpV 7 wn c n m l bb) 64)) w2 → EditsPost own w rx ry xb yb X (.returned (.bool true)) w2) := hide fun w2 own' X' R' a1 a2 a3 => ⟨rfl, own', X', R', a1, a2, (V.mono (fun _ h => h.elim)).trans a3⟩
  have HC := hide hcall
  clear V zp zo h h1 hcall
  obtain ⟨sv, nv, rfl⟩ := hV
  unfold OpV PairV at *
  simp only [List.getElem?_toArray, List.getElem?_cons_zero, List.getElem?_cons_succ] at p0 p1 z0 z2 z6 z3
  go_enter Try.func45, Try.ntmps45
  go_wp2_with fail
  generalize (w.alloc (.cells #[.pointer (some ⟨xb, 0, none⟩), .pointer (some ⟨yb, 0, none⟩)] 69)).alloc (.cells #[.int .i64 7, .int .i64 wn, .int .i64 c, .int .i64 n, .int .i64 m, .int .u8 l, .bool bb] 64) = W at *
  generalize retag own w.heap.size (0, 0, 0) = own1 at *
  generalize w.heap.size = N at *
  refine (unhide HC).mono ?_
  rintro e w1 ⟨rfl, hcell, hcall2⟩
  have q1 := (hcell _ s0 N0 1).trans p1
  have y2 := (hcell _ s1 N1 2).trans z2
  have y6 := (hcell _ s1 N1 6).trans z6
  have y3 := (hcell _ s1 N1 3).trans z3
  have HC2 := hide hcall2
  clear hcell hcall2
  go_wp2_with (first | (go_at_call 58; refine (unhide HC2).mono ?_; rintro e w2 ⟨rfl, own2, X2, R2, hP2, hl2, hU2⟩) | (go_at_call 44; refine (num_any _ _).mono ?_; rintro e w' ⟨rfl, rfl⟩))
  go_ret
  exact unhide HFIN _ _ _ _ hP2 hl2 hU2

end Go.Proofs.Ytemkgikncmhoaaa
