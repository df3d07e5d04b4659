import Derived.Test.YtemkgikncmhoaaaM42
namespace Go.Proofs.Ytemkgikncmhoaaa
open Go.RowKit

theorem num_any (n : Int) (w : World) : Calls Try.prog 44 #[.int .i64 n] w fun e w' => e = .returned (.int .i64 n) ∧ w' = w := by
 go_enter Try.func44, Try.ntmps44
 go_wp2
 go_ret
 exact ⟨rfl, rfl⟩

def inPair (rx ry : Nat) (t : Tag) : Prop := t.1 = rx ∨ t.1 = ry
structure PairAt (K : Nat) (own : Nat → Tag) (w : World) (rx ry xb yb : Nat) (X : IRoom) (R : RRoom) : Prop where
 x : RoomX own rx w xb X
 y : RoomY own ry w yb R
 inv : InvA K X R
theorem PairAt.upd {K : Nat} {own own' : Nat → Tag} {may : Tag → Prop} {w w' : World} {rx ry xb yb : Nat} {X : IRoom} {R : RRoom} (h : PairAt K own w rx ry xb yb X R) (hu : Upd own own' may w w') (h1 : ∀ i k, ¬ may (rx, i, k)) (h2 : ∀ i k, ¬ may (ry, i, k)) : PairAt K own' w' rx ry xb yb X R :=
 ⟨h.x.upd hu h1, h.y.upd hu h2, h.inv⟩
theorem PairAt.mono {K K' : Nat} {own : Nat → Tag} {w : World} {rx ry xb yb : Nat} {X : IRoom} {R : RRoom} (h : PairAt K own w rx ry xb yb X R) (hk : K ≤ K') : PairAt K' own w rx ry xb yb X R := ⟨h.x, h.y, h.inv.mono hk⟩

/-- One call behind the other. -/
theorem two_walk {K : Nat} {own : Nat → Tag} {w : World} {rx ry xb yb : Nat} {X : IRoom} {R : RRoom} {fx fy : FuncId} {args : List Value} {V : Value → Prop} (h : TwoA K own w rx ry xb yb X R fx fy args V) (hY : RoomY own ry w yb R) (hne : rx ≠ ry) (h0 : rx ≠ 0) :
  ∃ v, V v ∧ Calls Try.prog fx (.pointer (some ⟨xb, 0, none⟩) :: args).toArray w fun e w1 => e = .returned v ∧ (∀ b, b < w.heap.size → own b = (0, 0, 0) → ∀ o, w1.cell? ⟨b, o, none⟩ = w.cell? ⟨b, o, none⟩) ∧
   Calls Try.prog fy (.pointer (some ⟨yb, 0, none⟩) :: args).toArray w1 fun e w2 => e = .returned v ∧ ∃ own' X' R', PairAt K own' w2 rx ry xb yb X' R' ∧ X'.texts.length = X.texts.length ∧ Upd own own' (inPair rx ry) w w2 := by
 obtain ⟨v, X', hV, hlen, hx, hy⟩ := h
 refine ⟨v, hV, hx.mono ?_⟩
 rintro e w1 ⟨rfl, own1, hX1, hU1⟩
 refine ⟨rfl, fun b hb hb0 o => World.cell?_of_block (hU1.block b hb (by rw [hb0]; exact fun h => h0 h.symm)), ?_⟩
 refine (hy own1 w1 (hY.upd hU1 (fun i k h => hne h.symm))).mono ?_
 rintro e w2 ⟨rfl, own2, R', hI, hY2, hU2⟩
 exact ⟨rfl, own2, X', R', ⟨hX1.upd hU2 (fun i k h => hne h), hY2, hI⟩, hlen, (hU1.mono (fun _ h => .inl h)).trans (hU2.mono (fun _ h => .inr h))⟩

/-- The two boxes that a law function lays first. -/
theorem boxes (own : Nat → Tag) (w : World) (p o : Array Value) :
  Upd own (retag own w.heap.size (0, 0, 0)) (fun _ => False) w ((w.alloc (.cells p 69)).alloc (.cells o 64)) ∧
  (∀ k, ((w.alloc (.cells p 69)).alloc (.cells o 64)).cell? ⟨w.heap.size, k, none⟩ = p[k]?) ∧ (∀ k, ((w.alloc (.cells p 69)).alloc (.cells o 64)).cell? ⟨w.heap.size + 1, k, none⟩ = o[k]?) := by
 refine ⟨Upd.retag (((Upd.refl own (fun _ => False) w).alloc _).alloc _) _ _ (Nat.le_refl _), fun k => ?_, fun k => ?_⟩
 ·rw [World.cell?_alloc_lt _ _ _ (by simp)]; exact World.cell?_alloc_new _ _ _ _
 ·have := World.cell?_alloc_new (w.alloc (.cells p 69)) o 64 k
  rw [World.size_alloc] at this
  exact this

def OpV (kd wn c n m l : Int) (bb : Bool) : Array Value := #[.int .i64 kd, .int .i64 wn, .int .i64 c, .int .i64 n, .int .i64 m, .int .u8 l, .bool bb]
def PairV (xb yb : Nat) : Array Value := #[.pointer (some ⟨xb, 0, none⟩), .pointer (some ⟨yb, 0, none⟩)]

def EditsPost (K : Nat) (own : Nat → Tag) (w : World) (rx ry xb yb : Nat) (X : IRoom) (e : Ending) (w' : World) : Prop :=
 e = .returned (.bool true) ∧ ∃ own' X' R', PairAt K own' w' rx ry xb yb X' R' ∧ X'.texts.length = X.texts.length ∧ Upd own own' (inPair rx ry) w w'

set_option maxRecDepth 100000 in
set_option maxHeartbeats 800000 in
theorem edits_put (K : Nat) (own : Nat → Tag) (w : World) (rx ry xb yb : Nat) (X : IRoom) (R : RRoom) (h : PairAt K own w rx ry xb yb X R) (hne : rx ≠ ry) (h0 : rx ≠ 0) (wn c n m l : Int) (bb : Bool) (hc : I64 c) (hl : 0 ≤ l ∧ l ≤ 255) :
  Calls Try.prog 46 #[.agg (PairV xb yb), .agg (OpV 2 wn c n m l bb)] w (EditsPost K own w rx ry xb yb X) := by
 obtain ⟨V, zp, zo⟩ := boxes own w (PairV xb yb) (OpV 2 wn c n m l bb)
 have h1 := h.upd V (fun _ _ h => h) (fun _ _ h => h)
 have N0 : retag own w.heap.size (0, 0, 0) w.heap.size = (0, 0, 0) := retag_ge (Nat.le_refl _)
 have N1 : retag own w.heap.size (0, 0, 0) (w.heap.size + 1) = (0, 0, 0) := retag_ge (by omega)
 have s0 : w.heap.size < ((w.alloc (.cells (PairV xb yb) 69)).alloc (.cells (OpV 2 wn c n m l bb) 64)).heap.size := by simp; omega
 have s1 : w.heap.size + 1 < ((w.alloc (.cells (PairV xb yb) 69)).alloc (.cells (OpV 2 wn c n m l bb) 64)).heap.size := by simp
 obtain ⟨v, hV, hcall⟩ := two_walk (two_put K _ _ rx ry xb yb X R h1.x h1.inv c n l hc hl) h1.y hne h0
 have p0 := zp 0
 have p1 := zp 1
 have z0 := zo 0
 have z2 := zo 2
 have z3 := zo 3
 have z5 := zo 5
 have HFIN : Hid (∀ w2 own' X' R', PairAt K own' w2 rx ry xb yb X' R' → X'.texts.length = X.texts.length → Upd (retag own w.heap.size (0, 0, 0)) own' (inPair rx ry) ((w.alloc (.cells (PairV xb yb) 69)).alloc (.cells (OpV 2 wn c n m l bb) 64)) w2 → EditsPost K own w rx ry xb yb X (.returned (.bool true)) w2) := hide fun w2 own' X' R' a1 a2 a3 => ⟨rfl, own', X', R', a1, a2, (V.mono (fun _ h => h.elim)).trans a3⟩
 have HC := hide hcall
 clear V zp zo h h1 hcall
 obtain ⟨nv, rfl⟩ := hV
 unfold OpV PairV at *
 simp only [List.getElem?_toArray, List.getElem?_cons_zero, List.getElem?_cons_succ] at p0 p1 z0 z2 z3 z5
 go_enter Try.func46, Try.ntmps46
 go_wp2_with fail
 generalize (w.alloc (.cells #[.pointer (some ⟨xb, 0, none⟩), .pointer (some ⟨yb, 0, none⟩)] 69)).alloc (.cells #[.int .i64 2, .int .i64 wn, .int .i64 c, .int .i64 n, .int .i64 m, .int .u8 l, .bool bb] 64) = W at *
 generalize retag own w.heap.size (0, 0, 0) = own1 at *
 generalize w.heap.size = N at *
 refine (unhide HC).mono ?_
 rintro e w1 ⟨rfl, hcell, hcall2⟩
 have q1 := (hcell _ s0 N0 1).trans p1
 have y2 := (hcell _ s1 N1 2).trans z2
 have y3 := (hcell _ s1 N1 3).trans z3
 have y5 := (hcell _ s1 N1 5).trans z5
 have HC2 := hide hcall2
 clear hcell hcall2
 go_wp2_with (first | (go_at_call 61; refine (unhide HC2).mono ?_; rintro e w2 ⟨rfl, own2, X2, R2, hP2, hl2, hU2⟩) | (go_at_call 44; refine (num_any _ _).mono ?_; rintro e w' ⟨rfl, rfl⟩))
 go_ret
 exact unhide HFIN _ _ _ _ hP2 hl2 hU2

set_option maxRecDepth 100000 in
set_option maxHeartbeats 800000 in
theorem edits_cut (K : Nat) (own : Nat → Tag) (w : World) (rx ry xb yb : Nat) (X : IRoom) (R : RRoom) (h : PairAt K own w rx ry xb yb X R) (hne : rx ≠ ry) (h0 : rx ≠ 0) (wn c n m l : Int) (bb : Bool) (hc : I64 c) :
  Calls Try.prog 46 #[.agg (PairV xb yb), .agg (OpV 3 wn c n m l bb)] w (EditsPost K own w rx ry xb yb X) := by
 obtain ⟨V, zp, zo⟩ := boxes own w (PairV xb yb) (OpV 3 wn c n m l bb)
 have h1 := h.upd V (fun _ _ h => h) (fun _ _ h => h)
 have N0 : retag own w.heap.size (0, 0, 0) w.heap.size = (0, 0, 0) := retag_ge (Nat.le_refl _)
 have N1 : retag own w.heap.size (0, 0, 0) (w.heap.size + 1) = (0, 0, 0) := retag_ge (by omega)
 have s0 : w.heap.size < ((w.alloc (.cells (PairV xb yb) 69)).alloc (.cells (OpV 3 wn c n m l bb) 64)).heap.size := by simp; omega
 have s1 : w.heap.size + 1 < ((w.alloc (.cells (PairV xb yb) 69)).alloc (.cells (OpV 3 wn c n m l bb) 64)).heap.size := by simp
 obtain ⟨v, hV, hcall⟩ := two_walk (two_cut K _ _ rx ry xb yb X R h1.x h1.inv c n hc) h1.y hne h0
 have p0 := zp 0
 have p1 := zp 1
 have z0 := zo 0
 have z2 := zo 2
 have z3 := zo 3
 have HFIN : Hid (∀ w2 own' X' R', PairAt K own' w2 rx ry xb yb X' R' → X'.texts.length = X.texts.length → Upd (retag own w.heap.size (0, 0, 0)) own' (inPair rx ry) ((w.alloc (.cells (PairV xb yb) 69)).alloc (.cells (OpV 3 wn c n m l bb) 64)) w2 → EditsPost K own w rx ry xb yb X (.returned (.bool true)) w2) := hide fun w2 own' X' R' a1 a2 a3 => ⟨rfl, own', X', R', a1, a2, (V.mono (fun _ h => h.elim)).trans a3⟩
 have HC := hide hcall
 clear V zp zo h h1 hcall
 obtain ⟨nv, rfl⟩ := hV
 unfold OpV PairV at *
 simp only [List.getElem?_toArray, List.getElem?_cons_zero, List.getElem?_cons_succ] at p0 p1 z0 z2 z3
 go_enter Try.func46, Try.ntmps46
 go_wp2_with fail
 generalize (w.alloc (.cells #[.pointer (some ⟨xb, 0, none⟩), .pointer (some ⟨yb, 0, none⟩)] 69)).alloc (.cells #[.int .i64 3, .int .i64 wn, .int .i64 c, .int .i64 n, .int .i64 m, .int .u8 l, .bool bb] 64) = W at *
 generalize retag own w.heap.size (0, 0, 0) = own1 at *
 generalize w.heap.size = N at *
 refine (unhide HC).mono ?_
 rintro e w1 ⟨rfl, hcell, hcall2⟩
 have q1 := (hcell _ s0 N0 1).trans p1
 have y2 := (hcell _ s1 N1 2).trans z2
 have y3 := (hcell _ s1 N1 3).trans z3
 have HC2 := hide hcall2
 clear hcell hcall2
 go_wp2_with (first | (go_at_call 62; refine (unhide HC2).mono ?_; rintro e w2 ⟨rfl, own2, X2, R2, hP2, hl2, hU2⟩) | (go_at_call 44; refine (num_any _ _).mono ?_; rintro e w' ⟨rfl, rfl⟩))
 go_ret
 exact unhide HFIN _ _ _ _ hP2 hl2 hU2

set_option maxRecDepth 100000 in
set_option maxHeartbeats 800000 in
theorem edits_read (K : Nat) (own : Nat → Tag) (w : World) (rx ry xb yb : Nat) (X : IRoom) (R : RRoom) (h : PairAt K own w rx ry xb yb X R) (hne : rx ≠ ry) (h0 : rx ≠ 0) (wn c n m l : Int) (bb : Bool) (hc : I64 c) :
  Calls Try.prog 46 #[.agg (PairV xb yb), .agg (OpV 4 wn c n m l bb)] w (EditsPost K own w rx ry xb yb X) := by
 obtain ⟨V, zp, zo⟩ := boxes own w (PairV xb yb) (OpV 4 wn c n m l bb)
 have h1 := h.upd V (fun _ _ h => h) (fun _ _ h => h)
 have N0 : retag own w.heap.size (0, 0, 0) w.heap.size = (0, 0, 0) := retag_ge (Nat.le_refl _)
 have N1 : retag own w.heap.size (0, 0, 0) (w.heap.size + 1) = (0, 0, 0) := retag_ge (by omega)
 have s0 : w.heap.size < ((w.alloc (.cells (PairV xb yb) 69)).alloc (.cells (OpV 4 wn c n m l bb) 64)).heap.size := by simp; omega
 have s1 : w.heap.size + 1 < ((w.alloc (.cells (PairV xb yb) 69)).alloc (.cells (OpV 4 wn c n m l bb) 64)).heap.size := by simp
 obtain ⟨v, hV, hcall⟩ := two_walk (two_read K _ _ rx ry xb yb X R h1.x h1.inv c hc) h1.y hne h0
 have p0 := zp 0
 have p1 := zp 1
 have z0 := zo 0
 have z2 := zo 2
 have HFIN : Hid (∀ w2 own' X' R', PairAt K own' w2 rx ry xb yb X' R' → X'.texts.length = X.texts.length → Upd (retag own w.heap.size (0, 0, 0)) own' (inPair rx ry) ((w.alloc (.cells (PairV xb yb) 69)).alloc (.cells (OpV 4 wn c n m l bb) 64)) w2 → EditsPost K own w rx ry xb yb X (.returned (.bool true)) w2) := hide fun w2 own' X' R' a1 a2 a3 => ⟨rfl, own', X', R', a1, a2, (V.mono (fun _ h => h.elim)).trans a3⟩
 have HC := hide hcall
 clear V zp zo h h1 hcall
 obtain ⟨sv, nv, rfl⟩ := hV
 unfold OpV PairV at *
 simp only [List.getElem?_toArray, List.getElem?_cons_zero, List.getElem?_cons_succ] at p0 p1 z0 z2
 go_enter Try.func46, Try.ntmps46
 go_wp2_with fail
 generalize (w.alloc (.cells #[.pointer (some ⟨xb, 0, none⟩), .pointer (some ⟨yb, 0, none⟩)] 69)).alloc (.cells #[.int .i64 4, .int .i64 wn, .int .i64 c, .int .i64 n, .int .i64 m, .int .u8 l, .bool bb] 64) = W at *
 generalize retag own w.heap.size (0, 0, 0) = own1 at *
 generalize w.heap.size = N at *
 refine (unhide HC).mono ?_
 rintro e w1 ⟨rfl, hcell, hcall2⟩
 have q1 := (hcell _ s0 N0 1).trans p1
 have y2 := (hcell _ s1 N1 2).trans z2
 have HC2 := hide hcall2
 clear hcell hcall2
 go_wp2_with (first | (go_at_call 63; refine (unhide HC2).mono ?_; rintro e w2 ⟨rfl, own2, X2, R2, hP2, hl2, hU2⟩) | (go_at_call 44; refine (num_any _ _).mono ?_; rintro e w' ⟨rfl, rfl⟩))
 go_ret
 exact unhide HFIN _ _ _ _ hP2 hl2 hU2

set_option maxRecDepth 100000 in
set_option maxHeartbeats 800000 in
theorem edits_waits (K : Nat) (own : Nat → Tag) (w : World) (rx ry xb yb : Nat) (X : IRoom) (R : RRoom) (h : PairAt K own w rx ry xb yb X R) (hne : rx ≠ ry) (h0 : rx ≠ 0) (wn c n m l : Int) (bb : Bool) (hc : I64 c) :
  Calls Try.prog 46 #[.agg (PairV xb yb), .agg (OpV 5 wn c n m l bb)] w (EditsPost K own w rx ry xb yb X) := by
 obtain ⟨V, zp, zo⟩ := boxes own w (PairV xb yb) (OpV 5 wn c n m l bb)
 have h1 := h.upd V (fun _ _ h => h) (fun _ _ h => h)
 have N0 : retag own w.heap.size (0, 0, 0) w.heap.size = (0, 0, 0) := retag_ge (Nat.le_refl _)
 have N1 : retag own w.heap.size (0, 0, 0) (w.heap.size + 1) = (0, 0, 0) := retag_ge (by omega)
 have s0 : w.heap.size < ((w.alloc (.cells (PairV xb yb) 69)).alloc (.cells (OpV 5 wn c n m l bb) 64)).heap.size := by simp; omega
 have s1 : w.heap.size + 1 < ((w.alloc (.cells (PairV xb yb) 69)).alloc (.cells (OpV 5 wn c n m l bb) 64)).heap.size := by simp
 obtain ⟨v, hV, hcall⟩ := two_walk (two_waits K _ _ rx ry xb yb X R h1.x h1.inv c hc) h1.y hne h0
 have p0 := zp 0
 have p1 := zp 1
 have z0 := zo 0
 have z2 := zo 2
 have HFIN : Hid (∀ w2 own' X' R', PairAt K own' w2 rx ry xb yb X' R' → X'.texts.length = X.texts.length → Upd (retag own w.heap.size (0, 0, 0)) own' (inPair rx ry) ((w.alloc (.cells (PairV xb yb) 69)).alloc (.cells (OpV 5 wn c n m l bb) 64)) w2 → EditsPost K own w rx ry xb yb X (.returned (.bool true)) w2) := hide fun w2 own' X' R' a1 a2 a3 => ⟨rfl, own', X', R', a1, a2, (V.mono (fun _ h => h.elim)).trans a3⟩
 have HC := hide hcall
 clear V zp zo h h1 hcall
 obtain ⟨sv, nv, rfl⟩ := hV
 unfold OpV PairV at *
 simp only [List.getElem?_toArray, List.getElem?_cons_zero, List.getElem?_cons_succ] at p0 p1 z0 z2
 go_enter Try.func46, Try.ntmps46
 go_wp2_with fail
 generalize (w.alloc (.cells #[.pointer (some ⟨xb, 0, none⟩), .pointer (some ⟨yb, 0, none⟩)] 69)).alloc (.cells #[.int .i64 5, .int .i64 wn, .int .i64 c, .int .i64 n, .int .i64 m, .int .u8 l, .bool bb] 64) = W at *
 generalize retag own w.heap.size (0, 0, 0) = own1 at *
 generalize w.heap.size = N at *
 refine (unhide HC).mono ?_
 rintro e w1 ⟨rfl, hcell, hcall2⟩
 have q1 := (hcell _ s0 N0 1).trans p1
 have y2 := (hcell _ s1 N1 2).trans z2
 have HC2 := hide hcall2
 clear hcell hcall2
 go_wp2_with (first | (go_at_call 64; refine (unhide HC2).mono ?_; rintro e w2 ⟨rfl, own2, X2, R2, hP2, hl2, hU2⟩) | (go_at_call 44; refine (num_any _ _).mono ?_; rintro e w' ⟨rfl, rfl⟩))
 go_ret
 exact unhide HFIN _ _ _ _ hP2 hl2 hU2

set_option maxRecDepth 100000 in
set_option maxHeartbeats 800000 in
theorem lines_flying (K : Nat) (own : Nat → Tag) (w : World) (rx ry xb yb : Nat) (X : IRoom) (R : RRoom) (h : PairAt K own w rx ry xb yb X R) (hne : rx ≠ ry) (h0 : rx ≠ 0) (wn c n m l : Int) (bb : Bool) (hc : I64 c) :
  Calls Try.prog 45 #[.agg (PairV xb yb), .agg (OpV 6 wn c n m l bb)] w (EditsPost K own w rx ry xb yb X) := by
 obtain ⟨V, zp, zo⟩ := boxes own w (PairV xb yb) (OpV 6 wn c n m l bb)
 have h1 := h.upd V (fun _ _ h => h) (fun _ _ h => h)
 have N0 : retag own w.heap.size (0, 0, 0) w.heap.size = (0, 0, 0) := retag_ge (Nat.le_refl _)
 have N1 : retag own w.heap.size (0, 0, 0) (w.heap.size + 1) = (0, 0, 0) := retag_ge (by omega)
 have s0 : w.heap.size < ((w.alloc (.cells (PairV xb yb) 69)).alloc (.cells (OpV 6 wn c n m l bb) 64)).heap.size := by simp; omega
 have s1 : w.heap.size + 1 < ((w.alloc (.cells (PairV xb yb) 69)).alloc (.cells (OpV 6 wn c n m l bb) 64)).heap.size := by simp
 obtain ⟨v, hV, hcall⟩ := two_walk (two_flying K _ _ rx ry xb yb X R h1.x h1.inv c bb hc) h1.y hne h0
 have p0 := zp 0
 have p1 := zp 1
 have z0 := zo 0
 have z2 := zo 2
 have z6 := zo 6
 have HFIN : Hid (∀ w2 own' X' R', PairAt K own' w2 rx ry xb yb X' R' → X'.texts.length = X.texts.length → Upd (retag own w.heap.size (0, 0, 0)) own' (inPair rx ry) ((w.alloc (.cells (PairV xb yb) 69)).alloc (.cells (OpV 6 wn c n m l bb) 64)) w2 → EditsPost K own w rx ry xb yb X (.returned (.bool true)) w2) := hide fun w2 own' X' R' a1 a2 a3 => ⟨rfl, own', X', R', a1, a2, (V.mono (fun _ h => h.elim)).trans a3⟩
 have HC := hide hcall
 clear V zp zo h h1 hcall
 obtain ⟨mv, nv, rfl⟩ := hV
 unfold OpV PairV at *
 simp only [List.getElem?_toArray, List.getElem?_cons_zero, List.getElem?_cons_succ] at p0 p1 z0 z2 z6
 go_enter Try.func45, Try.ntmps45
 go_wp2_with fail
 generalize (w.alloc (.cells #[.pointer (some ⟨xb, 0, none⟩), .pointer (some ⟨yb, 0, none⟩)] 69)).alloc (.cells #[.int .i64 6, .int .i64 wn, .int .i64 c, .int .i64 n, .int .i64 m, .int .u8 l, .bool bb] 64) = W at *
 generalize retag own w.heap.size (0, 0, 0) = own1 at *
 generalize w.heap.size = N at *
 refine (unhide HC).mono ?_
 rintro e w1 ⟨rfl, hcell, hcall2⟩
 have q1 := (hcell _ s0 N0 1).trans p1
 have y2 := (hcell _ s1 N1 2).trans z2
 have y6 := (hcell _ s1 N1 6).trans z6
 have HC2 := hide hcall2
 clear hcell hcall2
 go_wp2_with (first | (go_at_call 47; refine (unhide HC2).mono ?_; rintro e w2 ⟨rfl, own2, X2, R2, hP2, hl2, hU2⟩) | (go_at_call 44; refine (num_any _ _).mono ?_; rintro e w' ⟨rfl, rfl⟩))
 go_ret
 exact unhide HFIN _ _ _ _ hP2 hl2 hU2

set_option maxRecDepth 100000 in
set_option maxHeartbeats 800000 in
theorem lines_peek (K : Nat) (own : Nat → Tag) (w : World) (rx ry xb yb : Nat) (X : IRoom) (R : RRoom) (h : PairAt K own w rx ry xb yb X R) (hne : rx ≠ ry) (h0 : rx ≠ 0) (wn c n m l : Int) (bb : Bool) (hc : I64 c) :
  Calls Try.prog 45 #[.agg (PairV xb yb), .agg (OpV 7 wn c n m l bb)] w (EditsPost K own w rx ry xb yb X) := by
 obtain ⟨V, zp, zo⟩ := boxes own w (PairV xb yb) (OpV 7 wn c n m l bb)
 have h1 := h.upd V (fun _ _ h => h) (fun _ _ h => h)
 have N0 : retag own w.heap.size (0, 0, 0) w.heap.size = (0, 0, 0) := retag_ge (Nat.le_refl _)
 have N1 : retag own w.heap.size (0, 0, 0) (w.heap.size + 1) = (0, 0, 0) := retag_ge (by omega)
 have s0 : w.heap.size < ((w.alloc (.cells (PairV xb yb) 69)).alloc (.cells (OpV 7 wn c n m l bb) 64)).heap.size := by simp; omega
 have s1 : w.heap.size + 1 < ((w.alloc (.cells (PairV xb yb) 69)).alloc (.cells (OpV 7 wn c n m l bb) 64)).heap.size := by simp
 obtain ⟨v, hV, hcall⟩ := two_walk (two_peek K _ _ rx ry xb yb X R h1.x h1.inv c bb n hc) h1.y hne h0
 have p0 := zp 0
 have p1 := zp 1
 have z0 := zo 0
 have z2 := zo 2
 have z6 := zo 6
 have z3 := zo 3
 have HFIN : Hid (∀ w2 own' X' R', PairAt K own' w2 rx ry xb yb X' R' → X'.texts.length = X.texts.length → Upd (retag own w.heap.size (0, 0, 0)) own' (inPair rx ry) ((w.alloc (.cells (PairV xb yb) 69)).alloc (.cells (OpV 7 wn c n m l bb) 64)) w2 → EditsPost K own w rx ry xb yb X (.returned (.bool true)) w2) := hide fun w2 own' X' R' a1 a2 a3 => ⟨rfl, own', X', R', a1, a2, (V.mono (fun _ h => h.elim)).trans a3⟩
 have HC := hide hcall
 clear V zp zo h h1 hcall
 obtain ⟨sv, nv, rfl⟩ := hV
 unfold OpV PairV at *
 simp only [List.getElem?_toArray, List.getElem?_cons_zero, List.getElem?_cons_succ] at p0 p1 z0 z2 z6 z3
 go_enter Try.func45, Try.ntmps45
 go_wp2_with fail
 generalize (w.alloc (.cells #[.pointer (some ⟨xb, 0, none⟩), .pointer (some ⟨yb, 0, none⟩)] 69)).alloc (.cells #[.int .i64 7, .int .i64 wn, .int .i64 c, .int .i64 n, .int .i64 m, .int .u8 l, .bool bb] 64) = W at *
 generalize retag own w.heap.size (0, 0, 0) = own1 at *
 generalize w.heap.size = N at *
 refine (unhide HC).mono ?_
 rintro e w1 ⟨rfl, hcell, hcall2⟩
 have q1 := (hcell _ s0 N0 1).trans p1
 have y2 := (hcell _ s1 N1 2).trans z2
 have y6 := (hcell _ s1 N1 6).trans z6
 have y3 := (hcell _ s1 N1 3).trans z3
 have HC2 := hide hcall2
 clear hcell hcall2
 go_wp2_with (first | (go_at_call 58; refine (unhide HC2).mono ?_; rintro e w2 ⟨rfl, own2, X2, R2, hP2, hl2, hU2⟩) | (go_at_call 44; refine (num_any _ _).mono ?_; rintro e w' ⟨rfl, rfl⟩))
 go_ret
 exact unhide HFIN _ _ _ _ hP2 hl2 hU2

set_option maxRecDepth 100000 in
set_option maxHeartbeats 800000 in
theorem lines_fate (K : Nat) (own : Nat → Tag) (w : World) (rx ry xb yb : Nat) (X : IRoom) (R : RRoom) (h : PairAt K own w rx ry xb yb X R) (hne : rx ≠ ry) (h0 : rx ≠ 0) (wn c n m l : Int) (bb : Bool) (hc : I64 c) (hK : K < 10000000000000) (hry : ry ≠ 0) :
  Calls Try.prog 45 #[.agg (PairV xb yb), .agg (OpV 8 wn c n m l bb)] w (EditsPost (K + 1) own w rx ry xb yb X) := by
 obtain ⟨V, zp, zo⟩ := boxes own w (PairV xb yb) (OpV 8 wn c n m l bb)
 have h1 := h.upd V (fun _ _ h => h) (fun _ _ h => h)
 have N0 : retag own w.heap.size (0, 0, 0) w.heap.size = (0, 0, 0) := retag_ge (Nat.le_refl _)
 have N1 : retag own w.heap.size (0, 0, 0) (w.heap.size + 1) = (0, 0, 0) := retag_ge (by omega)
 have s0 : w.heap.size < ((w.alloc (.cells (PairV xb yb) 69)).alloc (.cells (OpV 8 wn c n m l bb) 64)).heap.size := by simp; omega
 have s1 : w.heap.size + 1 < ((w.alloc (.cells (PairV xb yb) 69)).alloc (.cells (OpV 8 wn c n m l bb) 64)).heap.size := by simp
 obtain ⟨v, hV, hcall⟩ := two_walk (two_fate hK hry h1.x h1.inv c bb n m hc) h1.y hne h0
 have p0 := zp 0
 have p1 := zp 1
 have z0 := zo 0
 have z2 := zo 2
 have z6 := zo 6
 have z3 := zo 3
 have z4 := zo 4
 have HFIN : Hid (∀ w2 own' X' R', PairAt (K + 1) own' w2 rx ry xb yb X' R' → X'.texts.length = X.texts.length → Upd (retag own w.heap.size (0, 0, 0)) own' (inPair rx ry) ((w.alloc (.cells (PairV xb yb) 69)).alloc (.cells (OpV 8 wn c n m l bb) 64)) w2 → EditsPost (K + 1) own w rx ry xb yb X (.returned (.bool true)) w2) := hide fun w2 own' X' R' a1 a2 a3 => ⟨rfl, own', X', R', a1, a2, (V.mono (fun _ h => h.elim)).trans a3⟩
 have HC := hide hcall
 clear V zp zo h h1 hcall
 obtain ⟨nv, rfl⟩ := hV
 unfold OpV PairV at *
 simp only [List.getElem?_toArray, List.getElem?_cons_zero, List.getElem?_cons_succ] at p0 p1 z0 z2 z6 z3 z4
 go_enter Try.func45, Try.ntmps45
 go_wp2_with fail
 generalize (w.alloc (.cells #[.pointer (some ⟨xb, 0, none⟩), .pointer (some ⟨yb, 0, none⟩)] 69)).alloc (.cells #[.int .i64 8, .int .i64 wn, .int .i64 c, .int .i64 n, .int .i64 m, .int .u8 l, .bool bb] 64) = W at *
 generalize retag own w.heap.size (0, 0, 0) = own1 at *
 generalize w.heap.size = N at *
 refine (unhide HC).mono ?_
 rintro e w1 ⟨rfl, hcell, hcall2⟩
 have q1 := (hcell _ s0 N0 1).trans p1
 have y2 := (hcell _ s1 N1 2).trans z2
 have y6 := (hcell _ s1 N1 6).trans z6
 have y3 := (hcell _ s1 N1 3).trans z3
 have y4 := (hcell _ s1 N1 4).trans z4
 have HC2 := hide hcall2
 clear hcell hcall2
 go_wp2_with (first | (go_at_call 59; refine (unhide HC2).mono ?_; rintro e w2 ⟨rfl, own2, X2, R2, hP2, hl2, hU2⟩) | (go_at_call 44; refine (num_any _ _).mono ?_; rintro e w' ⟨rfl, rfl⟩))
 go_ret
 exact unhide HFIN _ _ _ _ hP2 hl2 hU2

set_option maxRecDepth 100000 in
set_option maxHeartbeats 800000 in
theorem lines_tick (K : Nat) (own : Nat → Tag) (w : World) (rx ry xb yb : Nat) (X : IRoom) (R : RRoom) (h : PairAt K own w rx ry xb yb X R) (hne : rx ≠ ry) (h0 : rx ≠ 0) (wn c n m l : Int) (bb : Bool) (hc : I64 c) :
  Calls Try.prog 45 #[.agg (PairV xb yb), .agg (OpV 9 wn c n m l bb)] w (EditsPost K own w rx ry xb yb X) := by
 obtain ⟨V, zp, zo⟩ := boxes own w (PairV xb yb) (OpV 9 wn c n m l bb)
 have h1 := h.upd V (fun _ _ h => h) (fun _ _ h => h)
 have N0 : retag own w.heap.size (0, 0, 0) w.heap.size = (0, 0, 0) := retag_ge (Nat.le_refl _)
 have N1 : retag own w.heap.size (0, 0, 0) (w.heap.size + 1) = (0, 0, 0) := retag_ge (by omega)
 have s0 : w.heap.size < ((w.alloc (.cells (PairV xb yb) 69)).alloc (.cells (OpV 9 wn c n m l bb) 64)).heap.size := by simp; omega
 have s1 : w.heap.size + 1 < ((w.alloc (.cells (PairV xb yb) 69)).alloc (.cells (OpV 9 wn c n m l bb) 64)).heap.size := by simp
 obtain ⟨v, hV, hcall⟩ := two_walk (two_tick K _ _ rx ry xb yb X R h1.x h1.inv c bb hc) h1.y hne h0
 have p0 := zp 0
 have p1 := zp 1
 have z0 := zo 0
 have z2 := zo 2
 have z6 := zo 6
 have HFIN : Hid (∀ w2 own' X' R', PairAt K own' w2 rx ry xb yb X' R' → X'.texts.length = X.texts.length → Upd (retag own w.heap.size (0, 0, 0)) own' (inPair rx ry) ((w.alloc (.cells (PairV xb yb) 69)).alloc (.cells (OpV 9 wn c n m l bb) 64)) w2 → EditsPost K own w rx ry xb yb X (.returned (.bool true)) w2) := hide fun w2 own' X' R' a1 a2 a3 => ⟨rfl, own', X', R', a1, a2, (V.mono (fun _ h => h.elim)).trans a3⟩
 have HC := hide hcall
 clear V zp zo h h1 hcall
 obtain ⟨nv, rfl⟩ := hV
 unfold OpV PairV at *
 simp only [List.getElem?_toArray, List.getElem?_cons_zero, List.getElem?_cons_succ] at p0 p1 z0 z2 z6
 go_enter Try.func45, Try.ntmps45
 go_wp2_with fail
 generalize (w.alloc (.cells #[.pointer (some ⟨xb, 0, none⟩), .pointer (some ⟨yb, 0, none⟩)] 69)).alloc (.cells #[.int .i64 9, .int .i64 wn, .int .i64 c, .int .i64 n, .int .i64 m, .int .u8 l, .bool bb] 64) = W at *
 generalize retag own w.heap.size (0, 0, 0) = own1 at *
 generalize w.heap.size = N at *
 refine (unhide HC).mono ?_
 rintro e w1 ⟨rfl, hcell, hcall2⟩
 have q1 := (hcell _ s0 N0 1).trans p1
 have y2 := (hcell _ s1 N1 2).trans z2
 have y6 := (hcell _ s1 N1 6).trans z6
 have HC2 := hide hcall2
 clear hcell hcall2
 go_wp2_with (first | (go_at_call 60; refine (unhide HC2).mono ?_; rintro e w2 ⟨rfl, own2, X2, R2, hP2, hl2, hU2⟩) | (go_at_call 44; refine (num_any _ _).mono ?_; rintro e w' ⟨rfl, rfl⟩))
 go_ret
 exact unhide HFIN _ _ _ _ hP2 hl2 hU2
end Go.Proofs.Ytemkgikncmhoaaa

namespace Go.Proofs.Ytemkgikncmhoaaa
open Go.RowKit

theorem rflying_all (K : Nat) (own : Nat → Tag) (ry yb : Nat) (X : IRoom) (R : RRoom) (c : Int) (d : Bool) (w : World) (h : RoomY own ry w yb R) (hI : InvA K X R) :
  Calls Try.prog 47 #[.pointer (some ⟨yb, 0, none⟩), .int .i64 c, .bool d] w fun e w' => ∃ q m : Int, e = .returned (.tuple #[.int .i64 q, .int .i64 m]) ∧ 0 ≤ q ∧ q ≤ 12 ∧ Below w.heap.size w w' := by
 by_cases h1 : 0 ≤ c ∧ c < R.texts.length
 ·obtain ⟨i, us, ds, T, L, rfl, hi4, hi, hr, hs, hL, hxt, hE, hS⟩ := hI.client h1
  cases d
  ·refine (rflying_0 own ry yb R i _ L w h hL.ht hL.hL).mono ?_
   rintro e w' ⟨rfl, hb⟩
   exact ⟨_, _, rfl, by omega, by have := hL.oka.out; omega, hb⟩
  ·refine (rflying_1 own ry yb R i _ L w h hL.ht hL.hL).mono ?_
   rintro e w' ⟨rfl, hb⟩
   exact ⟨_, _, rfl, by omega, by have := hL.okb.out; omega, hb⟩
 ·refine (rflying_no own ry yb R c d w h h1).mono ?_
  rintro e w' ⟨rfl, rfl⟩
  exact ⟨_, _, rfl, by omega, by omega, Below.refl _ _⟩

/-- What holds between the steps of 'seen': the pair, and the box that holds its two pointers. -/
def SeenI (K : Nat) (own : Nat → Tag) (w : World) (rx ry xb yb n N : Nat) (wr : World) : Prop :=
 ∃ own1 X1 R1, PairAt K own1 wr rx ry xb yb X1 R1 ∧ X1.texts.length = n ∧ Upd own own1 (inPair rx ry) w wr ∧ CellsT own1 (0, 0, 0) wr N #[.pointer (some ⟨xb, 0, none⟩), .pointer (some ⟨yb, 0, none⟩)] 69

theorem seen_of_post {K : Nat} {own : Nat → Tag} {w wr : World} {rx ry xb yb n N : Nat} {own1 : Nat → Tag} {X1 : IRoom} (hU : Upd own own1 (inPair rx ry) w wr) (hl : X1.texts.length = n) (hC : CellsT own1 (0, 0, 0) wr N #[.pointer (some ⟨xb, 0, none⟩), .pointer (some ⟨yb, 0, none⟩)] 69)
  {e : Ending} {w' : World} (hne : rx ≠ 0) (h0' : ry ≠ 0) (hp : EditsPost K own1 wr rx ry xb yb X1 e w') : e = .returned (.bool true) ∧ SeenI K own w rx ry xb yb n N w' := by
 obtain ⟨rfl, own2, X2, R2, hP, hl2, hU2⟩ := hp
 exact ⟨rfl, own2, X2, R2, hP, hl2.trans hl, hU.trans hU2, hC.upd hU2 (by rintro (h | h) <;> simp at h <;> omega)⟩
theorem seen_read {K : Nat} {own : Nat → Tag} {w wr : World} {rx ry xb yb n N : Nat} (h : SeenI K own w rx ry xb yb n N wr) (hne : rx ≠ ry) (h0 : rx ≠ 0) (h0' : ry ≠ 0) (c : Int) (hc : I64 c) : Calls Try.prog 46 #[.agg #[.pointer (some ⟨xb, 0, none⟩), .pointer (some ⟨yb, 0, none⟩)], .agg #[.int .i64 4, .int .i64 0, .int .i64 c, .int .i64 0, .int .i64 0, .int .u8 0, .bool false]] wr fun e w' => e = .returned (.bool true) ∧ SeenI K own w rx ry xb yb n N w' := by
 obtain ⟨own1, X1, R1, hP, hl, hU, hC⟩ := h
 exact (edits_read K own1 wr rx ry xb yb X1 R1 hP hne h0 0 c 0 0 0 false hc).mono fun e w' hp => seen_of_post hU hl hC h0 h0' hp
theorem seen_waits {K : Nat} {own : Nat → Tag} {w wr : World} {rx ry xb yb n N : Nat} (h : SeenI K own w rx ry xb yb n N wr) (hne : rx ≠ ry) (h0 : rx ≠ 0) (h0' : ry ≠ 0) (c : Int) (hc : I64 c) : Calls Try.prog 46 #[.agg #[.pointer (some ⟨xb, 0, none⟩), .pointer (some ⟨yb, 0, none⟩)], .agg #[.int .i64 5, .int .i64 0, .int .i64 c, .int .i64 0, .int .i64 0, .int .u8 0, .bool false]] wr fun e w' => e = .returned (.bool true) ∧ SeenI K own w rx ry xb yb n N w' := by
 obtain ⟨own1, X1, R1, hP, hl, hU, hC⟩ := h
 exact (edits_waits K own1 wr rx ry xb yb X1 R1 hP hne h0 0 c 0 0 0 false hc).mono fun e w' hp => seen_of_post hU hl hC h0 h0' hp
theorem seen_flying {K : Nat} {own : Nat → Tag} {w wr : World} {rx ry xb yb n N : Nat} (h : SeenI K own w rx ry xb yb n N wr) (hne : rx ≠ ry) (h0 : rx ≠ 0) (h0' : ry ≠ 0) (c : Int) (d : Bool) (hc : I64 c) : Calls Try.prog 45 #[.agg #[.pointer (some ⟨xb, 0, none⟩), .pointer (some ⟨yb, 0, none⟩)], .agg #[.int .i64 6, .int .i64 0, .int .i64 c, .int .i64 0, .int .i64 0, .int .u8 0, .bool d]] wr fun e w' => e = .returned (.bool true) ∧ SeenI K own w rx ry xb yb n N w' := by
 obtain ⟨own1, X1, R1, hP, hl, hU, hC⟩ := h
 exact (lines_flying K own1 wr rx ry xb yb X1 R1 hP hne h0 0 c 0 0 0 d hc).mono fun e w' hp => seen_of_post hU hl hC h0 h0' hp
theorem seen_peek {K : Nat} {own : Nat → Tag} {w wr : World} {rx ry xb yb n N : Nat} (h : SeenI K own w rx ry xb yb n N wr) (hne : rx ≠ ry) (h0 : rx ≠ 0) (h0' : ry ≠ 0) (c q : Int) (d : Bool) (hc : I64 c) : Calls Try.prog 45 #[.agg #[.pointer (some ⟨xb, 0, none⟩), .pointer (some ⟨yb, 0, none⟩)], .agg #[.int .i64 7, .int .i64 0, .int .i64 c, .int .i64 q, .int .i64 0, .int .u8 0, .bool d]] wr fun e w' => e = .returned (.bool true) ∧ SeenI K own w rx ry xb yb n N w' := by
 obtain ⟨own1, X1, R1, hP, hl, hU, hC⟩ := h
 exact (lines_peek K own1 wr rx ry xb yb X1 R1 hP hne h0 0 c q 0 0 d hc).mono fun e w' hp => seen_of_post hU hl hC h0 h0' hp
theorem seen_yflying {K : Nat} {own : Nat → Tag} {w wr : World} {rx ry xb yb n N : Nat} (h : SeenI K own w rx ry xb yb n N wr) (c : Int) (d : Bool) : Calls Try.prog 47 #[.pointer (some ⟨yb, 0, none⟩), .int .i64 c, .bool d] wr fun e w' => ∃ q m : Int, e = .returned (.tuple #[.int .i64 q, .int .i64 m]) ∧ 0 ≤ q ∧ q ≤ 12 ∧ SeenI K own w rx ry xb yb n N w' := by
 obtain ⟨own1, X1, R1, hP, hl, hU, hC⟩ := h
 refine (rflying_all K own1 ry yb X1 R1 c d wr hP.y hP.inv).mono ?_
 rintro e w' ⟨q, m, rfl, g1, g2, hb⟩
 have U := Upd.of_below own1 (fun _ => False) hb
 exact ⟨q, m, rfl, g1, g2, own1, X1, R1, hP.upd U (fun _ _ h => h) (fun _ _ h => h), hl, hU.trans (U.mono (fun _ h => h.elim)), hC.upd U (fun h => h)⟩
theorem seen_cells {K : Nat} {own : Nat → Tag} {w wr : World} {rx ry xb yb n N : Nat} (h : SeenI K own w rx ry xb yb n N wr) : wr.cell? ⟨N, 0, none⟩ = some (.pointer (some ⟨xb, 0, none⟩)) ∧ wr.cell? ⟨N, 1, none⟩ = some (.pointer (some ⟨yb, 0, none⟩)) ∧ ∃ ta tc, wr.cell? ⟨yb, 2, none⟩ = some (.slice ta n tc) ∧ n ≤ 4 := by
 obtain ⟨own1, X1, R1, hP, hl, hU, hC⟩ := h
 refine ⟨by rw [hC.cell]; rfl, by rw [hC.cell]; rfl, ?_⟩
 have hI := hP.inv
 obtain ⟨tx, lx, bs, hc, ht, _, _, _, h3, _⟩ := hP.y
 obtain ⟨ta, tc, rfl, _, _⟩ := ht.shape
 have e : R1.texts.length = n := by rw [← hl, hI.texts]
 rw [e] at hc h3
 exact ⟨ta, tc, by rw [hc.cell]; rfl, h3⟩

set_option maxRecDepth 100000 in
set_option maxHeartbeats 1600000 in
theorem seen_any (K : Nat) (own : Nat → Tag) (w : World) (rx ry xb yb : Nat) (X : IRoom) (R : RRoom) (h : PairAt K own w rx ry xb yb X R) (hne : rx ≠ ry) (h0 : rx ≠ 0) (h0' : ry ≠ 0) :
  Calls Try.prog 31 #[.agg (PairV xb yb)] w (EditsPost K own w rx ry xb yb X) := by
 have V : Upd own (retag own w.heap.size (0, 0, 0)) (fun _ => False) w (w.alloc (.cells #[.pointer (some ⟨xb, 0, none⟩), .pointer (some ⟨yb, 0, none⟩)] 69)) := Upd.retag ((Upd.refl own (fun _ => False) w).alloc _) _ _ (Nat.le_refl _)
 have S0 : SeenI K own w rx ry xb yb X.texts.length w.heap.size (w.alloc (.cells #[.pointer (some ⟨xb, 0, none⟩), .pointer (some ⟨yb, 0, none⟩)] 69)) :=
  ⟨_, X, R, h.upd V (fun _ _ h => h) (fun _ _ h => h), rfl, V.mono (fun _ h => h.elim), CellsT.new w _ _ own (0, 0, 0)⟩
 have FIN : Hid (∀ w', SeenI K own w rx ry xb yb X.texts.length w.heap.size w' → EditsPost K own w rx ry xb yb X (.returned (.bool true)) w') := hide fun w' ⟨own1, X1, R1, a1, a2, a3, _⟩ => ⟨rfl, own1, X1, R1, a1, a2, a3⟩
 have HS0 := hide S0
 have hn4 : X.texts.length ≤ 4 := (seen_cells S0).2.2.choose_spec.choose_spec.2
 clear V h S0
 unfold PairV
 generalize hW0 : w.alloc (.cells #[.pointer (some ⟨xb, 0, none⟩), .pointer (some ⟨yb, 0, none⟩)] 69) = W0 at *
 have HW0 := hide hW0
 clear hW0
 generalize X.texts.length = n at *
 go_enter Try.func31, Try.ntmps31
 go_wp2_with fail
 rw [unhide HW0]
 generalize w.heap.size = N at *
 go_loopw [3] (fun v3 wr => ∃ j : Nat, j ≤ n + 3 ∧ v3 = .int .i64 ((j : Int) - 2) ∧ SeenI K own w rx ry xb yb n N wr) (fun v3 _ => n + 3 - (intOf v3 + 2).toNat)
 case atStart => exact ⟨0, by omega, rfl, unhide HS0⟩
 case round =>
  obtain ⟨j, hj, rfl, hS⟩ := hrel
  obtain ⟨c0, c1, ta, tc, c2, _⟩ := seen_cells hS
  by_cases hlt : j ≤ n + 2
  ·have hlt' : (j : Int) - 2 ≤ (n : Int) := by omega
   have hc64 : I64 ((j : Int) - 2) := ⟨by omega, by omega⟩
   have HS := hide hS
   clear hS
   go_wp2_with fail
   refine (seen_read (unhide HS) hne h0 h0' _ hc64).mono ?_
   rintro e w1 ⟨rfl, hS1⟩
   obtain ⟨d0, d1, _⟩ := seen_cells hS1
   have HS1 := hide hS1
   clear hS1 c0 c1 c2 HS
   go_wp2_with fail
   refine (seen_waits (unhide HS1) hne h0 h0' _ hc64).mono ?_
   rintro e w2 ⟨rfl, hS2⟩
   have HS2 := hide hS2
   clear hS2 d0 d1 HS1
   go_wp2_with fail
   go_loopw [6] (fun v6 wr => ∃ k : Nat, k ≤ 2 ∧ v6 = .int .i64 k ∧ SeenI K own w rx ry xb yb n N wr) (fun v6 _ => 2 - (intOf v6).toNat)
   case atStart => exact ⟨0, by omega, rfl, unhide HS2⟩
   case round =>
    obtain ⟨k, hk, rfl, hS⟩ := hrel
    by_cases hk2 : k < 2
    ·have hk2' : (k : Int) < 2 := by omega
     obtain ⟨c0, c1, _⟩ := seen_cells hS
     have HS := hide hS
     clear hS HS2
     go_wp2_with fail
     refine (seen_flying (unhide HS) hne h0 h0' _ _ hc64).mono ?_
     rintro e w3 ⟨rfl, hS3⟩
     obtain ⟨d0, d1, _⟩ := seen_cells hS3
     have HS3 := hide hS3
     clear hS3 c0 c1 HS
     go_wp2_with fail
     refine (seen_yflying (unhide HS3) _ _).mono ?_
     rintro e w4 ⟨q, mm, rfl, hq0, hq12, hS4⟩
     have HS4 := hide hS4
     clear hS4 d0 d1 HS3
     go_wp2_with fail
     go_loopw [8, 11] (fun v8 v11 wr => ∃ i : Nat, (i : Int) ≤ q + 1 ∧ v8 = .bool true ∧ v11 = .int .i64 i ∧ SeenI K own w rx ry xb yb n N wr) (fun _ v11 _ => 14 - (intOf v11).toNat)
     case atStart => exact ⟨0, by omega, rfl, rfl, unhide HS4⟩
     case round =>
      obtain ⟨i, hi, rfl, rfl, hS⟩ := hrel
      by_cases hiq : (i : Int) ≤ q
      ·obtain ⟨c0, c1, _⟩ := seen_cells hS
       have HS := hide hS
       clear hS HS4
       go_wp2_with fail
       refine (seen_peek (unhide HS) hne h0 h0' _ _ _ hc64).mono ?_
       rintro e w5 ⟨rfl, hS5⟩
       have HS5 := hide hS5
       clear hS5 c0 c1 HS
       go_wp2
       go_roundw
       case rel => exact ⟨i + 1, by omega, rfl, by go_num, unhide HS5⟩
       case measure => simp [intOf]; omega
      ·have HS := hide hS
       clear hS HS4
       go_wp2
       go_roundw
       case rel => exact ⟨k + 1, by omega, by go_num, unhide HS⟩
       case measure => simp [intOf]; omega
    ·have HS := hide hS
     have hk2' : ¬ (k : Int) < 2 := by omega
     clear hS HS2
     go_wp2
     go_roundw
     case rel => exact ⟨j + 1, by omega, by rw [show ((j + 1 : Nat) : Int) - 2 = (j : Int) - 2 + 1 by omega], unhide HS⟩
     case measure => simp [intOf]; omega
  ·have hlt' : ¬ (j : Int) - 2 ≤ (n : Int) := by omega
   have HS := hide hS
   clear hS
   go_wp2
   go_ret
   exact unhide FIN _ (unhide HS)
end Go.Proofs.Ytemkgikncmhoaaa

namespace Go.Proofs.Ytemkgikncmhoaaa
open Go.RowKit

def pairCells (p : Nat × Nat) : List Value := [.pointer (some ⟨p.1, 0, none⟩), .pointer (some ⟨p.2, 0, none⟩)]
/-- All rooms so far. -/
def WorldAt (K : Nat) (own : Nat → Tag) (w : World) (wb : Nat) (ps : List (Nat × Nat)) : Prop :=
 ∃ av : Value, CellsT own (0, 1, 0) w wb #[av] 61 ∧ OwnsT own (0, 1, 1) w 69 2 av ps.length (ps.flatMap pairCells) ∧
  ∀ (i : Nat) (p : Nat × Nat), ps[i]? = some p → ∃ X R, PairAt K own w (2 * i + 1) (2 * i + 2) p.1 p.2 X R
def mayW (t : Tag) : Prop := t.1 ≠ 0 ∨ t = (0, 1, 0) ∨ t = (0, 1, 1)

theorem Try.info69 : (Try.prog.info? 69).map (fun i => (i.zero, i.size, i.bytes)) = some (some (.agg #[.pointer none, .pointer none]), 2, 16) := by kernel_rfl

set_option maxRecDepth 100000 in
set_option maxHeartbeats 800000 in
theorem made_no (K : Nat) (own : Nat → Tag) (w : World) (wb : Nat) (ps : List (Nat × Nat)) (c d : Int) (_h : WorldAt K own w wb ps) (hcd : ¬ (1 ≤ c ∧ c ≤ 4 ∧ 1 ≤ d ∧ d ≤ 4)) :
  Calls Try.prog 28 #[.pointer (some ⟨wb, 0, none⟩), .int .i64 c, .int .i64 d] w fun e w' => e = .returned (.bool true) ∧ w' = w := by
 have H1 := hide (xnew_no c d w hcd)
 have H2 := hide (rnew_no c d w hcd)
 clear _h hcd
 go_enter Try.func28, Try.ntmps28
 go_wp2_with (first | (go_at_call 33; refine (unhide H1).mono ?_; rintro e w' ⟨rfl, rfl⟩) | (go_at_call 43; refine (unhide H2).mono ?_; rintro e w' ⟨rfl, rfl⟩) | (go_at_call 44; refine (num_any _ _).mono ?_; rintro e w' ⟨rfl, rfl⟩))
 go_ret
 exact ⟨rfl, rfl⟩

set_option maxRecDepth 100000 in
set_option maxHeartbeats 800000 in
theorem made_yes (K : Nat) (own : Nat → Tag) (w : World) (wb : Nat) (ps : List (Nat × Nat)) (n d : Nat) (h : WorldAt K own w wb ps) (h1 : 1 ≤ n) (h2 : n ≤ 4) (h3 : 1 ≤ d) (h4 : d ≤ 4) (hb1 : ps.length + 1 ≤ maxLen) (hb2 : (ps.length + 1) * 16 ≤ 140737488355328) :
  Calls Try.prog 28 #[.pointer (some ⟨wb, 0, none⟩), .int .i64 n, .int .i64 d] w fun e w' => e = .returned (.bool true) ∧ ∃ own' p, WorldAt K own' w' wb (ps ++ [p]) ∧ Upd own own' mayW w w' := by
 obtain ⟨i1, hi, hz0, hz1, hz2⟩ := info_parts Try.info69
 have HX : Hid (∀ own w, WorldAt K own w wb ps → Calls Try.prog 33 #[.int .i64 n, .int .i64 d] w fun e w' => ∃ b own', e = .returned (.tuple #[.pointer (some ⟨b, 0, none⟩), .int .i64 0]) ∧ RoomX own' (2 * ps.length + 1) w' b (IRoom.fresh n d) ∧ WorldAt K own' w' wb ps ∧ Upd own own' mayW w w') := by
  apply hide
  intro own w hW
  refine (xnew_yes own (2 * ps.length + 1) n d w h1 h2 h3 h4).mono ?_
  rintro e w' ⟨b, own', rfl, hR, hU⟩
  refine ⟨b, own', rfl, hR, ?_, hU.mono (fun t ht => .inl (by rw [show t.1 = 2 * ps.length + 1 from ht]; omega))⟩
  obtain ⟨av, hc, ho, hp⟩ := hW
  refine ⟨av, hc.upd hU (by simp [inRoom]), ho.upd hU (by simp [inRoom]), fun i p hi => ?_⟩
  obtain ⟨X, R, hP⟩ := hp i p hi
  have := (List.getElem?_eq_some_iff.1 hi).1
  exact ⟨X, R, hP.upd hU (by simp [inRoom]; omega) (by simp [inRoom]; omega)⟩
 have HY : Hid (∀ own w xb, WorldAt K own w wb ps → RoomX own (2 * ps.length + 1) w xb (IRoom.fresh n d) → Calls Try.prog 43 #[.int .i64 n, .int .i64 d] w fun e w' => ∃ b own', e = .returned (.tuple #[.pointer (some ⟨b, 0, none⟩), .int .i64 0]) ∧ PairAt K own' w' (2 * ps.length + 1) (2 * ps.length + 2) xb b (IRoom.fresh n d) (RRoom.fresh n d) ∧ WorldAt K own' w' wb ps ∧ Upd own own' mayW w w') := by
  apply hide
  intro own w xb hW hX
  refine (rnew_yes own (2 * ps.length + 2) n d w h1 h2 h3 h4).mono ?_
  rintro e w' ⟨b, own', rfl, hR, hU⟩
  refine ⟨b, own', rfl, ⟨hX.upd hU (by simp [inRoom]), hR, (invA_fresh n d h1 h2 h3 h4).mono (Nat.zero_le _)⟩, ?_, hU.mono (fun t ht => .inl (by rw [show t.1 = 2 * ps.length + 2 from ht]; omega))⟩
  obtain ⟨av, hc, ho, hp⟩ := hW
  refine ⟨av, hc.upd hU (by simp [inRoom]), ho.upd hU (by simp [inRoom]), fun i p hi => ?_⟩
  obtain ⟨X, R, hP⟩ := hp i p hi
  have := (List.getElem?_eq_some_iff.1 hi).1
  exact ⟨X, R, hP.upd hU (by simp [inRoom]; omega) (by simp [inRoom]; omega)⟩
 have HW := hide h
 clear h
 go_enter Try.func28, Try.ntmps28
 go_wp2_with fail
 refine (unhide HX own w (unhide HW)).mono ?_
 rintro e w1 ⟨xb, own1, rfl, hX1, hW1, hU1⟩
 have HX1 := hide hX1
 have HW1 := hide hW1
 clear hX1 hW1 HW
 go_wp2_with fail
 refine (unhide HY own1 w1 xb (unhide HW1) (unhide HX1)).mono ?_
 rintro e w2 ⟨yb, own2, rfl, hP2, hW2, hU2⟩
 have HU := hide (hU1.trans hU2)
 clear hU1 hU2 HX1 HW1 HX HY
 obtain ⟨av, hc, ho, hp⟩ := hW2
 obtain ⟨aa, ac, rfl, _, _⟩ := ho.shape
 have c0 : w2.cell? ⟨wb, 0, none⟩ = some (.slice aa ps.length ac) := by rw [hc.cell]; rfl
 have c0a : ∀ u, (w2.alloc u).cell? ⟨wb, 0, none⟩ = some (.slice aa ps.length ac) := fun u => by rw [(hc.alloc u).cell]; rfl
 have f0 := hc.frozen 0
 have hbt := hc.2
 have hbl := hc.lt
 have nb : ¬ (wb = w2.heap.size) := by omega
 have FIN : Hid (∀ na nc own3 w3, OwnsT own3 (0, 1, 1) w3 69 2 (.slice na (ps.length + 1) nc) (ps.length + 1) (ps.flatMap pairCells ++ pairCells (xb, yb)) → Upd own2 own3 (fun x => x = (0, 1, 1)) (w2.alloc (Obj.cells #[.pointer (some ⟨xb, 0, none⟩), .pointer (some ⟨yb, 0, none⟩)] 69)) w3 →
   (w3.cell? ⟨wb, 0, none⟩ = some (.slice aa ps.length ac) ∧ w3.frozen? ⟨wb, 0, none⟩ = false) ∧ ∃ own' p, WorldAt K own' (w3.setCell ⟨wb, 0, none⟩ (.slice na (ps.length + 1) nc)) wb (ps ++ [p]) ∧ Upd own own' mayW w (w3.setCell ⟨wb, 0, none⟩ (.slice na (ps.length + 1) nc))) := by
  apply hide
  intro na nc own3 w3 h1 h2
  have hc3 := (hc.alloc (Obj.cells #[.pointer (some ⟨xb, 0, none⟩), .pointer (some ⟨yb, 0, none⟩)] 69)).upd h2 (by simp)
  refine ⟨⟨by rw [hc3.cell]; rfl, hc3.frozen 0⟩, own3, (xb, yb), ?_, ?_⟩
  ·obtain ⟨C, O, U⟩ := app_store (k := 0) hc h2.to_drew (by simp) h1
   refine ⟨_, C, by simpa using O, fun i p hi => ?_⟩
   by_cases hik : i < ps.length
   ·rw [List.getElem?_append_left hik] at hi
    obtain ⟨X, R, hP⟩ := hp i p hi
    exact ⟨X, R, hP.upd U (by simp) (by simp)⟩
   ·obtain rfl : i = ps.length := by have := (List.getElem?_eq_some_iff.1 hi).1; simp at this; omega
    simp at hi
    subst hi
    exact ⟨_, _, hP2.upd U (by simp) (by simp)⟩
  ·obtain ⟨C, O, U⟩ := app_store (k := 0) hc h2.to_drew (by simp) h1
   exact (unhide HU).trans (U.mono (by rintro t (rfl | rfl) <;> simp [mayW]))
 have HO := hide ho
 clear ho hp hP2 hc HU
 go_wp2_with (first | (go_at_call 44; refine (num_any _ _).mono ?_; rintro e w9 ⟨rfl, hw9⟩; obtain rfl := hw9.symm) | (at_builtin; go_must (refine wpList_append_T _ rfl (.tmp 40) (.tmp 44) 59 rfl 69 i1 (.agg #[.pointer none, .pointer none]) 2 16 Try.underlying59 hi hz0 hz1 hz2 rfl (by decide) _ ps.length _ own2 (0, 1, 1) rfl ((unhide HO).alloc _) ⟨w2.heap.size, 0, none⟩ 1 1 (pairCells (xb, yb)) rfl rfl (World.news_of_block (cs := #[.pointer (some ⟨xb, 0, none⟩), .pointer (some ⟨yb, 0, none⟩)]) (t := 69) (fr := (0, 0)) (heap_alloc_new w2 _)) (by intro u hu; simp [pairCells] at hu; rcases hu with rfl | rfl <;> rfl) hb1 hb2 ?_)))
 intro v' w3 ho3 hu3
 obtain ⟨na, nc, rfl, _, _⟩ := ho3.shape
 obtain ⟨⟨k0, g0⟩, hF⟩ := unhide FIN _ _ _ _ ho3 hu3
 have HF := hide hF
 clear hF ho3 hu3
 go_wp2
 go_ret
 exact ⟨rfl, unhide HF⟩
end Go.Proofs.Ytemkgikncmhoaaa

