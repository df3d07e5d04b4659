/-
  weave: (*end).send of one message. Own work.
-/
import Derived.Test.YtibokhifcaodfaaImpEnd
namespace Go.Proofs.Ytibokhifcaodfaa
open Go.RowKit
attribute [local go_sem ↓] Go.wp_at_zero Go.wp_at_succ

def IMsg.bytes (m : IMsg) (taken : Nat) : List Int := [1, m.number, m.ctx, taken, m.op.client, m.op.verb, m.op.place, m.op.letter]

set_option maxRecDepth 100000 in
set_option maxHeartbeats 800000 in
theorem xsend (own : Nat → Tag) (rid k b tb window mb : Nat) (E : IEnd) (m : IMsg) (w : World) (h : EndX own rid k w b tb window E) (hle : E.flying.length ≤ 12) (hx : Bytes (m.bytes E.taken))
    (hm : w.heap[mb]? = some (.cells m.cells.toArray 120 (0, 0))) :
    Calls Try.prog 54 #[.pointer (some ⟨b, 0, none⟩), .slice (some ⟨mb, 0, none⟩) 1 1] w fun e w' => e = .returned (.tuple #[]) ∧ ∃ own', EndX own' rid k w' b tb window (E.fly (ckd (m.bytes E.taken))) ∧ Upd own own' (inEnd rid k) w w' := by
  have hmc : ∀ j, w.cell? ⟨mb, j, none⟩ = m.cells.toArray[j]? := fun j => by simp [World.cell?, hm]
  have m0 := hmc 0
  have m1 := hmc 1
  have m2 := hmc 2
  have m3 := hmc 3
  have m4 := hmc 4
  have m5 := hmc 5
  simp only [IMsg.cells, List.getElem?_toArray, List.getElem?_cons_zero, List.getElem?_cons_succ] at m0 m1 m2 m3 m4 m5
  have hml : mb < w.heap.size := (Array.getElem?_eq_some_iff.1 hm).1
  clear hmc hm
  have hbl : b < w.heap.size := by obtain ⟨_, _, hc, _⟩ := h; exact hc.lt
  have HB : Hid (m.bytes E.taken = [1, (m.number : Int), m.ctx, E.taken, m.op.client, m.op.verb, m.op.place, m.op.letter]) := rfl
  rw [HB.out] at hx ⊢
  have HDG : Hid (∀ w, Calls Try.prog 59 #[.agg #[.int .i64 m.number, .int .i64 m.ctx, .int .i64 m.op.client, .int .i64 m.op.verb, .int .i64 m.op.place, .int .u8 m.op.letter], .int .i64 E.taken] w fun e w' => e = .returned (.string (ckd [1, (m.number : Int), m.ctx, E.taken, m.op.client, m.op.verb, m.op.place, m.op.letter])) ∧ Below w.heap.size w w') :=
    hide fun w => datagram_any _ _ _ _ _ _ _ w hx
  clear hx HB
  generalize (m.number : Int) = q0 at *
  generalize (m.ctx : Int) = q1 at *
  generalize m.op.client = q2 at *
  generalize m.op.verb = q3 at *
  generalize m.op.place = q4 at *
  generalize m.op.letter = q5 at *
  generalize ckd [1, q0, q1, (E.taken : Int), q2, q3, q4, q5] = s at *
  go_enter Try.func54, Try.ntmps54
  go_wp2_with fail
  go_loopw [8] (fun v8 wr => (v8 = .int .i64 0 ∧ wr = w) ∨ (v8 = .int .i64 1 ∧ ∃ own', EndX own' rid k wr b tb window (E.fly s) ∧ Upd own own' (inEnd rid k) w wr)) (fun v8 _ => 1 - (intOf v8).toNat)
  case atStart => exact Or.inl ⟨rfl, rfl⟩
  case round =>
    rcases hrel with ⟨rfl, rfl⟩ | ⟨rfl, own', h1, h2⟩
    · have hc4 : wr.cell? ⟨b, 4, none⟩ = some (.int .i64 E.taken) := by obtain ⟨_, _, hc, _⟩ := h; rw [hc.cell]; rfl
      go_wp2_with fail
      have V : Upd own (retag own wr.heap.size (rid + 1, 0, 0)) (fun _ => False) wr (wr.alloc (Obj.cells #[Value.int IntKind.i64 q0, Value.int IntKind.i64 q1, Value.int IntKind.i64 q2, Value.int IntKind.i64 q3, Value.int IntKind.i64 q4, Value.int IntKind.u8 q5] 120)) := Upd.retag ((Upd.refl own (fun _ => False) wr).alloc _) _ _ (Nat.le_refl _)
      have CN := CellsT.new wr #[Value.int IntKind.i64 q0, Value.int IntKind.i64 q1, Value.int IntKind.i64 q2, Value.int IntKind.i64 q3, Value.int IntKind.i64 q4, Value.int IntKind.u8 q5] 120 own (rid + 1, 0, 0)
      have z := fun j => CN.cell j
      have z0 := z 0
      have z1 := z 1
      have z2 := z 2
      have z3 := z 3
      have z4 := z 4
      have z5 := z 5
      simp only [List.getElem?_toArray, List.getElem?_cons_zero, List.getElem?_cons_succ] at z0 z1 z2 z3 z4 z5
      have hE1 := h.upd V (fun h => h) (fun h => h) (fun h => h)
      have c4' := V.cell hc4 (fun h => h)
      have FIN : Hid (∀ own1 w1, EndX own1 rid k w1 b tb window (E.fly s) → Upd (retag own wr.heap.size (rid + 1, 0, 0)) own1 (inEnd rid k) (wr.alloc (Obj.cells #[Value.int IntKind.i64 q0, Value.int IntKind.i64 q1, Value.int IntKind.i64 q2, Value.int IntKind.i64 q3, Value.int IntKind.i64 q4, Value.int IntKind.u8 q5] 120)) w1 →
          ∃ own', EndX own' rid k w1 b tb window (E.fly s) ∧ Upd own own' (inEnd rid k) wr w1) := hide fun own1 w1 h1 h2 => ⟨own1, h1, (V.mono (fun _ h => h.elim)).trans h2⟩
      clear z CN V hc4 m0 m1 m2 m3 m4 m5 h
      generalize wr.alloc (Obj.cells #[Value.int IntKind.i64 q0, Value.int IntKind.i64 q1, Value.int IntKind.i64 q2, Value.int IntKind.i64 q3, Value.int IntKind.i64 q4, Value.int IntKind.u8 q5] 120) = W1 at *
      generalize retag own wr.heap.size (rid + 1, 0, 0) = own2 at *
      go_region_with (first
        | (go_at_call 59; refine (unhide HDG _).mono ?_; rintro e w2 ⟨rfl, hb2⟩)
        | (go_at_call 58; refine (xfly own2 rid k b tb window _ E s _ ?_ hle ?_).mono ?_; (exact hE1.upd ((((Upd.refl own2 (fun _ => False) W1).drew).trans (Upd.of_below own2 _ hb2)).alloc _) (fun h => h) (fun h => h) (fun h => h)); (exact World.cell?_alloc_new _ _ _ _); rintro e w4 ⟨rfl, own4, h4, hu4⟩))
      all_goals
        go_wp2
        go_roundw
        case rel => exact Or.inr ⟨rfl, unhide FIN own4 w4 h4 (((((Upd.refl own2 (inEnd rid k) W1).drew).trans (Upd.of_below own2 _ hb2)).alloc _).trans hu4)⟩
        case measure => simp [intOf]
    · go_wp2
      go_end0
      exact ⟨rfl, own', h1, h2⟩
end Go.Proofs.Ytibokhifcaodfaa
