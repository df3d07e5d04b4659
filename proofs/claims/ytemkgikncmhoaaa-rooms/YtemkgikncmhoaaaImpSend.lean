/-
  weave: (*end).send of one message. Own work.
-/
import Derived.Test.YtemkgikncmhoaaaImpEnd
namespace Go.Proofs.Ytemkgikncmhoaaa
open Go.RowKit
attribute [local go_sem ↓] Go.wp_at_zero Go.wp_at_succ

def IMsg.bytes (m : IMsg) (taken : Nat) : List Int := [1, m.number, m.ctx, taken, m.op.client, m.op.verb, m.op.place, m.op.letter]

def IEnd.sends (E : IEnd) (ms : List IMsg) : IEnd := ms.foldl (fun E m => E.fly (ckd (m.bytes E.taken))) E
theorem IEnd.fly_fields (E : IEnd) (s : ByteArray) : (E.fly s).known = E.known ∧ (E.fly s).waiting = E.waiting ∧ (E.fly s).taken = E.taken ∧ (E.fly s).seen = E.seen ∧ (E.fly s).opn = E.opn ∧ (E.fly s).kept = E.kept := by
  unfold IEnd.fly; split <;> exact ⟨rfl, rfl, rfl, rfl, rfl, rfl⟩
theorem IEnd.fly_le (E : IEnd) (s : ByteArray) (h : E.flying.length ≤ 12) : (E.fly s).flying.length ≤ 12 := by
  unfold IEnd.fly
  split
  · simp; omega
  · exact h
theorem IEnd.sends_append (E : IEnd) (ms ns : List IMsg) : E.sends (ms ++ ns) = (E.sends ms).sends ns := by simp [IEnd.sends]
theorem IEnd.sends_fields (ms : List IMsg) : ∀ E : IEnd, (E.sends ms).known = E.known ∧ (E.sends ms).waiting = E.waiting ∧ (E.sends ms).taken = E.taken ∧ (E.sends ms).seen = E.seen ∧ (E.sends ms).opn = E.opn ∧ (E.sends ms).kept = E.kept := by
  induction ms with
  | nil => intro E; exact ⟨rfl, rfl, rfl, rfl, rfl, rfl⟩
  | cons m ms ih =>
    intro E
    obtain ⟨a1, a2, a3, a4, a5, a6⟩ := ih (E.fly (ckd (m.bytes E.taken)))
    obtain ⟨b1, b2, b3, b4, b5, b6⟩ := E.fly_fields (ckd (m.bytes E.taken))
    exact ⟨a1.trans b1, a2.trans b2, a3.trans b3, a4.trans b4, a5.trans b5, a6.trans b6⟩
theorem IEnd.sends_le (ms : List IMsg) : ∀ E : IEnd, E.flying.length ≤ 12 → (E.sends ms).flying.length ≤ 12 := by
  induction ms with
  | nil => intro E h; exact h
  | cons m ms ih => intro E h; exact ih _ (E.fly_le _ h)
theorem IMsg.cells_at {ms : List IMsg} {j : Nat} {m : IMsg} (h : ms[j]? = some m) {i : Nat} (hi : i < 6) : (ms.flatMap IMsg.cells)[j * 6 + i]? = m.cells[i]? := by
  induction ms generalizing j with
  | nil => simp at h
  | cons x xs ih =>
    rw [List.flatMap_cons]
    have hx : x.cells.length = 6 := rfl
    match j, h with
    | 0, h =>
      obtain rfl : x = m := by simpa using h
      rw [List.getElem?_append_left (by rw [hx]; omega)]; simp
    | j + 1, h =>
      rw [List.getElem?_append_right (by rw [hx]; omega), hx, show (j + 1) * 6 + i - 6 = j * 6 + i by omega]
      exact ih (by simpa using h)

set_option maxRecDepth 100000 in
set_option maxHeartbeats 1600000 in
theorem xsends (own : Nat → Tag) (rid k b tb window g off cap : Nat) (E : IEnd) (ms : List IMsg) (w : World) (h : EndX own rid k w b tb window E) (hle : E.flying.length ≤ 12) (hx : ∀ m ∈ ms, Bytes (m.bytes E.taken))
    (hn : ms.length ≤ 1000) (hg : ms ≠ [] → ¬ inFly rid k (own g) ∧ g < w.heap.size) (hm : ∀ j u, (ms.flatMap IMsg.cells)[j]? = some u → w.cell? ⟨g, off + j, none⟩ = some u) :
    Calls Try.prog 67 #[.pointer (some ⟨b, 0, none⟩), .slice (some ⟨g, off, none⟩) ms.length cap] w fun e w' => e = .returned (.tuple #[]) ∧ ∃ own', EndX own' rid k w' b tb window (E.sends ms) ∧ Upd own own' (inFly rid k) w w' := by
  have HM := hide hm
  have HX := hide hx
  have HG := hide hg
  clear hm hx hg
  go_enter Try.func67, Try.ntmps67
  go_wp2_with fail
  go_loopw [8] (fun v8 wr => ∃ j : Nat, j ≤ ms.length ∧ v8 = .int .i64 j ∧ ∃ own', EndX own' rid k wr b tb window (E.sends (ms.take j)) ∧ Upd own own' (inFly rid k) w wr) (fun v8 _ => ms.length - (intOf v8).toNat)
  case atStart => exact ⟨0, Nat.zero_le _, rfl, own, h, Upd.refl _ _ _⟩
  case round =>
    obtain ⟨j, hj, rfl, own', h1, h2⟩ := hrel
    by_cases hlt : j < ms.length
    · have hlt' : (j : Int) < (ms.length : Int) := by omega
      obtain ⟨m, hmj⟩ : ∃ m, ms[j]? = some m := ⟨ms[j], by simp [hlt]⟩
      have hne : ms ≠ [] := by rintro rfl; simp at hlt
      obtain ⟨g1, g2⟩ := unhide HG hne
      have zz : ∀ i, i < 6 → ∀ u, m.cells[i]? = some u → wr.cell? ⟨g, off + j * 6 + i, none⟩ = some u := fun i hi u hu => by rw [Nat.add_assoc]; exact h2.cell (unhide HM _ _ ((IMsg.cells_at hmj hi).trans hu)) g1
      have m0 : wr.cell? ⟨g, off + j * 6, none⟩ = _ := zz 0 (by decide) _ rfl
      have m1 := zz 1 (by decide) _ rfl
      have m2 := zz 2 (by decide) _ rfl
      have m3 := zz 3 (by decide) _ rfl
      have m4 := zz 4 (by decide) _ rfl
      have m5 := zz 5 (by decide) _ rfl
      have gl : g < wr.heap.size := Nat.lt_of_lt_of_le g2 h2.size
      have ht : (E.sends (ms.take j)).taken = E.taken := (IEnd.sends_fields _ E).2.2.1
      have hle1 := IEnd.sends_le (ms.take j) E hle
      have HB : Hid (m.bytes E.taken = [1, (m.number : Int), m.ctx, E.taken, m.op.client, m.op.verb, m.op.place, m.op.letter]) := rfl
      have hxm := unhide HX m (List.mem_of_getElem? hmj)
      rw [HB.out] at hxm
      have HDG : Hid (∀ w, Calls Try.prog 82 #[.agg #[.int .i64 m.number, .int .i64 m.ctx, .int .i64 m.op.client, .int .i64 m.op.verb, .int .i64 m.op.place, .int .u8 m.op.letter], .int .i64 E.taken] w fun e w' => e = .returned (.string (ckd [1, (m.number : Int), m.ctx, E.taken, m.op.client, m.op.verb, m.op.place, m.op.letter])) ∧ Below w.heap.size w w') :=
        hide fun w => datagram_any _ _ _ _ _ _ _ w hxm
      have HNX : Hid (E.sends (ms.take (j + 1)) = (E.sends (ms.take j)).fly (ckd [1, (m.number : Int), m.ctx, E.taken, m.op.client, m.op.verb, m.op.place, m.op.letter])) := by
        apply hide
        rw [List.take_add_one, hmj, Option.toList_some, IEnd.sends_append]
        show (E.sends (ms.take j)).fly (ckd (m.bytes (E.sends (ms.take j)).taken)) = _
        rw [ht]; rfl
      have hc4 : wr.cell? ⟨b, 4, none⟩ = some (.int .i64 E.taken) := by rw [h1.c4, ht]
      have hbl := h1.lt
      have HU := hide h2
      clear zz hxm HB h2 g1
      generalize (m.number : Int) = q0 at *
      generalize (m.ctx : Int) = q1 at *
      generalize m.op.client = q2 at *
      generalize m.op.verb = q3 at *
      generalize m.op.place = q4 at *
      generalize m.op.letter = q5 at *
      generalize ckd [1, q0, q1, (E.taken : Int), q2, q3, q4, q5] = s at *
      generalize E.sends (ms.take j) = E1 at *
      go_wp2_with fail
      have V : Upd own' (retag own' wr.heap.size (rid + 1, 0, 0)) (fun _ => False) wr (wr.alloc (Obj.cells #[Value.int IntKind.i64 q0, Value.int IntKind.i64 q1, Value.int IntKind.i64 q2, Value.int IntKind.i64 q3, Value.int IntKind.i64 q4, Value.int IntKind.u8 q5] 139)) := Upd.retag ((Upd.refl own' (fun _ => False) wr).alloc _) _ _ (Nat.le_refl _)
      have CN := CellsT.new wr #[Value.int IntKind.i64 q0, Value.int IntKind.i64 q1, Value.int IntKind.i64 q2, Value.int IntKind.i64 q3, Value.int IntKind.i64 q4, Value.int IntKind.u8 q5] 139 own' (rid + 1, 0, 0)
      have z := fun j => CN.cell j
      have z0 := z 0
      have z1 := z 1
      have z2 := z 2
      have z3 := z 3
      have z4 := z 4
      have z5 := z 5
      simp only [List.getElem?_toArray, List.getElem?_cons_zero, List.getElem?_cons_succ] at z0 z1 z2 z3 z4 z5
      have hE1 := h1.upd V (fun _ _ _ h => h)
      have c4' := V.cell hc4 (fun h => h)
      have FIN : Hid (∀ own1 w1, EndX own1 rid k w1 b tb window (E1.fly s) → Upd (retag own' wr.heap.size (rid + 1, 0, 0)) own1 (inFly rid k) (wr.alloc (Obj.cells #[Value.int IntKind.i64 q0, Value.int IntKind.i64 q1, Value.int IntKind.i64 q2, Value.int IntKind.i64 q3, Value.int IntKind.i64 q4, Value.int IntKind.u8 q5] 139)) w1 →
          ∃ own', EndX own' rid k w1 b tb window (E.sends (ms.take (j + 1))) ∧ Upd own own' (inFly rid k) w w1) := hide fun own1 w1 h1 h2 => ⟨own1, by rw [HNX.out]; exact h1, (unhide HU).trans ((V.mono (fun _ h => h.elim)).trans h2)⟩
      clear z CN V hc4 m0 m1 m2 m3 m4 m5 h1 HM HX HG HNX HU
      generalize wr.alloc (Obj.cells #[Value.int IntKind.i64 q0, Value.int IntKind.i64 q1, Value.int IntKind.i64 q2, Value.int IntKind.i64 q3, Value.int IntKind.i64 q4, Value.int IntKind.u8 q5] 139) = W1 at *
      generalize retag own' wr.heap.size (rid + 1, 0, 0) = own2 at *
      go_region_with (first
        | (go_at_call 82; refine (unhide HDG _).mono ?_; rintro e w2 ⟨rfl, hb2⟩)
        | (go_at_call 69; refine (xfly own2 rid k b tb window _ E1 s _ ?_ hle1 ?_).mono ?_; (exact hE1.upd ((((Upd.refl own2 (fun _ => False) W1).drew).trans (Upd.of_below own2 _ hb2)).alloc _) (fun _ _ _ h => h)); (exact World.cell?_alloc_new _ _ _ _); rintro e w4 ⟨rfl, own4, h4, hu4⟩))
      all_goals
        go_wp2
        go_roundw
        case rel => exact ⟨j + 1, by omega, by go_num, unhide FIN own4 w4 h4 (((((Upd.refl own2 (inFly rid k) W1).drew).trans (Upd.of_below own2 _ hb2)).alloc _).trans hu4)⟩
        case measure => simp [intOf]; omega
    · have hlt' : ¬ (j : Int) < (ms.length : Int) := by omega
      obtain rfl : j = ms.length := by omega
      rw [List.take_length] at h1
      go_wp2
      go_end0
      exact ⟨rfl, own', h1, h2⟩
end Go.Proofs.Ytemkgikncmhoaaa
