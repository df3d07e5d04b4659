/-
  weave: (*end).makeMessage. Own work.
-/
import Derived.Test.YtibokhifcaodfaaImpSend
namespace Go.Proofs.Ytibokhifcaodfaa
open Go.RowKit
attribute [local go_sem ↓] Go.wp_at_zero Go.wp_at_succ

theorem Try.info120 : (Try.prog.info? 120).map (fun i => (i.zero, i.size, i.bytes)) = some (some (.agg #[.int .i64 0, .int .i64 0, .int .i64 0, .int .i64 0, .int .i64 0, .int .u8 0]), 6, 48) := by kernel_rfl

def ROp.Small (o : ROp) : Prop := (0 ≤ o.client ∧ o.client ≤ 255) ∧ (0 ≤ o.verb ∧ o.verb ≤ 255) ∧ (0 ≤ o.place ∧ o.place ≤ 255) ∧ (0 ≤ o.letter ∧ o.letter ≤ 255)
def IEnd.next (E : IEnd) (o : ROp) : IMsg := ⟨E.made.length + 1, E.taken, o⟩
def IEnd.make (E : IEnd) (o : ROp) (window : Nat) : IEnd :=
  let E1 : IEnd := { E with made := E.made ++ [E.next o] }
  if E.made.length + 1 ≤ E.known + window then E1.fly (ckd ((E.next o).bytes E.taken)) else E1

set_option maxRecDepth 100000 in
set_option maxHeartbeats 1600000 in
theorem xmake (own : Nat → Tag) (rid k b tb window : Nat) (E : IEnd) (o : ROp) (w : World) (h : EndX own rid k w b tb window E) (ho : o.Small) (h1 : E.made.length < 240) (h2 : E.taken ≤ 240) (h3 : E.known ≤ 240) (h4 : E.flying.length ≤ 12) (h5 : window ≤ 4) :
    Calls Try.prog 46 #[.pointer (some ⟨b, 0, none⟩), .agg #[.int .i64 o.client, .int .i64 o.verb, .int .i64 o.place, .int .u8 o.letter]] w fun e w' => e = .returned (.tuple #[]) ∧ ∃ own', EndX own' rid k w' b tb window (E.make o window) ∧ Upd own own' (inEnd rid k) w w' := by
  obtain ⟨i1, hi, hz0, hz1, hz2⟩ := info_parts Try.info120
  have hx : Bytes ((E.next o).bytes E.taken) := by
    intro q
    obtain ⟨o1, o2, o3, o4⟩ := ho
    match q with
    | 0 | 1 | 2 | 3 | 4 | 5 | 6 | 7 => refine ⟨?_, ?_⟩ <;> simp [IMsg.bytes, IEnd.next] <;> omega
    | q + 8 => simp [IMsg.bytes]
  have HMC : Hid ((E.next o).cells = [.int .i64 ((E.made.length : Int) + 1), .int .i64 E.taken, .int .i64 o.client, .int .i64 o.verb, .int .i64 o.place, .int .u8 o.letter]) := by
    apply hide; simp [IMsg.cells, IEnd.next]
  have HMK : Hid (E.make o window = if E.made.length + 1 ≤ E.known + window then ({ E with made := E.made ++ [E.next o] } : IEnd).fly (ckd ((E.next o).bytes E.taken)) else { E with made := E.made ++ [E.next o] }) := rfl
  have hE0 := h
  obtain ⟨mv, fv, hc, hm, hf⟩ := h
  obtain ⟨ma, mc, rfl, _, _⟩ := hm.shape
  have V : Upd own (retag own w.heap.size (rid + 1, 0, 0)) (fun _ => False) w (w.alloc (Obj.cells #[Value.int IntKind.i64 o.client, Value.int IntKind.i64 o.verb, Value.int IntKind.i64 o.place, Value.int IntKind.u8 o.letter] 102)) := Upd.retag ((Upd.refl own (fun _ => False) w).alloc _) _ _ (Nat.le_refl _)
  have CN := CellsT.new w #[Value.int IntKind.i64 o.client, Value.int IntKind.i64 o.verb, Value.int IntKind.i64 o.place, Value.int IntKind.u8 o.letter] 102 own (rid + 1, 0, 0)
  have hc1 := hc.upd V (fun h => h)
  have hm1 := hm.upd V (fun h => h)
  have hf1 := hf.upd V (fun h => h)
  have hsz1 : (w.alloc (Obj.cells #[Value.int IntKind.i64 o.client, Value.int IntKind.i64 o.verb, Value.int IntKind.i64 o.place, Value.int IntKind.u8 o.letter] 102)).heap.size > w.heap.size := by simp
  have hbl := hc.lt
  go_enter Try.func46, Try.ntmps46
  go_wp2_with fail
  have HV := hide V
  clear hc hm hf V hE0
  generalize w.alloc (Obj.cells #[Value.int IntKind.i64 o.client, Value.int IntKind.i64 o.verb, Value.int IntKind.i64 o.place, Value.int IntKind.u8 o.letter] 102) = W1 at *
  generalize retag own w.heap.size (rid + 1, 0, 0) = own1 at *
  have z0 := CN.cell 0
  have z1 := CN.cell 1
  have z2 := CN.cell 2
  have z3 := CN.cell 3
  simp only [List.getElem?_toArray, List.getElem?_cons_zero, List.getElem?_cons_succ] at z0 z1 z2 z3
  have c2 : W1.cell? ⟨b, 2, none⟩ = some (.slice ma E.made.length mc) := by rw [hc1.cell]; rfl
  have c4 : W1.cell? ⟨b, 4, none⟩ = some (.int .i64 E.taken) := by rw [hc1.cell]; rfl
  have c2a : ∀ u, (W1.alloc u).cell? ⟨b, 2, none⟩ = some (.slice ma E.made.length mc) := fun u => by rw [(hc1.alloc u).cell]; rfl
  have c4a : ∀ u, (W1.alloc u).cell? ⟨b, 4, none⟩ = some (.int .i64 E.taken) := fun u => by rw [(hc1.alloc u).cell]; rfl
  have z0a : ∀ u, (W1.alloc u).cell? ⟨w.heap.size, 0, none⟩ = some (.int .i64 o.client) := fun u => by rw [(CN.alloc u).cell]; rfl
  have z1a : ∀ u, (W1.alloc u).cell? ⟨w.heap.size, 1, none⟩ = some (.int .i64 o.verb) := fun u => by rw [(CN.alloc u).cell]; rfl
  have z2a : ∀ u, (W1.alloc u).cell? ⟨w.heap.size, 2, none⟩ = some (.int .i64 o.place) := fun u => by rw [(CN.alloc u).cell]; rfl
  have z3a : ∀ u, (W1.alloc u).cell? ⟨w.heap.size, 3, none⟩ = some (.int .u8 o.letter) := fun u => by rw [(CN.alloc u).cell]; rfl
  have n1 : ¬ (b = W1.heap.size) := by omega
  have n2 : ¬ (w.heap.size = W1.heap.size) := by omega
  have hwr : IntKind.i64.wrap ((E.made.length : Int) + 1) = (E.made.length : Int) + 1 := by rw [IntKind.wrap_i64]; omega
  generalize o.client = q2 at *
  generalize o.verb = q3 at *
  generalize o.place = q4 at *
  generalize o.letter = q5 at *
  generalize w.heap.size = N at *
  go_region
  go_wp2_with fail
  have V2 : Upd own1 (retag own1 W1.heap.size (rid + 1, 0, 0)) (fun _ => False) W1 ((W1.alloc (Obj.cells #[Value.int IntKind.i64 ((E.made.length : Int) + 1), Value.int IntKind.i64 E.taken, Value.int IntKind.i64 q2, Value.int IntKind.i64 q3, Value.int IntKind.i64 q4, Value.int IntKind.u8 q5] 120)).drew) := Upd.retag (((Upd.refl own1 (fun _ => False) W1).alloc _).drew) _ _ (Nat.le_refl _)
  have CM : CellsT (retag own1 W1.heap.size (rid + 1, 0, 0)) (rid + 1, 0, 0) ((W1.alloc (Obj.cells #[Value.int IntKind.i64 ((E.made.length : Int) + 1), Value.int IntKind.i64 E.taken, Value.int IntKind.i64 q2, Value.int IntKind.i64 q3, Value.int IntKind.i64 q4, Value.int IntKind.u8 q5] 120)).drew) W1.heap.size #[Value.int IntKind.i64 ((E.made.length : Int) + 1), Value.int IntKind.i64 E.taken, Value.int IntKind.i64 q2, Value.int IntKind.i64 q3, Value.int IntKind.i64 q4, Value.int IntKind.u8 q5] 120 := (CellsT.new W1 #[Value.int IntKind.i64 ((E.made.length : Int) + 1), Value.int IntKind.i64 E.taken, Value.int IntKind.i64 q2, Value.int IntKind.i64 q3, Value.int IntKind.i64 q4, Value.int IntKind.u8 q5] 120 own1 (rid + 1, 0, 0)).drew
  have hc2 := hc1.upd V2 (fun h => h)
  have hm2 := hm1.upd V2 (fun h => h)
  have hf2 := hf1.upd V2 (fun h => h)
  have HV2 := hide V2
  clear hc1 hm1 hf1 V2 CN z0 z1 z2 z3 z0a z1a z2a z3a c2 c4 c2a c4a
  generalize (W1.alloc (Obj.cells #[Value.int IntKind.i64 ((E.made.length : Int) + 1), Value.int IntKind.i64 E.taken, Value.int IntKind.i64 q2, Value.int IntKind.i64 q3, Value.int IntKind.i64 q4, Value.int IntKind.u8 q5] 120)).drew = W2 at *
  generalize retag own1 W1.heap.size (rid + 1, 0, 0) = own2 at *
  generalize W1.heap.size = M at *
  have y0 := CM.cell 0
  have y1 := CM.cell 1
  have y2 := CM.cell 2
  have y3 := CM.cell 3
  have y4 := CM.cell 4
  have y5 := CM.cell 5
  simp only [List.getElem?_toArray, List.getElem?_cons_zero, List.getElem?_cons_succ] at y0 y1 y2 y3 y4 y5
  have c2 : W2.cell? ⟨b, 2, none⟩ = some (.slice ma E.made.length mc) := by rw [hc2.cell]; rfl
  have c2a : ∀ u, (W2.alloc u).cell? ⟨b, 2, none⟩ = some (.slice ma E.made.length mc) := fun u => by rw [(hc2.alloc u).cell]; rfl
  have hb2 := hc2.2
  have hbl2 := hc2.lt
  have hMl := CM.lt
  have FIN : Hid (∀ na nc own3 w3, OwnsT own3 (rid, k, 3) w3 120 6 (.slice na (E.made.length + 1) nc) (E.made.length + 1) (E.made.flatMap IMsg.cells ++ #[Value.int IntKind.i64 ((E.made.length : Int) + 1), Value.int IntKind.i64 E.taken, Value.int IntKind.i64 q2, Value.int IntKind.i64 q3, Value.int IntKind.i64 q4, Value.int IntKind.u8 q5].toList) → Upd own2 own3 (fun x => x = (rid, k, 3)) (W2.alloc (Obj.cells #[Value.int IntKind.i64 ((E.made.length : Int) + 1), Value.int IntKind.i64 E.taken, Value.int IntKind.i64 q2, Value.int IntKind.i64 q3, Value.int IntKind.i64 q4, Value.int IntKind.u8 q5] 120)).drew w3 →
      ∃ own', EndX own' rid k (w3.setCell ⟨b, 2, none⟩ (.slice na (E.made.length + 1) nc)) b tb window { E with made := E.made ++ [E.next o] } ∧ Upd own2 own' (inEnd rid k) W2 (w3.setCell ⟨b, 2, none⟩ (.slice na (E.made.length + 1) nc))) := by
    apply hide
    intro na nc own3 w3 ho hu
    obtain ⟨C, O, U⟩ := app_store (k := 2) hc2 hu (by simp) ho
    refine ⟨own3, ⟨_, fv, C, ?_, hf2.upd U (by simp)⟩, U.mono (by rintro t (rfl | rfl) <;> simp [inEnd])⟩
    rw [show ({ E with made := E.made ++ [E.next o] } : IEnd).made = E.made ++ [E.next o] from rfl, List.flatMap_append, List.length_append]
    simpa [HMC.out] using O
  have hfit1 : E.made.length + 1 ≤ maxLen := by simp [maxLen]; omega
  have hfit2 : (E.made.length + 1) * 48 ≤ 140737488355328 := by omega
  have HHC := hide hc2
  go_cut [] (fun wc => ∃ own3, EndX own3 rid k wc b tb window { E with made := E.made ++ [E.next o] } ∧ Upd own2 own3 (inEnd rid k) W2 wc)
  case first =>
    go_region_law ((refine step_append_T _ (by rfl) _ _ _ (by rfl) 120 i1 _ 6 48 Try.underlying60 hi hz0 hz1 hz2 rfl (by omega) _ _ _ own2 (rid, k, 3) (by rfl) (hm2.alloc _).drew ⟨W2.heap.size, 0, none⟩ 1 1 #[Value.int IntKind.i64 ((E.made.length : Int) + 1), Value.int IntKind.i64 E.taken, Value.int IntKind.i64 q2, Value.int IntKind.i64 q3, Value.int IntKind.i64 q4, Value.int IntKind.u8 q5].toList (by rfl) (by rfl) (World.news_of_block (cs := #[Value.int IntKind.i64 ((E.made.length : Int) + 1), Value.int IntKind.i64 E.taken, Value.int IntKind.i64 q2, Value.int IntKind.i64 q3, Value.int IntKind.i64 q4, Value.int IntKind.u8 q5]) (t := 120) (fr := (0, 0)) (heap_alloc_new W2 _)) (by simp [Value.oneCell']) hfit1 hfit2 (W2.heap.size + 1) (by simp) ?_; intro na nc w3 hown3 hu3; have k2 := hu3.cell (((unhide HHC).alloc _).drew.cell 2) (by simp [hb2]); have e2 := hu3.frozen (by simp; omega) (by simp [hb2]) (((unhide HHC).alloc _).drew.frozen 2)))
    all_goals
      go_wp2
      go_meet
      case rel => exact unhide FIN _ _ _ _ hown3 hu3
  case rest =>
    obtain ⟨own3, hE3, hU3⟩ := hcut
    have CM3 := CM.upd hU3 (by simp [inEnd])
    have x0 := CM3.cell 0
    have x1 := CM3.cell 1
    have x2 := CM3.cell 2
    have x3 := CM3.cell 3
    have x4 := CM3.cell 4
    have x5 := CM3.cell 5
    simp only [List.getElem?_toArray, List.getElem?_cons_zero, List.getElem?_cons_succ] at x0 x1 x2 x3 x4 x5
    have c3 : wc.cell? ⟨b, 3, none⟩ = some (.int .i64 E.known) := by obtain ⟨_, _, hc, _⟩ := hE3; rw [hc.cell]; rfl
    have c1 : wc.cell? ⟨b, 1, none⟩ = some (.int .i64 window) := by obtain ⟨_, _, hc, _⟩ := hE3; rw [hc.cell]; rfl
    have HUF : Hid (Upd own own3 (inEnd rid k) w wc) := hide (((unhide HV).mono (fun _ h => h.elim)).trans ((((unhide HV2).mono (fun _ h => h.elim))).trans hU3))
    have hwk : IntKind.i64.wrap ((E.known : Int) + window) = (E.known : Int) + window := by rw [IntKind.wrap_i64]; omega
    have HSD : Hid (∀ w' mb, EndX own3 rid k w' b tb window { E with made := E.made ++ [E.next o] } → w'.heap[mb]? = some (.cells #[Value.int IntKind.i64 ((E.made.length : Int) + 1), Value.int IntKind.i64 E.taken, Value.int IntKind.i64 q2, Value.int IntKind.i64 q3, Value.int IntKind.i64 q4, Value.int IntKind.u8 q5] 120 (0, 0)) → Calls Try.prog 54 #[.pointer (some ⟨b, 0, none⟩), .slice (some ⟨mb, 0, none⟩) 1 1] w' fun e w'' => e = .returned (.tuple #[]) ∧ ∃ own', EndX own' rid k w'' b tb window (({ E with made := E.made ++ [E.next o] } : IEnd).fly (ckd ((E.next o).bytes E.taken))) ∧ Upd own3 own' (inEnd rid k) w' w'') :=
      hide fun w' mb hE hm => xsend own3 rid k b tb window mb { E with made := E.made ++ [E.next o] } (E.next o) w' hE h4 hx (by rw [HMC.out]; exact hm)
    clear y0 y1 y2 y3 y4 y5 c2 c2a FIN HHC hc2 hm2 hf2 CM CM3 hU3 HV HV2 hx HMC hb2 hbl2 hMl
    by_cases hle : E.made.length + 1 ≤ E.known + window
    · have hle' : (E.made.length : Int) + 1 ≤ (E.known : Int) + window := by omega
      rw [if_pos hle] at HMK
      go_wp2_with fail
      go_region
      go_wp2_with fail
      refine (unhide HSD _ _ ?_ ?_).mono ?_
      · exact hE3.upd (((Upd.refl own3 (fun _ => False) wc).drew).alloc _) (fun h => h) (fun h => h) (fun h => h)
      · exact heap_alloc_new _ _
      rintro e w4 ⟨rfl, own4, hE4, hU4⟩
      go_wp2
      go_end0
      rw [HMK.out]
      exact ⟨rfl, own4, hE4, (unhide HUF).trans ((((Upd.refl own3 _ wc).drew).alloc _).trans hU4)⟩
    · have hle' : ¬ (E.made.length : Int) + 1 ≤ (E.known : Int) + window := by omega
      rw [if_neg hle] at HMK
      go_wp2_with fail
      go_region
      go_wp2
      go_end0
      rw [HMK.out]
      exact ⟨rfl, own3, hE3.upd ((Upd.refl own3 (fun _ => False) wc).drew) (fun h => h) (fun h => h) (fun h => h), (unhide HUF).drew⟩
end Go.Proofs.Ytibokhifcaodfaa
