import Derived.Test.YtemkgikncmhoaaaM11
/-
  weave: (*end).makeMessage. Own work.
-/
namespace Go.Proofs.Ytemkgikncmhoaaa
open Go.RowKit
attribute [local go_sem ↓] Go.wp_at_zero Go.wp_at_succ

theorem Try.info94 : (Try.prog.info? 94).map (fun i => (i.zero, i.size, i.bytes)) = some (some (.agg #[.int .i64 0, .int .i64 0, .int .i64 0, .int .u8 0]), 4, 32) := by kernel_rfl
theorem Try.info139 : (Try.prog.info? 139).map (fun i => (i.zero, i.size, i.bytes)) = some (some (.agg #[.int .i64 0, .int .i64 0, .int .i64 0, .int .i64 0, .int .i64 0, .int .u8 0]), 6, 48) := by kernel_rfl

def ROp.Small (o : ROp) : Prop := (0 ≤ o.client ∧ o.client ≤ 255) ∧ (0 ≤ o.verb ∧ o.verb ≤ 255) ∧ (0 ≤ o.place ∧ o.place ≤ 255) ∧ (0 ≤ o.letter ∧ o.letter ≤ 255)
def IEnd.made (E : IEnd) : Nat := E.known + E.waiting.length
def IEnd.next (E : IEnd) (o : ROp) : IMsg := ⟨E.made + 1, E.taken, o⟩
def IEnd.grow (E : IEnd) (o : ROp) : IEnd := { E with waiting := E.waiting ++ [E.next o], opn := E.opn ++ [o] }
def IEnd.make (E : IEnd) (o : ROp) (window : Nat) : IEnd :=
  if E.waiting.length + 1 ≤ window then (E.grow o).sends [E.next o] else E.grow o

set_option maxRecDepth 100000 in
set_option maxHeartbeats 400000 in
theorem xwaits (own : Nat → Tag) (rid k b tb window : Nat) (E : IEnd) (w : World) (h : EndX own rid k w b tb window E) :
    Calls Try.prog 36 #[.pointer (some ⟨b, 0, none⟩)] w fun e w' => e = .returned (.int .i64 E.waiting.length) ∧ w' = w := by
  obtain ⟨a, c, c3⟩ := h.c3
  clear h
  go_enter Try.func36, Try.ntmps36
  go_wp2
  go_ret
  exact ⟨rfl, rfl⟩

set_option maxRecDepth 100000 in
set_option maxHeartbeats 400000 in
theorem xmade (own : Nat → Tag) (rid k b tb window : Nat) (E : IEnd) (w : World) (h : EndX own rid k w b tb window E) (h1 : E.made ≤ 1000) :
    Calls Try.prog 51 #[.pointer (some ⟨b, 0, none⟩)] w fun e w' => e = .returned (.int .i64 E.made) ∧ w' = w.drew := by
  obtain ⟨a, c, c3⟩ := h.c3
  have c2 := h.c2
  have HM : Hid ((E.made : Int) = (E.known : Int) + E.waiting.length) := by apply hide; simp [IEnd.made]
  have h3 : (E.known : Int) + E.waiting.length ≤ 1000 := by rw [← HM.out]; omega
  have hwr : IntKind.i64.wrap ((E.known : Int) + E.waiting.length) = (E.known : Int) + E.waiting.length := by rw [IntKind.wrap_i64]; omega
  clear h h1
  rw [HM.out]
  go_enter Try.func51, Try.ntmps51
  go_wp2_with fail
  go_region
  all_goals go_wp2
  all_goals go_ret
  all_goals exact ⟨rfl, rfl⟩

set_option maxRecDepth 100000 in
set_option maxHeartbeats 1600000 in
theorem xmake (own : Nat → Tag) (rid k b tb window : Nat) (E : IEnd) (o : ROp) (w : World) (h : EndX own rid k w b tb window E) (ho : o.Small) (h1 : E.made < 240) (h2 : E.taken ≤ 240) (h4 : E.flying.length ≤ 12) (h6 : E.opn.length ≤ 240) :
    Calls Try.prog 53 #[.pointer (some ⟨b, 0, none⟩), .agg #[.int .i64 o.client, .int .i64 o.verb, .int .i64 o.place, .int .u8 o.letter]] w fun e w' => e = .returned (.tuple #[]) ∧ ∃ own', EndX own' rid k w' b tb window (E.make o window) ∧ Upd own own' (inEnd rid k) w w' := by
  obtain ⟨i1, hi, hz0, hz1, hz2⟩ := info_parts Try.info139
  obtain ⟨i2, hj, hy0, hy1, hy2⟩ := info_parts Try.info94
  have hx : Bytes ((E.next o).bytes E.taken) := by
    intro q
    obtain ⟨o1, o2, o3, o4⟩ := ho
    match q with
    | 0 | 1 | 2 | 3 | 4 | 5 | 6 | 7 => refine ⟨?_, ?_⟩ <;> simp [IMsg.bytes, IEnd.next] <;> omega
    | q + 8 => simp [IMsg.bytes]
  have HMC : Hid ((E.next o).cells = [.int .i64 ((E.made : Int) + 1), .int .i64 E.taken, .int .i64 o.client, .int .i64 o.verb, .int .i64 o.place, .int .u8 o.letter]) := by
    apply hide; simp [IMsg.cells, IEnd.next]
  have HOC : Hid (o.cells = [.int .i64 o.client, .int .i64 o.verb, .int .i64 o.place, .int .u8 o.letter]) := rfl
  have V : Upd own (retag own w.heap.size (rid + 1, 0, 0)) (fun _ => False) w (w.alloc (Obj.cells #[Value.int IntKind.i64 o.client, Value.int IntKind.i64 o.verb, Value.int IntKind.i64 o.place, Value.int IntKind.u8 o.letter] 94)) := Upd.retag ((Upd.refl own (fun _ => False) w).alloc _) _ _ (Nat.le_refl _)
  have CN := CellsT.new w #[Value.int IntKind.i64 o.client, Value.int IntKind.i64 o.verb, Value.int IntKind.i64 o.place, Value.int IntKind.u8 o.letter] 94 own (rid + 1, 0, 0)
  have hE1 := h.upd V (fun _ _ _ h => h)
  have hsz1 : (w.alloc (Obj.cells #[Value.int IntKind.i64 o.client, Value.int IntKind.i64 o.verb, Value.int IntKind.i64 o.place, Value.int IntKind.u8 o.letter] 94)).heap.size > w.heap.size := by simp
  have hbl := h.lt
  go_enter Try.func53, Try.ntmps53
  go_wp2_with fail
  have HV := hide V
  clear h V
  generalize w.alloc (Obj.cells #[Value.int IntKind.i64 o.client, Value.int IntKind.i64 o.verb, Value.int IntKind.i64 o.place, Value.int IntKind.u8 o.letter] 94) = W1 at *
  generalize retag own w.heap.size (rid + 1, 0, 0) = own1 at *
  have z0 := CN.cell 0
  have z1 := CN.cell 1
  have z2 := CN.cell 2
  have z3 := CN.cell 3
  simp only [List.getElem?_toArray, List.getElem?_cons_zero, List.getElem?_cons_succ] at z0 z1 z2 z3
  have HMD : Hid (∀ w', EndX own1 rid k w' b tb window E → Calls Try.prog 51 #[.pointer (some ⟨b, 0, none⟩)] w' fun e w'' => e = .returned (.int .i64 E.made) ∧ w'' = w'.drew) := hide fun w' h => xmade own1 rid k b tb window E w' h (by omega)
  have c4 := hE1.c4
  have n1 : ¬ (b = W1.heap.size) := by omega
  have n2 : ¬ (w.heap.size = W1.heap.size) := by omega
  have hwr : IntKind.i64.wrap ((E.made : Int) + 1) = (E.made : Int) + 1 := by rw [IntKind.wrap_i64]; omega
  generalize hq2 : o.client = q2 at *
  generalize hq3 : o.verb = q3 at *
  generalize hq4 : o.place = q4 at *
  generalize hq5 : o.letter = q5 at *
  clear hq2 hq3 hq4 hq5
  generalize w.heap.size = N at *
  go_cut [4] (fun v4 wc => v4 = .pointer (some ⟨W1.heap.size, 0, none⟩) ∧ wc = (W1.alloc (Obj.cells #[Value.int IntKind.i64 ((E.made : Int) + 1), Value.int IntKind.i64 E.taken, Value.int IntKind.i64 q2, Value.int IntKind.i64 q3, Value.int IntKind.i64 q4, Value.int IntKind.u8 q5] 139)).drew.drew)
  case first =>
    have HE0 := hide (hE1.upd ((Upd.refl own1 (fun _ => False) W1).drew) (fun _ _ _ h => h))
    have HE1 := hide fun o => hE1.upd (((Upd.refl own1 (fun _ => False) W1).alloc o).drew) (fun _ _ _ h => h)
    have HEA := hide hE1
    have HCN := hide CN
    have c4a : ∀ u, (W1.alloc u).cell? ⟨b, 4, none⟩ = some (.int .i64 E.taken) := fun u => (hE1.upd ((Upd.refl own1 (fun _ => False) W1).alloc u) (fun _ _ _ h => h)).c4
    have z0a : ∀ u, (W1.alloc u).cell? ⟨N, 0, none⟩ = some (.int .i64 q2) := fun u => by rw [(CN.alloc u).cell]; rfl
    have z1a : ∀ u, (W1.alloc u).cell? ⟨N, 1, none⟩ = some (.int .i64 q3) := fun u => by rw [(CN.alloc u).cell]; rfl
    have z2a : ∀ u, (W1.alloc u).cell? ⟨N, 2, none⟩ = some (.int .i64 q4) := fun u => by rw [(CN.alloc u).cell]; rfl
    have z3a : ∀ u, (W1.alloc u).cell? ⟨N, 3, none⟩ = some (.int .u8 q5) := fun u => by rw [(CN.alloc u).cell]; rfl
    clear hE1 CN hx HMC
    go_region_held3 (fun w' => w'.cell? ⟨b, 4, none⟩ = some (.int .i64 E.taken) ∧ w'.cell? ⟨N, 0, none⟩ = some (.int .i64 q2) ∧ w'.cell? ⟨N, 1, none⟩ = some (.int .i64 q3) ∧ w'.cell? ⟨N, 2, none⟩ = some (.int .i64 q4) ∧ w'.cell? ⟨N, 3, none⟩ = some (.int .u8 q5)) (go_keep) (first | (go_at_call 51; refine (unhide HMD _ (by first | exact unhide HE0 | exact unhide HE1 _)).mono ?_; rintro e w' ⟨rfl, hw'⟩; obtain rfl := hw'.symm))
    all_goals
      go_wp2
      go_meet
      case rel => exact ⟨rfl, rfl⟩
  case rest =>
    obtain ⟨rfl, rfl⟩ := hcut
    clear z0 z1 z2 z3 c4 HMD hwr
    go_wp2_with fail
    have V2 : Upd own1 (retag own1 W1.heap.size (rid + 1, 0, 1)) (fun _ => False) W1 ((W1.alloc (Obj.cells #[Value.int IntKind.i64 ((E.made : Int) + 1), Value.int IntKind.i64 E.taken, Value.int IntKind.i64 q2, Value.int IntKind.i64 q3, Value.int IntKind.i64 q4, Value.int IntKind.u8 q5] 139)).drew.drew) := Upd.retag ((((Upd.refl own1 (fun _ => False) W1).alloc _).drew).drew) _ _ (Nat.le_refl _)
    have CM : CellsT (retag own1 W1.heap.size (rid + 1, 0, 1)) (rid + 1, 0, 1) ((W1.alloc (Obj.cells #[Value.int IntKind.i64 ((E.made : Int) + 1), Value.int IntKind.i64 E.taken, Value.int IntKind.i64 q2, Value.int IntKind.i64 q3, Value.int IntKind.i64 q4, Value.int IntKind.u8 q5] 139)).drew.drew) W1.heap.size #[Value.int IntKind.i64 ((E.made : Int) + 1), Value.int IntKind.i64 E.taken, Value.int IntKind.i64 q2, Value.int IntKind.i64 q3, Value.int IntKind.i64 q4, Value.int IntKind.u8 q5] 139 := (CellsT.new W1 #[Value.int IntKind.i64 ((E.made : Int) + 1), Value.int IntKind.i64 E.taken, Value.int IntKind.i64 q2, Value.int IntKind.i64 q3, Value.int IntKind.i64 q4, Value.int IntKind.u8 q5] 139 own1 (rid + 1, 0, 1)).drew.drew
    have CN2 := CN.upd V2 (fun h => h)
    have hE2 := hE1.upd V2 (fun _ _ _ h => h)
    have HU2 : Hid (Upd own (retag own1 W1.heap.size (rid + 1, 0, 1)) (inEnd rid k) w ((W1.alloc (Obj.cells #[Value.int IntKind.i64 ((E.made : Int) + 1), Value.int IntKind.i64 E.taken, Value.int IntKind.i64 q2, Value.int IntKind.i64 q3, Value.int IntKind.i64 q4, Value.int IntKind.u8 q5] 139)).drew.drew)) := hide (((unhide HV).mono (fun _ h => h.elim)).trans (V2.mono (fun _ h => h.elim)))
    clear V2 CN hE1 HV
    generalize (W1.alloc (Obj.cells #[Value.int IntKind.i64 ((E.made : Int) + 1), Value.int IntKind.i64 E.taken, Value.int IntKind.i64 q2, Value.int IntKind.i64 q3, Value.int IntKind.i64 q4, Value.int IntKind.u8 q5] 139)).drew.drew = W2 at *
    generalize retag own1 W1.heap.size (rid + 1, 0, 1) = own2 at *
    generalize W1.heap.size = M at *
    clear hsz1 n1 n2
    go_cut [] (fun wc => ∃ own3, EndX own3 rid k wc b tb window ({ E with waiting := E.waiting ++ [E.next o] } : IEnd) ∧ Upd own2 own3 (inEnd rid k) W2 wc)
    case first =>
      obtain ⟨wv, ov, kb, fv, hc, hm, hop, hk, hf⟩ := hE2
      obtain ⟨wa, wcp, rfl, _, _⟩ := hm.shape
      have y0 := CM.cell 0
      have y1 := CM.cell 1
      have y2 := CM.cell 2
      have y3 := CM.cell 3
      have y4 := CM.cell 4
      have y5 := CM.cell 5
      simp only [List.getElem?_toArray, List.getElem?_cons_zero, List.getElem?_cons_succ] at y0 y1 y2 y3 y4 y5
      have c3 : W2.cell? ⟨b, 3, none⟩ = some (.slice wa E.waiting.length wcp) := by rw [hc.cell]; rfl
      have c3a : ∀ u, (W2.alloc u).cell? ⟨b, 3, none⟩ = some (.slice wa E.waiting.length wcp) := fun u => by rw [(hc.alloc u).cell]; rfl
      have hb2 := hc.2
      have hbl2 := hc.lt
      have hml : E.waiting.length < 240 := by unfold IEnd.made at h1; omega
      have FIN : Hid (∀ na nc own3 w3, RowO own3 (rid, k, 3) w3 139 6 (.slice na (E.waiting.length + 1) nc) (E.waiting.length + 1) (E.waiting.flatMap IMsg.cells ++ #[Value.int IntKind.i64 ((E.made : Int) + 1), Value.int IntKind.i64 E.taken, Value.int IntKind.i64 q2, Value.int IntKind.i64 q3, Value.int IntKind.i64 q4, Value.int IntKind.u8 q5].toList) → Upd own2 own3 (fun x => x = (rid, k, 3)) (W2.alloc (Obj.cells #[Value.int IntKind.i64 ((E.made : Int) + 1), Value.int IntKind.i64 E.taken, Value.int IntKind.i64 q2, Value.int IntKind.i64 q3, Value.int IntKind.i64 q4, Value.int IntKind.u8 q5] 139)).drew w3 →
          ∃ own', EndX own' rid k (w3.setCell ⟨b, 3, none⟩ (.slice na (E.waiting.length + 1) nc)) b tb window ({ E with waiting := E.waiting ++ [E.next o] } : IEnd) ∧ Upd own2 own' (inEnd rid k) W2 (w3.setCell ⟨b, 3, none⟩ (.slice na (E.waiting.length + 1) nc))) := by
        apply hide
        intro na nc own3 w3 ho hu
        obtain ⟨C, O, U⟩ := app_store_O (k := 3) hc hu (by simp) ho
        refine ⟨own3, ⟨_, ov, kb, fv, C, ?_, hop.upd U (by simp), hk.upd U (by simp), hf.upd U (by simp)⟩, U.mono (by rintro t (rfl | rfl) <;> exact inEnd.mk _ _ (by decide) (by decide))⟩
        rw [show ({ E with waiting := E.waiting ++ [E.next o] } : IEnd).waiting = E.waiting ++ [E.next o] from rfl, List.flatMap_append, List.length_append]
        simpa [HMC.out] using O
      have hfit1 : E.waiting.length + 1 ≤ maxLen := by simp [maxLen]; omega
      have hfit2 : (E.waiting.length + 1) * 48 ≤ 140737488355328 := by omega
      have HHC := hide hc
      clear hop hk hf hc CM CN2
      go_region_law ((refine step_append_O _ (by rfl) _ _ _ (by rfl) 139 i1 _ 6 48 Try.underlying81 hi hz0 hz1 hz2 rfl (by omega) _ _ _ own2 (rid, k, 3) (by rfl) (hm.alloc _).drew ⟨W2.heap.size, 0, none⟩ 1 1 #[Value.int IntKind.i64 ((E.made : Int) + 1), Value.int IntKind.i64 E.taken, Value.int IntKind.i64 q2, Value.int IntKind.i64 q3, Value.int IntKind.i64 q4, Value.int IntKind.u8 q5].toList (by rfl) (by rfl) (World.news_of_block (cs := #[Value.int IntKind.i64 ((E.made : Int) + 1), Value.int IntKind.i64 E.taken, Value.int IntKind.i64 q2, Value.int IntKind.i64 q3, Value.int IntKind.i64 q4, Value.int IntKind.u8 q5]) (t := 139) (fr := (0, 0)) (heap_alloc_new W2 _)) (by simp [Value.oneCell']) hfit1 hfit2 (W2.heap.size + 1) (by simp) ?_; intro na nc w3 hown3 hu3; have k2 := hu3.cell (((unhide HHC).alloc _).drew.cell 3) (by simp [hb2]); have e2 := hu3.frozen (by simp; omega) (by simp [hb2]) (((unhide HHC).alloc _).drew.frozen 3)))
      all_goals
        go_wp2
        go_meet
        case rel => exact unhide FIN _ _ _ _ hown3 hu3
    case rest =>
      obtain ⟨own3, hE3, hU3⟩ := hcut
      have CM3 := CM.upd hU3 (by simp [inEnd])
      have CN3 := CN2.upd hU3 (by simp [inEnd])
      have HU3 := hide ((unhide HU2).trans hU3)
      clear CM CN2 hE2 HU2 hU3
      go_wp2_with fail
      go_cut [] (fun wd => ∃ own4, EndX own4 rid k wd b tb window (E.grow o) ∧ Upd own3 own4 (inEnd rid k) wc wd)
      case first =>
        obtain ⟨wv, ov, kb, fv, hc, hm, hop, hk, hf⟩ := hE3
        obtain ⟨oa, oc, rfl, _, _⟩ := hop.shape
        have y0 := CN3.cell 0
        have y1 := CN3.cell 1
        have y2 := CN3.cell 2
        have y3 := CN3.cell 3
        simp only [List.getElem?_toArray, List.getElem?_cons_zero, List.getElem?_cons_succ] at y0 y1 y2 y3
        have c3 : wc.cell? ⟨b, 6, none⟩ = some (.slice oa E.opn.length oc) := by rw [hc.cell]; rfl
        have c3a : ∀ u, (wc.alloc u).cell? ⟨b, 6, none⟩ = some (.slice oa E.opn.length oc) := fun u => by rw [(hc.alloc u).cell]; rfl
        have hb2 := hc.2
        have hbl2 := hc.lt
        have FIN : Hid (∀ na nc own4 w3, OwnsT own4 (rid, k, 5) w3 94 4 (.slice na (E.opn.length + 1) nc) (E.opn.length + 1) (E.opn.flatMap ROp.cells ++ #[Value.int IntKind.i64 q2, Value.int IntKind.i64 q3, Value.int IntKind.i64 q4, Value.int IntKind.u8 q5].toList) → Upd own3 own4 (fun x => x = (rid, k, 5)) (wc.alloc (Obj.cells #[Value.int IntKind.i64 q2, Value.int IntKind.i64 q3, Value.int IntKind.i64 q4, Value.int IntKind.u8 q5] 94)).drew w3 →
            ∃ own', EndX own' rid k (w3.setCell ⟨b, 6, none⟩ (.slice na (E.opn.length + 1) nc)) b tb window (E.grow o) ∧ Upd own3 own' (inEnd rid k) wc (w3.setCell ⟨b, 6, none⟩ (.slice na (E.opn.length + 1) nc))) := by
          apply hide
          intro na nc own4 w3 ho hu
          obtain ⟨C, O, U⟩ := app_store (k := 6) hc hu (by simp) ho
          refine ⟨own4, ⟨wv, _, kb, fv, C, hm.upd U (by simp), ?_, hk.upd U (by simp), hf.upd U (by simp)⟩, U.mono (by rintro t (rfl | rfl) <;> exact inEnd.mk _ _ (by decide) (by decide))⟩
          rw [show (E.grow o).opn = E.opn ++ [o] from rfl, List.flatMap_append, List.length_append]
          simpa [HOC.out] using O
        have hfit1 : E.opn.length + 1 ≤ maxLen := by simp [maxLen]; omega
        have hfit2 : (E.opn.length + 1) * 32 ≤ 140737488355328 := by omega
        have HHC := hide hc
        clear hm hk hf hc CM3 CN3
        go_region_law ((refine step_append_T _ (by rfl) _ _ _ (by rfl) 94 i2 _ 4 32 Try.underlying82 hj hy0 hy1 hy2 rfl (by omega) _ _ _ own3 (rid, k, 5) (by rfl) (hop.alloc _).drew ⟨wc.heap.size, 0, none⟩ 1 1 #[Value.int IntKind.i64 q2, Value.int IntKind.i64 q3, Value.int IntKind.i64 q4, Value.int IntKind.u8 q5].toList (by rfl) (by rfl) (World.news_of_block (cs := #[Value.int IntKind.i64 q2, Value.int IntKind.i64 q3, Value.int IntKind.i64 q4, Value.int IntKind.u8 q5]) (t := 94) (fr := (0, 0)) (heap_alloc_new wc _)) (by simp [Value.oneCell']) hfit1 hfit2 (wc.heap.size + 1) (by simp) ?_; intro na nc w3 hown3 hu3; have k2 := hu3.cell (((unhide HHC).alloc _).drew.cell 6) (by simp [hb2]); have e2 := hu3.frozen (by simp; omega) (by simp [hb2]) (((unhide HHC).alloc _).drew.frozen 6)))
        all_goals
          go_wp2
          go_meet
          case rel => exact unhide FIN _ _ _ _ hown3 hu3
      case rest =>
        obtain ⟨own4, hE4, hU4⟩ := hcut
        have CM4 := CM3.upd hU4 (by simp [inEnd])
        have HU4 := hide ((unhide HU3).trans hU4)
        clear CM3 CN3 hE3 HU3 hU4
        have y0 := CM4.cell 0
        have y1 := CM4.cell 1
        have y2 := CM4.cell 2
        have y3 := CM4.cell 3
        have y4 := CM4.cell 4
        have y5 := CM4.cell 5
        simp only [List.getElem?_toArray, List.getElem?_cons_zero, List.getElem?_cons_succ] at y0 y1 y2 y3 y4 y5
        obtain ⟨wa, wcp, c3⟩ := hE4.c3
        rw [show (E.grow o).waiting.length = E.waiting.length + 1 from by simp [IEnd.grow]] at c3
        have c1 := hE4.c1
        have HMK : Hid (E.make o window = if E.waiting.length + 1 ≤ window then (E.grow o).sends [E.next o] else E.grow o) := rfl
        have HSD : Hid (∀ own5 w' mb, EndX own5 rid k w' b tb window (E.grow o) → own5 mb = (rid + 1, 0, 2) → w'.heap[mb]? = some (.cells #[Value.int IntKind.i64 ((E.made : Int) + 1), Value.int IntKind.i64 E.taken, Value.int IntKind.i64 q2, Value.int IntKind.i64 q3, Value.int IntKind.i64 q4, Value.int IntKind.u8 q5] 139 (0, 0)) → Calls Try.prog 67 #[.pointer (some ⟨b, 0, none⟩), .slice (some ⟨mb, 0, none⟩) 1 1] w' fun e w'' => e = .returned (.tuple #[]) ∧ ∃ own', EndX own' rid k w'' b tb window ((E.grow o).sends [E.next o]) ∧ Upd own5 own' (inFly rid k) w' w'') := by
          apply hide
          intro own5 w' mb hE ht hm
          have hml := (Array.getElem?_eq_some_iff.1 hm).1
          refine xsends own5 rid k b tb window mb 0 1 (E.grow o) [E.next o] w' hE h4 (by intro m hm; obtain rfl : m = E.next o := (by simpa using hm); exact hx) (by simp) (fun _ => ⟨by rw [ht]; simp [inFly], hml⟩) ?_
          intro j u hu
          rw [List.flatMap_singleton, HMC.out] at hu
          rw [Nat.zero_add]
          simp only [World.cell?, hm]
          simpa using hu
        clear hx HMC HOC hi hz0 hz1 hz2 hj hy0 hy1 hy2
        generalize E.waiting.length = wl at *
        have V5 : Upd own4 (retag own4 wc.heap.size (rid + 1, 0, 2)) (fun _ => False) wc ((wc.drew).alloc (Obj.cells #[Value.int IntKind.i64 ((E.made : Int) + 1), Value.int IntKind.i64 E.taken, Value.int IntKind.i64 q2, Value.int IntKind.i64 q3, Value.int IntKind.i64 q4, Value.int IntKind.u8 q5] 139)) := Upd.retag (((Upd.refl own4 (fun _ => False) wc).drew).alloc _) _ _ (Nat.le_refl _)
        have HE5 := hide (hE4.upd V5 (fun _ _ _ h => h))
        have HU5 := hide ((unhide HU4).trans (V5.mono (fun _ h => h.elim)))
        have HM5 : Hid ((retag own4 wc.heap.size (rid + 1, 0, 2)) wc.heap.size = (rid + 1, 0, 2)) := retag_ge (Nat.le_refl _)
        have HN5 : Hid (((wc.drew).alloc (Obj.cells #[Value.int IntKind.i64 ((E.made : Int) + 1), Value.int IntKind.i64 E.taken, Value.int IntKind.i64 q2, Value.int IntKind.i64 q3, Value.int IntKind.i64 q4, Value.int IntKind.u8 q5] 139)).heap[wc.heap.size]? = some (.cells #[Value.int IntKind.i64 ((E.made : Int) + 1), Value.int IntKind.i64 E.taken, Value.int IntKind.i64 q2, Value.int IntKind.i64 q3, Value.int IntKind.i64 q4, Value.int IntKind.u8 q5] 139 (0, 0))) := heap_alloc_new _ _
        have HE4 := hide hE4
        clear V5 hE4 CM4
        by_cases hle : wl + 1 ≤ window
        · have hle' : (wl : Int) + 1 ≤ (window : Int) := by omega
          rw [if_pos hle] at HMK
          go_wp2_with fail
          go_region
          go_wp2_with fail
          refine (unhide HSD _ _ _ (unhide HE5) (unhide HM5) (unhide HN5)).mono ?_
          rintro e w4 ⟨rfl, own6, hE6, hU6⟩
          go_wp2
          go_end0
          rw [HMK.out]
          exact ⟨rfl, own6, hE6, (unhide HU5).trans (hU6.mono (fun _ h => h.inEnd))⟩
        · have hle' : ¬ (wl : Int) + 1 ≤ (window : Int) := by omega
          rw [if_neg hle] at HMK
          go_wp2_with fail
          go_region
          go_wp2
          go_end0
          rw [HMK.out]
          exact ⟨rfl, own4, (unhide HE4).upd ((Upd.refl own4 (fun _ => False) wc).drew) (fun _ _ _ h => h), (unhide HU4).drew⟩
end Go.Proofs.Ytemkgikncmhoaaa

/-
  weave: (*text).do of a cut; (*end).change, waits, refusal; isLetter. Own work.
-/
namespace Go.Proofs.Ytemkgikncmhoaaa
open Go.RowKit
attribute [local go_sem ↓] Go.wp_at_zero Go.wp_at_succ

set_option maxRecDepth 100000 in
set_option maxHeartbeats 800000 in
theorem xdo_cut (own : Nat → Tag) (rid k tb : Nat) (t : List UInt8) (cl : Int) (p : Nat) (l : Int) (w : World) (h : TextX own rid k w tb t) (hp : p < t.length) (ht : t.length ≤ 900) :
    Calls Try.prog 52 #[.pointer (some ⟨tb, 0, none⟩), .agg #[.int .i64 cl, .int .i64 2, .int .i64 p, .int .u8 l]] w fun e w' => e = .returned (.tuple #[]) ∧ ∃ own', TextX own' rid k w' tb (delB t p) ∧ Upd own own' (inText rid k) w w' := by
  obtain ⟨lv, hc, ho⟩ := h
  obtain ⟨m, hm⟩ : ∃ m, t.length = m + 1 := ⟨t.length - 1, by omega⟩
  obtain ⟨g, c, rfl, hgc⟩ : ∃ g c, lv = .slice (some ⟨g, 0, none⟩) (m + 1) c ∧ m + 1 ≤ c := by
    rcases ho.1.2 with ⟨_, h0⟩ | ⟨g, c, cur, h1, _, _, h2, _⟩
    · omega
    · exact ⟨g, c, by rw [h1, hm], by omega⟩
  rw [hm] at ho
  have V : Upd own (retag own w.heap.size (rid + 1, 0, 0)) (fun _ => False) w (w.alloc (Obj.cells #[Value.int IntKind.i64 cl, Value.int IntKind.i64 2, Value.int IntKind.i64 p, Value.int IntKind.u8 l] 94)) := Upd.retag ((Upd.refl own (fun _ => False) w).alloc _) _ _ (Nat.le_refl _)
  have CN := CellsT.new w #[Value.int IntKind.i64 cl, Value.int IntKind.i64 2, Value.int IntKind.i64 p, Value.int IntKind.u8 l] 94 own (rid + 1, 0, 0)
  have hc1 := hc.upd V (fun h => h)
  have ho1 := ho.upd V (fun h => h)
  go_enter Try.func52, Try.ntmps52
  go_wp2_with fail
  have HV := hide V
  clear hc ho V
  generalize w.alloc (Obj.cells #[Value.int IntKind.i64 cl, Value.int IntKind.i64 2, Value.int IntKind.i64 p, Value.int IntKind.u8 l] 94) = W1 at *
  generalize retag own w.heap.size (rid + 1, 0, 0) = own1 at *
  have c0 : W1.cell? ⟨tb, 0, none⟩ = some (.slice (some ⟨g, 0, none⟩) (m + 1) c) := by rw [hc1.cell]; rfl
  have f0 := hc1.frozen 0
  have z2 := CN.cell 2
  simp only [List.getElem?_toArray, List.getElem?_cons_zero, List.getElem?_cons_succ] at z2
  have hwp : IntKind.i64.wrap ((p : Int) + 1) = (p : Int) + 1 := by rw [IntKind.wrap_i64]; omega
  have HI := hide (del_one own1 (rid, k, 2) g m c p (t.map byteCell) W1.drew ho1.drew (by omega) (by omega) hgc (by intro v hv; simp at hv; obtain ⟨q, _, rfl⟩ := hv; rfl))
  have FIN : Hid (∀ w', OwnsT own1 (rid, k, 2) w' 5 1 (.slice (some ⟨g, 0, none⟩) m c) m ((t.map byteCell).take p ++ (t.map byteCell).drop (p + 1)) → Upd own1 own1 (fun t => t = (rid, k, 2)) W1.drew w' →
      (w'.cell? ⟨tb, 0, none⟩ = some (.slice (some ⟨g, 0, none⟩) (m + 1) c) ∧ w'.frozen? ⟨tb, 0, none⟩ = false) ∧ ∃ own2, TextX own2 rid k (w'.setCell ⟨tb, 0, none⟩ (.slice (some ⟨g, 0, none⟩) m c)) tb (delB t p) ∧ Upd own own2 (inText rid k) w (w'.setCell ⟨tb, 0, none⟩ (.slice (some ⟨g, 0, none⟩) m c))) := by
    apply hide
    intro w' h1 h2
    have hc3 := hc1.drew.upd h2 (by simp)
    refine ⟨⟨by rw [hc3.cell]; rfl, hc3.frozen 0⟩, ?_⟩
    obtain ⟨C, O, U⟩ := app_store0 (k := 0) hc1.drew h2 (by simp) h1
    refine ⟨own1, ⟨_, C, ?_⟩, ((((unhide HV).mono (fun _ h => h.elim)).drew).trans (U.mono (by rintro q (rfl | rfl) <;> simp [inText])))⟩
    have e : (delB t p).map byteCell = (t.map byteCell).take p ++ (t.map byteCell).drop (p + 1) := by
      simp [delB, List.map_take, List.map_drop]
    rw [e, show (delB t p).length = m from by simp [delB]; omega]
    exact O
  clear hc1 ho1 CN HV
  generalize w.heap.size = N at *
  go_region_with (first | (go_at_call 72; refine (unhide HI).mono ?_; rintro e w' ⟨rfl, h1, h2⟩; obtain ⟨⟨k0, g0⟩, hF⟩ := unhide FIN _ h1 h2))
  all_goals
    go_wp2
    go_end0
    exact ⟨rfl, hF⟩

def inClient (rid k : Nat) (t : Tag) : Prop := t.1 = rid ∧ t.2.1 = k
theorem inEnd.client {rid k : Nat} {t : Tag} (h : inEnd rid k t) : inClient rid k t := ⟨h.1, h.2.1⟩
theorem inText.client {rid k : Nat} {t : Tag} (h : inText rid k t) : inClient rid k t := by rcases h with rfl | rfl <;> exact ⟨rfl, rfl⟩

set_option maxRecDepth 100000 in
set_option maxHeartbeats 800000 in
theorem xchange (own : Nat → Tag) (rid k b tb window : Nat) (E : IEnd) (t t' : List UInt8) (o : ROp) (w : World) (h : EndX own rid k w b tb window E) (hT : TextX own rid k w tb t) (ho : o.Small) (h1 : E.made < 240) (h2 : E.taken ≤ 240) (h4 : E.flying.length ≤ 12) (h6 : E.opn.length ≤ 240)
    (hdo : ∀ own1 w1, TextX own1 rid k w1 tb t → Calls Try.prog 52 #[.pointer (some ⟨tb, 0, none⟩), .agg #[.int .i64 o.client, .int .i64 o.verb, .int .i64 o.place, .int .u8 o.letter]] w1 fun e w' => e = .returned (.tuple #[]) ∧ ∃ own', TextX own' rid k w' tb t' ∧ Upd own1 own' (inText rid k) w1 w') :
    Calls Try.prog 41 #[.pointer (some ⟨b, 0, none⟩), .agg #[.int .i64 o.client, .int .i64 o.verb, .int .i64 o.place, .int .u8 o.letter]] w fun e w' => e = .returned (.tuple #[]) ∧ ∃ own', EndX own' rid k w' b tb window (E.make o window) ∧ TextX own' rid k w' tb t' ∧ Upd own own' (inClient rid k) w w' := by
  have V : Upd own (retag own w.heap.size (rid + 1, 0, 0)) (fun _ => False) w (w.alloc (Obj.cells #[Value.int IntKind.i64 o.client, Value.int IntKind.i64 o.verb, Value.int IntKind.i64 o.place, Value.int IntKind.u8 o.letter] 94)) := Upd.retag ((Upd.refl own (fun _ => False) w).alloc _) _ _ (Nat.le_refl _)
  have CN := CellsT.new w #[Value.int IntKind.i64 o.client, Value.int IntKind.i64 o.verb, Value.int IntKind.i64 o.place, Value.int IntKind.u8 o.letter] 94 own (rid + 1, 0, 0)
  have hE1 := h.upd V (fun _ _ _ h => h)
  have hT1 := hT.upd V (fun h => h) (fun h => h)
  go_enter Try.func41, Try.ntmps41
  go_wp2_with fail
  have HV := hide V
  clear h hT V
  generalize w.alloc (Obj.cells #[Value.int IntKind.i64 o.client, Value.int IntKind.i64 o.verb, Value.int IntKind.i64 o.place, Value.int IntKind.u8 o.letter] 94) = W1 at *
  generalize retag own w.heap.size (rid + 1, 0, 0) = own1 at *
  have c0 : W1.cell? ⟨b, 0, none⟩ = some (.pointer (some ⟨tb, 0, none⟩)) := hE1.c0
  have z0 := CN.cell 0
  have z1 := CN.cell 1
  have z2 := CN.cell 2
  have z3 := CN.cell 3
  simp only [List.getElem?_toArray, List.getElem?_cons_zero, List.getElem?_cons_succ] at z0 z1 z2 z3
  have HDO := hide (hdo own1 W1.drew (hT1.upd ((Upd.refl own1 (fun _ => False) W1).drew) (fun h => h) (fun h => h)))
  have HMK : Hid (∀ own2 w2, TextX own2 rid k w2 tb t' → Upd own1 own2 (inText rid k) W1.drew w2 → (w2.cell? ⟨w.heap.size, 0, none⟩ = some (.int .i64 o.client) ∧ w2.cell? ⟨w.heap.size, 1, none⟩ = some (.int .i64 o.verb) ∧ w2.cell? ⟨w.heap.size, 2, none⟩ = some (.int .i64 o.place) ∧ w2.cell? ⟨w.heap.size, 3, none⟩ = some (.int .u8 o.letter)) ∧
      Calls Try.prog 53 #[.pointer (some ⟨b, 0, none⟩), .agg #[.int .i64 o.client, .int .i64 o.verb, .int .i64 o.place, .int .u8 o.letter]] w2 fun e w' => e = .returned (.tuple #[]) ∧ ∃ own', EndX own' rid k w' b tb window (E.make o window) ∧ TextX own' rid k w' tb t' ∧ Upd own own' (inClient rid k) w w') := by
    apply hide
    intro own2 w2 hT2 hU2
    have hC2 := CN.drew.upd hU2 (by simp [inText])
    refine ⟨⟨by rw [hC2.cell]; rfl, by rw [hC2.cell]; rfl, by rw [hC2.cell]; rfl, by rw [hC2.cell]; rfl⟩, ?_⟩
    have hE2 := (hE1.upd ((Upd.refl own1 (fun _ => False) W1).drew) (fun _ _ _ h => h)).upd hU2 (by intro j h1 h2; simp [inText, h1, h2])
    refine (xmake own2 rid k b tb window E o w2 hE2 ho h1 h2 h4 h6).mono ?_
    rintro e w' ⟨rfl, own3, hE3, hU3⟩
    exact ⟨rfl, own3, hE3, hT2.upd hU3 (by simp [inEnd]) (by simp [inEnd]), (((unhide HV).mono (fun _ h => h.elim)).drew.trans (hU2.mono (fun _ h => h.client))).trans (hU3.mono (fun _ h => h.client))⟩
  clear hE1 hT1 CN HV hdo ho
  generalize w.heap.size = N at *
  go_region_with (first | (go_at_call 52; refine (unhide HDO).mono ?_; rintro e w2 ⟨rfl, own2, hT2, hU2⟩; obtain ⟨⟨y0, y1, y2, y3⟩, hM⟩ := unhide HMK own2 w2 hT2 hU2; have HM := hide hM; clear hM))
  all_goals
    go_wp2_with (first | (go_at_call 53; refine (unhide HM).mono ?_; rintro e w3 ⟨rfl, hF⟩))
    go_end0
    exact ⟨rfl, hF⟩

def IEnd.refusal (E : IEnd) (window : Nat) : Int := if window ≤ E.waiting.length then 5 else if 60 ≤ E.made then 6 else 0

set_option maxRecDepth 100000 in
set_option maxHeartbeats 400000 in
theorem xrefusal (own : Nat → Tag) (rid k b tb window : Nat) (E : IEnd) (w : World) (h : EndX own rid k w b tb window E) (h1 : E.made ≤ 1000) :
    Calls Try.prog 40 #[.pointer (some ⟨b, 0, none⟩)] w fun e w' => e = .returned (.int .i64 (E.refusal window)) ∧ Below w.heap.size w w' := by
  have c1 := h.c1
  have HW : Hid (Calls Try.prog 36 #[.pointer (some ⟨b, 0, none⟩)] w.drew fun e w' => e = .returned (.int .i64 E.waiting.length) ∧ w' = w.drew) :=
    hide (xwaits own rid k b tb window E w.drew (h.upd ((Upd.refl own (fun _ => False) w).drew) (fun _ _ _ h => h)))
  have HM : Hid (Calls Try.prog 51 #[.pointer (some ⟨b, 0, none⟩)] w.drew fun e w' => e = .returned (.int .i64 E.made) ∧ w' = w.drew.drew) :=
    hide (xmade own rid k b tb window E w.drew (h.upd ((Upd.refl own (fun _ => False) w).drew) (fun _ _ _ h => h)) h1)
  have HR : Hid (E.refusal window = if window ≤ E.waiting.length then 5 else if 60 ≤ E.made then 6 else 0) := rfl
  clear h
  generalize E.waiting.length = wl at *
  generalize E.made = md at *
  by_cases g1 : window ≤ wl
  · have g1' : (window : Int) ≤ (wl : Int) := by omega
    rw [if_pos g1] at HR
    go_enter Try.func40, Try.ntmps40
    go_wp2_with fail
    go_region_with (first | (go_at_call 36; refine (unhide HW).mono ?_; rintro e w' ⟨rfl, rfl⟩))
    all_goals go_wp2
    all_goals go_ret
    all_goals exact ⟨by rw [HR.out]; rfl, (Below.refl _ _).drew⟩
  · have g1' : ¬ (window : Int) ≤ (wl : Int) := by omega
    rw [if_neg g1] at HR
    by_cases g2 : 60 ≤ md
    all_goals
      first | rw [if_pos g2] at HR | rw [if_neg g2] at HR
      first | have g3 : (60 : Int) ≤ (md : Int) := by omega
            | have g3 : ¬ (60 : Int) ≤ (md : Int) := by omega
      go_enter Try.func40, Try.ntmps40
      go_wp2_with fail
      go_region_with (first | (go_at_call 36; refine (unhide HW).mono ?_; rintro e w' ⟨rfl, rfl⟩))
      all_goals go_wp2_with (first | (go_at_call 51; refine (unhide HM).mono ?_; rintro e w' ⟨rfl, rfl⟩))
      all_goals go_ret
      all_goals exact ⟨by rw [HR.out]; rfl, ((Below.refl _ _).drew).drew⟩

theorem xisLetter (l : Int) (w : World) : Calls Try.prog 39 #[.int .u8 l] w fun e w' => e = .returned (.bool (decide (33 ≤ l ∧ l ≤ 126))) ∧ w' = w := by
  by_cases h1 : 33 ≤ l
  · by_cases h2 : l ≤ 126
    all_goals
      go_enter Try.func39, Try.ntmps39
      go_wp2
      go_ret
      exact ⟨by simp [h1, h2], rfl⟩
  · go_enter Try.func39, Try.ntmps39
    go_wp2
    go_ret
    exact ⟨by simp; omega, rfl⟩
end Go.Proofs.Ytemkgikncmhoaaa

