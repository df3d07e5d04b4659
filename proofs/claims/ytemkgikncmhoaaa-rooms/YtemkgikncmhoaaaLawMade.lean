/-
  weavelaw: pick, (*World).made. Own work.
-/
import Derived.Test.YtemkgikncmhoaaaLawSeen
namespace Go.Proofs.Ytemkgikncmhoaaa
open Go.RowKit

set_option maxRecDepth 100000 in
set_option maxHeartbeats 400000 in
theorem pick_any (c : Int) (n : Nat) (w : World) (hc : I64 c) (hn : 1 ≤ n) (hn2 : n ≤ 4611686018427387904) :
    Calls Try.prog 29 #[.int .i64 c, .int .i64 n] w fun e w' => (∃ q : Nat, q < n ∧ e = .returned (.int .i64 q)) ∧ w' = w := by
  unfold I64 at hc
  have hn0 : ¬ ((n : Int) = 0) := by omega
  have hnp : (0 : Int) < (n : Int) := by omega
  have key : ∀ d : Int, 0 ≤ d → ∃ q : Nat, q < n ∧ d % (n : Int) = q := fun d hd => by
    have h1 := Int.emod_nonneg d hn0
    have h2 := Int.emod_lt_of_pos d hnp
    obtain ⟨q, hq⟩ := Int.eq_ofNat_of_zero_le h1
    exact ⟨q, by omega, hq⟩
  have HK := hide key
  clear key
  by_cases h : c < 0
  · go_enter Try.func29, Try.ntmps29
    go_wp2
    go_ret
    obtain ⟨q, hq, e⟩ := unhide HK (-(c + 1)) (by omega)
    refine ⟨⟨q, hq, ?_⟩, rfl⟩
    exact ret_int (show -(c + 1).tmod (n : Int) = q from by rw [← Int.neg_tmod, Int.tmod_eq_emod_of_nonneg (by omega)]; exact e)
  · go_enter Try.func29, Try.ntmps29
    go_wp2
    go_ret
    obtain ⟨q, hq, e⟩ := unhide HK c (by omega)
    refine ⟨⟨q, hq, ?_⟩, rfl⟩
    exact ret_int (by first | (rw [← e]; done) | (rw [← e]; go_arith) | (rw [← e]; simp))

def pairCells (p : Nat × Nat) : List Value := [.pointer (some ⟨p.1, 0, none⟩), .pointer (some ⟨p.2, 0, none⟩)]
/-- All rooms so far. -/
def WorldAt (own : Nat → Tag) (w : World) (wb : Nat) (ps : List (Nat × Nat)) : Prop :=
  ∃ av : Value, CellsT own (0, 1, 0) w wb #[av] 61 ∧ OwnsT own (0, 1, 1) w 69 2 av ps.length (ps.flatMap pairCells) ∧
    ∀ (i : Nat) (p : Nat × Nat), ps[i]? = some p → ∃ X R, PairAt own w (2 * i + 1) (2 * i + 2) p.1 p.2 X R
def mayW (t : Tag) : Prop := t.1 ≠ 0 ∨ t = (0, 1, 0) ∨ t = (0, 1, 1)

theorem Try.info69 : (Try.prog.info? 69).map (fun i => (i.zero, i.size, i.bytes)) = some (some (.agg #[.pointer none, .pointer none]), 2, 16) := by kernel_rfl

set_option maxRecDepth 100000 in
set_option maxHeartbeats 800000 in
theorem made_no (own : Nat → Tag) (w : World) (wb : Nat) (ps : List (Nat × Nat)) (c d : Int) (_h : WorldAt own w wb ps) (hcd : ¬ (1 ≤ c ∧ c ≤ 4 ∧ 1 ≤ d ∧ d ≤ 4)) :
    Calls Try.prog 28 #[.pointer (some ⟨wb, 0, none⟩), .int .i64 c, .int .i64 d] w fun e w' => e = .returned (.bool true) ∧ w' = w := by
  have H1 := hide (xnew_no c d w hcd)
  have H2 := hide (rnew_no c d w hcd)
  clear _h hcd
  go_enter Try.func28, Try.ntmps28
  go_wp2_with (first | (go_at_call 33; refine (unhide H1).mono ?_; rintro e w' ⟨rfl, rfl⟩) | (go_at_call 43; refine (unhide H2).mono ?_; rintro e w' ⟨rfl, rfl⟩) | (go_at_call 44; refine (num_any _ _).mono ?_; rintro e w' ⟨rfl, rfl⟩))
  go_ret
  exact ⟨rfl, rfl⟩

set_option maxRecDepth 100000 in
set_option maxHeartbeats 800000 in
theorem made_yes (own : Nat → Tag) (w : World) (wb : Nat) (ps : List (Nat × Nat)) (n d : Nat) (h : WorldAt own w wb ps) (h1 : 1 ≤ n) (h2 : n ≤ 4) (h3 : 1 ≤ d) (h4 : d ≤ 4) (hb1 : ps.length + 1 ≤ maxLen) (hb2 : (ps.length + 1) * 16 ≤ 140737488355328) :
    Calls Try.prog 28 #[.pointer (some ⟨wb, 0, none⟩), .int .i64 n, .int .i64 d] w fun e w' => e = .returned (.bool true) ∧ ∃ own' p, WorldAt own' w' wb (ps ++ [p]) ∧ Upd own own' mayW w w' := by
  obtain ⟨i1, hi, hz0, hz1, hz2⟩ := info_parts Try.info69
  have HX : Hid (∀ own w, WorldAt own w wb ps → Calls Try.prog 33 #[.int .i64 n, .int .i64 d] w fun e w' => ∃ b own', e = .returned (.tuple #[.pointer (some ⟨b, 0, none⟩), .int .i64 0]) ∧ RoomX own' (2 * ps.length + 1) w' b (IRoom.fresh n d) ∧ WorldAt own' w' wb ps ∧ Upd own own' mayW w w') := by
    apply hide
    intro own w hW
    refine (xnew_yes own (2 * ps.length + 1) n d w h1 h2 h3 h4).mono ?_
    rintro e w' ⟨b, own', rfl, hR, hU⟩
    refine ⟨b, own', rfl, hR, ?_, hU.mono (fun t ht => .inl (by rw [show t.1 = 2 * ps.length + 1 from ht]; omega))⟩
    obtain ⟨av, hc, ho, hp⟩ := hW
    refine ⟨av, hc.upd hU (by simp [inRoom]), ho.upd hU (by simp [inRoom]), fun i p hi => ?_⟩
    obtain ⟨X, R, hP⟩ := hp i p hi
    have := (List.getElem?_eq_some_iff.1 hi).1
    exact ⟨X, R, hP.upd hU (by simp [inRoom]; omega) (by simp [inRoom]; omega)⟩
  have HY : Hid (∀ own w xb, WorldAt own w wb ps → RoomX own (2 * ps.length + 1) w xb (IRoom.fresh n d) → Calls Try.prog 43 #[.int .i64 n, .int .i64 d] w fun e w' => ∃ b own', e = .returned (.tuple #[.pointer (some ⟨b, 0, none⟩), .int .i64 0]) ∧ PairAt own' w' (2 * ps.length + 1) (2 * ps.length + 2) xb b (IRoom.fresh n d) (RRoom.fresh n d) ∧ WorldAt own' w' wb ps ∧ Upd own own' mayW w w') := by
    apply hide
    intro own w xb hW hX
    refine (rnew_yes own (2 * ps.length + 2) n d w h1 h2 h3 h4).mono ?_
    rintro e w' ⟨b, own', rfl, hR, hU⟩
    refine ⟨b, own', rfl, ⟨hX.upd hU (by simp [inRoom]), hR, inv_fresh n d h2 h3 h4⟩, ?_, hU.mono (fun t ht => .inl (by rw [show t.1 = 2 * ps.length + 2 from ht]; omega))⟩
    obtain ⟨av, hc, ho, hp⟩ := hW
    refine ⟨av, hc.upd hU (by simp [inRoom]), ho.upd hU (by simp [inRoom]), fun i p hi => ?_⟩
    obtain ⟨X, R, hP⟩ := hp i p hi
    have := (List.getElem?_eq_some_iff.1 hi).1
    exact ⟨X, R, hP.upd hU (by simp [inRoom]; omega) (by simp [inRoom]; omega)⟩
  have HW := hide h
  clear h
  go_enter Try.func28, Try.ntmps28
  go_wp2_with fail
  refine (unhide HX own w (unhide HW)).mono ?_
  rintro e w1 ⟨xb, own1, rfl, hX1, hW1, hU1⟩
  have HX1 := hide hX1
  have HW1 := hide hW1
  clear hX1 hW1 HW
  go_wp2_with fail
  refine (unhide HY own1 w1 xb (unhide HW1) (unhide HX1)).mono ?_
  rintro e w2 ⟨yb, own2, rfl, hP2, hW2, hU2⟩
  have HU := hide (hU1.trans hU2)
  clear hU1 hU2 HX1 HW1 HX HY
  obtain ⟨av, hc, ho, hp⟩ := hW2
  obtain ⟨aa, ac, rfl, _, _⟩ := ho.shape
  have c0 : w2.cell? ⟨wb, 0, none⟩ = some (.slice aa ps.length ac) := by rw [hc.cell]; rfl
  have c0a : ∀ u, (w2.alloc u).cell? ⟨wb, 0, none⟩ = some (.slice aa ps.length ac) := fun u => by rw [(hc.alloc u).cell]; rfl
  have f0 := hc.frozen 0
  have hbt := hc.2
  have hbl := hc.lt
  have nb : ¬ (wb = w2.heap.size) := by omega
  have FIN : Hid (∀ na nc own3 w3, OwnsT own3 (0, 1, 1) w3 69 2 (.slice na (ps.length + 1) nc) (ps.length + 1) (ps.flatMap pairCells ++ pairCells (xb, yb)) → Upd own2 own3 (fun x => x = (0, 1, 1)) (w2.alloc (Obj.cells #[.pointer (some ⟨xb, 0, none⟩), .pointer (some ⟨yb, 0, none⟩)] 69)) w3 →
      (w3.cell? ⟨wb, 0, none⟩ = some (.slice aa ps.length ac) ∧ w3.frozen? ⟨wb, 0, none⟩ = false) ∧ ∃ own' p, WorldAt own' (w3.setCell ⟨wb, 0, none⟩ (.slice na (ps.length + 1) nc)) wb (ps ++ [p]) ∧ Upd own own' mayW w (w3.setCell ⟨wb, 0, none⟩ (.slice na (ps.length + 1) nc))) := by
    apply hide
    intro na nc own3 w3 h1 h2
    have hc3 := (hc.alloc (Obj.cells #[.pointer (some ⟨xb, 0, none⟩), .pointer (some ⟨yb, 0, none⟩)] 69)).upd h2 (by simp)
    refine ⟨⟨by rw [hc3.cell]; rfl, hc3.frozen 0⟩, own3, (xb, yb), ?_, ?_⟩
    · obtain ⟨C, O, U⟩ := app_store (k := 0) hc h2.to_drew (by simp) h1
      refine ⟨_, C, by simpa using O, fun i p hi => ?_⟩
      by_cases hik : i < ps.length
      · rw [List.getElem?_append_left hik] at hi
        obtain ⟨X, R, hP⟩ := hp i p hi
        exact ⟨X, R, hP.upd U (by simp) (by simp)⟩
      · obtain rfl : i = ps.length := by have := (List.getElem?_eq_some_iff.1 hi).1; simp at this; omega
        simp at hi
        subst hi
        exact ⟨_, _, hP2.upd U (by simp) (by simp)⟩
    · obtain ⟨C, O, U⟩ := app_store (k := 0) hc h2.to_drew (by simp) h1
      exact (unhide HU).trans (U.mono (by rintro t (rfl | rfl) <;> simp [mayW]))
  have HO := hide ho
  clear ho hp hP2 hc HU
  go_wp2_with (first | (go_at_call 44; refine (num_any _ _).mono ?_; rintro e w9 ⟨rfl, hw9⟩; obtain rfl := hw9.symm) | (at_builtin; go_must (refine wpList_append_T _ rfl (.tmp 40) (.tmp 44) 59 rfl 69 i1 (.agg #[.pointer none, .pointer none]) 2 16 Try.underlying59 hi hz0 hz1 hz2 rfl (by decide) _ ps.length _ own2 (0, 1, 1) rfl ((unhide HO).alloc _) ⟨w2.heap.size, 0, none⟩ 1 1 (pairCells (xb, yb)) rfl rfl (World.news_of_block (cs := #[.pointer (some ⟨xb, 0, none⟩), .pointer (some ⟨yb, 0, none⟩)]) (t := 69) (fr := (0, 0)) (heap_alloc_new w2 _)) (by intro u hu; simp [pairCells] at hu; rcases hu with rfl | rfl <;> rfl) hb1 hb2 ?_)))
  intro v' w3 ho3 hu3
  obtain ⟨na, nc, rfl, _, _⟩ := ho3.shape
  obtain ⟨⟨k0, g0⟩, hF⟩ := unhide FIN _ _ _ _ ho3 hu3
  have HF := hide hF
  clear hF ho3 hu3
  go_wp2
  go_ret
  exact ⟨rfl, unhide HF⟩
end Go.Proofs.Ytemkgikncmhoaaa
