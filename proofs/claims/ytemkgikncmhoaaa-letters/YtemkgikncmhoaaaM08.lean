import Derived.Test.YtemkgikncmhoaaaM07
import Derived.Lib.SliceRun
import Derived.Deep.RegionLaw
/-
  slices.Delete at []byte, of one element. Own work.
-/
namespace Go.Proofs.Ytemkgikncmhoaaa
open Go.RowKit

theorem OwnsT.less {own : Nat → Tag} {t : Tag} {w : World} {e : TypeId} {g n cap : Nat} {xs : List Value} (h : OwnsT own t w e 1 (.slice (some ⟨g, 0, none⟩) (n + 1) cap) (n + 1) xs) :
    OwnsT own t w e 1 (.slice (some ⟨g, 0, none⟩) n cap) n (xs.take n) := by
  obtain ⟨⟨h0, h1⟩, h2⟩ := h
  rcases h1 with ⟨h, _⟩ | ⟨g', cap', cur, hv, hb, hg, h3, h4, h5, h6⟩
  · simp at h
  · simp only [Value.slice.injEq, Option.some.injEq, Addr.mk.injEq, true_and, and_true] at hv
    obtain ⟨rfl, rfl⟩ := hv
    refine ⟨⟨by simp at h0; simp [h0], .inr ⟨g, cap, cur, rfl, hb, hg, by omega, h4, h5, ?_⟩⟩, h2⟩
    rw [← h6, List.take_take]
    congr 1
    omega

set_option maxHeartbeats 1600000 in
set_option maxRecDepth 100000 in
theorem del_one (own : Nat → Tag) (tg : Tag) (g m c i : Nat) (cs : List Value) (w : World) (h : OwnsT own tg w 5 1 (.slice (some ⟨g, 0, none⟩) (m + 1) c) (m + 1) cs) (hi : i ≤ m) (hm : m ≤ 1000) (hmc : m + 1 ≤ c) (h1c : ∀ v ∈ cs, v.oneCell' = true) :
    Calls Try.prog 72 #[.slice (some ⟨g, 0, none⟩) (m + 1) c, .int .i64 i, .int .i64 ((i : Int) + 1)] w fun e w' =>
      e = .returned (.slice (some ⟨g, 0, none⟩) m c) ∧ OwnsT own tg w' 5 1 (.slice (some ⟨g, 0, none⟩) m c) m (cs.take i ++ cs.drop (i + 1)) ∧ Upd own own (fun t => t = tg) w w' := by
  have hcl : cs.length = m + 1 := by simpa using h.1.1
  obtain ⟨hcs, hsp, hfz, hgl, hc63, hgt, hsg⟩ := h.cells0
  unfold maxLen at hc63
  obtain ⟨i0, hi0, hz0, hzs, hzb⟩ := info_parts Try.info5
  have hdl : (cs.drop (i + 1)).length = m - i := by rw [List.length_drop, hcl]; omega
  obtain ⟨W1, hW1⟩ : ∃ W1, W1 = w.drew.setCells g i (cs.drop (i + 1)) := ⟨_, rfl⟩
  have zv : ∀ w, (zeroValue 5).run Try.prog w = .ok (.int .u8 0) w := fun w => by kernel_rfl
  have hs1 : ∀ k, k < c → (W1.cell? ⟨g, k, none⟩).isSome = true := fun k hk => by
    rw [hW1]
    exact isSome_setCells g _ _ _ (fun j hj => by have := hsp (i + j) (by omega); rwa [Nat.zero_add] at this) _ (by have := hsp k hk; rwa [Nat.zero_add] at this)
  have hf1 : ∀ k, W1.frozen? ⟨g, k, none⟩ = false := fun k => by rw [hW1, World.frozen?_setCells]; have := hfz k; rwa [Nat.zero_add] at this
  have hcr : ∀ ty cc, (Builtin.clear_ #[89] ty #[.slice (some ⟨g, m, none⟩) 1 cc]).run Try.prog W1 = .ok (.tuple #[]) (W1.setCells g m [.int .u8 0]) := fun ty cc =>
    Lib.run_clear_slice W1 _ _ ty _ Try.underlying89 zv rfl rfl g m 1 cc (by omega) (fun t ht => hs1 _ (by omega)) (fun t ht => hf1 _)
  have FIN : Hid (OwnsT own tg (W1.setCells g m [.int .u8 0]) 5 1 (.slice (some ⟨g, 0, none⟩) m c) m (cs.take i ++ cs.drop (i + 1)) ∧ Upd own own (fun t => t = tg) w (W1.setCells g m [.int .u8 0])) := by
    apply hide
    have o1 := OwnsT.setAll [.int .u8 0] m _ _ (OwnsT.setAll (cs.drop (i + 1)) i w.drew _ h)
    have u1 := Upd.setCells (own := own) (own' := own) (may := fun t => t = tg) (w := w) (g := g) [.int .u8 0] m _ (Upd.setCells (cs.drop (i + 1)) i w.drew ((Upd.refl own _ w).drew) hgt) hgt
    rw [← hW1] at o1 u1
    refine ⟨?_, u1⟩
    have o2 := o1.less
    rw [setAll_eq (cs.drop (i + 1)) cs i (by omega), setAll_eq [.int .u8 0] _ m (by simp; omega)] at o2
    have e1 : ∀ (A B : List Value), A.length = m → (A ++ B).take m = A := fun A B hA => by rw [← hA]; simp
    rw [List.append_assoc, e1 _ _ (by simp; omega)] at o2
    rw [e1 (cs.take i ++ cs.drop (i + 1)) _ (by simp; omega)] at o2
    exact o2
  have hnews : ∀ (j : Nat) u, (cs.drop (i + 1))[j]? = some u → w.drew.cell? ((⟨g, i + 1, none⟩ : Addr).add j) = some u := fun j u hu => by
    rw [Addr.add_lit]; have := hcs (i + 1 + j) u (by rwa [List.getElem?_drop] at hu); rwa [Nat.zero_add] at this
  have hspare : ∀ j, j < (cs.drop (i + 1)).length → (w.drew.cell? ⟨g, 0 + i * 1 + j, none⟩).isSome = true ∧ w.drew.frozen? ⟨g, 0 + i * 1 + j, none⟩ = false := fun j hj => by
    rw [Nat.zero_add, Nat.mul_one]
    exact ⟨by have := hsp (i + j) (by omega); rwa [Nat.zero_add] at this, by have := hfz (i + j); rwa [Nat.zero_add] at this⟩
  have HN := hide hnews
  have HS := hide hspare
  have h1n : Hid (∀ u ∈ cs.drop (i + 1), u.oneCell' = true) := hide fun u hu => h1c u (List.mem_of_mem_drop hu)
  have HD := hide hdl
  have hz2 : ¬ ((i : Int) = (i : Int) + 1) := by omega
  have hin0 : (0 : Int) ≤ (i : Int) := by omega
  have hin1 : (i : Int) ≤ (m : Int) := by omega
  have hin2 : (m : Int) + 1 ≤ (c : Int) := by omega
  have hsum : i + (m - i) = m := by omega
  have hic : i ≤ c := by omega
  have hcm : ¬ (c = m) := by omega
  have hin3 : (0 : Int) ≤ (i : Int) + 1 := by omega
  have hin4 : (i : Int) + 1 ≤ (m : Int) + 1 := by omega
  have hw1 : IntKind.i64.wrap ((i : Int) + 1) = (i : Int) + 1 := by rw [IntKind.wrap_i64]; omega
  clear hnews hspare hdl hcs hsp hfz hs1 hf1 h1c h hsg hcl hgt
  by_cases hcj : c = i + 1
  · obtain rfl : i = m := by omega
    subst hcj
    have hnil : cs.drop (i + 1) = [] := List.eq_nil_of_length_eq_zero (by rw [unhide HD]; omega)
    rw [hnil] at hW1
    subst hW1
    have hii : (i : Int) ≤ (i : Int) + 1 := by omega
    go_enter Try.func72, Try.ntmps72
    go_wp2_with fail
    go_region_law (refine step_append_room rfl _ _ 89 rfl 5 i0 1 Try.underlying89 hi0 hzs g 0 i (i + 1) (by simp [Act.eval, Act.put]) ⟨g, 0, none⟩ 0 0 [] (by simp [Act.eval, Act.put]) rfl (by intro _ _ h; simp at h) (by simp) (by omega) (by intro _ h; simp at h) ?_)
    go_wp2
    go_ret
    exact ⟨rfl, unhide FIN⟩
  · subst hW1
    go_enter Try.func72, Try.ntmps72
    go_wp2_with fail
    go_region_law (refine step_append_room rfl _ _ 89 rfl 5 i0 1 Try.underlying89 hi0 hzs g 0 i c (by simp [Act.eval, Act.put]) ⟨g, i + 1, none⟩ (m - i) (c - (i + 1)) (cs.drop (i + 1)) (by simp [Act.eval, Act.put]) (by rw [Nat.mul_one]; exact unhide HD) (unhide HN) (unhide h1n) (by omega) (unhide HS) ?_)
    go_wp2
    go_ret
    exact ⟨rfl, unhide FIN⟩
end Go.Proofs.Ytemkgikncmhoaaa

/-
  slices.Insert at []byte: at the end; where there is no room. Own work.
-/
namespace Go.Proofs.Ytemkgikncmhoaaa
open Go.RowKit

set_option maxHeartbeats 800000 in
set_option maxRecDepth 100000 in
theorem ins_end (own : Nat → Tag) (tg : Tag) (lv : Value) (n vb : Nat) (cs : List Value) (x : Value) (w : World) (h : OwnsT own tg w 5 1 lv n cs) (hn : n ≤ 1000)
    (hv : w.heap[vb]? = some (.cells #[x] 5 (0, 0))) (h1x : x.oneCell' = true) :
    Calls Try.prog 71 #[lv, .int .i64 n, .slice (some ⟨vb, 0, none⟩) 1 1] w fun e w' =>
      ∃ v', e = .returned v' ∧ OwnsT (retag own w.heap.size tg) tg w' 5 1 v' (n + 1) (cs ++ [x]) ∧ Upd own (retag own w.heap.size tg) (fun t => t = tg) w w' := by
  obtain ⟨i0, hi, hz0, hz1, hz2⟩ := info_parts Try.info5
  have hnews : ∀ j u, [x][j]? = some u → w.cell? ((⟨vb, 0, none⟩ : Addr).add j) = some u := by
    intro j u hu
    match j, hu with
    | 0, hu => simp at hu; subst hu; rw [Addr.add_lit]; simp [World.cell?, hv]
  have hnc : (0 : Int) ≤ (n : Int) := by omega
  obtain ⟨a, c, rfl, hle, hcm⟩ := h.shape
  have hle' : (n : Int) ≤ (c : Int) := by omega
  unfold maxLen at hcm
  clear hv
  cases a with
  | none =>
    have h0 : n = 0 ∧ c = 0 := by
      rcases h.1.2 with ⟨h1, h2⟩ | ⟨g, cap, cur, h1, _⟩
      · simp at h1; exact ⟨h2, by omega⟩
      · simp at h1
    obtain ⟨rfl, rfl⟩ := h0
    go_enter Try.func71, Try.ntmps71
    go_wp2_with (at_builtin; go_must (refine wpList_append_T _ rfl (.tmp 23) (.tmp 24) 89 rfl 5 i0 (.int .u8 0) 1 1 Try.underlying89 hi hz0 hz1 hz2 rfl (by decide) _ 0 _ own tg rfl h ⟨vb, 0, none⟩ 1 1 [x] rfl rfl hnews (by intro u hu; simp at hu; subst hu; exact h1x) (by simp [maxLen]) (by omega) ?_))
    intro v' w' ho hu
    obtain ⟨a', c', rfl, _, _⟩ := ho.shape
    go_wp2
    go_ret
    exact ⟨_, rfl, ho, hu⟩
  | some a =>
    go_enter Try.func71, Try.ntmps71
    go_wp2_with (at_builtin; go_must (refine wpList_append_T _ rfl (.tmp 23) (.tmp 24) 89 rfl 5 i0 (.int .u8 0) 1 1 Try.underlying89 hi hz0 hz1 hz2 rfl (by decide) _ n _ own tg rfl h ⟨vb, 0, none⟩ 1 1 [x] rfl rfl hnews (by intro u hu; simp at hu; subst hu; exact h1x) (by simp [maxLen]; omega) (by omega) ?_))
    all_goals intro v' w' ho hu
    all_goals obtain ⟨a', c', rfl, _, _⟩ := ho.shape
    all_goals go_wp2
    all_goals go_ret
    all_goals exact ⟨_, rfl, ho, hu⟩

set_option maxHeartbeats 1600000 in
set_option maxRecDepth 100000 in
theorem ins_grow (own : Nat → Tag) (tg : Tag) (g n c i vb : Nat) (cs : List Value) (x : Value) (w : World) (h : OwnsT own tg w 5 1 (.slice (some ⟨g, 0, none⟩) n c) n cs) (hi : i < n) (hn : n ≤ 1000) (hnc : n ≤ c) (hroom : c < n + 1)
    (hv : w.heap[vb]? = some (.cells #[x] 5 (0, 0))) (h1c : ∀ v ∈ cs, v.oneCell' = true) (h1x : x.oneCell' = true) :
    Calls Try.prog 71 #[.slice (some ⟨g, 0, none⟩) n c, .int .i64 i, .slice (some ⟨vb, 0, none⟩) 1 1] w fun e w' =>
      ∃ v', e = .returned v' ∧ OwnsT (retag own w.heap.size tg) tg w' 5 1 v' (n + 1) (insV cs i x) ∧ Upd own (retag own w.heap.size tg) (fun t => t = tg) w w' := by
  obtain ⟨i0, hi0, hz0, hzs, hzb⟩ := info_parts Try.info5
  have hcl : cs.length = n := by simpa using h.1.1
  obtain ⟨hcs, hsp, hfz, hgl, hc63, hgt, hsg⟩ := h.cells0
  unfold maxLen at hc63
  obtain rfl : c = n := by omega
  have hvx : w.cell? ⟨vb, 0, none⟩ = some x := by simp [World.cell?, hv]
  have hvl : vb < w.heap.size := (Array.getElem?_eq_some_iff.1 hv).1
  have hsz : (Try.prog.info? 5).map (·.size) = some 1 := by rw [hi0]; simp [hzs]
  have hold : (Builtin.firstCells i0.size i (.slice (some ⟨g, 0, none⟩) i c)).run Try.prog w.drew = .ok (cs.take i).toArray w.drew := by
    rw [hzs]
    exact run_firstCells_some w.drew 1 i ⟨g, 0, none⟩ i c (cs.take i) (by rw [List.length_take]; omega) (fun j v hj => by
      rw [Addr.add_lit]
      rw [List.getElem?_take] at hj
      split at hj
      · exact hcs j v hj
      · cases hj)
  have hik : i + (c + 1 - i) = c + 1 := by omega
  have hkk : (c : Int) + 1 - (i : Int) = ((c + 1 - i : Nat) : Int) := by omega
  have hrz0 := fun ty => Lib.run_append_grow_zeros w 89 3 ty 5 i0 _ .i64 .i64 Try.underlying89 Try.underlying3 hi0 hz0 (some ⟨g, 0, none⟩) i c (cs.take i) hold (c + 1 - i) (by omega) (by omega) (by omega) (by omega) (by rw [hzb]; omega) (by rw [hzb, hik]; exact growslice_fits (by omega) (by omega))
  rw [hik] at hrz0
  rw [← hkk] at hrz0
  have hGn : c + 1 ≤ grownCap w (c + 1) c 5 := grownCap_ge w _ _ _
  have hGm := grownCap_le_maxLen w (c + 1) c 5 (by unfold maxLen; omega)
  generalize hG : grownCap w (c + 1) c 5 = G at *
  obtain ⟨ROW, hROW⟩ : ∃ ROW : Array Value, ROW = (cs.take i).toArray ++ Builtin.zeroCells (Value.int .u8 0).cells (c + 1 - i) ++ Builtin.zeroCells (Value.int .u8 0).cells (G - (c + 1)) := ⟨_, rfl⟩
  rw [← hROW] at hrz0
  have hRs : ROW.size = G := by rw [hROW]; simp [Builtin.zeroCells, Value.cells]; omega
  have hRt : ROW.toList.take i = cs.take i := by
    rw [hROW]; simp only [Array.toList_append, List.append_assoc]
    rw [List.take_append_of_le_length (by simp; omega)]
    rw [List.take_of_length_le (by simp; omega)]
  have hrz : ∀ ty, (Builtin.append_ #[89, 3] ty #[.slice (some ⟨g, 0, none⟩) i c, .int .i64 ((c : Int) + 1 - (i : Int))]).run Try.prog w = .ok (.slice (some ⟨w.heap.size, 0, none⟩) (c + 1) G) (w.alloc (.cells ROW 5)).drew := fun ty => hrz0 ty
  have HRZ := hide hrz
  -- the new row
  have O0 : OwnsT (retag own w.heap.size tg) tg (w.alloc (.cells ROW 5)).drew 5 1 (.slice (some ⟨w.heap.size, 0, none⟩) (c + 1) G) (c + 1) (ROW.toList.take (c + 1)) := by
    refine ⟨⟨by simp [hRs]; omega, .inr ⟨w.heap.size, G, ROW, rfl, Nat.zero_le _, heap_alloc_new w _, hGn, hGm, by simp [hRs], by simp⟩⟩, fun q hq => ?_⟩
    simp [Value.ownBlock] at hq
    subst hq
    exact retag_ge (Nat.le_refl _)
  have U0 : Upd own (retag own w.heap.size tg) (fun t => t = tg) w (w.alloc (.cells ROW 5)).drew := Upd.retag (((Upd.refl own _ w).alloc _).drew) _ _ (Nat.le_refl _)
  have c0 := O0.cells0
  have hOg : ∀ j v, w.cell? ⟨g, j, none⟩ = some v → (w.alloc (.cells ROW 5)).drew.cell? ⟨g, j, none⟩ = some v := fun j v hj => by rw [World.cell?_drew, World.cell?_alloc_lt _ _ _ hgl]; exact hj
  have hOv : (w.alloc (.cells ROW 5)).drew.cell? ⟨vb, 0, none⟩ = some x := by rw [World.cell?_drew, World.cell?_alloc_lt _ _ _ hvl]; exact hvx
  have hgN : g ≠ w.heap.size := by omega
  have hvN : vb ≠ w.heap.size := by omega
  have tN : retag own w.heap.size tg w.heap.size = tg := retag_ge (Nat.le_refl _)
  have FIN : Hid (∀ W : World, (∀ k : Nat, W.heap[k]? = ((w.alloc (.cells ROW 5)).drew.setCells w.heap.size i [x]).heap[k]?) → W.os = w.os → W.tape = w.tape → W.output = w.output → OwnsT (retag own w.heap.size tg) tg (W.setCells w.heap.size (i + 1) (cs.drop i)) 5 1 (.slice (some ⟨w.heap.size, 0, none⟩) (c + 1) G) (c + 1) (insV cs i x) ∧ Upd own (retag own w.heap.size tg) (fun t => t = tg) w (W.setCells w.heap.size (i + 1) (cs.drop i))) := by
    apply hide
    intro W hW ho ht hout
    have o1 := OwnsT.setAll [x] i _ _ O0
    have u1 := Upd.setCells [x] i _ U0 tN
    have hszW : W.heap.size = ((w.alloc (.cells ROW 5)).drew.setCells w.heap.size i [x]).heap.size := by rw [Array.ext_getElem? hW]
    have u2 : Upd own (retag own w.heap.size tg) (fun t => t = tg) w W := ⟨ho, ht, hout, by rw [hszW]; exact u1.size, fun k hk hn => (hW k).trans (u1.block k hk hn), u1.tags⟩
    have o2 : OwnsT (retag own w.heap.size tg) tg W 5 1 (.slice (some ⟨w.heap.size, 0, none⟩) (c + 1) G) (c + 1) (setAll (ROW.toList.take (c + 1)) i [x]) := by
      obtain ⟨⟨p0, p1⟩, p2⟩ := o1
      refine ⟨⟨p0, ?_⟩, p2⟩
      rcases p1 with p | ⟨g', cap', cur, q1, q2, q3, q4⟩
      · exact .inl p
      · exact .inr ⟨g', cap', cur, q1, q2, (hW g').trans q3, q4⟩
    have o3 := OwnsT.setAll (cs.drop i) (i + 1) W _ o2
    rw [setAll_ins' (ROW.toList.take (c + 1)) cs i x (by simp [hRs]; omega) (by omega) (by rw [List.take_take, Nat.min_eq_left (by omega)]; exact hRt)] at o3
    exact ⟨o3, Upd.setCells (cs.drop i) (i + 1) W u2 tN⟩
  have hcpA : ∀ (W : World), (∀ q, W.cell? q = (w.alloc (.cells ROW 5)).drew.cell? q) → (∀ q, W.frozen? q = (w.alloc (.cells ROW 5)).drew.frozen? q) → ∀ ty dc, (Builtin.copy_ #[89, 89] ty #[.slice (some ⟨w.heap.size, i, none⟩) (c + 1 - i) dc, .slice (some ⟨vb, 0, none⟩) 1 1]).run Try.prog W = .ok (goInt [x].length) (W.setCells w.heap.size i [x]) := fun W hWc hWf ty dc =>
    run_copy_cells W _ _ ty 5 w.heap.size i (c + 1 - i) dc ⟨vb, 0, none⟩ 1 1 [x] Try.underlying89 hsz (by simp only [Nat.min_def, List.length_cons, List.length_nil]; split <;> omega)
      (fun j v hj => by
        match j, hj with
        | 0, hj => simp at hj; subst hj; rw [Addr.add_lit, hWc]; exact hOv)
      (fun j hj => by rw [hWc]; have := c0.2.1 (i + j) (by simp at hj; omega); rwa [Nat.zero_add] at this) (fun j hj => by rw [hWf]; have := c0.2.2.1 (i + j); rwa [Nat.zero_add] at this) (by intro v hv; simp at hv; subst hv; exact h1x)
  have hdl : (cs.drop i).length = c - i := by rw [List.length_drop, hcl]
  have hcpB : ∀ (W : World), (∀ q, W.cell? q = ((w.alloc (.cells ROW 5)).drew.setCells w.heap.size i [x]).cell? q) → (∀ q, W.frozen? q = ((w.alloc (.cells ROW 5)).drew.setCells w.heap.size i [x]).frozen? q) → ∀ ty dc sc, (Builtin.copy_ #[89, 89] ty #[.slice (some ⟨w.heap.size, i + 1, none⟩) (c - i) dc, .slice (some ⟨g, i, none⟩) (c - i) sc]).run Try.prog W = .ok (goInt (cs.drop i).length) (W.setCells w.heap.size (i + 1) (cs.drop i)) := fun W hWc hWf ty dc sc =>
    run_copy_cells W _ _ ty 5 w.heap.size (i + 1) (c - i) dc ⟨g, i, none⟩ (c - i) sc (cs.drop i) Try.underlying89 hsz (by rw [hdl]; simp)
      (fun j v hj => by
        rw [Addr.add_lit, hWc, World.cell?_setCells_out _ _ _ _ _ (fun h _ => absurd h hgN)]
        have := hcs (i + j) v (by rwa [List.getElem?_drop] at hj)
        rw [Nat.zero_add] at this
        exact hOg _ v this)
      (fun j hj => by rw [hWc]; exact isSome_setCells _ _ _ _ (fun t ht => by have := c0.2.1 (i + t) (by simp at ht; omega); rwa [Nat.zero_add] at this) _ (by have := c0.2.1 (i + 1 + j) (by omega); rwa [Nat.zero_add] at this))
      (fun j hj => by rw [hWf, World.frozen?_setCells]; have := c0.2.2.1 (i + 1 + j); rwa [Nat.zero_add] at this) (fun v hv => h1c v (List.mem_of_mem_drop hv))
  have HCA := hide hcpA
  have HCB := hide hcpB
  have hz2 : ¬ ((i : Int) = (c : Int)) := by omega
  have hz3 : ((c : Int) < (c : Int) + 1) := by omega
  have hw1 : IntKind.i64.wrap ((i : Int) + 1) = (i : Int) + 1 := by rw [IntKind.wrap_i64]; omega
  have hGi : ¬ (G = i) := by omega
  have hGi1 : ¬ (G = i + 1) := by omega
  have hci : ¬ (c = i) := by omega
  have hin : (i : Int) ≤ (c : Int) := by omega
  have hin0 : (0 : Int) ≤ (i : Int) := by omega
  have hin1 : (0 : Int) ≤ (i : Int) + 1 := by omega
  have hin2 : (i : Int) + 1 ≤ (c : Int) + 1 := by omega
  have hin3 : (i : Int) ≤ (c : Int) + 1 := by omega
  have HOS : Hid (((w.alloc (.cells ROW 5)).drew.setCells w.heap.size i [x]).os = w.os ∧ ((w.alloc (.cells ROW 5)).drew.setCells w.heap.size i [x]).tape = w.tape ∧ ((w.alloc (.cells ROW 5)).drew.setCells w.heap.size i [x]).output = w.output) := by
    have u1 := Upd.setCells [x] i _ U0 tN
    exact ⟨u1.os, u1.tape, u1.output⟩
  unfold maxLen at hGm
  clear hcpA hcpB hrz hrz0 hold O0 U0 c0 hOg hOv hcs hsp hfz h1c h1x h hv hsg hvx hcl hdl hgt hROW hRs hRt hik hkk tN hG hi0 hz0 hzs hzb hsz
  go_enter Try.func71, Try.ntmps71
  have k1 := fun ty dc => unhide HCA ((w.alloc (.cells ROW 5)).drew) (fun _ => rfl) (fun _ => rfl) ty dc
  have k2 := fun ty dc sc => unhide HCB (((w.alloc (.cells ROW 5)).drew.setCells w.heap.size i [x]).drew) (fun _ => rfl) (fun _ => rfl) ty dc sc
  go_wp2_with (at_builtin; go_must (refine Lib.wpList_append_run _ rfl _ _ _ _ rfl _ _ rfl rfl _ _ (unhide HRZ _) ?_))
  go_region
  go_wp2
  go_ret
  obtain ⟨x1, x2, x3⟩ := unhide HOS
  exact ⟨_, rfl, unhide FIN _ (fun _ => rfl) x1 x2 x3⟩
end Go.Proofs.Ytemkgikncmhoaaa

