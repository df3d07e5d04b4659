import Derived.Test.YtemkgikncmhoaaaM03
import Derived.Test.YtemkgikncmhoaaaM06
import Derived.Lib.SliceRun
import Derived.Deep.RegionLaw
namespace Go.Proofs.Ytemkgikncmhoaaa
open Go.RowKit

theorem OwnsT.less {own : Nat → Tag} {t : Tag} {w : World} {e : TypeId} {g n cap : Nat} {xs : List Value} (h : OwnsT own t w e 1 (.slice (some ⟨g, 0, none⟩) (n + 1) cap) (n + 1) xs) :
  OwnsT own t w e 1 (.slice (some ⟨g, 0, none⟩) n cap) n (xs.take n) := by
 obtain ⟨⟨h0, h1⟩, h2⟩ := h
 rcases h1 with ⟨h, _⟩ | ⟨g', cap', cur, hv, hb, hg, h3, h4, h5, h6⟩
 ·simp at h
 ·simp only [Value.slice.injEq, Option.some.injEq, Addr.mk.injEq, true_and, and_true] at hv
  obtain ⟨rfl, rfl⟩ := hv
  refine ⟨⟨by simp at h0; simp [h0], .inr ⟨g, cap, cur, rfl, hb, hg, by omega, h4, h5, ?_⟩⟩, h2⟩
  rw [← h6, List.take_take]
  congr 1
  omega

set_option maxHeartbeats 1600000 in
set_option maxRecDepth 100000 in
theorem del_one (own : Nat → Tag) (tg : Tag) (g m c i : Nat) (cs : List Value) (w : World) (h : OwnsT own tg w 5 1 (.slice (some ⟨g, 0, none⟩) (m + 1) c) (m + 1) cs) (hi : i ≤ m) (hm : m ≤ 1000) (hmc : m + 1 ≤ c) (h1c : ∀ v ∈ cs, v.oneCell' = true) :
  Calls Try.prog 72 #[.slice (some ⟨g, 0, none⟩) (m + 1) c, .int .i64 i, .int .i64 ((i : Int) + 1)] w fun e w' =>
   e = .returned (.slice (some ⟨g, 0, none⟩) m c) ∧ OwnsT own tg w' 5 1 (.slice (some ⟨g, 0, none⟩) m c) m (cs.take i ++ cs.drop (i + 1)) ∧ Upd own own (fun t => t = tg) w w' := by
 have hcl : cs.length = m + 1 := by simpa using h.1.1
 obtain ⟨hcs, hsp, hfz, hgl, hc63, hgt, hsg⟩ := h.cells0
 unfold maxLen at hc63
 obtain ⟨i0, hi0, hz0, hzs, hzb⟩ := info_parts Try.info5
 have hdl : (cs.drop (i + 1)).length = m - i := by rw [List.length_drop, hcl]; omega
 obtain ⟨W1, hW1⟩ : ∃ W1, W1 = w.drew.setCells g i (cs.drop (i + 1)) := ⟨_, rfl⟩
 have zv : ∀ w, (zeroValue 5).run Try.prog w = .ok (.int .u8 0) w := fun w => by kernel_rfl
 have hs1 : ∀ k, k < c → (W1.cell? ⟨g, k, none⟩).isSome = true := fun k hk => by
  rw [hW1]
  exact isSome_setCells g _ _ _ (fun j hj => by have := hsp (i + j) (by omega); rwa [Nat.zero_add] at this) _ (by have := hsp k hk; rwa [Nat.zero_add] at this)
 have hf1 : ∀ k, W1.frozen? ⟨g, k, none⟩ = false := fun k => by rw [hW1, World.frozen?_setCells]; have := hfz k; rwa [Nat.zero_add] at this
 have hcr : ∀ ty cc, (Builtin.clear_ #[89] ty #[.slice (some ⟨g, m, none⟩) 1 cc]).run Try.prog W1 = .ok (.tuple #[]) (W1.setCells g m [.int .u8 0]) := fun ty cc =>
  Lib.run_clear_slice W1 _ _ ty _ Try.underlying89 zv rfl rfl g m 1 cc (by omega) (fun t ht => hs1 _ (by omega)) (fun t ht => hf1 _)
 have FIN : Hid (OwnsT own tg (W1.setCells g m [.int .u8 0]) 5 1 (.slice (some ⟨g, 0, none⟩) m c) m (cs.take i ++ cs.drop (i + 1)) ∧ Upd own own (fun t => t = tg) w (W1.setCells g m [.int .u8 0])) := by
  apply hide
  have o1 := OwnsT.setAll [.int .u8 0] m _ _ (OwnsT.setAll (cs.drop (i + 1)) i w.drew _ h)
  have u1 := Upd.setCells (own := own) (own' := own) (may := fun t => t = tg) (w := w) (g := g) [.int .u8 0] m _ (Upd.setCells (cs.drop (i + 1)) i w.drew ((Upd.refl own _ w).drew) hgt) hgt
  rw [← hW1] at o1 u1
  refine ⟨?_, u1⟩
  have o2 := o1.less
  rw [setAll_eq (cs.drop (i + 1)) cs i (by omega), setAll_eq [.int .u8 0] _ m (by simp; omega)] at o2
  have e1 : ∀ (A B : List Value), A.length = m → (A ++ B).take m = A := fun A B hA => by rw [← hA]; simp
  rw [List.append_assoc, e1 _ _ (by simp; omega)] at o2
  rw [e1 (cs.take i ++ cs.drop (i + 1)) _ (by simp; omega)] at o2
  exact o2
 have hnews : ∀ (j : Nat) u, (cs.drop (i + 1))[j]? = some u → w.drew.cell? ((⟨g, i + 1, none⟩ : Addr).add j) = some u := fun j u hu => by
  rw [Addr.add_lit]; have := hcs (i + 1 + j) u (by rwa [List.getElem?_drop] at hu); rwa [Nat.zero_add] at this
 have hspare : ∀ j, j < (cs.drop (i + 1)).length → (w.drew.cell? ⟨g, 0 + i * 1 + j, none⟩).isSome = true ∧ w.drew.frozen? ⟨g, 0 + i * 1 + j, none⟩ = false := fun j hj => by
  rw [Nat.zero_add, Nat.mul_one]
  exact ⟨by have := hsp (i + j) (by omega); rwa [Nat.zero_add] at this, by have := hfz (i + j); rwa [Nat.zero_add] at this⟩
 have HN := hide hnews
 have HS := hide hspare
 have h1n : Hid (∀ u ∈ cs.drop (i + 1), u.oneCell' = true) := hide fun u hu => h1c u (List.mem_of_mem_drop hu)
 have HD := hide hdl
 have hz2 : ¬ ((i : Int) = (i : Int) + 1) := by omega
 have hin0 : (0 : Int) ≤ (i : Int) := by omega
 have hin1 : (i : Int) ≤ (m : Int) := by omega
 have hin2 : (m : Int) + 1 ≤ (c : Int) := by omega
 have hsum : i + (m - i) = m := by omega
 have hic : i ≤ c := by omega
 have hcm : ¬ (c = m) := by omega
 have hin3 : (0 : Int) ≤ (i : Int) + 1 := by omega
 have hin4 : (i : Int) + 1 ≤ (m : Int) + 1 := by omega
 have hw1 : IntKind.i64.wrap ((i : Int) + 1) = (i : Int) + 1 := by rw [IntKind.wrap_i64]; omega
 clear hnews hspare hdl hcs hsp hfz hs1 hf1 h1c h hsg hcl hgt
 by_cases hcj : c = i + 1
 ·obtain rfl : i = m := by omega
  subst hcj
  have hnil : cs.drop (i + 1) = [] := List.eq_nil_of_length_eq_zero (by rw [unhide HD]; omega)
  rw [hnil] at hW1
  subst hW1
  have hii : (i : Int) ≤ (i : Int) + 1 := by omega
  go_enter Try.func72, Try.ntmps72
  go_wp2_with fail
  go_region_law (refine step_append_room rfl _ _ 89 rfl 5 i0 1 Try.underlying89 hi0 hzs g 0 i (i + 1) (by simp [Act.eval, Act.put]) ⟨g, 0, none⟩ 0 0 [] (by simp [Act.eval, Act.put]) rfl (by intro _ _ h; simp at h) (by simp) (by omega) (by intro _ h; simp at h) ?_)
  go_wp2
  go_ret
  exact ⟨rfl, unhide FIN⟩
 ·subst hW1
  go_enter Try.func72, Try.ntmps72
  go_wp2_with fail
  go_region_law (refine step_append_room rfl _ _ 89 rfl 5 i0 1 Try.underlying89 hi0 hzs g 0 i c (by simp [Act.eval, Act.put]) ⟨g, i + 1, none⟩ (m - i) (c - (i + 1)) (cs.drop (i + 1)) (by simp [Act.eval, Act.put]) (by rw [Nat.mul_one]; exact unhide HD) (unhide HN) (unhide h1n) (by omega) (unhide HS) ?_)
  go_wp2
  go_ret
  exact ⟨rfl, unhide FIN⟩
end Go.Proofs.Ytemkgikncmhoaaa

namespace Go.Proofs.Ytemkgikncmhoaaa
open Go.RowKit

set_option maxHeartbeats 800000 in
set_option maxRecDepth 100000 in
theorem ins_end (own : Nat → Tag) (tg : Tag) (lv : Value) (n vb : Nat) (cs : List Value) (x : Value) (w : World) (h : OwnsT own tg w 5 1 lv n cs) (hn : n ≤ 1000)
  (hv : w.heap[vb]? = some (.cells #[x] 5 (0, 0))) (h1x : x.oneCell' = true) :
  Calls Try.prog 71 #[lv, .int .i64 n, .slice (some ⟨vb, 0, none⟩) 1 1] w fun e w' =>
   ∃ v', e = .returned v' ∧ OwnsT (retag own w.heap.size tg) tg w' 5 1 v' (n + 1) (cs ++ [x]) ∧ Upd own (retag own w.heap.size tg) (fun t => t = tg) w w' := by
 obtain ⟨i0, hi, hz0, hz1, hz2⟩ := info_parts Try.info5
 have hnews : ∀ j u, [x][j]? = some u → w.cell? ((⟨vb, 0, none⟩ : Addr).add j) = some u := by
  intro j u hu
  match j, hu with
  | 0, hu => simp at hu; subst hu; rw [Addr.add_lit]; simp [World.cell?, hv]
 have hnc : (0 : Int) ≤ (n : Int) := by omega
 obtain ⟨a, c, rfl, hle, hcm⟩ := h.shape
 have hle' : (n : Int) ≤ (c : Int) := by omega
 unfold maxLen at hcm
 clear hv
 cases a with
 | none =>
  have h0 : n = 0 ∧ c = 0 := by
   rcases h.1.2 with ⟨h1, h2⟩ | ⟨g, cap, cur, h1, _⟩
   ·simp at h1; exact ⟨h2, by omega⟩
   ·simp at h1
  obtain ⟨rfl, rfl⟩ := h0
  go_enter Try.func71, Try.ntmps71
  go_wp2_with (at_builtin; go_must (refine wpList_append_T _ rfl (.tmp 23) (.tmp 24) 89 rfl 5 i0 (.int .u8 0) 1 1 Try.underlying89 hi hz0 hz1 hz2 rfl (by decide) _ 0 _ own tg rfl h ⟨vb, 0, none⟩ 1 1 [x] rfl rfl hnews (by intro u hu; simp at hu; subst hu; exact h1x) (by simp [maxLen]) (by omega) ?_))
  intro v' w' ho hu
  obtain ⟨a', c', rfl, _, _⟩ := ho.shape
  go_wp2
  go_ret
  exact ⟨_, rfl, ho, hu⟩
 | some a =>
  go_enter Try.func71, Try.ntmps71
  go_wp2_with (at_builtin; go_must (refine wpList_append_T _ rfl (.tmp 23) (.tmp 24) 89 rfl 5 i0 (.int .u8 0) 1 1 Try.underlying89 hi hz0 hz1 hz2 rfl (by decide) _ n _ own tg rfl h ⟨vb, 0, none⟩ 1 1 [x] rfl rfl hnews (by intro u hu; simp at hu; subst hu; exact h1x) (by simp [maxLen]; omega) (by omega) ?_))
  all_goals intro v' w' ho hu
  all_goals obtain ⟨a', c', rfl, _, _⟩ := ho.shape
  all_goals go_wp2
  all_goals go_ret
  all_goals exact ⟨_, rfl, ho, hu⟩

set_option maxHeartbeats 1600000 in
set_option maxRecDepth 100000 in
theorem ins_grow (own : Nat → Tag) (tg : Tag) (g n c i vb : Nat) (cs : List Value) (x : Value) (w : World) (h : OwnsT own tg w 5 1 (.slice (some ⟨g, 0, none⟩) n c) n cs) (hi : i < n) (hn : n ≤ 1000) (hnc : n ≤ c) (hroom : c < n + 1)
  (hv : w.heap[vb]? = some (.cells #[x] 5 (0, 0))) (h1c : ∀ v ∈ cs, v.oneCell' = true) (h1x : x.oneCell' = true) :
  Calls Try.prog 71 #[.slice (some ⟨g, 0, none⟩) n c, .int .i64 i, .slice (some ⟨vb, 0, none⟩) 1 1] w fun e w' =>
   ∃ v', e = .returned v' ∧ OwnsT (retag own w.heap.size tg) tg w' 5 1 v' (n + 1) (insV cs i x) ∧ Upd own (retag own w.heap.size tg) (fun t => t = tg) w w' := by
 obtain ⟨i0, hi0, hz0, hzs, hzb⟩ := info_parts Try.info5
 have hcl : cs.length = n := by simpa using h.1.1
 obtain ⟨hcs, hsp, hfz, hgl, hc63, hgt, hsg⟩ := h.cells0
 unfold maxLen at hc63
 obtain rfl : c = n := by omega
 have hvx : w.cell? ⟨vb, 0, none⟩ = some x := by simp [World.cell?, hv]
 have hvl : vb < w.heap.size := (Array.getElem?_eq_some_iff.1 hv).1
 have hsz : (Try.prog.info? 5).map (·.size) = some 1 := by rw [hi0]; simp [hzs]
 have hold : (Builtin.firstCells i0.size i (.slice (some ⟨g, 0, none⟩) i c)).run Try.prog w.drew = .ok (cs.take i).toArray w.drew := by
  rw [hzs]
  exact run_firstCells_some w.drew 1 i ⟨g, 0, none⟩ i c (cs.take i) (by rw [List.length_take]; omega) (fun j v hj => by
   rw [Addr.add_lit]
   rw [List.getElem?_take] at hj
   split at hj
   ·exact hcs j v hj
   ·cases hj)
 have hik : i + (c + 1 - i) = c + 1 := by omega
 have hkk : (c : Int) + 1 - (i : Int) = ((c + 1 - i : Nat) : Int) := by omega
 have hrz0 := fun ty => Lib.run_append_grow_zeros w 89 3 ty 5 i0 _ .i64 .i64 Try.underlying89 Try.underlying3 hi0 hz0 (some ⟨g, 0, none⟩) i c (cs.take i) hold (c + 1 - i) (by omega) (by omega) (by omega) (by omega) (by rw [hzb]; omega) (by rw [hzb, hik]; exact growslice_fits (by omega) (by omega))
 rw [hik] at hrz0
 rw [← hkk] at hrz0
 have hGn : c + 1 ≤ grownCap w (c + 1) c 5 := grownCap_ge w _ _ _
 have hGm := grownCap_le_maxLen w (c + 1) c 5 (by unfold maxLen; omega)
 generalize hG : grownCap w (c + 1) c 5 = G at *
 obtain ⟨ROW, hROW⟩ : ∃ ROW : Array Value, ROW = (cs.take i).toArray ++ Builtin.zeroCells (Value.int .u8 0).cells (c + 1 - i) ++ Builtin.zeroCells (Value.int .u8 0).cells (G - (c + 1)) := ⟨_, rfl⟩
 rw [← hROW] at hrz0
 have hRs : ROW.size = G := by rw [hROW]; simp [Builtin.zeroCells, Value.cells]; omega
 have hRt : ROW.toList.take i = cs.take i := by
  rw [hROW]; simp only [Array.toList_append, List.append_assoc]
  rw [List.take_append_of_le_length (by simp; omega)]
  rw [List.take_of_length_le (by simp; omega)]
 have hrz : ∀ ty, (Builtin.append_ #[89, 3] ty #[.slice (some ⟨g, 0, none⟩) i c, .int .i64 ((c : Int) + 1 - (i : Int))]).run Try.prog w = .ok (.slice (some ⟨w.heap.size, 0, none⟩) (c + 1) G) (w.alloc (.cells ROW 5)).drew := fun ty => hrz0 ty
 have HRZ := hide hrz
 -- the new row
 have O0 : OwnsT (retag own w.heap.size tg) tg (w.alloc (.cells ROW 5)).drew 5 1 (.slice (some ⟨w.heap.size, 0, none⟩) (c + 1) G) (c + 1) (ROW.toList.take (c + 1)) := by
  refine ⟨⟨by simp [hRs]; omega, .inr ⟨w.heap.size, G, ROW, rfl, Nat.zero_le _, heap_alloc_new w _, hGn, hGm, by simp [hRs], by simp⟩⟩, fun q hq => ?_⟩
  simp [Value.ownBlock] at hq
  subst hq
  exact retag_ge (Nat.le_refl _)
 have U0 : Upd own (retag own w.heap.size tg) (fun t => t = tg) w (w.alloc (.cells ROW 5)).drew := Upd.retag (((Upd.refl own _ w).alloc _).drew) _ _ (Nat.le_refl _)
 have c0 := O0.cells0
 have hOg : ∀ j v, w.cell? ⟨g, j, none⟩ = some v → (w.alloc (.cells ROW 5)).drew.cell? ⟨g, j, none⟩ = some v := fun j v hj => by rw [World.cell?_drew, World.cell?_alloc_lt _ _ _ hgl]; exact hj
 have hOv : (w.alloc (.cells ROW 5)).drew.cell? ⟨vb, 0, none⟩ = some x := by rw [World.cell?_drew, World.cell?_alloc_lt _ _ _ hvl]; exact hvx
 have hgN : g ≠ w.heap.size := by omega
 have hvN : vb ≠ w.heap.size := by omega
 have tN : retag own w.heap.size tg w.heap.size = tg := retag_ge (Nat.le_refl _)
 have FIN : Hid (∀ W : World, (∀ k : Nat, W.heap[k]? = ((w.alloc (.cells ROW 5)).drew.setCells w.heap.size i [x]).heap[k]?) → W.os = w.os → W.tape = w.tape → W.output = w.output → OwnsT (retag own w.heap.size tg) tg (W.setCells w.heap.size (i + 1) (cs.drop i)) 5 1 (.slice (some ⟨w.heap.size, 0, none⟩) (c + 1) G) (c + 1) (insV cs i x) ∧ Upd own (retag own w.heap.size tg) (fun t => t = tg) w (W.setCells w.heap.size (i + 1) (cs.drop i))) := by
  apply hide
  intro W hW ho ht hout
  have o1 := OwnsT.setAll [x] i _ _ O0
  have u1 := Upd.setCells [x] i _ U0 tN
  have hszW : W.heap.size = ((w.alloc (.cells ROW 5)).drew.setCells w.heap.size i [x]).heap.size := by rw [Array.ext_getElem? hW]
  have u2 : Upd own (retag own w.heap.size tg) (fun t => t = tg) w W := ⟨ho, ht, hout, by rw [hszW]; exact u1.size, fun k hk hn => (hW k).trans (u1.block k hk hn), u1.tags⟩
  have o2 : OwnsT (retag own w.heap.size tg) tg W 5 1 (.slice (some ⟨w.heap.size, 0, none⟩) (c + 1) G) (c + 1) (setAll (ROW.toList.take (c + 1)) i [x]) := by
   obtain ⟨⟨p0, p1⟩, p2⟩ := o1
   refine ⟨⟨p0, ?_⟩, p2⟩
   rcases p1 with p | ⟨g', cap', cur, q1, q2, q3, q4⟩
   ·exact .inl p
   ·exact .inr ⟨g', cap', cur, q1, q2, (hW g').trans q3, q4⟩
  have o3 := OwnsT.setAll (cs.drop i) (i + 1) W _ o2
  rw [setAll_ins' (ROW.toList.take (c + 1)) cs i x (by simp [hRs]; omega) (by omega) (by rw [List.take_take, Nat.min_eq_left (by omega)]; exact hRt)] at o3
  exact ⟨o3, Upd.setCells (cs.drop i) (i + 1) W u2 tN⟩
 have hcpA : ∀ (W : World), (∀ q, W.cell? q = (w.alloc (.cells ROW 5)).drew.cell? q) → (∀ q, W.frozen? q = (w.alloc (.cells ROW 5)).drew.frozen? q) → ∀ ty dc, (Builtin.copy_ #[89, 89] ty #[.slice (some ⟨w.heap.size, i, none⟩) (c + 1 - i) dc, .slice (some ⟨vb, 0, none⟩) 1 1]).run Try.prog W = .ok (goInt [x].length) (W.setCells w.heap.size i [x]) := fun W hWc hWf ty dc =>
  run_copy_cells W _ _ ty 5 w.heap.size i (c + 1 - i) dc ⟨vb, 0, none⟩ 1 1 [x] Try.underlying89 hsz (by simp only [Nat.min_def, List.length_cons, List.length_nil]; split <;> omega)
   (fun j v hj => by
    match j, hj with
    | 0, hj => simp at hj; subst hj; rw [Addr.add_lit, hWc]; exact hOv)
   (fun j hj => by rw [hWc]; have := c0.2.1 (i + j) (by simp at hj; omega); rwa [Nat.zero_add] at this) (fun j hj => by rw [hWf]; have := c0.2.2.1 (i + j); rwa [Nat.zero_add] at this) (by intro v hv; simp at hv; subst hv; exact h1x)
 have hdl : (cs.drop i).length = c - i := by rw [List.length_drop, hcl]
 have hcpB : ∀ (W : World), (∀ q, W.cell? q = ((w.alloc (.cells ROW 5)).drew.setCells w.heap.size i [x]).cell? q) → (∀ q, W.frozen? q = ((w.alloc (.cells ROW 5)).drew.setCells w.heap.size i [x]).frozen? q) → ∀ ty dc sc, (Builtin.copy_ #[89, 89] ty #[.slice (some ⟨w.heap.size, i + 1, none⟩) (c - i) dc, .slice (some ⟨g, i, none⟩) (c - i) sc]).run Try.prog W = .ok (goInt (cs.drop i).length) (W.setCells w.heap.size (i + 1) (cs.drop i)) := fun W hWc hWf ty dc sc =>
  run_copy_cells W _ _ ty 5 w.heap.size (i + 1) (c - i) dc ⟨g, i, none⟩ (c - i) sc (cs.drop i) Try.underlying89 hsz (by rw [hdl]; simp)
   (fun j v hj => by
    rw [Addr.add_lit, hWc, World.cell?_setCells_out _ _ _ _ _ (fun h _ => absurd h hgN)]
    have := hcs (i + j) v (by rwa [List.getElem?_drop] at hj)
    rw [Nat.zero_add] at this
    exact hOg _ v this)
   (fun j hj => by rw [hWc]; exact isSome_setCells _ _ _ _ (fun t ht => by have := c0.2.1 (i + t) (by simp at ht; omega); rwa [Nat.zero_add] at this) _ (by have := c0.2.1 (i + 1 + j) (by omega); rwa [Nat.zero_add] at this))
   (fun j hj => by rw [hWf, World.frozen?_setCells]; have := c0.2.2.1 (i + 1 + j); rwa [Nat.zero_add] at this) (fun v hv => h1c v (List.mem_of_mem_drop hv))
 have HCA := hide hcpA
 have HCB := hide hcpB
 have hz2 : ¬ ((i : Int) = (c : Int)) := by omega
 have hz3 : ((c : Int) < (c : Int) + 1) := by omega
 have hw1 : IntKind.i64.wrap ((i : Int) + 1) = (i : Int) + 1 := by rw [IntKind.wrap_i64]; omega
 have hGi : ¬ (G = i) := by omega
 have hGi1 : ¬ (G = i + 1) := by omega
 have hci : ¬ (c = i) := by omega
 have hin : (i : Int) ≤ (c : Int) := by omega
 have hin0 : (0 : Int) ≤ (i : Int) := by omega
 have hin1 : (0 : Int) ≤ (i : Int) + 1 := by omega
 have hin2 : (i : Int) + 1 ≤ (c : Int) + 1 := by omega
 have hin3 : (i : Int) ≤ (c : Int) + 1 := by omega
 have HOS : Hid (((w.alloc (.cells ROW 5)).drew.setCells w.heap.size i [x]).os = w.os ∧ ((w.alloc (.cells ROW 5)).drew.setCells w.heap.size i [x]).tape = w.tape ∧ ((w.alloc (.cells ROW 5)).drew.setCells w.heap.size i [x]).output = w.output) := by
  have u1 := Upd.setCells [x] i _ U0 tN
  exact ⟨u1.os, u1.tape, u1.output⟩
 unfold maxLen at hGm
 clear hcpA hcpB hrz hrz0 hold O0 U0 c0 hOg hOv hcs hsp hfz h1c h1x h hv hsg hvx hcl hdl hgt hROW hRs hRt hik hkk tN hG hi0 hz0 hzs hzb hsz
 go_enter Try.func71, Try.ntmps71
 have k1 := fun ty dc => unhide HCA ((w.alloc (.cells ROW 5)).drew) (fun _ => rfl) (fun _ => rfl) ty dc
 have k2 := fun ty dc sc => unhide HCB (((w.alloc (.cells ROW 5)).drew.setCells w.heap.size i [x]).drew) (fun _ => rfl) (fun _ => rfl) ty dc sc
 go_wp2_with (at_builtin; go_must (refine Lib.wpList_append_run _ rfl _ _ _ _ rfl _ _ rfl rfl _ _ (unhide HRZ _) ?_))
 go_region
 go_wp2
 go_ret
 obtain ⟨x1, x2, x3⟩ := unhide HOS
 exact ⟨_, rfl, unhide FIN _ (fun _ => rfl) x1 x2 x3⟩
end Go.Proofs.Ytemkgikncmhoaaa

namespace Go.Proofs.Ytemkgikncmhoaaa
open Go.RowKit
attribute [local go_sem ↓] Go.wp_at_zero Go.wp_at_succ

/-- What is asked of an end's numbers: all fit into a byte. -/
structure REnd.Ok (E : REnd) : Prop where
 rows : E.rows.length ≤ 240
 taken : E.taken ≤ 240
 known : E.known ≤ 240
 sent : E.sent ≤ 240
 out : E.out.length ≤ 12
 spoilt : E.spoilt.length = E.out.length
 msgs : ∀ m ∈ E.rows, m.ctx ≤ 240 ∧ m.forms ≠ [] ∧ 0 ≤ m.first.client ∧ m.first.client ≤ 255 ∧ 0 ≤ m.first.verb ∧ m.first.verb ≤ 255 ∧ 0 ≤ m.first.place ∧ m.first.place ≤ 255 ∧ 0 ≤ m.first.letter ∧ m.first.letter ≤ 255

theorem heap_alloc_new' (w : World) (o : Obj) {n : Nat} (h : n = w.heap.size) : ((w.alloc o).drew).heap[n]? = some o := by subst h; exact heap_alloc_new w o

theorem ret_int {k : IntKind} {a b : Int} (h : a = b) : Ending.returned (.int k a) = .returned (.int k b) := by rw [h]

theorem REnd.fly_rows (E : REnd) (s : ByteArray) : (E.fly s).rows = E.rows ∧ (E.fly s).taken = E.taken ∧ (E.fly s).known = E.known ∧ (E.fly s).sent = E.sent ∧ (E.fly s).kept = E.kept := by
 unfold REnd.fly; split <;> simp
theorem REnd.Ok.fly {E : REnd} (h : E.Ok) (s : ByteArray) : (E.fly s).Ok := by
 obtain ⟨e1, e2, e3, e4, e5⟩ := E.fly_rows s
 refine ⟨by rw [e1]; exact h.rows, by rw [e2]; exact h.taken, by rw [e3]; exact h.known, by rw [e4]; exact h.sent, ?_, ?_, by rw [e1]; exact h.msgs⟩
 ·unfold REnd.fly; split
  ·rw [List.length_append]; simp; omega
  ·exact h.out
 ·unfold REnd.fly; split
  ·simp [h.spoilt]
  ·exact h.spoilt
theorem REnd.send1_rows (E : REnd) (n : Nat) : (E.send1 n).rows = E.rows ∧ (E.send1 n).taken = E.taken ∧ (E.send1 n).known = E.known ∧ (E.send1 n).kept = E.kept := by
 unfold REnd.send1
 have h1 := E.fly_rows (ckd (msgBytes n (E.rows.getD (n - 1) ⟨0, []⟩) E.taken))
 simp only
 generalize E.fly (ckd (msgBytes n (E.rows.getD (n - 1) ⟨0, []⟩) E.taken)) = F at *
 obtain ⟨e1, e2, e3, e4, e5⟩ := h1
 split
 ·exact ⟨e1, e2, e3, e5⟩
 ·exact ⟨e1, e2, e3, e5⟩
theorem REnd.Ok.send1 {E : REnd} (h : E.Ok) (n : Nat) (hn : n ≤ 240) : (E.send1 n).Ok := by
 unfold REnd.send1
 have h1 := h.fly (ckd (msgBytes n (E.rows.getD (n - 1) ⟨0, []⟩) E.taken))
 simp only
 split
 ·exact ⟨h1.rows, h1.taken, h1.known, hn, h1.out, h1.spoilt, h1.msgs⟩
 ·exact h1
theorem REnd.sendN_rows (E : REnd) (m : Nat) : ∀ k, (E.sendN m k).rows = E.rows ∧ (E.sendN m k).taken = E.taken ∧ (E.sendN m k).known = E.known ∧ (E.sendN m k).kept = E.kept
 | 0 => by simp [REnd.sendN]
 | k + 1 => by
  have h1 := (E.sendN m k).send1_rows (m + k)
  have h2 := E.sendN_rows m k
  simp only [REnd.sendN]
  rw [h1.1, h1.2.1, h1.2.2.1, h1.2.2.2]; exact h2
theorem REnd.Ok.sendN {E : REnd} (h : E.Ok) (m : Nat) : ∀ k, m + k ≤ 241 → (E.sendN m k).Ok
 | 0, _ => h
 | k + 1, hk => (h.sendN m k (by omega)).send1 (m + k) (by omega)

/-- Message i of a row, in memory. -/
theorem RowsAt.get {own : Nat → Tag} {rid c s : Nat} {w : World} {r : Value} {ms : List RMsg} (h : RowsAt own rid c s w r ms) {i : Nat} {m : RMsg} (hm : ms[i]? = some m) (hne : m.forms ≠ []) :
  ∃ g cap hb hcap, r = .slice (some ⟨g, 0, none⟩) ms.length cap ∧ w.cell? ⟨g, i * 2, none⟩ = some (.int .i64 m.ctx) ∧ w.cell? ⟨g, i * 2 + 1, none⟩ = some (.slice (some ⟨hb, 0, none⟩) m.forms.length hcap) ∧ m.forms.length ≤ hcap ∧
   w.cell? ⟨hb, 0, none⟩ = some (.int .i64 m.first.client) ∧ w.cell? ⟨hb, 1, none⟩ = some (.int .i64 m.first.verb) ∧ w.cell? ⟨hb, 2, none⟩ = some (.int .i64 m.first.place) ∧ w.cell? ⟨hb, 3, none⟩ = some (.int .u8 m.first.letter) ∧
   own g = (rid, c, 1 + s) ∧ own hb = (rid, c, 20 + 2 * i + s) := by
 obtain ⟨fs, hl, ho, hf⟩ := h
 have hi : i < ms.length := (List.getElem?_eq_some_iff.1 hm).1
 obtain ⟨f, hff⟩ : ∃ f, fs[i]? = some f := ⟨fs[i]'(by omega), by simp [hl, hi]⟩
 have hfo := hf i m f hm hff
 obtain ⟨o, os, hos⟩ : ∃ o os, m.forms = o :: os := by
  cases h : m.forms with
  | nil => exact absurd h hne
  | cons o os => exact ⟨o, os, rfl⟩
 rcases ho.1.2 with ⟨_, h0⟩ | ⟨g, cap, cur, rfl, _, hg, _, _, hcs, htake⟩
 ·omega
 rcases hfo.1.2 with ⟨_, h0⟩ | ⟨hb, hcap, hcur, rfl, _, hhb, hle, _, hhcs, hhtake⟩
 ·rw [hos] at h0; simp at h0
 have e1 := ho.1.cells (g := g) rfl
 have e2 := hfo.1.cells (g := hb) rfl
 have hz : ∀ (ms : List RMsg) (fs : List Value) (i : Nat) (m : RMsg) (f : Value), ms[i]? = some m → fs[i]? = some f →
   ((List.zipWith (fun m f => [Value.int .i64 (m.ctx : Int), f]) ms fs).flatten)[i * 2]? = some (.int .i64 m.ctx) ∧ ((List.zipWith (fun m f => [Value.int .i64 (m.ctx : Int), f]) ms fs).flatten)[i * 2 + 1]? = some f := by
  intro ms
  induction ms with
  | nil => intro fs i m f h; simp at h
  | cons m0 ms ih =>
   intro fs i m f h h'
   cases fs with
   | nil => simp at h'
   | cons f0 fs =>
    cases i with
    | zero => simp at h h'; subst h h'; simp
    | succ i =>
     have := ih fs i m f (by simpa using h) (by simpa using h')
     simp only [List.zipWith_cons_cons, List.flatten_cons]
     rw [show (i + 1) * 2 = i * 2 + 1 + 1 by omega]
     simpa using this
 obtain ⟨z1, z2⟩ := hz ms fs i m _ hm hff
 have q1 := e1 _ _ z1
 have q2 := e1 _ _ z2
 rw [Addr.add_lit, Nat.zero_add] at q1 q2
 have hfc : (m.forms.flatMap ROp.cells) = [.int .i64 m.first.client, .int .i64 m.first.verb, .int .i64 m.first.place, .int .u8 m.first.letter] ++ os.flatMap ROp.cells := by
  simp [RMsg.first, hos, ROp.cells]
 have p0 := e2 0 (.int .i64 m.first.client) (by rw [hfc]; rfl)
 have p1 := e2 1 (.int .i64 m.first.verb) (by rw [hfc]; rfl)
 have p2 := e2 2 (.int .i64 m.first.place) (by rw [hfc]; rfl)
 have p3 := e2 3 (.int .u8 m.first.letter) (by rw [hfc]; rfl)
 rw [Addr.add_lit] at p0 p1 p2 p3
 exact ⟨g, cap, hb, hcap, rfl, q1, q2, hle, p0, p1, p2, p3, ho.2 g rfl, hfo.2 hb rfl⟩

set_option maxRecDepth 100000 in
set_option maxHeartbeats 400000 in
theorem may_0 (own : Nat → Tag) (rid c b : Nat) (L : RLine) (window : Nat) (w : World) (h : LineAt own rid c w b L) (hok : L.a.Ok) (hw : window ≤ 4) :
  Calls Try.prog 94 #[.pointer (some ⟨b, 0, none⟩), .int .i64 0, .int .i64 window] w fun e w' => e = .returned (.int .i64 (L.a.may window : Nat)) ∧ w' = w := by
 obtain ⟨r0, r1, k0, k1, o0, o1, s0, s1, hc, ⟨⟨f0, _, x0, _⟩, _⟩, ⟨⟨f1, _, x1, _⟩, _⟩⟩ := h
 obtain ⟨ra, rc, rfl, _, _⟩ := x0.shape
 have h4 : w.cell? ⟨b, 4, none⟩ = some (.int .i64 L.a.known) := by rw [hc.cell]; rfl
 have h0 : w.cell? ⟨b, 0, none⟩ = some (.slice ra L.a.rows.length rc) := by rw [hc.cell]; rfl
 have hk := hok.known
 have hr := hok.rows
 have HM : Hid (L.a.may window = min (L.a.known + window) L.a.rows.length) := rfl
 generalize L.a.known = kn at *
 generalize L.a.rows.length = rl at *
 clear hc
 by_cases hlt : rl < kn + window
 all_goals
  go_enter Try.func94, Try.ntmps94
  go_wp2
  go_ret
  refine ⟨?_, rfl⟩
  rw [HM.out]
  exact ret_int (by omega)
set_option maxRecDepth 100000 in
set_option maxHeartbeats 400000 in
theorem may_1 (own : Nat → Tag) (rid c b : Nat) (L : RLine) (window : Nat) (w : World) (h : LineAt own rid c w b L) (hok : L.b.Ok) (hw : window ≤ 4) :
  Calls Try.prog 94 #[.pointer (some ⟨b, 0, none⟩), .int .i64 1, .int .i64 window] w fun e w' => e = .returned (.int .i64 (L.b.may window : Nat)) ∧ w' = w := by
 obtain ⟨r0, r1, k0, k1, o0, o1, s0, s1, hc, ⟨⟨f0, _, x0, _⟩, _⟩, ⟨⟨f1, _, x1, _⟩, _⟩⟩ := h
 obtain ⟨ra, rc, rfl, _, _⟩ := x1.shape
 have h4 : w.cell? ⟨b, 5, none⟩ = some (.int .i64 L.b.known) := by rw [hc.cell]; rfl
 have h0 : w.cell? ⟨b, 1, none⟩ = some (.slice ra L.b.rows.length rc) := by rw [hc.cell]; rfl
 have hk := hok.known
 have hr := hok.rows
 have HM : Hid (L.b.may window = min (L.b.known + window) L.b.rows.length) := rfl
 generalize L.b.known = kn at *
 generalize L.b.rows.length = rl at *
 clear hc
 by_cases hlt : rl < kn + window
 all_goals
  go_enter Try.func94, Try.ntmps94
  go_wp2
  go_ret
  refine ⟨?_, rfl⟩
  rw [HM.out]
  exact ret_int (by omega)

set_option maxRecDepth 100000 in
set_option maxHeartbeats 400000 in
theorem send_0 (own : Nat → Tag) (rid c b : Nat) (L : RLine) (m k : Nat) (w : World) (h : LineAt own rid c w b L) (hok : L.a.Ok) (hm : 1 ≤ m) (hk : m + k ≤ L.a.rows.length + 1) :
  Calls Try.prog 93 #[.pointer (some ⟨b, 0, none⟩), .int .i64 0, .int .i64 m, .int .i64 ((m : Int) + k - 1)] w fun e w' => e = .returned (.tuple #[]) ∧ ∃ own', LineAt own' rid c w' b { L with a := L.a.sendN m k } ∧ Upd own own' (inLine rid c) w w' := by
 have hr := hok.rows
 go_enter Try.func93, Try.ntmps93
 go_wp2
 go_loopw [8] (fun v8 wr => ∃ j : Nat, j ≤ k ∧ v8 = .int .i64 ((m + j : Nat) : Int) ∧ ∃ own1, LineAt own1 rid c wr b { L with a := L.a.sendN m j } ∧ Upd own own1 (inLine rid c) w wr) (fun v8 _ => m + k - (intOf v8).toNat)
 case atStart => exact ⟨0, Nat.zero_le _, by simp, own, h, Upd.refl _ _ _⟩
 case round =>
  obtain ⟨j, hj, rfl, own1, hL, hU⟩ := hrel
  by_cases hlt : j < k
  ·obtain ⟨i, hi⟩ : ∃ i, m + j = i + 1 := ⟨m + j - 1, by omega⟩
   have hok1 := hok.sendN m j (by omega)
   obtain ⟨er, et, ek, eq⟩ := L.a.sendN_rows m j
   have HS : Hid (L.a.sendN m (j + 1) = (L.a.sendN m j).send1 (i + 1)) := by show (L.a.sendN m j).send1 (m + j) = _; rw [hi]
   have hil : i < (L.a.sendN m j).rows.length := by rw [er]; omega
   have hil' : (L.a.sendN m j).rows.length ≤ 240 := by rw [er]; omega
   have hkm : m + k - (i + 1) ≥ 1 := by omega
   rw [hi]
   generalize L.a.sendN m j = E at *
   clear er et ek eq hok h
   have hL0 := hL
   obtain ⟨r0, r1, k0, k1, o0, o1, s0, s1, hc, ⟨a1, a2, a3, a4⟩, hb⟩ := hL
   simp only at hc a1 a2 a3 a4
   have hmi : E.rows[i]? = some E.rows[i] := by simp [hil]
   have hM : ∀ M, M = E.rows[i] → E.rows.getD i ⟨0, []⟩ = M := fun M hM => by subst hM; simp [hil]
   have hmm := hok1.msgs E.rows[i] (List.getElem_mem hil)
   generalize E.rows[i] = M at *
   obtain ⟨g, rc, hb1, hcp, rfl, q1, q2, qle, p0, p1, p2, p3, tg, th⟩ := a1.get hmi hmm.2.1
   have hge : 1 ≤ M.forms.length := by
    cases h : M.forms with
    | nil => exact absurd h hmm.2.1
    | cons => simp
   have h0 : wr.cell? ⟨b, 0, none⟩ = some (.slice (some ⟨g, 0, none⟩) E.rows.length rc) := by rw [hc.cell]; rfl
   have h2 : wr.cell? ⟨b, 2, none⟩ = some (.int .i64 E.taken) := by rw [hc.cell]; rfl
   have HB : Hid (msgBytes (i + 1) M E.taken = [1, (i : Int) + 1, M.ctx, E.taken, M.first.client, M.first.verb, M.first.place, M.first.letter]) := rfl
   have hil2 : (i : Int) < (E.rows.length : Int) := by omega
   have hi0 : (0 : Int) ≤ (i : Int) := by omega
   have hge2 : (1 : Int) ≤ (M.forms.length : Int) := by omega
   generalize M.forms.length = fl at *
   generalize M.first.client = cl at *
   generalize M.first.verb = vb at *
   generalize M.first.place = pl at *
   generalize M.first.letter = lt at *
   generalize E.rows.length = rl at *
   have hgl := World.block_lt_of_cell? _ _ q1
   have hhl := World.block_lt_of_cell? _ _ p0
   have hbl := World.block_lt_of_cell? _ _ h0
   have htk := hok1.taken
   have hwl : IntKind.i64.wrap lt = lt := by rw [IntKind.wrap_i64]; omega
   have hby : Bytes [1, (i : Int) + 1, M.ctx, E.taken, cl, vb, pl, lt] := by
    intro q
    match q with
    | 0 | 1 | 2 | 3 | 4 | 5 | 6 | 7 => refine ⟨?_, ?_⟩ <;> simp <;> omega
    | q + 8 => simp
   have hsp1 : E.spoilt.length < 13 := by have := hok1.out; have := hok1.spoilt; omega
   obtain ⟨_, ef1, _, ef4, _⟩ := E.fly_rows (ckd [1, (i : Int) + 1, M.ctx, E.taken, cl, vb, pl, lt])
   go_wp2_with fail
   have hL2 : LineAt (retag own1 wr.heap.size (rid + 1, 0, 0)) rid c ((wr.alloc (Obj.cells #[Value.int IntKind.i64 ↑M.ctx, Value.slice (some { block := hb1, off := 0 }) fl hcp] 167)).alloc
     (Obj.cells #[Value.int IntKind.i64 cl, Value.int IntKind.i64 vb, Value.int IntKind.i64 pl, Value.int IntKind.u8 lt] 149)) b { a := E, b := L.b } :=
    hL0.upd (Upd.retag (((Upd.refl own1 (fun _ => False) wr).alloc _).alloc _) wr.heap.size (rid + 1, 0, 0) (Nat.le_refl _)) (fun _ h => h)
   have hU2 : Upd own (retag own1 wr.heap.size (rid + 1, 0, 0)) (inLine rid c) w ((wr.alloc (Obj.cells #[Value.int IntKind.i64 ↑M.ctx, Value.slice (some { block := hb1, off := 0 }) fl hcp] 167)).alloc
     (Obj.cells #[Value.int IntKind.i64 cl, Value.int IntKind.i64 vb, Value.int IntKind.i64 pl, Value.int IntKind.u8 lt] 149)) :=
    hU.trans (Upd.retag (((Upd.refl own1 (inLine rid c) wr).alloc _).alloc _) wr.heap.size (rid + 1, 0, 0) (Nat.le_refl _))
   have CM : CellsT (retag own1 wr.heap.size (rid + 1, 0, 0)) (rid + 1, 0, 0) ((wr.alloc (Obj.cells #[Value.int IntKind.i64 ↑M.ctx, Value.slice (some { block := hb1, off := 0 }) fl hcp] 167)).alloc
     (Obj.cells #[Value.int IntKind.i64 cl, Value.int IntKind.i64 vb, Value.int IntKind.i64 pl, Value.int IntKind.u8 lt] 149)) wr.heap.size _ _ := (CellsT.new wr _ _ own1 _).alloc _
   have CO : CellsT (retag own1 wr.heap.size (rid + 1, 0, 0)) (rid + 1, 0, 0) ((wr.alloc (Obj.cells #[Value.int IntKind.i64 ↑M.ctx, Value.slice (some { block := hb1, off := 0 }) fl hcp] 167)).alloc
     (Obj.cells #[Value.int IntKind.i64 cl, Value.int IntKind.i64 vb, Value.int IntKind.i64 pl, Value.int IntKind.u8 lt] 149)) (wr.heap.size + 1) _ _ := ⟨by simpa using heap_alloc_new (wr.alloc _) _, retag_ge (by omega)⟩
   have hsz2 : ((wr.alloc (Obj.cells #[Value.int IntKind.i64 ↑M.ctx, Value.slice (some { block := hb1, off := 0 }) fl hcp] 167)).alloc
     (Obj.cells #[Value.int IntKind.i64 cl, Value.int IntKind.i64 vb, Value.int IntKind.i64 pl, Value.int IntKind.u8 lt] 149)).heap.size = wr.heap.size + 1 + 1 := by simp
   clear hL0 hU q1 q2 p0 p1 p2 p3 h0 h2 hc a1 a2 a3 a4 hb hhl hgl
   generalize (wr.alloc (Obj.cells #[Value.int IntKind.i64 ↑M.ctx, Value.slice (some { block := hb1, off := 0 }) fl hcp] 167)).alloc
     (Obj.cells #[Value.int IntKind.i64 cl, Value.int IntKind.i64 vb, Value.int IntKind.i64 pl, Value.int IntKind.u8 lt] 149) = W2 at *
   generalize retag own1 wr.heap.size (rid + 1, 0, 0) = own2 at *
   generalize wr.heap.size = N at *
   have SK : ∀ w' own' L', Upd own2 own' (inLine rid c) W2 w' → LineAt own' rid c w' b L' → L'.a.taken = E.taken → w'.cell? ⟨N, 0, none⟩ = some (.int .i64 M.ctx) ∧ w'.cell? ⟨b, 2, none⟩ = some (.int .i64 E.taken) ∧ w'.cell? ⟨N + 1, 0, none⟩ = some (.int .i64 cl) ∧
     w'.cell? ⟨N + 1, 1, none⟩ = some (.int .i64 vb) ∧ w'.cell? ⟨N + 1, 2, none⟩ = some (.int .i64 pl) ∧ w'.cell? ⟨N + 1, 3, none⟩ = some (.int .u8 lt) := by
    intro w' own' L' hu hl ht
    have d1 := CM.upd hu (by simp [inLine])
    have d2 := CO.upd hu (by simp [inLine])
    refine ⟨by rw [d1.cell]; rfl, by rw [hl.cells.1, ht], ?_, ?_, ?_, ?_⟩ <;> (rw [d2.cell]; rfl)
   have SK' := hide SK
   obtain ⟨z1, z2, z3, z4, z5, z6⟩ := SK W2 own2 _ (Upd.refl _ _ _) hL2 rfl
   clear SK
   go_region_held3 (fun w' => w'.cell? ⟨N, 0, none⟩ = some (.int .i64 M.ctx) ∧ w'.cell? ⟨b, 2, none⟩ = some (.int .i64 E.taken) ∧ w'.cell? ⟨N + 1, 0, none⟩ = some (.int .i64 cl) ∧
     w'.cell? ⟨N + 1, 1, none⟩ = some (.int .i64 vb) ∧ w'.cell? ⟨N + 1, 2, none⟩ = some (.int .i64 pl) ∧ w'.cell? ⟨N + 1, 3, none⟩ = some (.int .u8 lt))
    (first
     | (exact ⟨z1, z2, z3, z4, z5, z6⟩)
     | (exact unhide SK' _ _ _ (((Upd.refl own2 (inLine rid c) W2).alloc _).drew.trans ((Upd.of_below own2 (inLine rid c) hb3).trans hu4)) hL4 ef1)
     | (exact unhide SK' _ _ _ (((Upd.refl own2 (inLine rid c) W2).alloc _).drew.trans (Upd.of_below own2 (inLine rid c) hb3)) (hL2.upd (((Upd.refl own2 (fun _ => False) W2).alloc _).drew.trans (Upd.of_below own2 (fun _ => False) hb3)) (fun _ h => h)) rfl)
     | (exact unhide SK' _ _ _ (((Upd.refl own2 (inLine rid c) W2).alloc _).drew) (hL2.upd (((Upd.refl own2 (fun _ => False) W2).alloc _).drew) (fun _ h => h)) rfl))
    (first
     | (go_at_call 103; go_must (refine (checked_lit [1, (i : Int) + 1, M.ctx, E.taken, cl, vb, pl, lt] 8 _ _ _ rfl hby (by decide) ?_).mono ?_; (exact heap_alloc_new' _ _ (by simp [hsz2])); rintro e w3 ⟨rfl, hb3⟩))
     | (go_at_call 102; refine (fly_0 own2 rid c b { a := E, b := L.b } _ _ ?_ hsp1).mono ?_; (exact hL2.upd (((Upd.refl _ (fun _ => False) _).alloc _).drew.trans (Upd.of_below _ _ hb3)) (fun _ h => h)); rintro e w4 ⟨rfl, own4, hL4, hu4⟩))
   have hUF : Upd own own4 (inLine rid c) w w4 := hU2.trans ((((Upd.refl _ (inLine rid c) _).alloc _).drew.trans (Upd.of_below _ _ hb3)).trans hu4)
   obtain ⟨_, _, _, _, c6, _, cf⟩ := hL4.cells
   simp only [ef4] at c6
   have cf6 := cf 6
   have HE : Hid (E.send1 (i + 1) = if E.sent < i + 1 then { (E.fly (ckd [1, (i : Int) + 1, M.ctx, E.taken, cl, vb, pl, lt])) with sent := i + 1 } else E.fly (ckd [1, (i : Int) + 1, M.ctx, E.taken, cl, vb, pl, lt])) := by
    unfold REnd.send1
    simp only [Nat.add_sub_cancel]
    rw [hM M rfl, HB.out, ef4]
    exact hide rfl
   clear hb3 hu4 hU2 hL2 cf ef1 ef4 hsp1 hby hwl SK' z1 z2 z3 z4 z5 z6 CM CO hsz2
   generalize E.fly (ckd [1, (i : Int) + 1, M.ctx, E.taken, cl, vb, pl, lt]) = F at *
   by_cases hst : E.sent < i + 1
   ·have hst' : (E.sent : Int) < (i : Int) + 1 := by omega
    go_wp2
    go_roundw
    case rel =>
     obtain ⟨x1, x2⟩ := hL4.set6 (i + 1)
     refine ⟨j + 1, by omega, by rw [show ((m + (j + 1) : Nat) : Int) = (i : Int) + 1 + 1 by omega], own4, ?_, hUF.trans x2⟩
     rw [HS.out, HE.out, if_pos hst]
     simpa using x1
    case measure => simp [intOf]; omega
   ·have hst' : ¬ (E.sent : Int) < (i : Int) + 1 := by omega
    go_wp2
    go_roundw
    case rel =>
     refine ⟨j + 1, by omega, by rw [show ((m + (j + 1) : Nat) : Int) = (i : Int) + 1 + 1 by omega], own4, ?_, hUF⟩
     rw [HS.out, HE.out, if_neg hst]
     exact hL4
    case measure => simp [intOf]; omega
  ·go_wp2
   go_end0
   refine ⟨rfl, own1, ?_, hU⟩
   rw [show k = j by omega]
   exact hL
set_option maxRecDepth 100000 in
set_option maxHeartbeats 400000 in
theorem send_1 (own : Nat → Tag) (rid c b : Nat) (L : RLine) (m k : Nat) (w : World) (h : LineAt own rid c w b L) (hok : L.b.Ok) (hm : 1 ≤ m) (hk : m + k ≤ L.b.rows.length + 1) :
  Calls Try.prog 93 #[.pointer (some ⟨b, 0, none⟩), .int .i64 1, .int .i64 m, .int .i64 ((m : Int) + k - 1)] w fun e w' => e = .returned (.tuple #[]) ∧ ∃ own', LineAt own' rid c w' b { L with b := L.b.sendN m k } ∧ Upd own own' (inLine rid c) w w' := by
 have hr := hok.rows
 go_enter Try.func93, Try.ntmps93
 go_wp2
 go_loopw [8] (fun v8 wr => ∃ j : Nat, j ≤ k ∧ v8 = .int .i64 ((m + j : Nat) : Int) ∧ ∃ own1, LineAt own1 rid c wr b { L with b := L.b.sendN m j } ∧ Upd own own1 (inLine rid c) w wr) (fun v8 _ => m + k - (intOf v8).toNat)
 case atStart => exact ⟨0, Nat.zero_le _, by simp, own, h, Upd.refl _ _ _⟩
 case round =>
  obtain ⟨j, hj, rfl, own1, hL, hU⟩ := hrel
  by_cases hlt : j < k
  ·obtain ⟨i, hi⟩ : ∃ i, m + j = i + 1 := ⟨m + j - 1, by omega⟩
   have hok1 := hok.sendN m j (by omega)
   obtain ⟨er, et, ek, eq⟩ := L.b.sendN_rows m j
   have HS : Hid (L.b.sendN m (j + 1) = (L.b.sendN m j).send1 (i + 1)) := by show (L.b.sendN m j).send1 (m + j) = _; rw [hi]
   have hil : i < (L.b.sendN m j).rows.length := by rw [er]; omega
   have hil' : (L.b.sendN m j).rows.length ≤ 240 := by rw [er]; omega
   have hkm : m + k - (i + 1) ≥ 1 := by omega
   rw [hi]
   generalize L.b.sendN m j = E at *
   clear er et ek eq hok h
   have hL0 := hL
   obtain ⟨r0, r1, k0, k1, o0, o1, s0, s1, hc, hb, ⟨a1, a2, a3, a4⟩⟩ := hL
   simp only at hc a1 a2 a3 a4
   have hmi : E.rows[i]? = some E.rows[i] := by simp [hil]
   have hM : ∀ M, M = E.rows[i] → E.rows.getD i ⟨0, []⟩ = M := fun M hM => by subst hM; simp [hil]
   have hmm := hok1.msgs E.rows[i] (List.getElem_mem hil)
   generalize E.rows[i] = M at *
   obtain ⟨g, rc, hb1, hcp, rfl, q1, q2, qle, p0, p1, p2, p3, tg, th⟩ := a1.get hmi hmm.2.1
   have hge : 1 ≤ M.forms.length := by
    cases h : M.forms with
    | nil => exact absurd h hmm.2.1
    | cons => simp
   have h0 : wr.cell? ⟨b, 1, none⟩ = some (.slice (some ⟨g, 0, none⟩) E.rows.length rc) := by rw [hc.cell]; rfl
   have h2 : wr.cell? ⟨b, 3, none⟩ = some (.int .i64 E.taken) := by rw [hc.cell]; rfl
   have HB : Hid (msgBytes (i + 1) M E.taken = [1, (i : Int) + 1, M.ctx, E.taken, M.first.client, M.first.verb, M.first.place, M.first.letter]) := rfl
   have hil2 : (i : Int) < (E.rows.length : Int) := by omega
   have hi0 : (0 : Int) ≤ (i : Int) := by omega
   have hge2 : (1 : Int) ≤ (M.forms.length : Int) := by omega
   generalize M.forms.length = fl at *
   generalize M.first.client = cl at *
   generalize M.first.verb = vb at *
   generalize M.first.place = pl at *
   generalize M.first.letter = lt at *
   generalize E.rows.length = rl at *
   have hgl := World.block_lt_of_cell? _ _ q1
   have hhl := World.block_lt_of_cell? _ _ p0
   have hbl := World.block_lt_of_cell? _ _ h0
   have htk := hok1.taken
   have hwl : IntKind.i64.wrap lt = lt := by rw [IntKind.wrap_i64]; omega
   have hby : Bytes [1, (i : Int) + 1, M.ctx, E.taken, cl, vb, pl, lt] := by
    intro q
    match q with
    | 0 | 1 | 2 | 3 | 4 | 5 | 6 | 7 => refine ⟨?_, ?_⟩ <;> simp <;> omega
    | q + 8 => simp
   have hsp1 : E.spoilt.length < 13 := by have := hok1.out; have := hok1.spoilt; omega
   obtain ⟨_, ef1, _, ef4, _⟩ := E.fly_rows (ckd [1, (i : Int) + 1, M.ctx, E.taken, cl, vb, pl, lt])
   go_wp2_with fail
   have hL2 : LineAt (retag own1 wr.heap.size (rid + 1, 0, 0)) rid c ((wr.alloc (Obj.cells #[Value.int IntKind.i64 ↑M.ctx, Value.slice (some { block := hb1, off := 0 }) fl hcp] 167)).alloc
     (Obj.cells #[Value.int IntKind.i64 cl, Value.int IntKind.i64 vb, Value.int IntKind.i64 pl, Value.int IntKind.u8 lt] 149)) b { a := L.a, b := E } :=
    hL0.upd (Upd.retag (((Upd.refl own1 (fun _ => False) wr).alloc _).alloc _) wr.heap.size (rid + 1, 0, 0) (Nat.le_refl _)) (fun _ h => h)
   have hU2 : Upd own (retag own1 wr.heap.size (rid + 1, 0, 0)) (inLine rid c) w ((wr.alloc (Obj.cells #[Value.int IntKind.i64 ↑M.ctx, Value.slice (some { block := hb1, off := 0 }) fl hcp] 167)).alloc
     (Obj.cells #[Value.int IntKind.i64 cl, Value.int IntKind.i64 vb, Value.int IntKind.i64 pl, Value.int IntKind.u8 lt] 149)) :=
    hU.trans (Upd.retag (((Upd.refl own1 (inLine rid c) wr).alloc _).alloc _) wr.heap.size (rid + 1, 0, 0) (Nat.le_refl _))
   have CM : CellsT (retag own1 wr.heap.size (rid + 1, 0, 0)) (rid + 1, 0, 0) ((wr.alloc (Obj.cells #[Value.int IntKind.i64 ↑M.ctx, Value.slice (some { block := hb1, off := 0 }) fl hcp] 167)).alloc
     (Obj.cells #[Value.int IntKind.i64 cl, Value.int IntKind.i64 vb, Value.int IntKind.i64 pl, Value.int IntKind.u8 lt] 149)) wr.heap.size _ _ := (CellsT.new wr _ _ own1 _).alloc _
   have CO : CellsT (retag own1 wr.heap.size (rid + 1, 0, 0)) (rid + 1, 0, 0) ((wr.alloc (Obj.cells #[Value.int IntKind.i64 ↑M.ctx, Value.slice (some { block := hb1, off := 0 }) fl hcp] 167)).alloc
     (Obj.cells #[Value.int IntKind.i64 cl, Value.int IntKind.i64 vb, Value.int IntKind.i64 pl, Value.int IntKind.u8 lt] 149)) (wr.heap.size + 1) _ _ := ⟨by simpa using heap_alloc_new (wr.alloc _) _, retag_ge (by omega)⟩
   have hsz2 : ((wr.alloc (Obj.cells #[Value.int IntKind.i64 ↑M.ctx, Value.slice (some { block := hb1, off := 0 }) fl hcp] 167)).alloc
     (Obj.cells #[Value.int IntKind.i64 cl, Value.int IntKind.i64 vb, Value.int IntKind.i64 pl, Value.int IntKind.u8 lt] 149)).heap.size = wr.heap.size + 1 + 1 := by simp
   clear hL0 hU q1 q2 p0 p1 p2 p3 h0 h2 hc a1 a2 a3 a4 hb hhl hgl
   generalize (wr.alloc (Obj.cells #[Value.int IntKind.i64 ↑M.ctx, Value.slice (some { block := hb1, off := 0 }) fl hcp] 167)).alloc
     (Obj.cells #[Value.int IntKind.i64 cl, Value.int IntKind.i64 vb, Value.int IntKind.i64 pl, Value.int IntKind.u8 lt] 149) = W2 at *
   generalize retag own1 wr.heap.size (rid + 1, 0, 0) = own2 at *
   generalize wr.heap.size = N at *
   have SK : ∀ w' own' L', Upd own2 own' (inLine rid c) W2 w' → LineAt own' rid c w' b L' → L'.b.taken = E.taken → w'.cell? ⟨N, 0, none⟩ = some (.int .i64 M.ctx) ∧ w'.cell? ⟨b, 3, none⟩ = some (.int .i64 E.taken) ∧ w'.cell? ⟨N + 1, 0, none⟩ = some (.int .i64 cl) ∧
     w'.cell? ⟨N + 1, 1, none⟩ = some (.int .i64 vb) ∧ w'.cell? ⟨N + 1, 2, none⟩ = some (.int .i64 pl) ∧ w'.cell? ⟨N + 1, 3, none⟩ = some (.int .u8 lt) := by
    intro w' own' L' hu hl ht
    have d1 := CM.upd hu (by simp [inLine])
    have d2 := CO.upd hu (by simp [inLine])
    refine ⟨by rw [d1.cell]; rfl, by rw [hl.cells.2.1, ht], ?_, ?_, ?_, ?_⟩ <;> (rw [d2.cell]; rfl)
   have SK' := hide SK
   obtain ⟨z1, z2, z3, z4, z5, z6⟩ := SK W2 own2 _ (Upd.refl _ _ _) hL2 rfl
   clear SK
   go_region_held3 (fun w' => w'.cell? ⟨N, 0, none⟩ = some (.int .i64 M.ctx) ∧ w'.cell? ⟨b, 3, none⟩ = some (.int .i64 E.taken) ∧ w'.cell? ⟨N + 1, 0, none⟩ = some (.int .i64 cl) ∧
     w'.cell? ⟨N + 1, 1, none⟩ = some (.int .i64 vb) ∧ w'.cell? ⟨N + 1, 2, none⟩ = some (.int .i64 pl) ∧ w'.cell? ⟨N + 1, 3, none⟩ = some (.int .u8 lt))
    (first
     | (exact ⟨z1, z2, z3, z4, z5, z6⟩)
     | (exact unhide SK' _ _ _ (((Upd.refl own2 (inLine rid c) W2).alloc _).drew.trans ((Upd.of_below own2 (inLine rid c) hb3).trans hu4)) hL4 ef1)
     | (exact unhide SK' _ _ _ (((Upd.refl own2 (inLine rid c) W2).alloc _).drew.trans (Upd.of_below own2 (inLine rid c) hb3)) (hL2.upd (((Upd.refl own2 (fun _ => False) W2).alloc _).drew.trans (Upd.of_below own2 (fun _ => False) hb3)) (fun _ h => h)) rfl)
     | (exact unhide SK' _ _ _ (((Upd.refl own2 (inLine rid c) W2).alloc _).drew) (hL2.upd (((Upd.refl own2 (fun _ => False) W2).alloc _).drew) (fun _ h => h)) rfl))
    (first
     | (go_at_call 103; go_must (refine (checked_lit [1, (i : Int) + 1, M.ctx, E.taken, cl, vb, pl, lt] 8 _ _ _ rfl hby (by decide) ?_).mono ?_; (exact heap_alloc_new' _ _ (by simp [hsz2])); rintro e w3 ⟨rfl, hb3⟩))
     | (go_at_call 102; refine (fly_1 own2 rid c b { a := L.a, b := E } _ _ ?_ hsp1).mono ?_; (exact hL2.upd (((Upd.refl _ (fun _ => False) _).alloc _).drew.trans (Upd.of_below _ _ hb3)) (fun _ h => h)); rintro e w4 ⟨rfl, own4, hL4, hu4⟩))
   have hUF : Upd own own4 (inLine rid c) w w4 := hU2.trans ((((Upd.refl _ (inLine rid c) _).alloc _).drew.trans (Upd.of_below _ _ hb3)).trans hu4)
   obtain ⟨_, _, _, _, _, c6, cf⟩ := hL4.cells
   simp only [ef4] at c6
   have cf6 := cf 7
   have HE : Hid (E.send1 (i + 1) = if E.sent < i + 1 then { (E.fly (ckd [1, (i : Int) + 1, M.ctx, E.taken, cl, vb, pl, lt])) with sent := i + 1 } else E.fly (ckd [1, (i : Int) + 1, M.ctx, E.taken, cl, vb, pl, lt])) := by
    unfold REnd.send1
    simp only [Nat.add_sub_cancel]
    rw [hM M rfl, HB.out, ef4]
    exact hide rfl
   clear hb3 hu4 hU2 hL2 cf ef1 ef4 hsp1 hby hwl SK' z1 z2 z3 z4 z5 z6 CM CO hsz2
   generalize E.fly (ckd [1, (i : Int) + 1, M.ctx, E.taken, cl, vb, pl, lt]) = F at *
   by_cases hst : E.sent < i + 1
   ·have hst' : (E.sent : Int) < (i : Int) + 1 := by omega
    go_wp2
    go_roundw
    case rel =>
     obtain ⟨x1, x2⟩ := hL4.set7 (i + 1)
     refine ⟨j + 1, by omega, by rw [show ((m + (j + 1) : Nat) : Int) = (i : Int) + 1 + 1 by omega], own4, ?_, hUF.trans x2⟩
     rw [HS.out, HE.out, if_pos hst]
     simpa using x1
    case measure => simp [intOf]; omega
   ·have hst' : ¬ (E.sent : Int) < (i : Int) + 1 := by omega
    go_wp2
    go_roundw
    case rel =>
     refine ⟨j + 1, by omega, by rw [show ((m + (j + 1) : Nat) : Int) = (i : Int) + 1 + 1 by omega], own4, ?_, hUF⟩
     rw [HS.out, HE.out, if_neg hst]
     exact hL4
    case measure => simp [intOf]; omega
  ·go_wp2
   go_end0
   refine ⟨rfl, own1, ?_, hU⟩
   rw [show k = j by omega]
   exact hL
end Go.Proofs.Ytemkgikncmhoaaa

