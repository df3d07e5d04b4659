import Derived.Test.YtemkgikncmhoaaaM07
import Derived.Test.YtemkgikncmhoaaaM13
import Derived.Lib.SliceRun
import Derived.Deep.RegionLaw
namespace Go.Proofs.Ytemkgikncmhoaaa
open Go.RowKit

set_option maxHeartbeats 1600000 in
set_option maxRecDepth 100000 in
theorem deld (own : Nat → Tag) (tg : Tag) (g m c i : Nat) (cs : List Value) (w : World) (h : OwnsT own tg w 131 1 (.slice (some ⟨g, 0, none⟩) (m + 1) c) (m + 1) cs) (hi : i ≤ m) (hm : m ≤ 1000) (hmc : m + 1 ≤ c) (h1c : ∀ v ∈ cs, v.oneCell' = true) :
  Calls Try.prog 76 #[.slice (some ⟨g, 0, none⟩) (m + 1) c, .int .i64 i, .int .i64 ((i : Int) + 1)] w fun e w' =>
   e = .returned (.slice (some ⟨g, 0, none⟩) m c) ∧ OwnsT own tg w' 131 1 (.slice (some ⟨g, 0, none⟩) m c) m (cs.take i ++ cs.drop (i + 1)) ∧ Upd own own (fun t => t = tg) w w' := by
 have hcl : cs.length = m + 1 := by simpa using h.1.1
 obtain ⟨hcs, hsp, hfz, hgl, hc63, hgt, hsg⟩ := h.cells0
 unfold maxLen at hc63
 obtain ⟨i0, hi0, hz0, hzs, hzb⟩ := info_parts Try.info131
 have hdl : (cs.drop (i + 1)).length = m - i := by rw [List.length_drop, hcl]; omega
 obtain ⟨W1, hW1⟩ : ∃ W1, W1 = w.drew.setCells g i (cs.drop (i + 1)) := ⟨_, rfl⟩
 have zv : ∀ w, (zeroValue 131).run Try.prog w = .ok (.string ByteArray.empty) w := fun w => by kernel_rfl
 have hs1 : ∀ k, k < c → (W1.cell? ⟨g, k, none⟩).isSome = true := fun k hk => by
  rw [hW1]
  exact isSome_setCells g _ _ _ (fun j hj => by have := hsp (i + j) (by omega); rwa [Nat.zero_add] at this) _ (by have := hsp k hk; rwa [Nat.zero_add] at this)
 have hf1 : ∀ k, W1.frozen? ⟨g, k, none⟩ = false := fun k => by rw [hW1, World.frozen?_setCells]; have := hfz k; rwa [Nat.zero_add] at this
 have hcr : ∀ ty cc, (Builtin.clear_ #[84] ty #[.slice (some ⟨g, m, none⟩) 1 cc]).run Try.prog W1 = .ok (.tuple #[]) (W1.setCells g m [.string ByteArray.empty]) := fun ty cc =>
  Lib.run_clear_slice W1 _ _ ty _ Try.underlying84 zv rfl rfl g m 1 cc (by omega) (fun t ht => hs1 _ (by omega)) (fun t ht => hf1 _)
 have FIN : Hid (OwnsT own tg (W1.setCells g m [.string ByteArray.empty]) 131 1 (.slice (some ⟨g, 0, none⟩) m c) m (cs.take i ++ cs.drop (i + 1)) ∧ Upd own own (fun t => t = tg) w (W1.setCells g m [.string ByteArray.empty])) := by
  apply hide
  have o1 := OwnsT.setAll [.string ByteArray.empty] m _ _ (OwnsT.setAll (cs.drop (i + 1)) i w.drew _ h)
  have u1 := Upd.setCells (own := own) (own' := own) (may := fun t => t = tg) (w := w) (g := g) [.string ByteArray.empty] m _ (Upd.setCells (cs.drop (i + 1)) i w.drew ((Upd.refl own _ w).drew) hgt) hgt
  rw [← hW1] at o1 u1
  refine ⟨?_, u1⟩
  have o2 := o1.less
  rw [setAll_eq (cs.drop (i + 1)) cs i (by omega), setAll_eq [.string ByteArray.empty] _ m (by simp; omega)] at o2
  have e1 : ∀ (A B : List Value), A.length = m → (A ++ B).take m = A := fun A B hA => by rw [← hA]; simp
  rw [List.append_assoc, e1 _ _ (by simp; omega)] at o2
  rw [e1 (cs.take i ++ cs.drop (i + 1)) _ (by simp; omega)] at o2
  exact o2
 have hnews : ∀ (j : Nat) u, (cs.drop (i + 1))[j]? = some u → w.drew.cell? ((⟨g, i + 1, none⟩ : Addr).add j) = some u := fun j u hu => by
  rw [Addr.add_lit]; have := hcs (i + 1 + j) u (by rwa [List.getElem?_drop] at hu); rwa [Nat.zero_add] at this
 have hspare : ∀ j, j < (cs.drop (i + 1)).length → (w.drew.cell? ⟨g, 0 + i * 1 + j, none⟩).isSome = true ∧ w.drew.frozen? ⟨g, 0 + i * 1 + j, none⟩ = false := fun j hj => by
  rw [Nat.zero_add, Nat.mul_one]
  exact ⟨by have := hsp (i + j) (by omega); rwa [Nat.zero_add] at this, by have := hfz (i + j); rwa [Nat.zero_add] at this⟩
 have HN := hide hnews
 have HS := hide hspare
 have h1n : Hid (∀ u ∈ cs.drop (i + 1), u.oneCell' = true) := hide fun u hu => h1c u (List.mem_of_mem_drop hu)
 have HD := hide hdl
 have hz2 : ¬ ((i : Int) = (i : Int) + 1) := by omega
 have hin0 : (0 : Int) ≤ (i : Int) := by omega
 have hin1 : (i : Int) ≤ (m : Int) := by omega
 have hin2 : (m : Int) + 1 ≤ (c : Int) := by omega
 have hsum : i + (m - i) = m := by omega
 have hic : i ≤ c := by omega
 have hcm : ¬ (c = m) := by omega
 have hin3 : (0 : Int) ≤ (i : Int) + 1 := by omega
 have hin4 : (i : Int) + 1 ≤ (m : Int) + 1 := by omega
 have hw1 : IntKind.i64.wrap ((i : Int) + 1) = (i : Int) + 1 := by rw [IntKind.wrap_i64]; omega
 clear hnews hspare hdl hcs hsp hfz hs1 hf1 h1c h hsg hcl hgt
 by_cases hcj : c = i + 1
 ·obtain rfl : i = m := by omega
  subst hcj
  have hnil : cs.drop (i + 1) = [] := List.eq_nil_of_length_eq_zero (by rw [unhide HD]; omega)
  rw [hnil] at hW1
  subst hW1
  have hii : (i : Int) ≤ (i : Int) + 1 := by omega
  go_enter Try.func76, Try.ntmps76
  go_wp2_with fail
  go_region_law (refine step_append_room rfl _ _ 84 rfl 131 i0 1 Try.underlying84 hi0 hzs g 0 i (i + 1) (by simp [Act.eval, Act.put]) ⟨g, 0, none⟩ 0 0 [] (by simp [Act.eval, Act.put]) rfl (by intro _ _ h; simp at h) (by simp) (by omega) (by intro _ h; simp at h) ?_)
  go_wp2
  go_ret
  exact ⟨rfl, unhide FIN⟩
 ·subst hW1
  go_enter Try.func76, Try.ntmps76
  go_wp2_with fail
  go_region_law (refine step_append_room rfl _ _ 84 rfl 131 i0 1 Try.underlying84 hi0 hzs g 0 i c (by simp [Act.eval, Act.put]) ⟨g, i + 1, none⟩ (m - i) (c - (i + 1)) (cs.drop (i + 1)) (by simp [Act.eval, Act.put]) (by rw [Nat.mul_one]; exact unhide HD) (unhide HN) (unhide h1n) (by omega) (unhide HS) ?_)
  go_wp2
  go_ret
  exact ⟨rfl, unhide FIN⟩
end Go.Proofs.Ytemkgikncmhoaaa

