import Derived.Test.YtemkgikncmhoaaaM05
import Derived.Shelf.Spec.SlicesInsertGrow
namespace Go.Proofs.Ytemkgikncmhoaaa
open Go.RowKit

def setAll (xs : List Value) (o : Nat) : List Value → List Value
 | [] => xs
 | v :: r => setAll (xs.set o v) (o + 1) r
theorem setAll_eq (vs : List Value) : ∀ (xs : List Value) (o : Nat), o + vs.length ≤ xs.length → setAll xs o vs = xs.take o ++ vs ++ xs.drop (o + vs.length) := by
 induction vs with
 | nil => intro xs o h; simp [setAll]
 | cons v r ih =>
  intro xs o h
  simp only [List.length_cons] at h
  rw [setAll, ih _ _ (by simp; omega)]
  have e1 : (xs.set o v).take (o + 1) = xs.take o ++ [v] := by
   rw [List.take_succ_eq_append_getElem (by simp; omega)]
   simp [List.take_set_of_le]
  have e2 : (xs.set o v).drop (o + 1 + r.length) = xs.drop (o + (v :: r).length) := by
   rw [List.drop_set_of_lt (by omega)]
   congr 1
   simp; omega
  rw [e1, e2]
  simp

theorem OwnsT.setAll {own : Nat → Tag} {t : Tag} {e : TypeId} {g n cap : Nat} : ∀ (vs : List Value) (o : Nat) (w : World) (xs : List Value), OwnsT own t w e 1 (.slice (some ⟨g, 0, none⟩) n cap) n xs →
  OwnsT own t (w.setCells g o vs) e 1 (.slice (some ⟨g, 0, none⟩) n cap) n (setAll xs o vs)
 | [], _, _, _, h => h
 | v :: r, o, _, _, h => OwnsT.setAll r (o + 1) _ _ (h.set (i := o) v)
theorem Upd.setCells {own own' : Nat → Tag} {may : Tag → Prop} {w : World} {g : Nat} : ∀ (vs : List Value) (o : Nat) (w' : World), Upd own own' may w w' → may (own' g) → Upd own own' may w (w'.setCells g o vs)
 | [], _, _, h, _ => h
 | v :: r, o, _, h, hg => Upd.setCells r (o + 1) _ (h.setCell (p := ⟨g, o, none⟩) hg v) hg
/-- A row's spare, taken in. -/
theorem OwnsT.more {own : Nat → Tag} {t : Tag} {w : World} {e : TypeId} {g n cap : Nat} {xs : List Value} (h : OwnsT own t w e 1 (.slice (some ⟨g, 0, none⟩) n cap) n xs) (hroom : n + 1 ≤ cap) :
  ∃ y, OwnsT own t w e 1 (.slice (some ⟨g, 0, none⟩) (n + 1) cap) (n + 1) (xs ++ [y]) := by
 obtain ⟨⟨h0, h1⟩, h2⟩ := h
 rcases h1 with ⟨h, _⟩ | ⟨g', cap', cur, hv, hb, hg, h3, h4, h5, h6⟩
 ·simp at h
 ·simp only [Value.slice.injEq, Option.some.injEq, Addr.mk.injEq, true_and, and_true] at hv
  obtain ⟨rfl, rfl⟩ := hv
  simp only [Nat.mul_one] at h0 h5 h6
  refine ⟨cur[n]'(by omega), ⟨by simp [h0], .inr ⟨g, cap, cur, rfl, hb, hg, hroom, h4, by simpa using h5, ?_⟩⟩, h2⟩
  rw [Nat.mul_one, List.take_succ_eq_append_getElem (by simp; omega), h6]
  simp
theorem OwnsT.cells0 {own : Nat → Tag} {t : Tag} {w : World} {e : TypeId} {g n cap : Nat} {xs : List Value} (h : OwnsT own t w e 1 (.slice (some ⟨g, 0, none⟩) n cap) n xs) :
  (∀ j v, xs[j]? = some v → w.cell? ⟨g, 0 + j, none⟩ = some v) ∧ (∀ j, j < cap → (w.cell? ⟨g, 0 + j, none⟩).isSome = true) ∧ (∀ j, w.frozen? ⟨g, 0 + j, none⟩ = false) ∧ g < w.heap.size ∧ cap ≤ maxLen ∧ own g = t ∧ w.shape? g = some (e, cap) := by
 refine ⟨fun j v hv => by have := h.1.cells (g := g) rfl j v hv; rwa [Addr.add_lit] at this, ?_⟩
 rcases h.1.2 with ⟨h', _⟩ | ⟨g', cap', cur, hv, hb, hg, h3, h4, h5, h6⟩
 ·simp at h'
 ·simp only [Value.slice.injEq, Option.some.injEq, Addr.mk.injEq, true_and, and_true] at hv
  obtain ⟨rfl, rfl⟩ := hv
  simp only [Nat.mul_one] at h5
  refine ⟨fun j hj => ?_, fun j => by simp [World.frozen?, hg], (Array.getElem?_eq_some_iff.1 hg).1, h4, h.2 g rfl, by simp [World.shape?, hg, h5]⟩
  simp [World.cell?, hg, h5, hj]


def insV (cs : List Value) (i : Nat) (x : Value) : List Value := cs.take i ++ [x] ++ cs.drop i
theorem setAll_ins (xs cs : List Value) (i : Nat) (x : Value) (hl : xs.length = cs.length + 1) (hi : i ≤ cs.length) (hx : xs.take i = cs.take i) : setAll (setAll xs (i + 1) (cs.drop i)) i [x] = insV cs i x := by
 rw [setAll_eq (cs.drop i) xs (i + 1) (by simp; omega), setAll_eq [x] _ i (by simp; omega)]
 have h1 : (xs.take (i + 1)).take i = cs.take i := by rw [List.take_take, Nat.min_eq_left (by omega), hx]
 have h2 : xs.drop (i + 1 + (cs.drop i).length) = [] := List.drop_of_length_le (by simp; omega)
 rw [h2, List.append_nil, List.take_append_of_le_length (by simp; omega), h1]
 rw [show i + [x].length = (xs.take (i + 1)).length from by simp; omega, List.drop_left]
 rfl
theorem setAll_ins' (xs cs : List Value) (i : Nat) (x : Value) (hl : xs.length = cs.length + 1) (hi : i ≤ cs.length) (hx : xs.take i = cs.take i) : setAll (setAll xs i [x]) (i + 1) (cs.drop i) = insV cs i x := by
 rw [setAll_eq [x] xs i (by simp; omega), setAll_eq (cs.drop i) _ (i + 1) (by simp; omega)]
 have e : (xs.take i ++ [x]).length = i + 1 := by simp; omega
 have e2 : (xs.take i ++ [x] ++ xs.drop (i + [x].length)).length = cs.length + 1 := by simp; omega
 have e3 : (xs.take i ++ [x] ++ xs.drop (i + [x].length)).take (i + 1) = xs.take i ++ [x] := by rw [List.take_append_of_le_length (by omega), List.take_of_length_le (by omega)]
 have e4 : (xs.take i ++ [x] ++ xs.drop (i + [x].length)).drop (i + 1 + (cs.drop i).length) = [] := List.drop_of_length_le (by rw [e2, List.length_drop]; omega)
 rw [e3, e4, List.append_nil, hx]
 rfl

set_option maxHeartbeats 1600000 in
set_option maxRecDepth 100000 in
theorem ins_shift (own : Nat → Tag) (tg : Tag) (g n c i vb : Nat) (cs : List Value) (x : Value) (w : World) (h : OwnsT own tg w 5 1 (.slice (some ⟨g, 0, none⟩) n c) n cs) (hi : i < n) (hroom : n + 1 ≤ c)
  (hv : w.heap[vb]? = some (.cells #[x] 5 (0, 0))) (hvt : own vb ≠ tg) (h1c : ∀ v ∈ cs, v.oneCell' = true) (h1x : x.oneCell' = true) :
  Calls Try.prog 71 #[.slice (some ⟨g, 0, none⟩) n c, .int .i64 i, .slice (some ⟨vb, 0, none⟩) 1 1] w fun e w' =>
   e = .returned (.slice (some ⟨g, 0, none⟩) (n + 1) c) ∧ OwnsT own tg w' 5 1 (.slice (some ⟨g, 0, none⟩) (n + 1) c) (n + 1) (insV cs i x) ∧ Upd own own (fun t => t = tg) w w' := by
 obtain ⟨y, hy⟩ := h.more hroom
 have hcl : cs.length = n := by simpa using h.1.1
 obtain ⟨hcs, hsp, hfz, hgl, hc63, hgt, hsg⟩ := h.cells0
 have hvb : vb ≠ g := fun e => hvt (by rw [e]; exact hgt)
 have hvx : w.cell? ⟨vb, 0, none⟩ = some x := by simp [World.cell?, hv]
 have hsv : w.shape? vb = some (5, 1) := by simp [World.shape?, hv]
 have hfv : ∀ j, w.frozen? ⟨vb, j, none⟩ = false := fun j => by simp [World.frozen?, hv]
 have hsz : (Try.prog.info? 5).map (·.size) = some 1 := by
  obtain ⟨i0, hi0, _, h1, _⟩ := info_parts Try.info5
  rw [hi0]; simp [h1]
 have hzs : ∀ w, (Go.sizeOf 5).run Try.prog w = .ok 1 w := by
  obtain ⟨i0, hi0, _, h1, _⟩ := info_parts Try.info5
  intro w; simp [Go.sizeOf, typeInfo, hi0, h1]
 unfold maxLen at hc63
 have hov : ∀ lb cb, (callFunc 84 #[.slice (some ⟨vb, 0, none⟩) 1 1, .slice (some ⟨g, i + 1, none⟩) lb cb]).run Try.prog w = .ok (.value (.bool false)) w := fun lb cb => by
  rw [run_callFunc_extern Try.func84 (by kernel_rfl) (by kernel_rfl) (by kernel_rfl) (e := Extern.SlicesOverlaps.overlaps #[89, 89] #[4]) (by kernel_rfl),
   Lib.run_overlaps_apart w 89 4 5 Try.underlying89 1 hzs ⟨vb, 0, none⟩ ⟨g, i + 1, none⟩ 1 1 lb cb hvb _ _ _ _ hsv hsg (by omega) (hfv 0) (hfv 1)]
  rfl
 have hdl : (cs.drop i).length = n - i := by rw [List.length_drop, hcl]
 have hcp1 : ∀ ty dc sc, (Builtin.copy_ #[89, 89] ty #[.slice (some ⟨g, i + 1, none⟩) (n - i) dc, .slice (some ⟨g, i, none⟩) (n + 1 - i) sc]).run Try.prog w.drew = .ok (goInt (cs.drop i).length) (w.drew.setCells g (i + 1) (cs.drop i)) := fun ty dc sc =>
  run_copy_cells w.drew _ _ ty 5 g (i + 1) (n - i) dc ⟨g, i, none⟩ (n + 1 - i) sc (cs.drop i) Try.underlying89 hsz (by rw [hdl]; simp only [Nat.min_def]; split <;> omega)
   (fun j v hj => by rw [Addr.add_lit]; have := hcs (i + j) v (by rwa [List.getElem?_drop] at hj); rwa [Nat.zero_add] at this)
   (fun j hj => by have := hsp (i + 1 + j) (by omega); rwa [Nat.zero_add] at this) (fun j hj => by have := hfz (i + 1 + j); rwa [Nat.zero_add] at this) (fun v hv => h1c v (List.mem_of_mem_drop hv))
 obtain ⟨W1, hW1⟩ : ∃ W1, W1 = w.drew.setCells g (i + 1) (cs.drop i) := ⟨_, rfl⟩
 have hsp1 : ∀ k, k < n + 1 → (W1.cell? ⟨g, k, none⟩).isSome = true := fun k hk => by
  rw [hW1]
  exact isSome_setCells g _ _ _ (fun j hj => by have := hsp (i + 1 + j) (by omega); rwa [Nat.zero_add] at this) _ (by have := hsp k (by omega); rwa [Nat.zero_add] at this)
 have hcp2 : ∀ (W : World), (∀ q, W.cell? q = W1.cell? q) → (∀ q, W.frozen? q = W1.frozen? q) → ∀ ty dc, (Builtin.copy_ #[89, 89] ty #[.slice (some ⟨g, i, none⟩) (n + 1 - i) dc, .slice (some ⟨vb, 0, none⟩) 1 1]).run Try.prog W = .ok (goInt [x].length) (W.setCells g i [x]) := fun W hWc hWf ty dc =>
  run_copy_cells W _ _ ty 5 g i (n + 1 - i) dc ⟨vb, 0, none⟩ 1 1 [x] Try.underlying89 hsz (by simp only [Nat.min_def, List.length_cons, List.length_nil]; split <;> omega)
   (fun j v hj => by
    match j, hj with
    | 0, hj =>
     simp at hj; subst hj
     rw [Addr.add_lit, hWc, hW1, World.cell?_setCells_out g _ _ _ _ (fun h _ => absurd h hvb)]
     exact hvx)
   (fun j hj => by rw [hWc]; exact hsp1 _ (by simp at hj; omega)) (fun j hj => by rw [hWf, hW1, World.frozen?_setCells]; have := hfz (i + j); rwa [Nat.zero_add] at this) (by intro v hv; simp at hv; subst hv; exact h1x)
 have FIN : Hid (∀ W : World, (∀ k : Nat, W.heap[k]? = W1.heap[k]?) → W.os = w.os → W.tape = w.tape → W.output = w.output → OwnsT own tg (W.setCells g i [x]) 5 1 (.slice (some ⟨g, 0, none⟩) (n + 1) c) (n + 1) (insV cs i x) ∧ Upd own own (fun t => t = tg) w (W.setCells g i [x])) := by
  apply hide
  intro W hW ho ht hout
  have o1 := OwnsT.setAll (cs.drop i) (i + 1) w.drew _ hy
  rw [← hW1] at o1
  have u1 := Upd.setCells (own := own) (own' := own) (may := fun t => t = tg) (w := w) (g := g) (cs.drop i) (i + 1) w.drew ((Upd.refl own _ w).drew) hgt
  rw [← hW1] at u1
  have hsz : W.heap.size = W1.heap.size := by
   have e : W.heap = W1.heap := Array.ext_getElem? hW
   rw [e]
  have u2 : Upd own own (fun t => t = tg) w W := ⟨ho, ht, hout, by rw [hsz]; exact u1.size, fun k hk hn => (hW k).trans (u1.block k hk hn), u1.tags⟩
  have o2 : OwnsT own tg W 5 1 (.slice (some ⟨g, 0, none⟩) (n + 1) c) (n + 1) (setAll (cs ++ [y]) (i + 1) (cs.drop i)) := by
   obtain ⟨⟨p0, p1⟩, p2⟩ := o1
   refine ⟨⟨p0, ?_⟩, p2⟩
   rcases p1 with p | ⟨g', cap', cur, q1, q2, q3, q4⟩
   ·exact .inl p
   ·exact .inr ⟨g', cap', cur, q1, q2, (hW g').trans q3, q4⟩
  have o3 := OwnsT.setAll [x] i W _ o2
  rw [setAll_ins (cs ++ [y]) cs i x (by simp) (by omega) (by rw [List.take_append_of_le_length (by omega)])] at o3
  exact ⟨o3, Upd.setCells [x] i W u2 hgt⟩
 rw [← hW1] at hcp1
 have hz2 : ¬ ((i : Int) = (n : Int)) := by omega
 have hz3 : ¬ ((c : Int) < (n : Int) + 1) := by omega
 have hw1 : IntKind.i64.wrap ((i : Int) + 1) = (i : Int) + 1 := by rw [IntKind.wrap_i64]; omega
 have hb2 : ¬ (c = i + 1) := by omega
 have hb4 : ¬ (c = i) := by omega
 have hin : (i : Int) ≤ (n : Int) := by omega
 have hin0 : (0 : Int) ≤ (i : Int) := by omega
 have hin1 : (0 : Int) ≤ (i : Int) + 1 := by omega
 have hin2 : (i : Int) + 1 ≤ (n : Int) + 1 := by omega
 have hin3 : (i : Int) ≤ (n : Int) + 1 := by omega
 have hnc : (n : Int) + 1 ≤ (c : Int) := by omega
 have hos : W1.os = w.os ∧ W1.tape = w.tape ∧ W1.output = w.output := by
  have u1 := Upd.setCells (own := own) (own' := own) (may := fun _ => True) (w := w) (g := g) (cs.drop i) (i + 1) w.drew ((Upd.refl own _ w).drew) trivial
  rw [hW1]; exact ⟨u1.os, u1.tape, u1.output⟩
 have HOS := hide hos
 clear hos hy hcs hsp hfz hsp1 h1c h1x h hv hvt hsg hsv hfv hvx hcl hdl hW1 hgt
 go_enter Try.func71, Try.ntmps71
 go_wp2_with (simp only [hov])
 go_region_law (refine step_copy_runI rfl _ _ 89 89 rfl _ _ (by simp [Act.eval, Act.put]) (by simp [Act.eval, Act.put]) (hcp1 _ _ _) ?_)
 go_wp2_with (at_builtin; go_must (refine wpList_copy_runI _ rfl _ _ 89 89 rfl _ _ rfl rfl (hcp2 _ (fun _ => rfl) (fun _ => rfl) _ _) ?_))
 go_ret
 obtain ⟨x1, x2, x3⟩ := unhide HOS
 exact ⟨rfl, unhide FIN _ (fun _ => rfl) x1 x2 x3⟩
end Go.Proofs.Ytemkgikncmhoaaa

