import Derived.Test.YtemkgikncmhoaaaM29
import Derived.Test.YtemkgikncmhoaaaM30
import Derived.Test.YtemkgikncmhoaaaM31
/-
  weave: (*Room).Fate. Own work.
-/
namespace Go.Proofs.Ytemkgikncmhoaaa
open Go.RowKit
attribute [local go_sem ↓] Go.wp_at_zero Go.wp_at_succ

theorem eqNil (w : World) : (binOp BinOp.eql 95 .nilFunc .nilFunc).run Try.prog w = .ok (.bool true) w := by kernel_rfl
theorem eqFn (f : Nat) (w : World) : (binOp BinOp.eql 95 (.func (.func f) #[] #[]) .nilFunc).run Try.prog w = .ok (.bool false) w := by kernel_rfl
theorem lookOdd {w : World} {mb n : Nat} (hm : w.heap[mb]? = some (.map (fateEnts 4) n)) {k : Int} (hk : k < 0 ∨ 3 < k) :
    (Instr.lookup 96 (.map (some mb)) (.int .i64 k) false).run Try.prog w = .ok .nilFunc w := by
  have h := look4 k
  rw [if_neg (by omega), if_neg (by omega), if_neg (by omega), if_neg (by omega)] at h
  exact lookFate hm k none h
theorem lookYes {w : World} {mb n : Nat} (hm : w.heap[mb]? = some (.map (fateEnts 4) n)) {k : Nat} (hk : k < 4) :
    (Instr.lookup 96 (.map (some mb)) (.int .i64 k) false).run Try.prog w = .ok (fateFn k) w := by
  have h : Instr.findNow (.int .i64) (.int .i64 k) (fateEnts 4).toList 0 = some (some (k, fateFn k)) := by
    match k, hk with
    | 0, _ => rfl
    | 1, _ => rfl
    | 2, _ => rfl
    | 3, _ => rfl
  exact lookFate hm k _ h
attribute [local go_sem] eqNil eqFn

set_option maxRecDepth 100000 in
set_option maxHeartbeats 1600000 in
/-- No such client. -/
theorem xFate_none (b mb : Nat) (c n k : Int) (s : Bool) (w : World) (c1 : w.cell? ⟨b, 1, none⟩ = some (.map (some mb))) (hmb : mb < w.heap.size)
    (lk : ∀ w' : World, w'.heap[mb]? = w.heap[mb]? → (Instr.lookup 74 (.map (some mb)) (.agg #[.int .i64 c, .bool s]) false).run Try.prog w' = .ok (.pointer none) w') :
    Calls Try.prog 27 #[.pointer (some ⟨b, 0, none⟩), .int .i64 c, .bool s, .int .i64 n, .int .i64 k] w fun e w' => e = .returned (.int .i64 2) ∧ Below w.heap.size w w' := by
  have hB : Below w.heap.size w (w.alloc (Obj.cells #[Value.int IntKind.i64 c, Value.bool s] 80)) := (Below.refl _ _).alloc (Nat.le_refl _) _
  have hh := heap_alloc_new w (Obj.cells #[Value.int IntKind.i64 c, Value.bool s] 80)
  obtain ⟨W, HW⟩ : ∃ W, Hid (w.alloc (Obj.cells #[Value.int IntKind.i64 c, Value.bool s] 80) = W) := ⟨_, rfl⟩
  obtain ⟨N, HN⟩ : ∃ N, Hid (w.heap.size = N) := ⟨_, rfl⟩
  rw [unhide HW] at hh hB
  rw [unhide HN] at hh
  have b1 := below_cell hB c1
  have x0 : W.cell? ⟨N, 0, none⟩ = some (.int .i64 c) := by simp [World.cell?, hh]
  have x1 : W.cell? ⟨N, 1, none⟩ = some (.bool s) := by simp [World.cell?, hh]
  have lkW := lk W.drew (hB.block mb hmb)
  have HB := hide hB.drew
  clear hh hB lk c1 hmb
  go_enter Try.func27, Try.ntmps27
  go_wp2_with fail
  rw [unhide HW, unhide HN]
  clear HW
  go_region_held3 (fun w' => w'.cell? ⟨b, 1, none⟩ = some (.map (some mb)) ∧ w'.cell? ⟨N, 0, none⟩ = some (.int .i64 c) ∧ w'.cell? ⟨N, 1, none⟩ = some (.bool s)) (first | exact ⟨b1, x0, x1⟩) (fail)
  all_goals go_wp2_with fail
  all_goals
    go_ret
    exact ⟨rfl, unhide HB⟩

set_option maxRecDepth 100000 in
set_option maxHeartbeats 1600000 in
/-- No such datagram. -/
theorem xFate_far (b mb eb i L cap : Nat) (a : Option Addr) (n k : Int) (s : Bool) (w : World) (c1 : w.cell? ⟨b, 1, none⟩ = some (.map (some mb))) (hmb : mb < w.heap.size)
    (lk : ∀ w' : World, w'.heap[mb]? = w.heap[mb]? → (Instr.lookup 74 (.map (some mb)) (.agg #[.int .i64 i, .bool s]) false).run Try.prog w' = .ok (.pointer (some ⟨eb, 0, none⟩)) w') (c8 : w.cell? ⟨eb, 8, none⟩ = some (.slice a L cap)) (hn : n < 0 ∨ (L : Int) ≤ n) :
    Calls Try.prog 27 #[.pointer (some ⟨b, 0, none⟩), .int .i64 i, .bool s, .int .i64 n, .int .i64 k] w fun e w' => e = .returned (.int .i64 7) ∧ Below w.heap.size w w' := by
  have hB : Below w.heap.size w (w.alloc (Obj.cells #[Value.int IntKind.i64 i, Value.bool s] 80)) := (Below.refl _ _).alloc (Nat.le_refl _) _
  have hh := heap_alloc_new w (Obj.cells #[Value.int IntKind.i64 i, Value.bool s] 80)
  obtain ⟨W, HW⟩ : ∃ W, Hid (w.alloc (Obj.cells #[Value.int IntKind.i64 i, Value.bool s] 80) = W) := ⟨_, rfl⟩
  obtain ⟨N, HN⟩ : ∃ N, Hid (w.heap.size = N) := ⟨_, rfl⟩
  rw [unhide HW] at hh hB
  rw [unhide HN] at hh
  have b1 := below_cell hB c1
  have x0 : W.cell? ⟨N, 0, none⟩ = some (.int .i64 i) := by simp [World.cell?, hh]
  have x1 : W.cell? ⟨N, 1, none⟩ = some (.bool s) := by simp [World.cell?, hh]
  have lkW := lk W.drew (hB.block mb hmb)
  have HB := hide hB.drew
  have e8 := below_cell hB c8
  clear hh hB lk c1 hmb c8
  go_enter Try.func27, Try.ntmps27
  go_wp2_with fail
  rw [unhide HW, unhide HN]
  clear HW
  go_region_held3 (fun w' => w'.cell? ⟨b, 1, none⟩ = some (.map (some mb)) ∧ w'.cell? ⟨N, 0, none⟩ = some (.int .i64 i) ∧ w'.cell? ⟨N, 1, none⟩ = some (.bool s)) (first | exact ⟨b1, x0, x1⟩) (fail)
  all_goals
    by_cases hn0 : n < 0
    · go_wp2_with fail
      go_ret
      exact ⟨rfl, unhide HB⟩
    · have hn1 : (L : Int) ≤ n := by omega
      go_wp2_with fail
      go_ret
      exact ⟨rfl, unhide HB⟩

set_option maxRecDepth 100000 in
set_option maxHeartbeats 1600000 in
/-- No such fate. -/
theorem xFate_odd (b mb eb i L cap : Nat) (a : Option Addr) (n k : Int) (s : Bool) (w : World) (c1 : w.cell? ⟨b, 1, none⟩ = some (.map (some mb))) (hmb : mb < w.heap.size)
    (lk : ∀ w' : World, w'.heap[mb]? = w.heap[mb]? → (Instr.lookup 74 (.map (some mb)) (.agg #[.int .i64 i, .bool s]) false).run Try.prog w' = .ok (.pointer (some ⟨eb, 0, none⟩)) w') (c8 : w.cell? ⟨eb, 8, none⟩ = some (.slice a L cap)) (hn0 : 0 ≤ n) (hn1 : n < (L : Int)) (hk : k < 0 ∨ 3 < k) :
    Calls Try.prog 27 #[.pointer (some ⟨b, 0, none⟩), .int .i64 i, .bool s, .int .i64 n, .int .i64 k] w fun e w' => e = .returned (.int .i64 1) ∧ Below w.heap.size w w' := by
  have hB : Below w.heap.size w (w.alloc (Obj.cells #[Value.int IntKind.i64 i, Value.bool s] 80)) := (Below.refl _ _).alloc (Nat.le_refl _) _
  have hh := heap_alloc_new w (Obj.cells #[Value.int IntKind.i64 i, Value.bool s] 80)
  obtain ⟨W, HW⟩ : ∃ W, Hid (w.alloc (Obj.cells #[Value.int IntKind.i64 i, Value.bool s] 80) = W) := ⟨_, rfl⟩
  obtain ⟨N, HN⟩ : ∃ N, Hid (w.heap.size = N) := ⟨_, rfl⟩
  rw [unhide HW] at hh hB
  rw [unhide HN] at hh
  have b1 := below_cell hB c1
  have x0 : W.cell? ⟨N, 0, none⟩ = some (.int .i64 i) := by simp [World.cell?, hh]
  have x1 : W.cell? ⟨N, 1, none⟩ = some (.bool s) := by simp [World.cell?, hh]
  have lkW := lk W.drew (hB.block mb hmb)
  have HB := hide hB.drew
  have e8 := below_cell hB c8
  have HFT : Hid (Calls Try.prog 42 #[] W.drew fun e w' => e = .returned (.map (some W.heap.size)) ∧ ((Instr.lookup 96 (.map (some W.heap.size)) (.int .i64 k) false).run Try.prog w' = .ok .nilFunc w') ∧ ((Instr.lookup 96 (.map (some W.heap.size)) (.int .i64 k) false).run Try.prog w'.drew = .ok .nilFunc w'.drew) ∧ (w'.cell? ⟨N, 0, none⟩ = some (.int .i64 i) ∧ w'.cell? ⟨N, 1, none⟩ = some (.bool s)) ∧ Hid (Below w.heap.size w w')) := by
    apply hide
    refine (xfates W.drew).mono ?_
    rintro e w' ⟨rfl, hf⟩
    have hb : Below W.heap.size W w' := ((Below.refl W.heap.size W).drew).trans hf.1
    exact ⟨rfl, lookOdd hf.2 hk, lookOdd (w := w'.drew) hf.2 hk, ⟨below_cell hb x0, below_cell hb x1⟩, hide (hB.trans (hb.mono hB.size))⟩
  clear hh hB lk c1 hmb c8
  go_enter Try.func27, Try.ntmps27
  go_wp2_with fail
  rw [unhide HW, unhide HN]
  clear HW
  go_region_held3 (fun w' => w'.cell? ⟨b, 1, none⟩ = some (.map (some mb)) ∧ w'.cell? ⟨N, 0, none⟩ = some (.int .i64 i) ∧ w'.cell? ⟨N, 1, none⟩ = some (.bool s)) (first | exact ⟨b1, x0, x1⟩) (fail)
  all_goals go_wp2_with (first | (go_at_call 42; with_reducible refine (unhide HFT).mono ?_; rintro e w2 ⟨rfl, l1, l2, ⟨y0, y1⟩, hb2⟩))
  all_goals
    go_ret
    exact ⟨rfl, unhide hb2⟩

set_option maxRecDepth 100000 in
set_option maxHeartbeats 1600000 in
theorem xFate_0 (b mb eb i n L cap : Nat) (a : Option Addr) (s : Bool) (w : World) (code : Int) (P : World → Prop) (c1 : w.cell? ⟨b, 1, none⟩ = some (.map (some mb))) (hmb : mb < w.heap.size)
    (lk : ∀ w' : World, w'.heap[mb]? = w.heap[mb]? → (Instr.lookup 74 (.map (some mb)) (.agg #[.int .i64 i, .bool s]) false).run Try.prog w' = .ok (.pointer (some ⟨eb, 0, none⟩)) w') (c8 : w.cell? ⟨eb, 8, none⟩ = some (.slice a L cap)) (hn : n < L)
    (hcall : ∀ w1, Below w.heap.size w w1 → Calls Try.prog 54 #[.agg #[.pointer (some ⟨b, 0, none⟩), .int .i64 i, .bool s, .int .i64 n]] w1 fun e w' => e = .returned (.int .i64 code) ∧ P w') :
    Calls Try.prog 27 #[.pointer (some ⟨b, 0, none⟩), .int .i64 i, .bool s, .int .i64 n, .int .i64 0] w fun e w' => e = .returned (.int .i64 code) ∧ P w' := by
  have hn0 : (0 : Int) ≤ (n : Int) := by omega
  have hn1 : (n : Int) < (L : Int) := by omega
  have hB : Below w.heap.size w (w.alloc (Obj.cells #[Value.int IntKind.i64 i, Value.bool s] 80)) := (Below.refl _ _).alloc (Nat.le_refl _) _
  have hh := heap_alloc_new w (Obj.cells #[Value.int IntKind.i64 i, Value.bool s] 80)
  obtain ⟨W, HW⟩ : ∃ W, Hid (w.alloc (Obj.cells #[Value.int IntKind.i64 i, Value.bool s] 80) = W) := ⟨_, rfl⟩
  obtain ⟨N, HN⟩ : ∃ N, Hid (w.heap.size = N) := ⟨_, rfl⟩
  rw [unhide HW] at hh hB
  rw [unhide HN] at hh
  have b1 := below_cell hB c1
  have x0 : W.cell? ⟨N, 0, none⟩ = some (.int .i64 i) := by simp [World.cell?, hh]
  have x1 : W.cell? ⟨N, 1, none⟩ = some (.bool s) := by simp [World.cell?, hh]
  have lkW := lk W.drew (hB.block mb hmb)
  have HB := hide hB.drew
  have e8 := below_cell hB c8
  have HFT : Hid (Calls Try.prog 42 #[] W.drew fun e w' => e = .returned (.map (some W.heap.size)) ∧ ((Instr.lookup 96 (.map (some W.heap.size)) (.int .i64 0) false).run Try.prog w' = .ok (.func (.func 54) #[] #[]) w') ∧ ((Instr.lookup 96 (.map (some W.heap.size)) (.int .i64 0) false).run Try.prog w'.drew = .ok (.func (.func 54) #[] #[]) w'.drew) ∧ (w'.cell? ⟨N, 0, none⟩ = some (.int .i64 i) ∧ w'.cell? ⟨N, 1, none⟩ = some (.bool s)) ∧ Hid (Below w.heap.size w w')) := by
    apply hide
    refine (xfates W.drew).mono ?_
    rintro e w' ⟨rfl, hf⟩
    have hb : Below W.heap.size W w' := ((Below.refl W.heap.size W).drew).trans hf.1
    exact ⟨rfl, lookYes (k := 0) hf.2 (by omega), lookYes (w := w'.drew) (k := 0) hf.2 (by omega), ⟨below_cell hb x0, below_cell hb x1⟩, hide (hB.trans (hb.mono hB.size))⟩
  have HC : Hid (∀ w2, Hid (Below w.heap.size w w2) → Calls Try.prog 54 #[.agg #[.pointer (some ⟨b, 0, none⟩), .int .i64 i, .bool s, .int .i64 n]] w2 fun e w' => e = .returned (.int .i64 code) ∧ P w') := hide fun w2 h2 => hcall w2 (unhide h2)
  have HCd : Hid (∀ w2, Hid (Below w.heap.size w w2) → Calls Try.prog 54 #[.agg #[.pointer (some ⟨b, 0, none⟩), .int .i64 i, .bool s, .int .i64 n]] w2.drew fun e w' => e = .returned (.int .i64 code) ∧ P w') := hide fun w2 h2 => hcall w2.drew (unhide h2).drew
  clear hh hB lk c1 hmb c8 hcall
  go_enter Try.func27, Try.ntmps27
  go_wp2_with fail
  rw [unhide HW, unhide HN]
  clear HW
  go_region_held3 (fun w' => w'.cell? ⟨b, 1, none⟩ = some (.map (some mb)) ∧ w'.cell? ⟨N, 0, none⟩ = some (.int .i64 i) ∧ w'.cell? ⟨N, 1, none⟩ = some (.bool s)) (first | exact ⟨b1, x0, x1⟩) (fail)
  all_goals go_wp2_with (first | (go_at_call 42; with_reducible refine (unhide HFT).mono ?_; rintro e w2 ⟨rfl, l1, l2, ⟨y0, y1⟩, hb2⟩) | (go_at_call 54; with_reducible refine (unhide HC _ hb2).mono ?_; rintro e w3 ⟨rfl, hF⟩) | (go_at_call 54; with_reducible refine (unhide HCd _ hb2).mono ?_; rintro e w3 ⟨rfl, hF⟩))
  all_goals
    go_ret
    exact ⟨rfl, hF⟩

set_option maxRecDepth 100000 in
set_option maxHeartbeats 1600000 in
theorem xFate_1 (b mb eb i n L cap : Nat) (a : Option Addr) (s : Bool) (w : World) (code : Int) (P : World → Prop) (c1 : w.cell? ⟨b, 1, none⟩ = some (.map (some mb))) (hmb : mb < w.heap.size)
    (lk : ∀ w' : World, w'.heap[mb]? = w.heap[mb]? → (Instr.lookup 74 (.map (some mb)) (.agg #[.int .i64 i, .bool s]) false).run Try.prog w' = .ok (.pointer (some ⟨eb, 0, none⟩)) w') (c8 : w.cell? ⟨eb, 8, none⟩ = some (.slice a L cap)) (hn : n < L)
    (hcall : ∀ w1, Below w.heap.size w w1 → Calls Try.prog 55 #[.agg #[.pointer (some ⟨b, 0, none⟩), .int .i64 i, .bool s, .int .i64 n]] w1 fun e w' => e = .returned (.int .i64 code) ∧ P w') :
    Calls Try.prog 27 #[.pointer (some ⟨b, 0, none⟩), .int .i64 i, .bool s, .int .i64 n, .int .i64 1] w fun e w' => e = .returned (.int .i64 code) ∧ P w' := by
  have hn0 : (0 : Int) ≤ (n : Int) := by omega
  have hn1 : (n : Int) < (L : Int) := by omega
  have hB : Below w.heap.size w (w.alloc (Obj.cells #[Value.int IntKind.i64 i, Value.bool s] 80)) := (Below.refl _ _).alloc (Nat.le_refl _) _
  have hh := heap_alloc_new w (Obj.cells #[Value.int IntKind.i64 i, Value.bool s] 80)
  obtain ⟨W, HW⟩ : ∃ W, Hid (w.alloc (Obj.cells #[Value.int IntKind.i64 i, Value.bool s] 80) = W) := ⟨_, rfl⟩
  obtain ⟨N, HN⟩ : ∃ N, Hid (w.heap.size = N) := ⟨_, rfl⟩
  rw [unhide HW] at hh hB
  rw [unhide HN] at hh
  have b1 := below_cell hB c1
  have x0 : W.cell? ⟨N, 0, none⟩ = some (.int .i64 i) := by simp [World.cell?, hh]
  have x1 : W.cell? ⟨N, 1, none⟩ = some (.bool s) := by simp [World.cell?, hh]
  have lkW := lk W.drew (hB.block mb hmb)
  have HB := hide hB.drew
  have e8 := below_cell hB c8
  have HFT : Hid (Calls Try.prog 42 #[] W.drew fun e w' => e = .returned (.map (some W.heap.size)) ∧ ((Instr.lookup 96 (.map (some W.heap.size)) (.int .i64 1) false).run Try.prog w' = .ok (.func (.func 55) #[] #[]) w') ∧ ((Instr.lookup 96 (.map (some W.heap.size)) (.int .i64 1) false).run Try.prog w'.drew = .ok (.func (.func 55) #[] #[]) w'.drew) ∧ (w'.cell? ⟨N, 0, none⟩ = some (.int .i64 i) ∧ w'.cell? ⟨N, 1, none⟩ = some (.bool s)) ∧ Hid (Below w.heap.size w w')) := by
    apply hide
    refine (xfates W.drew).mono ?_
    rintro e w' ⟨rfl, hf⟩
    have hb : Below W.heap.size W w' := ((Below.refl W.heap.size W).drew).trans hf.1
    exact ⟨rfl, lookYes (k := 1) hf.2 (by omega), lookYes (w := w'.drew) (k := 1) hf.2 (by omega), ⟨below_cell hb x0, below_cell hb x1⟩, hide (hB.trans (hb.mono hB.size))⟩
  have HC : Hid (∀ w2, Hid (Below w.heap.size w w2) → Calls Try.prog 55 #[.agg #[.pointer (some ⟨b, 0, none⟩), .int .i64 i, .bool s, .int .i64 n]] w2 fun e w' => e = .returned (.int .i64 code) ∧ P w') := hide fun w2 h2 => hcall w2 (unhide h2)
  have HCd : Hid (∀ w2, Hid (Below w.heap.size w w2) → Calls Try.prog 55 #[.agg #[.pointer (some ⟨b, 0, none⟩), .int .i64 i, .bool s, .int .i64 n]] w2.drew fun e w' => e = .returned (.int .i64 code) ∧ P w') := hide fun w2 h2 => hcall w2.drew (unhide h2).drew
  clear hh hB lk c1 hmb c8 hcall
  go_enter Try.func27, Try.ntmps27
  go_wp2_with fail
  rw [unhide HW, unhide HN]
  clear HW
  go_region_held3 (fun w' => w'.cell? ⟨b, 1, none⟩ = some (.map (some mb)) ∧ w'.cell? ⟨N, 0, none⟩ = some (.int .i64 i) ∧ w'.cell? ⟨N, 1, none⟩ = some (.bool s)) (first | exact ⟨b1, x0, x1⟩) (fail)
  all_goals go_wp2_with (first | (go_at_call 42; with_reducible refine (unhide HFT).mono ?_; rintro e w2 ⟨rfl, l1, l2, ⟨y0, y1⟩, hb2⟩) | (go_at_call 55; with_reducible refine (unhide HC _ hb2).mono ?_; rintro e w3 ⟨rfl, hF⟩) | (go_at_call 55; with_reducible refine (unhide HCd _ hb2).mono ?_; rintro e w3 ⟨rfl, hF⟩))
  all_goals
    go_ret
    exact ⟨rfl, hF⟩

set_option maxRecDepth 100000 in
set_option maxHeartbeats 1600000 in
theorem xFate_2 (b mb eb i n L cap : Nat) (a : Option Addr) (s : Bool) (w : World) (code : Int) (P : World → Prop) (c1 : w.cell? ⟨b, 1, none⟩ = some (.map (some mb))) (hmb : mb < w.heap.size)
    (lk : ∀ w' : World, w'.heap[mb]? = w.heap[mb]? → (Instr.lookup 74 (.map (some mb)) (.agg #[.int .i64 i, .bool s]) false).run Try.prog w' = .ok (.pointer (some ⟨eb, 0, none⟩)) w') (c8 : w.cell? ⟨eb, 8, none⟩ = some (.slice a L cap)) (hn : n < L)
    (hcall : ∀ w1, Below w.heap.size w w1 → Calls Try.prog 56 #[.agg #[.pointer (some ⟨b, 0, none⟩), .int .i64 i, .bool s, .int .i64 n]] w1 fun e w' => e = .returned (.int .i64 code) ∧ P w') :
    Calls Try.prog 27 #[.pointer (some ⟨b, 0, none⟩), .int .i64 i, .bool s, .int .i64 n, .int .i64 2] w fun e w' => e = .returned (.int .i64 code) ∧ P w' := by
  have hn0 : (0 : Int) ≤ (n : Int) := by omega
  have hn1 : (n : Int) < (L : Int) := by omega
  have hB : Below w.heap.size w (w.alloc (Obj.cells #[Value.int IntKind.i64 i, Value.bool s] 80)) := (Below.refl _ _).alloc (Nat.le_refl _) _
  have hh := heap_alloc_new w (Obj.cells #[Value.int IntKind.i64 i, Value.bool s] 80)
  obtain ⟨W, HW⟩ : ∃ W, Hid (w.alloc (Obj.cells #[Value.int IntKind.i64 i, Value.bool s] 80) = W) := ⟨_, rfl⟩
  obtain ⟨N, HN⟩ : ∃ N, Hid (w.heap.size = N) := ⟨_, rfl⟩
  rw [unhide HW] at hh hB
  rw [unhide HN] at hh
  have b1 := below_cell hB c1
  have x0 : W.cell? ⟨N, 0, none⟩ = some (.int .i64 i) := by simp [World.cell?, hh]
  have x1 : W.cell? ⟨N, 1, none⟩ = some (.bool s) := by simp [World.cell?, hh]
  have lkW := lk W.drew (hB.block mb hmb)
  have HB := hide hB.drew
  have e8 := below_cell hB c8
  have HFT : Hid (Calls Try.prog 42 #[] W.drew fun e w' => e = .returned (.map (some W.heap.size)) ∧ ((Instr.lookup 96 (.map (some W.heap.size)) (.int .i64 2) false).run Try.prog w' = .ok (.func (.func 56) #[] #[]) w') ∧ ((Instr.lookup 96 (.map (some W.heap.size)) (.int .i64 2) false).run Try.prog w'.drew = .ok (.func (.func 56) #[] #[]) w'.drew) ∧ (w'.cell? ⟨N, 0, none⟩ = some (.int .i64 i) ∧ w'.cell? ⟨N, 1, none⟩ = some (.bool s)) ∧ Hid (Below w.heap.size w w')) := by
    apply hide
    refine (xfates W.drew).mono ?_
    rintro e w' ⟨rfl, hf⟩
    have hb : Below W.heap.size W w' := ((Below.refl W.heap.size W).drew).trans hf.1
    exact ⟨rfl, lookYes (k := 2) hf.2 (by omega), lookYes (w := w'.drew) (k := 2) hf.2 (by omega), ⟨below_cell hb x0, below_cell hb x1⟩, hide (hB.trans (hb.mono hB.size))⟩
  have HC : Hid (∀ w2, Hid (Below w.heap.size w w2) → Calls Try.prog 56 #[.agg #[.pointer (some ⟨b, 0, none⟩), .int .i64 i, .bool s, .int .i64 n]] w2 fun e w' => e = .returned (.int .i64 code) ∧ P w') := hide fun w2 h2 => hcall w2 (unhide h2)
  have HCd : Hid (∀ w2, Hid (Below w.heap.size w w2) → Calls Try.prog 56 #[.agg #[.pointer (some ⟨b, 0, none⟩), .int .i64 i, .bool s, .int .i64 n]] w2.drew fun e w' => e = .returned (.int .i64 code) ∧ P w') := hide fun w2 h2 => hcall w2.drew (unhide h2).drew
  clear hh hB lk c1 hmb c8 hcall
  go_enter Try.func27, Try.ntmps27
  go_wp2_with fail
  rw [unhide HW, unhide HN]
  clear HW
  go_region_held3 (fun w' => w'.cell? ⟨b, 1, none⟩ = some (.map (some mb)) ∧ w'.cell? ⟨N, 0, none⟩ = some (.int .i64 i) ∧ w'.cell? ⟨N, 1, none⟩ = some (.bool s)) (first | exact ⟨b1, x0, x1⟩) (fail)
  all_goals go_wp2_with (first | (go_at_call 42; with_reducible refine (unhide HFT).mono ?_; rintro e w2 ⟨rfl, l1, l2, ⟨y0, y1⟩, hb2⟩) | (go_at_call 56; with_reducible refine (unhide HC _ hb2).mono ?_; rintro e w3 ⟨rfl, hF⟩) | (go_at_call 56; with_reducible refine (unhide HCd _ hb2).mono ?_; rintro e w3 ⟨rfl, hF⟩))
  all_goals
    go_ret
    exact ⟨rfl, hF⟩

set_option maxRecDepth 100000 in
set_option maxHeartbeats 1600000 in
theorem xFate_3 (b mb eb i n L cap : Nat) (a : Option Addr) (s : Bool) (w : World) (code : Int) (P : World → Prop) (c1 : w.cell? ⟨b, 1, none⟩ = some (.map (some mb))) (hmb : mb < w.heap.size)
    (lk : ∀ w' : World, w'.heap[mb]? = w.heap[mb]? → (Instr.lookup 74 (.map (some mb)) (.agg #[.int .i64 i, .bool s]) false).run Try.prog w' = .ok (.pointer (some ⟨eb, 0, none⟩)) w') (c8 : w.cell? ⟨eb, 8, none⟩ = some (.slice a L cap)) (hn : n < L)
    (hcall : ∀ w1, Below w.heap.size w w1 → Calls Try.prog 57 #[.agg #[.pointer (some ⟨b, 0, none⟩), .int .i64 i, .bool s, .int .i64 n]] w1 fun e w' => e = .returned (.int .i64 code) ∧ P w') :
    Calls Try.prog 27 #[.pointer (some ⟨b, 0, none⟩), .int .i64 i, .bool s, .int .i64 n, .int .i64 3] w fun e w' => e = .returned (.int .i64 code) ∧ P w' := by
  have hn0 : (0 : Int) ≤ (n : Int) := by omega
  have hn1 : (n : Int) < (L : Int) := by omega
  have hB : Below w.heap.size w (w.alloc (Obj.cells #[Value.int IntKind.i64 i, Value.bool s] 80)) := (Below.refl _ _).alloc (Nat.le_refl _) _
  have hh := heap_alloc_new w (Obj.cells #[Value.int IntKind.i64 i, Value.bool s] 80)
  obtain ⟨W, HW⟩ : ∃ W, Hid (w.alloc (Obj.cells #[Value.int IntKind.i64 i, Value.bool s] 80) = W) := ⟨_, rfl⟩
  obtain ⟨N, HN⟩ : ∃ N, Hid (w.heap.size = N) := ⟨_, rfl⟩
  rw [unhide HW] at hh hB
  rw [unhide HN] at hh
  have b1 := below_cell hB c1
  have x0 : W.cell? ⟨N, 0, none⟩ = some (.int .i64 i) := by simp [World.cell?, hh]
  have x1 : W.cell? ⟨N, 1, none⟩ = some (.bool s) := by simp [World.cell?, hh]
  have lkW := lk W.drew (hB.block mb hmb)
  have HB := hide hB.drew
  have e8 := below_cell hB c8
  have HFT : Hid (Calls Try.prog 42 #[] W.drew fun e w' => e = .returned (.map (some W.heap.size)) ∧ ((Instr.lookup 96 (.map (some W.heap.size)) (.int .i64 3) false).run Try.prog w' = .ok (.func (.func 57) #[] #[]) w') ∧ ((Instr.lookup 96 (.map (some W.heap.size)) (.int .i64 3) false).run Try.prog w'.drew = .ok (.func (.func 57) #[] #[]) w'.drew) ∧ (w'.cell? ⟨N, 0, none⟩ = some (.int .i64 i) ∧ w'.cell? ⟨N, 1, none⟩ = some (.bool s)) ∧ Hid (Below w.heap.size w w')) := by
    apply hide
    refine (xfates W.drew).mono ?_
    rintro e w' ⟨rfl, hf⟩
    have hb : Below W.heap.size W w' := ((Below.refl W.heap.size W).drew).trans hf.1
    exact ⟨rfl, lookYes (k := 3) hf.2 (by omega), lookYes (w := w'.drew) (k := 3) hf.2 (by omega), ⟨below_cell hb x0, below_cell hb x1⟩, hide (hB.trans (hb.mono hB.size))⟩
  have HC : Hid (∀ w2, Hid (Below w.heap.size w w2) → Calls Try.prog 57 #[.agg #[.pointer (some ⟨b, 0, none⟩), .int .i64 i, .bool s, .int .i64 n]] w2 fun e w' => e = .returned (.int .i64 code) ∧ P w') := hide fun w2 h2 => hcall w2 (unhide h2)
  have HCd : Hid (∀ w2, Hid (Below w.heap.size w w2) → Calls Try.prog 57 #[.agg #[.pointer (some ⟨b, 0, none⟩), .int .i64 i, .bool s, .int .i64 n]] w2.drew fun e w' => e = .returned (.int .i64 code) ∧ P w') := hide fun w2 h2 => hcall w2.drew (unhide h2).drew
  clear hh hB lk c1 hmb c8 hcall
  go_enter Try.func27, Try.ntmps27
  go_wp2_with fail
  rw [unhide HW, unhide HN]
  clear HW
  go_region_held3 (fun w' => w'.cell? ⟨b, 1, none⟩ = some (.map (some mb)) ∧ w'.cell? ⟨N, 0, none⟩ = some (.int .i64 i) ∧ w'.cell? ⟨N, 1, none⟩ = some (.bool s)) (first | exact ⟨b1, x0, x1⟩) (fail)
  all_goals go_wp2_with (first | (go_at_call 42; with_reducible refine (unhide HFT).mono ?_; rintro e w2 ⟨rfl, l1, l2, ⟨y0, y1⟩, hb2⟩) | (go_at_call 57; with_reducible refine (unhide HC _ hb2).mono ?_; rintro e w3 ⟨rfl, hF⟩) | (go_at_call 57; with_reducible refine (unhide HCd _ hb2).mono ?_; rintro e w3 ⟨rfl, hF⟩))
  all_goals
    go_ret
    exact ⟨rfl, hF⟩
end Go.Proofs.Ytemkgikncmhoaaa

/-
  weave: what flies, read again. Own work.
-/
namespace Go.Proofs.Ytemkgikncmhoaaa
open Go.RowKit

theorem bytes_int {xs : List Int} (h : Bytes xs) {k : Nat} {x : Int} (hx : xs[k]? = some x) : ((byteOf x).toNat : Int) = x := by
  have hk := h k
  simp only [List.getD, hx, Option.getD_some] at hk
  simp [byteOf]
  omega
theorem sum_bytes (xs : List Int) (n : Nat) : ((byteOf (sumTo xs n % 251)).toNat : Int) = sumTo xs n % 251 := by
  simp [byteOf]
  omega
theorem wsum_bytes (xs : List Int) (n : Nat) : ((byteOf (wsumTo xs n % 251)).toNat : Int) = wsumTo xs n % 251 := by
  simp [byteOf]
  omega

/-- How a message's datagram is read. -/
theorem reads_msg (m : IMsg) (tk : Nat) (h : Bytes (m.bytes tk)) :
    (∀ w, Calls Try.prog 86 #[.string (ckd (m.bytes tk))] w fun e w' => e = .returned (.bool true) ∧ Below w.heap.size w w') ∧
    (∀ w, Calls Try.prog 88 #[.string (ckd (m.bytes tk))] w fun e w' => e = .returned (.int .i64 tk) ∧ w' = w) ∧
    (∀ w, Calls Try.prog 89 #[.string (ckd (m.bytes tk))] w fun e w' => e = .returned (.bool true) ∧ w' = w) ∧
    (∀ w, Calls Try.prog 91 #[.string (ckd (m.bytes tk))] w fun e w' => e = .returned (.agg #[Value.int IntKind.i64 m.number, Value.int IntKind.i64 m.ctx, Value.int IntKind.i64 m.op.client, Value.int IntKind.i64 m.op.verb, Value.int IntKind.i64 m.op.place, Value.int IntKind.u8 m.op.letter]) ∧ Below w.heap.size w w') ∧
    (∀ w, Calls Try.prog 77 #[.string (ckd (m.bytes tk))] w fun e w' => e = .returned (.bool false) ∧ w' = w) ∧
    (∀ w, Calls Try.prog 78 #[.string (ckd (m.bytes tk))] w fun e w' => e = .returned (.string (spoil (ckd (m.bytes tk)))) ∧ Below w.heap.size w w') ∧
    (∀ w, Calls Try.prog 86 #[.string (spoil (ckd (m.bytes tk)))] w fun e w' => e = .returned (.bool false) ∧ w' = w) ∧
    (∀ w, Calls Try.prog 77 #[.string (spoil (ckd (m.bytes tk)))] w fun e w' => e = .returned (.bool true) ∧ w' = w) := by
  obtain ⟨c0, hc0⟩ : ∃ c, c = byteOf (sumTo (m.bytes tk) 8 % 251) := ⟨_, rfl⟩
  obtain ⟨c1, hc1⟩ : ∃ c, c = byteOf (wsumTo (m.bytes tk) 8 % 251) := ⟨_, rfl⟩
  have hd : ckd (m.bytes tk) = ⟨#[byteOf 1, byteOf m.number, byteOf m.ctx, byteOf tk, byteOf m.op.client, byteOf m.op.verb, byteOf m.op.place, byteOf m.op.letter, c0, c1]⟩ := by rw [hc0, hc1]; rfl
  have hs : spoil (ckd (m.bytes tk)) = ⟨#[255 - byteOf 1, byteOf m.number, byteOf m.ctx, byteOf tk, byteOf m.op.client, byteOf m.op.verb, byteOf m.op.place, byteOf m.op.letter, c0, c1]⟩ := by rw [hd]; rfl
  have x0 : ((byteOf 1).toNat : Int) = 1 := by decide
  have y0 : ((255 - byteOf 1).toNat : Int) = 254 := by decide
  have x1 : ((byteOf m.number).toNat : Int) = m.number := bytes_int h (k := 1) rfl
  have x2 : ((byteOf m.ctx).toNat : Int) = m.ctx := bytes_int h (k := 2) rfl
  have x3 : ((byteOf tk).toNat : Int) = tk := bytes_int h (k := 3) rfl
  have x4 : ((byteOf m.op.client).toNat : Int) = m.op.client := bytes_int h (k := 4) rfl
  have x5 : ((byteOf m.op.verb).toNat : Int) = m.op.verb := bytes_int h (k := 5) rfl
  have x6 : ((byteOf m.op.place).toNat : Int) = m.op.place := bytes_int h (k := 6) rfl
  have x7 : ((byteOf m.op.letter).toNat : Int) = m.op.letter := bytes_int h (k := 7) rfl
  have z0 : (c0.toNat : Int) = sumTo (m.bytes tk) 8 % 251 := by rw [hc0]; exact sum_bytes _ 8
  have z1 : (c1.toNat : Int) = wsumTo (m.bytes tk) 8 % 251 := by rw [hc1]; exact wsum_bytes _ 8
  rw [hs, hd]
  refine ⟨fun w => ?_, fun w => ?_, fun w => ?_, fun w => ?_, fun w => ?_, fun w => ?_, fun w => ?_, fun w => ?_⟩
  · have := xwell10 (byteOf 1) (byteOf m.number) (byteOf m.ctx) (byteOf tk) (byteOf m.op.client) (byteOf m.op.verb) (byteOf m.op.place) (byteOf m.op.letter) c0 c1 w x0
    rw [x0, x1, x2, x3, x4, x5, x6, x7, z0, z1] at this
    simpa [IMsg.bytes] using this
  · have := xtaken10 (byteOf 1) (byteOf m.number) (byteOf m.ctx) (byteOf tk) (byteOf m.op.client) (byteOf m.op.verb) (byteOf m.op.place) (byteOf m.op.letter) c0 c1 w (by decide)
    rwa [x3] at this
  · exact xisMessage10 (byteOf 1) (byteOf m.number) (byteOf m.ctx) (byteOf tk) (byteOf m.op.client) (byteOf m.op.verb) (byteOf m.op.place) (byteOf m.op.letter) c0 c1 w
  · have := xmessage10 (byteOf 1) (byteOf m.number) (byteOf m.ctx) (byteOf tk) (byteOf m.op.client) (byteOf m.op.verb) (byteOf m.op.place) (byteOf m.op.letter) c0 c1 w
    rwa [x1, x2, x4, x5, x6, x7] at this
  · exact xspoilt10 (byteOf 1) (byteOf m.number) (byteOf m.ctx) (byteOf tk) (byteOf m.op.client) (byteOf m.op.verb) (byteOf m.op.place) (byteOf m.op.letter) c0 c1 w
  · exact xspoil10 (byteOf 1) (byteOf m.number) (byteOf m.ctx) (byteOf tk) (byteOf m.op.client) (byteOf m.op.verb) (byteOf m.op.place) (byteOf m.op.letter) c0 c1 w
  · exact xbad10 (255 - byteOf 1) (byteOf m.number) (byteOf m.ctx) (byteOf tk) (byteOf m.op.client) (byteOf m.op.verb) (byteOf m.op.place) (byteOf m.op.letter) c0 c1 w (by rw [y0]; decide)
  · exact xspoilt10 (255 - byteOf 1) (byteOf m.number) (byteOf m.ctx) (byteOf tk) (byteOf m.op.client) (byteOf m.op.verb) (byteOf m.op.place) (byteOf m.op.letter) c0 c1 w

/-- How a word is read. -/
theorem reads_word (tk : Nat) (h : tk ≤ 255) :
    (∀ w, Calls Try.prog 86 #[.string (ckd [2, (tk : Int)])] w fun e w' => e = .returned (.bool true) ∧ Below w.heap.size w w') ∧
    (∀ w, Calls Try.prog 88 #[.string (ckd [2, (tk : Int)])] w fun e w' => e = .returned (.int .i64 tk) ∧ w' = w) ∧
    (∀ w, Calls Try.prog 89 #[.string (ckd [2, (tk : Int)])] w fun e w' => e = .returned (.bool false) ∧ w' = w) ∧
    (∀ w, Calls Try.prog 77 #[.string (ckd [2, (tk : Int)])] w fun e w' => e = .returned (.bool false) ∧ w' = w) ∧
    (∀ w, Calls Try.prog 78 #[.string (ckd [2, (tk : Int)])] w fun e w' => e = .returned (.string (spoil (ckd [2, (tk : Int)]))) ∧ Below w.heap.size w w') ∧
    (∀ w, Calls Try.prog 86 #[.string (spoil (ckd [2, (tk : Int)]))] w fun e w' => e = .returned (.bool false) ∧ w' = w) ∧
    (∀ w, Calls Try.prog 77 #[.string (spoil (ckd [2, (tk : Int)]))] w fun e w' => e = .returned (.bool true) ∧ w' = w) := by
  obtain ⟨c0, hc0⟩ : ∃ c, c = byteOf (sumTo [2, (tk : Int)] 2 % 251) := ⟨_, rfl⟩
  obtain ⟨c1, hc1⟩ : ∃ c, c = byteOf (wsumTo [2, (tk : Int)] 2 % 251) := ⟨_, rfl⟩
  have hd : ckd [2, (tk : Int)] = ⟨#[byteOf 2, byteOf tk, c0, c1]⟩ := by rw [hc0, hc1]; rfl
  have hs : spoil (ckd [2, (tk : Int)]) = ⟨#[255 - byteOf 2, byteOf tk, c0, c1]⟩ := by rw [hd]; rfl
  have x0 : ((byteOf 2).toNat : Int) = 2 := by decide
  have y0 : ((255 - byteOf 2).toNat : Int) = 253 := by decide
  have x1 : ((byteOf tk).toNat : Int) = tk := by simp [byteOf]; omega
  have z0 : (c0.toNat : Int) = sumTo [2, (tk : Int)] 2 % 251 := by rw [hc0]; simp [byteOf]; omega
  have z1 : (c1.toNat : Int) = wsumTo [2, (tk : Int)] 2 % 251 := by rw [hc1]; simp [byteOf]; omega
  rw [hs, hd]
  refine ⟨fun w => ?_, fun w => ?_, fun w => ?_, fun w => ?_, fun w => ?_, fun w => ?_, fun w => ?_⟩
  · have := xwell4 (byteOf 2) (byteOf tk) c0 c1 w x0
    rw [x0, x1, z0, z1] at this
    simpa using this
  · have := xtaken4 (byteOf 2) (byteOf tk) c0 c1 w (by decide)
    rwa [x1] at this
  · exact xisMessage4 (byteOf 2) (byteOf tk) c0 c1 w
  · exact xspoilt4 (byteOf 2) (byteOf tk) c0 c1 w
  · exact xspoil4 (byteOf 2) (byteOf tk) c0 c1 w
  · exact xbad4 (255 - byteOf 2) (byteOf tk) c0 c1 w (by rw [y0]; decide)
  · exact xspoilt4 (255 - byteOf 2) (byteOf tk) c0 c1 w
end Go.Proofs.Ytemkgikncmhoaaa

/-
  weave: fates of what flies, as plain data. Own work.
-/
namespace Go.Proofs.Ytemkgikncmhoaaa

theorem Half.fl {own oth : List GMsg} {E : IEnd} (h : Half own oth E) (fl : List ByteArray) (h1 : fl.length ≤ 12) (h2 : ∀ d ∈ fl, Flies own E.taken d) : Half own oth { E with flying := fl } :=
  ⟨h.kn, h.wait, h.tk, h.ctx, h.seen, h.opn, h.kept, h.kept1, h1, h2⟩
theorem Half.lose {own oth : List GMsg} {E : IEnd} (h : Half own oth E) (n : Nat) : Half own oth (E.lose n) := by
  refine h.fl _ ?_ fun d hd => ?_
  · have := h.fly
    simp
    omega
  · rcases List.mem_append.1 hd with hd | hd
    · exact h.flies d (List.mem_of_mem_take hd)
    · exact h.flies d (List.mem_of_mem_drop hd)
theorem Half.double {own oth : List GMsg} {E : IEnd} (h : Half own oth E) {d : ByteArray} (hd : d ∈ E.flying) : Half own oth (E.fly d) := by
  unfold IEnd.fly
  split
  · refine h.fl _ (by simp; omega) fun q hq => ?_
    rcases List.mem_append.1 hq with hq | hq
    · exact h.flies q hq
    · rw [List.mem_singleton.1 hq]
      exact h.flies d hd
  · exact h
theorem Half.spoil {own oth : List GMsg} {E : IEnd} (h : Half own oth E) {d : ByteArray} (n : Nat) (hd : Dgm own E.taken d) : Half own oth { E with flying := E.flying.set n (Go.Proofs.Ytemkgikncmhoaaa.spoil d) } := by
  refine h.fl _ (by simpa using h.fly) fun q hq => ?_
  rcases List.mem_or_eq_of_mem_set hq with hq | rfl
  · exact h.flies q hq
  · exact .inr ⟨d, hd, rfl⟩

section
variable {X : IRoom} {us ds : Nat → List GMsg} {T : Nat → Nat → Nat → List UInt8}
theorem RInv.turnA (h : RInv X us ds T) {i : Nat} {t : List UInt8} {E S E' : IEnd} (h1 : X.texts[i]? = some t) (h2 : X.ends[i]? = some E) (h3 : X.sends[i]? = some S) (hE : Half (us i) (ds i) E → Half (us i) (ds i) E') (k1 : E'.taken = E.taken) (k2 : E'.known = E.known) : RInv (X.setA i t E') us ds T := by
  obtain ⟨hl, _⟩ := h.line i t E S h1 h2 h3
  exact h.setE h1 h2 h3 (hE hl.a) k1 (by rw [k2]; exact hl.ka) (by rw [k2]; exact Nat.le_refl _)
theorem RInv.turnB (h : RInv X us ds T) {i : Nat} {t : List UInt8} {E S S' : IEnd} (h1 : X.texts[i]? = some t) (h2 : X.ends[i]? = some E) (h3 : X.sends[i]? = some S) (hS : Half (ds i) (us i) S → Half (ds i) (us i) S') (k1 : S'.taken = S.taken) (k2 : S'.known = S.known) : RInv (X.setB i S') us ds T := by
  obtain ⟨hl, _⟩ := h.line i t E S h1 h2 h3
  exact h.setS h1 h2 h3 (hS hl.b) k1 (by rw [k2]; exact hl.kb)
theorem RInv.loseA (h : RInv X us ds T) {i : Nat} {t : List UInt8} {E S : IEnd} (h1 : X.texts[i]? = some t) (h2 : X.ends[i]? = some E) (h3 : X.sends[i]? = some S) (n : Nat) : RInv (X.setA i t (E.lose n)) us ds T :=
  h.turnA h1 h2 h3 (fun q => q.lose n) rfl rfl
theorem RInv.loseB (h : RInv X us ds T) {i : Nat} {t : List UInt8} {E S : IEnd} (h1 : X.texts[i]? = some t) (h2 : X.ends[i]? = some E) (h3 : X.sends[i]? = some S) (n : Nat) : RInv (X.setB i (S.lose n)) us ds T :=
  h.turnB h1 h2 h3 (fun q => q.lose n) rfl rfl
theorem RInv.doubleA (h : RInv X us ds T) {i : Nat} {t : List UInt8} {E S : IEnd} (h1 : X.texts[i]? = some t) (h2 : X.ends[i]? = some E) (h3 : X.sends[i]? = some S) {d : ByteArray} (hd : d ∈ E.flying) : RInv (X.setA i t (E.fly d)) us ds T :=
  h.turnA h1 h2 h3 (fun q => q.double hd) (E.fly_fields d).2.2.1 (E.fly_fields d).1
theorem RInv.doubleB (h : RInv X us ds T) {i : Nat} {t : List UInt8} {E S : IEnd} (h1 : X.texts[i]? = some t) (h2 : X.ends[i]? = some E) (h3 : X.sends[i]? = some S) {d : ByteArray} (hd : d ∈ S.flying) : RInv (X.setB i (S.fly d)) us ds T :=
  h.turnB h1 h2 h3 (fun q => q.double hd) (S.fly_fields d).2.2.1 (S.fly_fields d).1
theorem RInv.spoilA (h : RInv X us ds T) {i : Nat} {t : List UInt8} {E S : IEnd} (h1 : X.texts[i]? = some t) (h2 : X.ends[i]? = some E) (h3 : X.sends[i]? = some S) {d : ByteArray} (n : Nat) (hd : Dgm (us i) E.taken d) : RInv (X.setA i t { E with flying := E.flying.set n (spoil d) }) us ds T :=
  h.turnA h1 h2 h3 (fun q => q.spoil n hd) rfl rfl
theorem RInv.spoilB (h : RInv X us ds T) {i : Nat} {t : List UInt8} {E S : IEnd} (h1 : X.texts[i]? = some t) (h2 : X.ends[i]? = some E) (h3 : X.sends[i]? = some S) {d : ByteArray} (n : Nat) (hd : Dgm (ds i) S.taken d) : RInv (X.setB i { S with flying := S.flying.set n (spoil d) }) us ds T :=
  h.turnB h1 h2 h3 (fun q => q.spoil n hd) rfl rfl
end
end Go.Proofs.Ytemkgikncmhoaaa

