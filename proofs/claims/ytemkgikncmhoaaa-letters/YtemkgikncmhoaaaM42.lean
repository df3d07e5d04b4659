import Derived.Test.YtemkgikncmhoaaaM41
import Derived.Laws.BytesArg
/-
  weavekeep: edit. Own work.
-/
namespace Go.Proofs.Ytemkgikncmhoaaa
open Go.RowKit
attribute [local go_sem ↓] Go.wp_at_zero Go.wp_at_succ

/-- What an edit does to a room. -/
inductive Edited (X : IRoom) (c : Nat) (m : Int) : IRoom → Prop
  | no (h : ¬ (X.may c ∧ (X.tx c).length < 60)) : Edited X c m X
  | put (p : Nat) (hp : p ≤ (X.tx c).length) (hm : X.may c) (hl : (X.tx c).length < 60) : Edited X c m (X.made c ⟨c, 1, p, letterN m⟩)
  | cut (p : Nat) (hp : p < (X.tx c).length) (hm : X.may c) : Edited X c m (X.made c ⟨c, 2, p, (0 : Nat)⟩)
theorem made_len (X : IRoom) (c : Nat) (o : ROp) : (X.made c o).texts.length = X.texts.length ∧ (X.made c o).window = X.window := by simp [IRoom.made, IRoom.setA]
theorem made_tx (X : IRoom) {c : Nat} (o : ROp) (hc : c < X.texts.length) (j : Nat) : (X.made c o).tx j = if j = c then o.does (X.tx c) else X.tx j := tx_setA hc j
theorem Edited.fit {X X' : IRoom} {c : Nat} {m : Int} (h : Edited X c m X') (hf : Fit X) (hc : c < X.texts.length) : Fit X' ∧ X'.texts.length = X.texts.length ∧ X'.window = X.window := by
  cases h with
  | no _ => exact ⟨hf, rfl, rfl⟩
  | put p hp hm hl => have := letterN_ok m; exact ⟨hf.put hc hp ⟨by omega, by omega⟩ hm, made_len X c _⟩
  | cut p hp hm => exact ⟨hf.cut hc hp hm, made_len X c _⟩
theorem str_del (t : List UInt8) (q : Nat) : ((⟨t.toArray⟩ : ByteArray).extract 0 q ++ (⟨t.toArray⟩ : ByteArray).extract (q + 1) (⟨t.toArray⟩ : ByteArray).size).toList = delB t q := by
  rw [ByteArray.toList_eq]
  simp [delB, ByteArray.data_append, ByteArray.data_extract, ByteArray.size]
  exact List.take_of_length_le (by simp)
theorem str_ins (t : List UInt8) (q l : Nat) : ((⟨t.toArray⟩ : ByteArray).extract 0 q ++ (⟨#[UInt8.ofNat l]⟩ : ByteArray) ++ (⟨t.toArray⟩ : ByteArray).extract q (⟨t.toArray⟩ : ByteArray).size).toList = insB t q l := by
  rw [ByteArray.toList_eq]
  simp [insB, ByteArray.data_append, ByteArray.data_extract, ByteArray.size]
  exact List.take_of_length_le (by simp)
/-- string([]byte{l}). -/
theorem run_letter (l : Nat) (W : World) : (convert 89 9 (.slice (some ⟨W.heap.size, 0, none⟩) 1 1)).run Try.prog (W.alloc (Obj.cells #[Value.int IntKind.u8 l] 5)).drew = .ok (.string ⟨#[UInt8.ofNat l]⟩) (W.alloc (Obj.cells #[Value.int IntKind.u8 l] 5)).drew := by
  have := run_convert_bytes_arg (P := Try.prog) (W.alloc (Obj.cells #[Value.int IntKind.u8 l] 5)).drew 89 5 Try.underlying89 Try.underlying5 W.heap.size 0 1 1 [(l : Int)] rfl (fun i hi => by
    obtain rfl : i = 0 := by omega
    show (W.alloc (Obj.cells #[Value.int IntKind.u8 l] 5)).cell? ⟨W.heap.size, 0, none⟩ = _
    rw [(CellsT.new W #[Value.int IntKind.u8 l] 5 (fun _ => (0, 0, 0)) (0, 0, 0)).cell]
    rfl) 9 Try.underlying9
  rw [this]
  rfl
/-- Where a room is behind an edit. -/
def EdAt (own : Nat → Tag) (w : World) (rb b : Nat) (X' : IRoom) (w' : World) : Prop := ∃ own', KRoom own' w' rb b X' ∧ Upd own own' (inRoom 1) w w'

theorem KRoom.drew {own : Nat → Tag} {w : World} {rb b : Nat} {X : IRoom} (h : KRoom own w rb b X) : KRoom own w.drew rb b X :=
  h.upd ((Upd.refl own (fun _ => False) w).drew) (fun _ _ h => h) (fun h => h)
set_option maxRecDepth 100000 in
set_option maxHeartbeats 1600000 in
theorem kedit_cut (own : Nat → Tag) (w : World) (rb b : Nat) (X : IRoom) (c : Nat) (kind n m : Int) (h : KRoom own w rb b X) (hc : c < X.texts.length) (hk : I64 kind) (hn : I64 n) (h0 : pickN kind 4 = 0) (hl : 0 < (X.tx c).length) :
    Calls Try.prog 23 #[.pointer (some ⟨rb, 0, none⟩), .int .i64 c, .int .i64 kind, .int .i64 n, .int .i64 m] w fun e w' => e = .returned (.bool true) ∧ ∃ X', Edited X c m X' ∧ EdAt own w rb b X' w' := by
  have hl240 := (h.fit.lens hc).1
  have c0 := h.c0
  have HR := hide (kRead (i := c) h.room h.fit hc)
  have HP1 := hide (fun w => kpick kind 4 hk (by omega) (by omega) w)
  rw [h0] at HP1
  have HP2 := hide (fun w => kpick n (X.tx c).length hn (by omega) (by omega) w)
  have hq := pickN_lt n (n := (X.tx c).length) (by omega)
  generalize pickN n (X.tx c).length = q at *
  have HC : Hid (Calls Try.prog 37 #[.pointer (some ⟨b, 0, none⟩), .int .i64 c, .int .i64 q] w fun e w' => (e = .returned (.int .i64 0) ∧ ∃ own', KRoom own' w' rb b (X.made c ⟨c, 2, q, (0 : Nat)⟩) ∧ X.may c ∧ Upd own own' (inRoom 1) w w') ∨ (∃ r : Int, (r = 5 ∨ r = 6) ∧ e = .returned (.int .i64 r) ∧ ¬ X.may c ∧ ∃ own', KRoom own' w' rb b X ∧ Upd own own' (inRoom 1) w w')) := by
    apply hide
    refine (kCut h.room h.fit hc q hq).mono ?_
    rintro e w' (⟨rfl, hm, a⟩ | ⟨r, hr, rfl, hm, a⟩)
    · obtain ⟨own', a1, a2⟩ := h.after a (h.fit.cut hc hq hm) (made_len X c _).1
      exact .inl ⟨rfl, own', a1, hm, a2⟩
    · have U := Upd.of_below own (fun _ => False) a
      exact .inr ⟨r, by omega, rfl, hm, own, h.upd U (fun _ _ h => h) (fun h => h), U.mono fun _ h => h.elim⟩
  have HR1 : Hid (∀ own' w', KRoom own' w' rb b X → w'.cell? ⟨rb, 0, none⟩ = some (.pointer (some ⟨b, 0, none⟩)) ∧ Calls Try.prog 15 #[.pointer (some ⟨b, 0, none⟩), .int .i64 c] w' fun e w'' => e = .returned (.tuple #[bstr (X.tx c), .int .i64 0]) ∧ w'' = w') := hide fun own' w' h' => ⟨h'.c0, kRead (i := c) h'.room h'.fit hc⟩
  have HR2 : Hid (∀ own' w', KRoom own' w' rb b (X.made c ⟨c, 2, q, (0 : Nat)⟩) → w'.cell? ⟨rb, 0, none⟩ = some (.pointer (some ⟨b, 0, none⟩)) ∧ Calls Try.prog 15 #[.pointer (some ⟨b, 0, none⟩), .int .i64 c] w' fun e w'' => e = .returned (.tuple #[bstr (delB (X.tx c) q), .int .i64 0]) ∧ w'' = w') := hide fun own' w' h' => by
    refine ⟨h'.c0, ?_⟩
    have e : (X.made c ⟨c, 2, q, (0 : Nat)⟩).tx c = delB (X.tx c) q := by rw [made_tx X _ hc, if_pos rfl]; simp [delB, ROp.does]
    have := kRead (i := c) h'.room h'.fit (by rw [(made_len X c _).1]; exact hc)
    rwa [e] at this
  have HF : Hid (∀ X' : IRoom, X' = X ∧ ¬ X.may c ∨ X' = X.made c ⟨c, 2, q, (0 : Nat)⟩ ∧ X.may c → Edited X c m X') := hide fun X' hX' => by
    rcases hX' with ⟨rfl, hm⟩ | ⟨rfl, hm⟩
    · exact .no fun g => hm g.1
    · exact .cut q hq hm
  have HE := hide (str_del (X.tx c) q)
  clear h hk hn h0
  generalize X.tx c = t at *
  unfold bstr at HR HR1 HR2
  have hs : (⟨t.toArray⟩ : ByteArray).size = t.length := by simp [ByteArray.size]
  generalize (⟨t.toArray⟩ : ByteArray) = s at *
  rw [← hs] at HP2 hl hq hl240
  have hl' : (0 : Int) < (s.size : Int) := by omega
  have hq' : (q : Int) < (s.size : Int) := by omega
  have hq2 : (q : Int) + 1 ≤ (s.size : Int) := by omega
  have hq3 : (s.size : Int) ≤ 240 := by omega
  replace hs := hide hs
  go_enter Try.func23, Try.ntmps23
  go_wp2_with fail
  refine (unhide HR).mono ?_
  rintro e w' ⟨rfl, hw'⟩
  obtain rfl := hw'.symm
  go_wp2_with fail
  refine (unhide HP1 _).mono ?_
  rintro e w' ⟨rfl, hw'⟩
  obtain rfl := hw'.symm
  go_wp2_with fail
  refine (unhide HP2 _).mono ?_
  rintro e w' ⟨rfl, hw'⟩
  obtain rfl := hw'.symm
  go_wp2_with fail
  refine (unhide HC).mono ?_
  rintro e w2 (⟨rfl, own2, h2, hm, hu⟩ | ⟨r, hr, rfl, hm, own2, h2, hu⟩)
  · obtain ⟨d0, HR3⟩ := unhide HR2 own2 w2 h2
    replace HR3 := hide HR3
    replace h2 := hide (And.intro h2 hu)
    clear hu
    go_wp2_with fail
    refine (unhide HR3).mono ?_
    rintro e w' ⟨rfl, hw'⟩
    obtain rfl := hw'.symm
    go_wp2_with fail
    go_region
    all_goals
      go_wp2_with fail
      go_ret
      obtain ⟨h2, hu⟩ := unhide h2
      refine ⟨?_, _, unhide HF _ (.inr ⟨rfl, hm⟩), own2, h2.drew, hu.drew⟩
      have e := unhide HE
      rw [e]
      simp
  · obtain ⟨d0, HR3⟩ := unhide HR1 own2 w2 h2
    replace HR3 := hide HR3
    replace h2 := hide (And.intro h2 hu)
    replace hm := hide hm
    clear hu
    rcases hr with rfl | rfl <;>
    · go_wp2_with fail
      refine (unhide HR3).mono ?_
      rintro e w' ⟨rfl, hw'⟩
      obtain rfl := hw'.symm
      go_wp2_with fail
      go_ret
      obtain ⟨h2, hu⟩ := unhide h2
      exact ⟨rfl, _, unhide HF _ (.inl ⟨rfl, unhide hm⟩), own2, h2, hu⟩
set_option maxRecDepth 100000 in
set_option maxHeartbeats 1600000 in
theorem kedit_put (own : Nat → Tag) (w : World) (rb b : Nat) (X : IRoom) (c : Nat) (kind n m : Int) (h : KRoom own w rb b X) (hc : c < X.texts.length) (hk : I64 kind) (hn : I64 n) (hm : I64 m) (h0 : ¬ (pickN kind 4 = 0 ∧ 0 < (X.tx c).length)) :
    Calls Try.prog 23 #[.pointer (some ⟨rb, 0, none⟩), .int .i64 c, .int .i64 kind, .int .i64 n, .int .i64 m] w fun e w' => e = .returned (.bool true) ∧ ∃ X', Edited X c m X' ∧ EdAt own w rb b X' w' := by
  have hl240 := (h.fit.lens hc).1
  have c0 := h.c0
  have HR := hide (kRead (i := c) h.room h.fit hc)
  have HP1 := hide (fun w => kpick kind 4 hk (by omega) (by omega) w)
  have HP2 := hide (fun w => kpick n ((X.tx c).length + 1) hn (by omega) (by omega) w)
  have HL := hide (fun w => kletter m hm w)
  have hlo := letterN_ok m
  have hq := pickN_lt n (n := (X.tx c).length + 1) (by omega)
  generalize pickN n ((X.tx c).length + 1) = q at *
  generalize hg : pickN kind 4 = g at *
  have HP : Hid (Calls Try.prog 25 #[.pointer (some ⟨b, 0, none⟩), .int .i64 c, .int .i64 q, .int .u8 (letterN m)] w fun e w' => (e = .returned (.int .i64 0) ∧ ∃ own', KRoom own' w' rb b (X.made c ⟨c, 1, q, letterN m⟩) ∧ (X.may c ∧ (X.tx c).length < 60) ∧ Upd own own' (inRoom 1) w w') ∨ (∃ r : Int, (r = 5 ∨ r = 6) ∧ e = .returned (.int .i64 r) ∧ ¬ (X.may c ∧ (X.tx c).length < 60) ∧ ∃ own', KRoom own' w' rb b X ∧ Upd own own' (inRoom 1) w w')) := by
    apply hide
    refine (kPut h.room h.fit hc q (letterN m) (by omega) ⟨by omega, by omega⟩).mono ?_
    rintro e w' (⟨rfl, hm, hl, a⟩ | ⟨r, hr, rfl, hm, a⟩)
    · obtain ⟨own', a1, a2⟩ := h.after a (h.fit.put hc (by omega) ⟨by omega, by omega⟩ hm) (made_len X c _).1
      exact .inl ⟨rfl, own', a1, ⟨hm, hl⟩, a2⟩
    · have U := Upd.of_below own (fun _ => False) a
      exact .inr ⟨r, by omega, rfl, hm, own, h.upd U (fun _ _ h => h) (fun h => h), U.mono fun _ h => h.elim⟩
  have HR1 : Hid (∀ own' w', KRoom own' w' rb b X → w'.cell? ⟨rb, 0, none⟩ = some (.pointer (some ⟨b, 0, none⟩)) ∧ Calls Try.prog 15 #[.pointer (some ⟨b, 0, none⟩), .int .i64 c] w' fun e w'' => e = .returned (.tuple #[bstr (X.tx c), .int .i64 0]) ∧ w'' = w') := hide fun own' w' h' => ⟨h'.c0, kRead (i := c) h'.room h'.fit hc⟩
  have HR2 : Hid (∀ own' w', KRoom own' w' rb b (X.made c ⟨c, 1, q, letterN m⟩) → w'.cell? ⟨rb, 0, none⟩ = some (.pointer (some ⟨b, 0, none⟩)) ∧ Calls Try.prog 15 #[.pointer (some ⟨b, 0, none⟩), .int .i64 c] w' fun e w'' => e = .returned (.tuple #[bstr (insB (X.tx c) q (letterN m)), .int .i64 0]) ∧ w'' = w') := hide fun own' w' h' => by
    refine ⟨h'.c0, ?_⟩
    have e : (X.made c ⟨c, 1, q, letterN m⟩).tx c = insB (X.tx c) q (letterN m) := by rw [made_tx X _ hc, if_pos rfl]; simp [insB, ROp.does, byteOf]
    have := kRead (i := c) h'.room h'.fit (by rw [(made_len X c _).1]; exact hc)
    rwa [e] at this
  have HF : Hid (∀ X' : IRoom, X' = X ∧ ¬ (X.may c ∧ (X.tx c).length < 60) ∨ X' = X.made c ⟨c, 1, q, letterN m⟩ ∧ (X.may c ∧ (X.tx c).length < 60) → Edited X c m X') := hide fun X' hX' => by
    rcases hX' with ⟨rfl, hm⟩ | ⟨rfl, hm⟩
    · exact .no hm
    · exact .put q (by omega) hm.1 hm.2
  clear h hk hn hm hg
  have HE := hide (str_ins (X.tx c) q (letterN m))
  have hcv := run_letter (letterN m)
  generalize letterN m = l at *
  generalize X.tx c = t at *
  unfold bstr at HR HR1 HR2
  have hs : (⟨t.toArray⟩ : ByteArray).size = t.length := by simp [ByteArray.size]
  generalize (⟨t.toArray⟩ : ByteArray) = s at *
  rw [← hs] at HP2 hq hl240 h0
  have hq' : (q : Int) ≤ (s.size : Int) := by omega
  have hq3 : (s.size : Int) ≤ 240 := by omega
  have hb1 : ¬ 9223372036854775807 < min q s.size + 1 := by omega
  have hb2 : ¬ 9223372036854775807 < min q s.size + 1 + (s.size - q) := by omega
  rw [show ((s.size + 1 : Nat) : Int) = (s.size : Int) + 1 by omega] at HP2
  replace hs := hide hs
  have hg : (g : Int) = 0 ∧ ¬ (0 : Int) < (s.size : Int) ∨ ¬ (g : Int) = 0 := by omega
  clear h0
  rcases hg with ⟨hg, hz⟩ | hg
  all_goals
    go_enter Try.func23, Try.ntmps23
    go_wp2_with fail
    refine (unhide HR).mono ?_
    rintro e w' ⟨rfl, hw'⟩
    obtain rfl := hw'.symm
    go_wp2_with fail
    refine (unhide HP1 _).mono ?_
    rintro e w' ⟨rfl, hw'⟩
    obtain rfl := hw'.symm
    go_wp2_with fail
    refine (unhide HP2 _).mono ?_
    rintro e w' ⟨rfl, hw'⟩
    obtain rfl := hw'.symm
    go_wp2_with fail
    refine (unhide HL _).mono ?_
    rintro e w' ⟨rfl, hw'⟩
    obtain rfl := hw'.symm
    go_wp2_with fail
    refine (unhide HP).mono ?_
    rintro e w2 (⟨rfl, own2, h2, hm, hu⟩ | ⟨r, hr, rfl, hm, own2, h2, hu⟩)
    · obtain ⟨d0, HR3⟩ := unhide HR2 own2 w2 h2
      replace HR3 := hide HR3
      replace h2 := hide (And.intro h2 hu)
      replace hm := hide hm
      clear hu
      go_wp2_with fail
      refine (unhide HR3).mono ?_
      rintro e w' ⟨rfl, hw'⟩
      obtain rfl := hw'.symm
      go_wp2_with fail
      go_region
      all_goals
        go_wp2_with fail
        go_ret
        obtain ⟨h2, hu⟩ := unhide h2
        refine ⟨?_, _, unhide HF _ (.inr ⟨rfl, unhide hm⟩), own2, h2.upd (((Upd.refl own2 (fun _ => False) w2).alloc _).drew) (fun _ _ h => h) (fun h => h), (hu.alloc _).drew⟩
        have e := unhide HE
        rw [e]
        simp
    · obtain ⟨d0, HR3⟩ := unhide HR1 own2 w2 h2
      replace HR3 := hide HR3
      replace h2 := hide (And.intro h2 hu)
      replace hm := hide hm
      clear hu
      rcases hr with rfl | rfl <;>
      · go_wp2_with fail
        refine (unhide HR3).mono ?_
        rintro e w' ⟨rfl, hw'⟩
        obtain rfl := hw'.symm
        go_wp2_with fail
        go_ret
        obtain ⟨h2, hu⟩ := unhide h2
        exact ⟨rfl, _, unhide HF _ (.inl ⟨rfl, unhide hm⟩), own2, h2, hu⟩
/-- An edit: what it says, done. -/
theorem kedit (own : Nat → Tag) (w : World) (rb b : Nat) (X : IRoom) (c : Nat) (kind n m : Int) (h : KRoom own w rb b X) (hc : c < X.texts.length) (hk : I64 kind) (hn : I64 n) (hm : I64 m) :
    Calls Try.prog 23 #[.pointer (some ⟨rb, 0, none⟩), .int .i64 c, .int .i64 kind, .int .i64 n, .int .i64 m] w fun e w' => e = .returned (.bool true) ∧ ∃ X', Edited X c m X' ∧ EdAt own w rb b X' w' := by
  by_cases h0 : pickN kind 4 = 0 ∧ 0 < (X.tx c).length
  · exact kedit_cut own w rb b X c kind n m h hc hk hn h0.1 h0.2
  · exact kedit_put own w rb b X c kind n m h hc hk hn hm h0
end Go.Proofs.Ytemkgikncmhoaaa

/-
  weavekeep: play. Own work.
-/
namespace Go.Proofs.Ytemkgikncmhoaaa
open Go.RowKit
attribute [local go_sem ↓] Go.wp_at_zero Go.wp_at_succ

/-- What a step does to a room. -/
inductive Played (X : IRoom) (kd c m : Int) : IRoom → Prop
  | edit {X' : IRoom} (hk : pickN kd 8 < 3) (h : Edited X (pickN c X.texts.length) m X') : Played X kd c m X'
  | move {X' : IRoom} (hk : 3 ≤ pickN kd 8) (h : Moved X X') : Played X kd c m X'
theorem Played.fit {X X' : IRoom} {kd c m : Int} (h : Played X kd c m X') (hf : Fit X) : Fit X' ∧ X'.texts.length = X.texts.length ∧ X'.window = X.window := by
  cases h with
  | edit hk h => exact h.fit hf (pickN_lt c hf.num.1)
  | move hk h => exact h.fit hf
def StepV (kd c n m : Int) : Array Value := #[.int .i64 kd, .int .i64 c, .int .i64 n, .int .i64 m]
theorem i64_tdiv {k : Int} (h : I64 k) (d : Nat) (hd : 1 ≤ d) : I64 (k.tdiv d) := by
  unfold I64 at *
  have h1 : (k.tdiv d).natAbs ≤ k.natAbs := by
    rw [Int.natAbs_tdiv]
    exact Nat.div_le_self _ _
  have h2 : 0 ≤ k → 0 ≤ k.tdiv d := fun h => Int.tdiv_nonneg h (by omega)
  have h3 : k ≤ 0 → k.tdiv d ≤ 0 := fun h => by
    have := Int.tdiv_nonneg (a := -k) (b := (d : Int)) (by omega) (by omega)
    rw [Int.neg_tdiv] at this
    omega
  by_cases h0 : 0 ≤ k
  · have := h2 h0; omega
  · have := h3 (by omega); omega
theorem i64_div8 {k : Int} (h : I64 k) : I64 (k.tdiv 8) := i64_tdiv h 8 (by omega)
theorem i64_div2 {k : Int} (h : I64 k) : I64 (k.tdiv 2) := i64_tdiv h 2 (by omega)

set_option maxRecDepth 100000 in
set_option maxHeartbeats 1600000 in
theorem kplay_edit (own : Nat → Tag) (w : World) (rb b : Nat) (X : IRoom) (kd c n m : Int) (h : KRoom own w rb b X) (hkd : I64 kd) (hc : I64 c) (hn : I64 n) (hm : I64 m) (hk : pickN kd 8 < 3) :
    Calls Try.prog 14 #[.pointer (some ⟨rb, 0, none⟩), .agg (StepV kd c n m)] w fun e w' => e = .returned (.bool true) ∧ ∃ X', Played X kd c m X' ∧ EdAt own w rb b X' w' := by
  have c0 := h.c0
  have c1 := h.c1
  have hn4 := h.fit.num
  have HP1 := hide (fun w => kpick c X.texts.length hc hn4.1 (by omega) w)
  have HP2 := hide (fun w => kpick m 2 hm (by omega) (by omega) w)
  have HP3 := hide (fun w => kpick kd 8 hkd (by omega) (by omega) w)
  have HE : Hid (∀ w1, KRoom own w1 rb b X → Upd own own (inRoom 1) w w1 → Calls Try.prog 23 #[.pointer (some ⟨rb, 0, none⟩), .int .i64 (pickN c X.texts.length), .int .i64 (kd.tdiv 8), .int .i64 n, .int .i64 m] w1 fun e w' => e = .returned (.bool true) ∧ ∃ X', Played X kd c m X' ∧ EdAt own w rb b X' w') := by
    apply hide
    intro w1 h1 hu
    refine (kedit own w1 rb b X _ (kd.tdiv 8) n m h1 (pickN_lt c hn4.1) (i64_div8 hkd) hn hm).mono ?_
    rintro e w' ⟨rfl, X', a1, own', a2, a3⟩
    exact ⟨rfl, X', .edit hk a1, own', a2, hu.trans a3⟩
  generalize pickN c X.texts.length = q at *
  generalize pickN m 2 = g at *
  generalize pickN kd 8 = k at *
  have HX := hide h
  clear h
  generalize X.texts.length = N at *
  unfold StepV
  unfold I64 at hkd
  have hk' : (k : Int) < 3 := by omega
  have hU : Upd own own (fun _ => False) w (w.alloc (Obj.cells (StepV kd c n m) 31)) := (Upd.refl _ _ w).alloc _
  have HX1 := hide ((unhide HX).upd hU (fun _ _ h => h) (fun h => h))
  have HU1 := hide (hU.mono (may' := inRoom 1) fun _ h => h.elim)
  have z : CellsT (retag own w.heap.size (3, 0, 0)) (3, 0, 0) (w.alloc (Obj.cells (StepV kd c n m) 31)) w.heap.size (StepV kd c n m) 31 := CellsT.new w _ _ _ _
  have z0 : (w.alloc (Obj.cells (StepV kd c n m) 31)).cell? ⟨w.heap.size, 0, none⟩ = some (.int .i64 kd) := by rw [z.cell]; rfl
  have z1 : (w.alloc (Obj.cells (StepV kd c n m) 31)).cell? ⟨w.heap.size, 1, none⟩ = some (.int .i64 c) := by rw [z.cell]; rfl
  have z2 : (w.alloc (Obj.cells (StepV kd c n m) 31)).cell? ⟨w.heap.size, 2, none⟩ = some (.int .i64 n) := by rw [z.cell]; rfl
  have z3 : (w.alloc (Obj.cells (StepV kd c n m) 31)).cell? ⟨w.heap.size, 3, none⟩ = some (.int .i64 m) := by rw [z.cell]; rfl
  replace c0 := hU.cell c0 (fun h => h)
  replace c1 := hU.cell c1 (fun h => h)
  clear hU z
  unfold StepV at *
  go_enter Try.func14, Try.ntmps14
  go_wp2_with fail
  generalize w.alloc (Obj.cells #[Value.int .i64 kd, Value.int .i64 c, Value.int .i64 n, Value.int .i64 m] 31) = W at *
  generalize w.heap.size = z at *
  go_region_held3 (fun w' => w'.cell? ⟨z, 0, none⟩ = some (.int .i64 kd) ∧ w'.cell? ⟨z, 1, none⟩ = some (.int .i64 c) ∧ w'.cell? ⟨z, 2, none⟩ = some (.int .i64 n) ∧ w'.cell? ⟨z, 3, none⟩ = some (.int .i64 m) ∧ w'.cell? ⟨rb, 0, none⟩ = some (.pointer (some ⟨b, 0, none⟩)) ∧ w'.cell? ⟨rb, 1, none⟩ = some (.int .i64 N)) (go_keep) (first | (go_at_call 20; with_reducible refine (unhide HP1 _).mono ?_; rintro e w' ⟨rfl, hw'⟩; obtain rfl := hw'.symm))
  all_goals
    go_wp2_with fail
    refine (unhide HP2 _).mono ?_
    rintro e w' ⟨rfl, hw'⟩
    obtain rfl := hw'.symm
    go_wp2_with fail
    refine (unhide HP3 _).mono ?_
    rintro e w' ⟨rfl, hw'⟩
    obtain rfl := hw'.symm
    go_wp2_with fail
    all_goals
      refine (unhide HE _ (unhide HX1).drew (unhide HU1).drew).mono ?_
      rintro e w' ⟨rfl, hw'⟩
      go_wp2_with fail
      go_ret
      exact ⟨rfl, hw'⟩
set_option maxRecDepth 100000 in
set_option maxHeartbeats 1600000 in
theorem kplay_tick_0 (own : Nat → Tag) (w : World) (rb b : Nat) (X : IRoom) (kd c n m : Int) (h : KRoom own w rb b X) (hkd : I64 kd) (hc : I64 c) (hm : I64 m) (hk : pickN kd 8 = 3) (hg : pickN m 2 = 0) :
    Calls Try.prog 14 #[.pointer (some ⟨rb, 0, none⟩), .agg (StepV kd c n m)] w fun e w' => e = .returned (.bool true) ∧ ∃ X', Played X kd c m X' ∧ EdAt own w rb b X' w' := by
  have c0 := h.c0
  have c1 := h.c1
  have hn4 := h.fit.num
  have HP1 := hide (fun w => kpick c X.texts.length hc hn4.1 (by omega) w)
  have HP2 := hide (fun w => kpick m 2 hm (by omega) (by omega) w)
  have HP3 := hide (fun w => kpick kd 8 hkd (by omega) (by omega) w)
  have hq := pickN_lt c hn4.1
  have HE : Hid (∀ w1, KRoom own w1 rb b X → Upd own own (inRoom 1) w w1 → Calls Try.prog 34 #[.pointer (some ⟨b, 0, none⟩), .int .i64 (pickN c X.texts.length), .bool false] w1 fun e w' => e = .returned (.int .i64 0) ∧ ∃ X', Played X kd c m X' ∧ EdAt own w rb b X' w') := by
    apply hide
    intro w1 h1 hu
    refine (kTick_0 (i := pickN c X.texts.length) h1.room h1.fit hq).mono ?_
    rintro e w' ⟨rfl, a⟩
    have A := h.fit.tickA' hq
    obtain ⟨own', a2, a3⟩ := h1.after a (A.fit h.fit) (by rw [A.texts])
    exact ⟨rfl, _, .move (by omega) (.air A), own', a2, hu.trans a3⟩
  rw [hk] at HP3
  rw [hg] at HP2
  generalize pickN c X.texts.length = q at *
  have HX := hide h
  clear h
  generalize X.texts.length = N at *
  have hU : Upd own own (fun _ => False) w (w.alloc (Obj.cells (StepV kd c n m) 31)) := (Upd.refl _ _ w).alloc _
  have HX1 := hide ((unhide HX).upd hU (fun _ _ h => h) (fun h => h))
  have HU1 := hide (hU.mono (may' := inRoom 1) fun _ h => h.elim)
  have z : CellsT (retag own w.heap.size (3, 0, 0)) (3, 0, 0) (w.alloc (Obj.cells (StepV kd c n m) 31)) w.heap.size (StepV kd c n m) 31 := CellsT.new w _ _ _ _
  have z0 : (w.alloc (Obj.cells (StepV kd c n m) 31)).cell? ⟨w.heap.size, 0, none⟩ = some (.int .i64 kd) := by rw [z.cell]; rfl
  have z1 : (w.alloc (Obj.cells (StepV kd c n m) 31)).cell? ⟨w.heap.size, 1, none⟩ = some (.int .i64 c) := by rw [z.cell]; rfl
  have z3 : (w.alloc (Obj.cells (StepV kd c n m) 31)).cell? ⟨w.heap.size, 3, none⟩ = some (.int .i64 m) := by rw [z.cell]; rfl
  replace c0 := hU.cell c0 (fun h => h)
  replace c1 := hU.cell c1 (fun h => h)
  clear hU z hk hg
  unfold StepV at *
  go_enter Try.func14, Try.ntmps14
  go_wp2_with fail
  generalize w.alloc (Obj.cells #[Value.int .i64 kd, Value.int .i64 c, Value.int .i64 n, Value.int .i64 m] 31) = W at *
  generalize w.heap.size = z at *
  go_region_held3 (fun w' => w'.cell? ⟨z, 0, none⟩ = some (.int .i64 kd) ∧ w'.cell? ⟨z, 1, none⟩ = some (.int .i64 c) ∧ w'.cell? ⟨z, 3, none⟩ = some (.int .i64 m) ∧ w'.cell? ⟨rb, 0, none⟩ = some (.pointer (some ⟨b, 0, none⟩)) ∧ w'.cell? ⟨rb, 1, none⟩ = some (.int .i64 N)) (go_keep) (first | (go_at_call 20; with_reducible refine (unhide HP1 _).mono ?_; rintro e w' ⟨rfl, hw'⟩; obtain rfl := hw'.symm))
  all_goals
    go_wp2_with fail
    refine (unhide HP2 _).mono ?_
    rintro e w' ⟨rfl, hw'⟩
    obtain rfl := hw'.symm
    go_wp2_with fail
    refine (unhide HP3 _).mono ?_
    rintro e w' ⟨rfl, hw'⟩
    obtain rfl := hw'.symm
    go_wp2_with fail
    refine (unhide HE _ (unhide HX1).drew (unhide HU1).drew).mono ?_
    rintro e w' ⟨rfl, hw'⟩
    go_wp2_with fail
    go_ret
    exact ⟨rfl, hw'⟩
set_option maxRecDepth 100000 in
set_option maxHeartbeats 1600000 in
theorem kplay_tick_1 (own : Nat → Tag) (w : World) (rb b : Nat) (X : IRoom) (kd c n m : Int) (h : KRoom own w rb b X) (hkd : I64 kd) (hc : I64 c) (hm : I64 m) (hk : pickN kd 8 = 3) (hg : pickN m 2 = 1) :
    Calls Try.prog 14 #[.pointer (some ⟨rb, 0, none⟩), .agg (StepV kd c n m)] w fun e w' => e = .returned (.bool true) ∧ ∃ X', Played X kd c m X' ∧ EdAt own w rb b X' w' := by
  have c0 := h.c0
  have c1 := h.c1
  have hn4 := h.fit.num
  have HP1 := hide (fun w => kpick c X.texts.length hc hn4.1 (by omega) w)
  have HP2 := hide (fun w => kpick m 2 hm (by omega) (by omega) w)
  have HP3 := hide (fun w => kpick kd 8 hkd (by omega) (by omega) w)
  have hq := pickN_lt c hn4.1
  have HE : Hid (∀ w1, KRoom own w1 rb b X → Upd own own (inRoom 1) w w1 → Calls Try.prog 34 #[.pointer (some ⟨b, 0, none⟩), .int .i64 (pickN c X.texts.length), .bool true] w1 fun e w' => e = .returned (.int .i64 0) ∧ ∃ X', Played X kd c m X' ∧ EdAt own w rb b X' w') := by
    apply hide
    intro w1 h1 hu
    refine (kTick_1 (i := pickN c X.texts.length) h1.room h1.fit hq).mono ?_
    rintro e w' ⟨rfl, a⟩
    have A := h.fit.tickB' hq
    obtain ⟨own', a2, a3⟩ := h1.after a (A.fit h.fit) (by rw [A.texts])
    exact ⟨rfl, _, .move (by omega) (.air A), own', a2, hu.trans a3⟩
  rw [hk] at HP3
  rw [hg] at HP2
  generalize pickN c X.texts.length = q at *
  have HX := hide h
  clear h
  generalize X.texts.length = N at *
  have hU : Upd own own (fun _ => False) w (w.alloc (Obj.cells (StepV kd c n m) 31)) := (Upd.refl _ _ w).alloc _
  have HX1 := hide ((unhide HX).upd hU (fun _ _ h => h) (fun h => h))
  have HU1 := hide (hU.mono (may' := inRoom 1) fun _ h => h.elim)
  have z : CellsT (retag own w.heap.size (3, 0, 0)) (3, 0, 0) (w.alloc (Obj.cells (StepV kd c n m) 31)) w.heap.size (StepV kd c n m) 31 := CellsT.new w _ _ _ _
  have z0 : (w.alloc (Obj.cells (StepV kd c n m) 31)).cell? ⟨w.heap.size, 0, none⟩ = some (.int .i64 kd) := by rw [z.cell]; rfl
  have z1 : (w.alloc (Obj.cells (StepV kd c n m) 31)).cell? ⟨w.heap.size, 1, none⟩ = some (.int .i64 c) := by rw [z.cell]; rfl
  have z3 : (w.alloc (Obj.cells (StepV kd c n m) 31)).cell? ⟨w.heap.size, 3, none⟩ = some (.int .i64 m) := by rw [z.cell]; rfl
  replace c0 := hU.cell c0 (fun h => h)
  replace c1 := hU.cell c1 (fun h => h)
  clear hU z hk hg
  unfold StepV at *
  go_enter Try.func14, Try.ntmps14
  go_wp2_with fail
  generalize w.alloc (Obj.cells #[Value.int .i64 kd, Value.int .i64 c, Value.int .i64 n, Value.int .i64 m] 31) = W at *
  generalize w.heap.size = z at *
  go_region_held3 (fun w' => w'.cell? ⟨z, 0, none⟩ = some (.int .i64 kd) ∧ w'.cell? ⟨z, 1, none⟩ = some (.int .i64 c) ∧ w'.cell? ⟨z, 3, none⟩ = some (.int .i64 m) ∧ w'.cell? ⟨rb, 0, none⟩ = some (.pointer (some ⟨b, 0, none⟩)) ∧ w'.cell? ⟨rb, 1, none⟩ = some (.int .i64 N)) (go_keep) (first | (go_at_call 20; with_reducible refine (unhide HP1 _).mono ?_; rintro e w' ⟨rfl, hw'⟩; obtain rfl := hw'.symm))
  all_goals
    go_wp2_with fail
    refine (unhide HP2 _).mono ?_
    rintro e w' ⟨rfl, hw'⟩
    obtain rfl := hw'.symm
    go_wp2_with fail
    refine (unhide HP3 _).mono ?_
    rintro e w' ⟨rfl, hw'⟩
    obtain rfl := hw'.symm
    go_wp2_with fail
    refine (unhide HE _ (unhide HX1).drew (unhide HU1).drew).mono ?_
    rintro e w' ⟨rfl, hw'⟩
    go_wp2_with fail
    go_ret
    exact ⟨rfl, hw'⟩
end Go.Proofs.Ytemkgikncmhoaaa

