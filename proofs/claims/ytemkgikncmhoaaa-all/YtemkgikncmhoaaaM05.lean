import Derived.Test.YtemkgikncmhoaaaM02
import Derived.Test.YtemkgikncmhoaaaM04
import Derived.Deep.DeepCutAuto
namespace Go.Proofs.Ytemkgikncmhoaaa
open Go.RowKit
attribute [local go_sem ↓] Go.wp_at_zero Go.wp_at_succ

structure IMsg where
 number : Nat
 ctx : Nat
 op : ROp
structure IEnd where
 known : Nat
 waiting : List IMsg
 taken : Nat
 seen : Nat
 opn : List ROp
 kept : List IMsg
 flying : List ByteArray
def IMsg.cells (m : IMsg) : List Value := [.int .i64 m.number, .int .i64 m.ctx, .int .i64 m.op.client, .int .i64 m.op.verb, .int .i64 m.op.place, .int .u8 m.op.letter]

/-- What came too early: a map by number. -/
def KeptX (own : Nat → Tag) (t : Tag) (w : World) (kb : Nat) (kept : List IMsg) : Prop :=
 own kb = t ∧ ∃ ents clock, w.heap[kb]? = some (.map ents clock) ∧ ents.toList.map (fun e => (e.key, e.val)) = kept.map (fun m => (Value.int .i64 m.number, Value.agg m.cells.toArray)) ∧
  (∀ e ∈ ents.toList, e.born < clock) ∧ (ents.toList.map (·.born)).Nodup
theorem KeptX.upd {own own' : Nat → Tag} {may : Tag → Prop} {w w' : World} {t : Tag} {kb : Nat} {kept : List IMsg} (h : KeptX own t w kb kept) (hu : Upd own own' may w w') (hm : ¬ may t) : KeptX own' t w' kb kept := by
 obtain ⟨h1, ents, clock, h2, h3⟩ := h
 have hl := (Array.getElem?_eq_some_iff.1 h2).1
 exact ⟨(hu.tags kb hl).trans h1, ents, clock, (hu.block kb hl (by rw [h1]; exact hm)).trans h2, h3⟩

def EndX (own : Nat → Tag) (rid k : Nat) (w : World) (b tb window : Nat) (E : IEnd) : Prop :=
 ∃ (wv ov : Value) (kb : Nat) (fv : Value), CellsT own (rid, k, 0) w b #[ptr tb, .int .i64 window, .int .i64 E.known, wv, .int .i64 E.taken, .int .i64 E.seen, ov, .map (some kb), fv] 86 ∧
  RowO own (rid, k, 3) w 139 6 wv E.waiting.length (E.waiting.flatMap IMsg.cells) ∧ OwnsT own (rid, k, 5) w 94 4 ov E.opn.length (E.opn.flatMap ROp.cells) ∧
  KeptX own (rid, k, 6) w kb E.kept ∧ OwnsT own (rid, k, 4) w 131 1 fv E.flying.length (E.flying.map Value.string)
def byteCell (c : UInt8) : Value := .int .u8 c.toNat
def TextX (own : Nat → Tag) (rid k : Nat) (w : World) (tb : Nat) (t : List UInt8) : Prop :=
 ∃ lv : Value, CellsT own (rid, k, 1) w tb #[lv] 111 ∧ OwnsT own (rid, k, 2) w 5 1 lv t.length (t.map byteCell)

theorem EndX.upd {own own' : Nat → Tag} {may : Tag → Prop} {w w' : World} {rid k b tb window : Nat} {E : IEnd} (h : EndX own rid k w b tb window E) (hu : Upd own own' may w w') (hm : ∀ j, j ≠ 1 → j ≠ 2 → ¬ may (rid, k, j)) : EndX own' rid k w' b tb window E := by
 obtain ⟨wv, ov, kb, fv, a, b, c, d, e⟩ := h
 exact ⟨wv, ov, kb, fv, a.upd hu (hm _ (by decide) (by decide)), b.upd hu (hm _ (by decide) (by decide)), c.upd hu (hm _ (by decide) (by decide)), d.upd hu (hm _ (by decide) (by decide)), e.upd hu (hm _ (by decide) (by decide))⟩
theorem TextX.upd {own own' : Nat → Tag} {may : Tag → Prop} {w w' : World} {rid k tb : Nat} {t : List UInt8} (h : TextX own rid k w tb t) (hu : Upd own own' may w w') (h1 : ¬ may (rid, k, 1)) (h2 : ¬ may (rid, k, 2)) : TextX own' rid k w' tb t := by
 obtain ⟨lv, a, b⟩ := h
 exact ⟨lv, a.upd hu h1, b.upd hu h2⟩
def inEnd (rid k : Nat) (t : Tag) : Prop := t.1 = rid ∧ t.2.1 = k ∧ t.2.2 ≠ 1 ∧ t.2.2 ≠ 2
theorem inEnd.mk (rid k : Nat) {j : Nat} (h1 : j ≠ 1) (h2 : j ≠ 2) : inEnd rid k (rid, k, j) := ⟨rfl, rfl, h1, h2⟩

section
variable {own : Nat → Tag} {w : World} {rid k b tb window : Nat} {E : IEnd}
theorem EndX.lt (h : EndX own rid k w b tb window E) : b < w.heap.size := by obtain ⟨_, _, _, _, hc, _⟩ := h; exact hc.lt
theorem EndX.c0 (h : EndX own rid k w b tb window E) : w.cell? ⟨b, 0, none⟩ = some (.pointer (some ⟨tb, 0, none⟩)) := by obtain ⟨_, _, _, _, hc, _⟩ := h; rw [hc.cell]; rfl
theorem EndX.c1 (h : EndX own rid k w b tb window E) : w.cell? ⟨b, 1, none⟩ = some (.int .i64 window) := by obtain ⟨_, _, _, _, hc, _⟩ := h; rw [hc.cell]; rfl
theorem EndX.c2 (h : EndX own rid k w b tb window E) : w.cell? ⟨b, 2, none⟩ = some (.int .i64 E.known) := by obtain ⟨_, _, _, _, hc, _⟩ := h; rw [hc.cell]; rfl
theorem EndX.c3 (h : EndX own rid k w b tb window E) : ∃ a c, w.cell? ⟨b, 3, none⟩ = some (.slice a E.waiting.length c) := by
 obtain ⟨_, _, _, _, hc, hw, _⟩ := h
 obtain ⟨a, c, rfl, _⟩ := hw.shape
 exact ⟨a, c, by rw [hc.cell]; rfl⟩
theorem EndX.c4 (h : EndX own rid k w b tb window E) : w.cell? ⟨b, 4, none⟩ = some (.int .i64 E.taken) := by obtain ⟨_, _, _, _, hc, _⟩ := h; rw [hc.cell]; rfl
theorem EndX.c5 (h : EndX own rid k w b tb window E) : w.cell? ⟨b, 5, none⟩ = some (.int .i64 E.seen) := by obtain ⟨_, _, _, _, hc, _⟩ := h; rw [hc.cell]; rfl
theorem EndX.c8 (h : EndX own rid k w b tb window E) : ∃ a c, w.cell? ⟨b, 8, none⟩ = some (.slice a E.flying.length c) := by
 obtain ⟨_, _, _, _, hc, _, _, _, hf⟩ := h
 obtain ⟨a, c, rfl, _⟩ := hf.shape
 exact ⟨a, c, by rw [hc.cell]; rfl⟩
end

/-- What sending turns. -/
def inFly (rid k : Nat) (t : Tag) : Prop := t = (rid, k, 4) ∨ t = (rid, k, 0)
theorem inFly.inEnd {rid k : Nat} {t : Tag} (h : inFly rid k t) : inEnd rid k t := by
 rcases h with rfl | rfl <;> exact inEnd.mk _ _ (by decide) (by decide)
def IEnd.fly (E : IEnd) (s : ByteArray) : IEnd := if E.flying.length < 12 then { E with flying := E.flying ++ [s] } else E

/-- 'x.f = append(x.f, ..)' where nothing is laid ahead of the append. -/
theorem app_store0 {own own' : Nat → Tag} {t0 tg : Tag} {w w1 : World} {b k : Nat} {vals : Array Value} {T e : TypeId} {size n : Nat} {v : Value} {xs : List Value}
  (hc : CellsT own t0 w b vals T) (hu : Upd own own' (fun x => x = tg) w w1) (hne : t0 ≠ tg) (ho : OwnsT own' tg w1 e size v n xs) :
  CellsT own' t0 (w1.setCell ⟨b, k, none⟩ v) b (vals.setIfInBounds k v) T ∧ OwnsT own' tg (w1.setCell ⟨b, k, none⟩ v) e size v n xs ∧ Upd own own' (fun t => t = tg ∨ t = t0) w (w1.setCell ⟨b, k, none⟩ v) := by
 have c1 : CellsT own' t0 w1 b vals T := hc.upd hu hne
 refine ⟨c1.set k v, ho.other (p := ⟨b, k, none⟩) (by rw [c1.2]; exact hne) v, ?_⟩
 exact Upd.setCell (p := ⟨b, k, none⟩) (hu.mono (fun t ht => .inl ht)) (.inr c1.2) v

theorem Try.info131 : (Try.prog.info? 131).map (fun i => (i.zero, i.size, i.bytes)) = some (some (.string ⟨#[]⟩), 1, 16) := by kernel_rfl

set_option maxRecDepth 100000 in
set_option maxHeartbeats 800000 in
theorem xfly_room (own : Nat → Tag) (rid k b tb window db : Nat) (E : IEnd) (s : ByteArray) (w : World) (h : EndX own rid k w b tb window E) (hlt : E.flying.length < 12) (_hle : E.flying.length ≤ 12) (hd : w.cell? ⟨db, 0, none⟩ = some (.string s)) :
  Calls Try.prog 69 #[.pointer (some ⟨b, 0, none⟩), .slice (some ⟨db, 0, none⟩) 1 1] w fun e w' => e = .returned (.tuple #[]) ∧ ∃ own', EndX own' rid k w' b tb window (E.fly s) ∧ Upd own own' (inFly rid k) w w' := by
 obtain ⟨wv, ov, kb, fv, hc, hm, hop, hk, hf⟩ := h
 obtain ⟨i1, hi, hz0, hz1, hz2⟩ := info_parts Try.info131
 obtain ⟨fa, fc, rfl, _, _⟩ := hf.shape
 have c5 : w.cell? ⟨b, 8, none⟩ = some (.slice fa E.flying.length fc) := by rw [hc.cell]; rfl
 have f5 := hc.frozen 8
 have hb1 := hc.2
 have hbl := hc.lt
 have hmin : (if (1 : Int) < 12 - (E.flying.length : Int) then (1 : Int) else 12 - (E.flying.length : Int)) = 1 := by split <;> omega
 have FIN : Hid (∀ na nc own1 w1, OwnsT own1 (rid, k, 4) w1 131 1 (.slice na (E.flying.length + 1) nc) (E.flying.length + 1) (E.flying.map Value.string ++ [.string s]) → Upd own own1 (fun x => x = (rid, k, 4)) w.drew w1 →
   ∃ own', EndX own' rid k (w1.setCell ⟨b, 8, none⟩ (.slice na (E.flying.length + 1) nc)) b tb window (E.fly s) ∧ Upd own own' (inFly rid k) w (w1.setCell ⟨b, 8, none⟩ (.slice na (E.flying.length + 1) nc))) := by
  apply hide
  intro na nc own1 w1 ho hu
  obtain ⟨C, O, U⟩ := app_store0 (k := 8) hc.drew hu (by simp) ho
  refine ⟨own1, ?_, (((Upd.refl own (inFly rid k) w).drew).trans U)⟩
  have hm1 := hm.drew.upd U (by simp)
  have hop1 := hop.drew.upd U (by simp)
  have hk1 := hk.upd (((Upd.refl own (fun t => t = (rid, k, 4) ∨ t = (rid, k, 0)) w).drew).trans U) (by simp)
  rw [show E.fly s = { E with flying := E.flying ++ [s] } from by simp [IEnd.fly, hlt]]
  exact ⟨wv, ov, kb, _, C, hm1, hop1, hk1, by simpa using O⟩
 go_enter Try.func69, Try.ntmps69
 go_wp2_with fail
 go_region_law ((refine step_append_T _ (by rfl) _ _ _ (by rfl) 131 i1 _ 1 16 Try.underlying84 hi hz0 hz1 hz2 rfl (by omega) _ _ _ own (rid, k, 4) (by rfl) hf.drew ⟨db, 0, none⟩ 1 _ [.string s] (by rfl) (by rfl) (by intro j u hu; rw [Addr.add_lit]; match j, hu with | 0, hu => simp at hu; subst hu; simpa using hd) (by simp [Value.oneCell']) (by simp [maxLen]; omega) (by omega) w.heap.size (by simp) ?_; intro na nc w1 hown1 hu1; have k5 := hu1.cell (p := ⟨b, 8, none⟩) c5 (by simp [hb1]); have e5 := hu1.frozen (p := ⟨b, 8, none⟩) hbl (by simp [hb1]) f5))
 all_goals
  go_wp2
  go_end0
  exact ⟨rfl, unhide FIN _ _ _ _ hown1 hu1⟩

set_option maxRecDepth 100000 in
set_option maxHeartbeats 800000 in
theorem xfly_full (own : Nat → Tag) (rid k b tb window db : Nat) (E : IEnd) (s : ByteArray) (w : World) (h : EndX own rid k w b tb window E) (hlt : ¬ E.flying.length < 12) (hle : E.flying.length ≤ 12) (_hd : w.cell? ⟨db, 0, none⟩ = some (.string s)) :
  Calls Try.prog 69 #[.pointer (some ⟨b, 0, none⟩), .slice (some ⟨db, 0, none⟩) 1 1] w fun e w' => e = .returned (.tuple #[]) ∧ ∃ own', EndX own' rid k w' b tb window (E.fly s) ∧ Upd own own' (inFly rid k) w w' := by
 obtain ⟨wv, ov, kb, fv, hc, hm, hop, hk, hf⟩ := h
 obtain ⟨i1, hi, hz0, hz1, hz2⟩ := info_parts Try.info131
 obtain ⟨fa, fc, rfl, _, _⟩ := hf.shape
 have c5 : w.cell? ⟨b, 8, none⟩ = some (.slice fa E.flying.length fc) := by rw [hc.cell]; rfl
 have f5 := hc.frozen 8
 have hb1 := hc.2
 have hbl := hc.lt
 have hmin : (if (1 : Int) < 12 - (E.flying.length : Int) then (1 : Int) else 12 - (E.flying.length : Int)) = 0 := by split <;> omega
 have FIN : Hid (∀ na nc own1 w1, OwnsT own1 (rid, k, 4) w1 131 1 (.slice na (E.flying.length + 0) nc) (E.flying.length + 0) (E.flying.map Value.string ++ ([] : List Value)) → Upd own own1 (fun x => x = (rid, k, 4)) w.drew w1 →
   ∃ own', EndX own' rid k (w1.setCell ⟨b, 8, none⟩ (.slice na (E.flying.length + 0) nc)) b tb window (E.fly s) ∧ Upd own own' (inFly rid k) w (w1.setCell ⟨b, 8, none⟩ (.slice na (E.flying.length + 0) nc))) := by
  apply hide
  intro na nc own1 w1 ho hu
  obtain ⟨C, O, U⟩ := app_store0 (k := 8) hc.drew hu (by simp) ho
  refine ⟨own1, ?_, (((Upd.refl own (inFly rid k) w).drew).trans U)⟩
  have hm1 := hm.drew.upd U (by simp)
  have hop1 := hop.drew.upd U (by simp)
  have hk1 := hk.upd (((Upd.refl own (fun t => t = (rid, k, 4) ∨ t = (rid, k, 0)) w).drew).trans U) (by simp)
  rw [show E.fly s = E from by simp [IEnd.fly, hlt]]
  exact ⟨wv, ov, kb, _, C, hm1, hop1, hk1, by simpa using O⟩
 go_enter Try.func69, Try.ntmps69
 go_wp2_with fail
 go_region_law ((refine step_append_T _ (by rfl) _ _ _ (by rfl) 131 i1 _ 1 16 Try.underlying84 hi hz0 hz1 hz2 rfl (by omega) _ _ _ own (rid, k, 4) (by rfl) hf.drew ⟨db, 0, none⟩ 0 _ ([] : List Value) (by rfl) (by rfl) (by intro j u hu; simp at hu) (by simp [Value.oneCell']) (by simp [maxLen]; omega) (by omega) w.heap.size (by simp) ?_; intro na nc w1 hown1 hu1; have k5 := hu1.cell (p := ⟨b, 8, none⟩) c5 (by simp [hb1]); have e5 := hu1.frozen (p := ⟨b, 8, none⟩) hbl (by simp [hb1]) f5))
 all_goals
  go_wp2
  go_end0
  exact ⟨rfl, unhide FIN _ _ _ _ hown1 hu1⟩

theorem xfly (own : Nat → Tag) (rid k b tb window db : Nat) (E : IEnd) (s : ByteArray) (w : World) (h : EndX own rid k w b tb window E) (hle : E.flying.length ≤ 12) (hd : w.cell? ⟨db, 0, none⟩ = some (.string s)) :
  Calls Try.prog 69 #[.pointer (some ⟨b, 0, none⟩), .slice (some ⟨db, 0, none⟩) 1 1] w fun e w' => e = .returned (.tuple #[]) ∧ ∃ own', EndX own' rid k w' b tb window (E.fly s) ∧ Upd own own' (inFly rid k) w w' := by
 by_cases hlt : E.flying.length < 12
 ·exact xfly_room own rid k b tb window db E s w h hlt hle hd
 ·exact xfly_full own rid k b tb window db E s w h hlt hle hd
end Go.Proofs.Ytemkgikncmhoaaa

