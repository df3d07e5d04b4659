/-
  weave: an end of a line: its state as plain data, how it lies in memory; fly. Own work.
-/
import Derived.Test.YtibokhifcaodfaaImpWrite
import Derived.Test.YtibokhifcaodfaaRefFly
import Derived.Deep.DeepCutAuto
namespace Go.Proofs.Ytibokhifcaodfaa
open Go.RowKit
attribute [local go_sem ↓] Go.wp_at_zero Go.wp_at_succ

structure IMsg where
  number : Nat
  ctx : Nat
  op : ROp
structure IEnd where
  made : List IMsg
  known : Nat
  taken : Nat
  flying : List ByteArray
def IMsg.cells (m : IMsg) : List Value := [.int .i64 m.number, .int .i64 m.ctx, .int .i64 m.op.client, .int .i64 m.op.verb, .int .i64 m.op.place, .int .u8 m.op.letter]

def EndX (own : Nat → Tag) (rid k : Nat) (w : World) (b tb window : Nat) (E : IEnd) : Prop :=
  ∃ mv fv : Value, CellsT own (rid, k, 0) w b #[ptr tb, .int .i64 window, mv, .int .i64 E.known, .int .i64 E.taken, fv] 62 ∧ OwnsT own (rid, k, 3) w 120 6 mv E.made.length (E.made.flatMap IMsg.cells) ∧
    OwnsT own (rid, k, 4) w 9 1 fv E.flying.length (E.flying.map Value.string)
def byteCell (c : UInt8) : Value := .int .u8 c.toNat
def TextX (own : Nat → Tag) (rid k : Nat) (w : World) (tb : Nat) (t : List UInt8) : Prop :=
  ∃ lv : Value, CellsT own (rid, k, 1) w tb #[lv] 55 ∧ OwnsT own (rid, k, 2) w 5 1 lv t.length (t.map byteCell)

theorem EndX.upd {own own' : Nat → Tag} {may : Tag → Prop} {w w' : World} {rid k b tb window : Nat} {E : IEnd} (h : EndX own rid k w b tb window E) (hu : Upd own own' may w w') (h0 : ¬ may (rid, k, 0)) (h3 : ¬ may (rid, k, 3)) (h4 : ¬ may (rid, k, 4)) : EndX own' rid k w' b tb window E := by
  obtain ⟨mv, fv, a, b, c⟩ := h
  exact ⟨mv, fv, a.upd hu h0, b.upd hu h3, c.upd hu h4⟩
theorem TextX.upd {own own' : Nat → Tag} {may : Tag → Prop} {w w' : World} {rid k tb : Nat} {t : List UInt8} (h : TextX own rid k w tb t) (hu : Upd own own' may w w') (h1 : ¬ may (rid, k, 1)) (h2 : ¬ may (rid, k, 2)) : TextX own' rid k w' tb t := by
  obtain ⟨lv, a, b⟩ := h
  exact ⟨lv, a.upd hu h1, b.upd hu h2⟩
def inEnd (rid k : Nat) (t : Tag) : Prop := t = (rid, k, 0) ∨ t = (rid, k, 3) ∨ t = (rid, k, 4)

def IEnd.fly (E : IEnd) (s : ByteArray) : IEnd := if E.flying.length < 12 then { E with flying := E.flying ++ [s] } else E

/-- 'x.f = append(x.f, ..)' where nothing is laid ahead of the append. -/
theorem app_store0 {own own' : Nat → Tag} {t0 tg : Tag} {w w1 : World} {b k : Nat} {vals : Array Value} {T e : TypeId} {size n : Nat} {v : Value} {xs : List Value}
    (hc : CellsT own t0 w b vals T) (hu : Upd own own' (fun x => x = tg) w w1) (hne : t0 ≠ tg) (ho : OwnsT own' tg w1 e size v n xs) :
    CellsT own' t0 (w1.setCell ⟨b, k, none⟩ v) b (vals.setIfInBounds k v) T ∧ OwnsT own' tg (w1.setCell ⟨b, k, none⟩ v) e size v n xs ∧ Upd own own' (fun t => t = tg ∨ t = t0) w (w1.setCell ⟨b, k, none⟩ v) := by
  have c1 : CellsT own' t0 w1 b vals T := hc.upd hu hne
  refine ⟨c1.set k v, ho.other (p := ⟨b, k, none⟩) (by rw [c1.2]; exact hne) v, ?_⟩
  exact Upd.setCell (p := ⟨b, k, none⟩) (hu.mono (fun t ht => .inl ht)) (.inr c1.2) v

set_option maxRecDepth 100000 in
set_option maxHeartbeats 800000 in
theorem xfly_room (own : Nat → Tag) (rid k b tb window db : Nat) (E : IEnd) (s : ByteArray) (w : World) (h : EndX own rid k w b tb window E) (hlt : E.flying.length < 12) (_hle : E.flying.length ≤ 12) (hd : w.cell? ⟨db, 0, none⟩ = some (.string s)) :
    Calls Try.prog 58 #[.pointer (some ⟨b, 0, none⟩), .slice (some ⟨db, 0, none⟩) 1 1] w fun e w' => e = .returned (.tuple #[]) ∧ ∃ own', EndX own' rid k w' b tb window (E.fly s) ∧ Upd own own' (inEnd rid k) w w' := by
  obtain ⟨mv, fv, hc, hm, hf⟩ := h
  obtain ⟨i1, hi, hz0, hz1, hz2⟩ := info_parts Try.info9
  obtain ⟨fa, fc, rfl, _, _⟩ := hf.shape
  have c5 : w.cell? ⟨b, 5, none⟩ = some (.slice fa E.flying.length fc) := by rw [hc.cell]; rfl
  have f5 := hc.frozen 5
  have hb1 := hc.2
  have hbl := hc.lt
  have hmin : (if (1 : Int) < 12 - (E.flying.length : Int) then (1 : Int) else 12 - (E.flying.length : Int)) = 1 := by split <;> omega
  have FIN : Hid (∀ na nc own1 w1, OwnsT own1 (rid, k, 4) w1 9 1 (.slice na (E.flying.length + 1) nc) (E.flying.length + 1) (E.flying.map Value.string ++ [.string s]) → Upd own own1 (fun x => x = (rid, k, 4)) w.drew w1 →
      ∃ own', EndX own' rid k (w1.setCell ⟨b, 5, none⟩ (.slice na (E.flying.length + 1) nc)) b tb window (E.fly s) ∧ Upd own own' (inEnd rid k) w (w1.setCell ⟨b, 5, none⟩ (.slice na (E.flying.length + 1) nc))) := by
    apply hide
    intro na nc own1 w1 ho hu
    obtain ⟨C, O, U⟩ := app_store0 (k := 5) hc.drew hu (by simp) ho
    refine ⟨own1, ?_, (((Upd.refl own (inEnd rid k) w).drew).trans (U.mono (by rintro t (rfl | rfl) <;> simp [inEnd])))⟩
    have hm1 := hm.drew.upd U (by simp)
    rw [show E.fly s = { E with flying := E.flying ++ [s] } from by simp [IEnd.fly, hlt]]
    exact ⟨mv, _, C, hm1, by simpa using O⟩
  go_enter Try.func58, Try.ntmps58
  go_wp2_with fail
  go_region_law ((refine step_append_T _ (by rfl) _ _ _ (by rfl) 9 i1 _ 1 16 Try.underlying46 hi hz0 hz1 hz2 rfl (by omega) _ _ _ own (rid, k, 4) (by rfl) hf.drew ⟨db, 0, none⟩ 1 _ [.string s] (by rfl) (by rfl) (by intro j u hu; rw [Addr.add_lit]; match j, hu with | 0, hu => simp at hu; subst hu; simpa using hd) (by simp [Value.oneCell']) (by simp [maxLen]; omega) (by omega) w.heap.size (by simp) ?_; intro na nc w1 hown1 hu1; have k5 := hu1.cell (p := ⟨b, 5, none⟩) c5 (by simp [hb1]); have e5 := hu1.frozen (p := ⟨b, 5, none⟩) hbl (by simp [hb1]) f5))
  all_goals
    go_wp2
    go_end0
    exact ⟨rfl, unhide FIN _ _ _ _ hown1 hu1⟩

set_option maxRecDepth 100000 in
set_option maxHeartbeats 800000 in
theorem xfly_full (own : Nat → Tag) (rid k b tb window db : Nat) (E : IEnd) (s : ByteArray) (w : World) (h : EndX own rid k w b tb window E) (hlt : ¬ E.flying.length < 12) (hle : E.flying.length ≤ 12) (_hd : w.cell? ⟨db, 0, none⟩ = some (.string s)) :
    Calls Try.prog 58 #[.pointer (some ⟨b, 0, none⟩), .slice (some ⟨db, 0, none⟩) 1 1] w fun e w' => e = .returned (.tuple #[]) ∧ ∃ own', EndX own' rid k w' b tb window (E.fly s) ∧ Upd own own' (inEnd rid k) w w' := by
  obtain ⟨mv, fv, hc, hm, hf⟩ := h
  obtain ⟨i1, hi, hz0, hz1, hz2⟩ := info_parts Try.info9
  obtain ⟨fa, fc, rfl, _, _⟩ := hf.shape
  have c5 : w.cell? ⟨b, 5, none⟩ = some (.slice fa E.flying.length fc) := by rw [hc.cell]; rfl
  have f5 := hc.frozen 5
  have hb1 := hc.2
  have hbl := hc.lt
  have hmin : (if (1 : Int) < 12 - (E.flying.length : Int) then (1 : Int) else 12 - (E.flying.length : Int)) = 0 := by split <;> omega
  have FIN : Hid (∀ na nc own1 w1, OwnsT own1 (rid, k, 4) w1 9 1 (.slice na (E.flying.length + 0) nc) (E.flying.length + 0) (E.flying.map Value.string ++ ([] : List Value)) → Upd own own1 (fun x => x = (rid, k, 4)) w.drew w1 →
      ∃ own', EndX own' rid k (w1.setCell ⟨b, 5, none⟩ (.slice na (E.flying.length + 0) nc)) b tb window (E.fly s) ∧ Upd own own' (inEnd rid k) w (w1.setCell ⟨b, 5, none⟩ (.slice na (E.flying.length + 0) nc))) := by
    apply hide
    intro na nc own1 w1 ho hu
    obtain ⟨C, O, U⟩ := app_store0 (k := 5) hc.drew hu (by simp) ho
    refine ⟨own1, ?_, (((Upd.refl own (inEnd rid k) w).drew).trans (U.mono (by rintro t (rfl | rfl) <;> simp [inEnd])))⟩
    have hm1 := hm.drew.upd U (by simp)
    rw [show E.fly s = E from by simp [IEnd.fly, hlt]]
    exact ⟨mv, _, C, hm1, by simpa using O⟩
  go_enter Try.func58, Try.ntmps58
  go_wp2_with fail
  go_region_law ((refine step_append_T _ (by rfl) _ _ _ (by rfl) 9 i1 _ 1 16 Try.underlying46 hi hz0 hz1 hz2 rfl (by omega) _ _ _ own (rid, k, 4) (by rfl) hf.drew ⟨db, 0, none⟩ 0 _ ([] : List Value) (by rfl) (by rfl) (by intro j u hu; simp at hu) (by simp [Value.oneCell']) (by simp [maxLen]; omega) (by omega) w.heap.size (by simp) ?_; intro na nc w1 hown1 hu1; have k5 := hu1.cell (p := ⟨b, 5, none⟩) c5 (by simp [hb1]); have e5 := hu1.frozen (p := ⟨b, 5, none⟩) hbl (by simp [hb1]) f5))
  all_goals
    go_wp2
    go_end0
    exact ⟨rfl, unhide FIN _ _ _ _ hown1 hu1⟩

theorem xfly (own : Nat → Tag) (rid k b tb window db : Nat) (E : IEnd) (s : ByteArray) (w : World) (h : EndX own rid k w b tb window E) (hle : E.flying.length ≤ 12) (hd : w.cell? ⟨db, 0, none⟩ = some (.string s)) :
    Calls Try.prog 58 #[.pointer (some ⟨b, 0, none⟩), .slice (some ⟨db, 0, none⟩) 1 1] w fun e w' => e = .returned (.tuple #[]) ∧ ∃ own', EndX own' rid k w' b tb window (E.fly s) ∧ Upd own own' (inEnd rid k) w w' := by
  by_cases hlt : E.flying.length < 12
  · exact xfly_room own rid k b tb window db E s w h hlt hle hd
  · exact xfly_full own rid k b tb window db E s w h hlt hle hd
end Go.Proofs.Ytibokhifcaodfaa
