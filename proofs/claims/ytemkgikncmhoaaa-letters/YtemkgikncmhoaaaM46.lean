import Derived.Test.YtemkgikncmhoaaaM45
/-
  weavekeep: Letters. Own work.
-/
namespace Go.Proofs.Ytemkgikncmhoaaa
open Go.RowKit
attribute [local go_sem ↓] Go.wp_at_zero Go.wp_at_succ

set_option maxRecDepth 100000 in
set_option maxHeartbeats 800000 in
theorem kcount (t : List UInt8) (b : UInt8) (ht : t.length ≤ 1000) (w : World) :
    Calls Try.prog 22 #[bstr t, .int .u8 b.toNat] w fun e w' => e = .returned (.int .i64 (t.count b)) ∧ w' = w := by
  unfold bstr
  go_enter Try.func22, Try.ntmps22
  go_wp2_with fail
  go_loopw [5, 6] (fun v5 v6 wr => ∃ i : Nat, i ≤ t.length ∧ v6 = .int .i64 i ∧ v5 = .int .i64 ((t.take i).count b) ∧ wr = w) (fun v5 v6 _ => t.length - (intOf v6).toNat)
  case atStart => exact ⟨0, by omega, rfl, by simp, rfl⟩
  case round =>
    obtain ⟨i, hi, rfl, rfl, rfl⟩ := hrel
    by_cases hlt : i < t.length
    · have hlt' : (i : Int) < (t.length : Int) := by omega
      have htk : (t.take (i + 1)).count b = (t.take i).count b + if t[i] = b then 1 else 0 := by
        rw [List.take_add_one, List.getElem?_eq_getElem hlt]
        show (t.take i ++ [t[i]]).count b = _
        rw [List.count_append, List.count_singleton]
        simp only [beq_iff_eq]
      have hc : (t.take i).count b ≤ 1000 := by
        have := List.count_le_length (a := b) (l := t.take i)
        rw [List.length_take] at this
        omega
      replace htk := hide htk
      generalize (t.take i).count b = k at *
      go_wp2_with fail
      · rename_i hq
        go_roundw
        case rel =>
          have h1 : ((t[i].toNat : Int) == (b.toNat : Int)) = true := hq
          have h2 := eq_of_beq h1
          have h3 : t[i] = b := UInt8.toNat_inj.1 (by omega)
          have e := unhide htk
          rw [if_pos h3] at e
          exact ⟨i + 1, by omega, by go_num, by rw [e]; go_num, by first | rfl | trivial⟩
        case measure => simp [intOf]; omega
      · rename_i hq
        go_roundw
        case rel =>
          have h1 : ((t[i].toNat : Int) == (b.toNat : Int)) = false := hq
          have h2 := ne_of_beq_false h1
          have h3 : ¬ t[i] = b := fun e => h2 (by rw [e])
          have e := unhide htk
          rw [if_neg h3] at e
          exact ⟨i + 1, by omega, by go_num, by rw [e, Nat.add_zero], by first | rfl | trivial⟩
        case measure => simp [intOf]; omega
    · have hlt' : ¬ (i : Int) < (t.length : Int) := by omega
      rw [List.take_of_length_le (by omega)]
      go_wp2_with fail
      go_ret
      exact ⟨rfl, rfl⟩

def sumN (l : Nat) (f : Nat → Nat) : Nat := ((List.range l).map f).sum
theorem sumN_succ (l : Nat) (f : Nat → Nat) : sumN (l + 1) f = sumN l f + f l := by unfold sumN; rw [List.range_succ, List.map_append, List.sum_append]; simp
theorem sumN_le {f : Nat → Nat} {m : Nat} : ∀ l, (∀ j, j < l → f j ≤ m) → sumN l f ≤ l * m
  | 0, _ => by simp [sumN]
  | l + 1, h => by
    have ih := sumN_le l (fun j hj => h j (by omega))
    have := h l (by omega)
    rw [sumN_succ, Nat.add_mul]
    omega
/-- What was put, as it lies. -/
def putV (ps : Nat → Nat) : Array Value := ((List.range 26).map fun j => Value.int .i64 (ps j)).toArray
theorem putV_get (ps : Nat → Nat) {k : Nat} (hk : k < 26) : (putV ps)[k]? = some (.int .i64 (ps k)) := by
  simp [putV, hk]
theorem putV_set (ps : Nat → Nat) {k : Nat} (hk : k < 26) : (putV ps).setIfInBounds k (.int .i64 ((ps k : Int) + 1)) = putV (fun j => if j = k then ps j + 1 else ps j) := by
  apply Array.ext_getElem?
  intro j
  rw [Array.getElem?_setIfInBounds]
  by_cases hj : k = j
  · subst hj
    rw [if_pos rfl, putV_get _ hk]
    simp [putV, hk]
  · rw [if_neg hj]
    by_cases hj2 : j < 26
    · rw [putV_get _ hj2, putV_get _ hj2, if_neg (fun h => hj h.symm)]
    · simp [putV, hj2]
structure PutAt (w : World) (rb b pb : Nat) (X : IRoom) (ps : Nat → Nat) (own1 : Nat → Tag) (wr : World) : Prop where
  law : LawAt w rb b X own1 wr
  put : CellsT own1 (5, 0, 0) wr pb (putV ps) 47
theorem PutAt.drew {w wr : World} {rb b pb : Nat} {X : IRoom} {ps : Nat → Nat} {own1 : Nat → Tag} (h : PutAt w rb b pb X ps own1 wr) : PutAt w rb b pb X ps own1 wr.drew := ⟨h.law.drew, h.put.upd ((Upd.refl own1 (fun _ => False) wr).drew) (fun h => h)⟩
theorem PutAt.cell {w wr : World} {rb b pb : Nat} {X : IRoom} {ps : Nat → Nat} {own1 : Nat → Tag} (h : PutAt w rb b pb X ps own1 wr) {k : Nat} (hk : k < 26) : wr.cell? ⟨pb, k, none⟩ = some (.int .i64 (ps k)) := by rw [h.put.cell, putV_get _ hk]
/-- What the step came to. -/
def Arm (kd m : Int) (ps : Nat → Nat) (cuts : Nat) (t t' : List UInt8) (X' : IRoom) : Prop :=
  (3 ≤ pickN kd 8 ∧ LtI ps cuts X') ∨ (pickN kd 8 < 3 ∧ t' = t ∧ LtI ps cuts X') ∨ (pickN kd 8 < 3 ∧ t'.length = t.length + 1 ∧ LtI (fun j => if j = pickN m 26 then ps j + 1 else ps j) cuts X') ∨ (pickN kd 8 < 3 ∧ t'.length + 1 = t.length ∧ LtI ps (cuts + 1) X')
theorem PutAt.play {w wr : World} {rb b pb N cuts : Nat} {X : IRoom} {ps : Nat → Nat} {own1 : Nat → Tag} (h : PutAt w rb b pb X ps own1 wr) (hI : LtI ps cuts X) (hn : X.texts.length = N) {kd c n m : Int} (hkd : I64 kd) (hc : I64 c) (hnn : I64 n) (hm : I64 m) :
    Calls Try.prog 14 #[.pointer (some ⟨rb, 0, none⟩), .agg (StepV kd c n m)] wr fun e w' => e = .returned (.bool true) ∧ ∃ X' own', PutAt w rb b pb X' ps own' w' ∧ X'.texts.length = N ∧ Arm kd m ps cuts (X.tx (pickN c N)) (X'.tx (pickN c N)) X' := by
  refine (kplay own1 wr rb b X kd c n m h.law.room hkd hc hnn hm).mono ?_
  rintro e w' ⟨rfl, X', a1, own', a2, a3⟩
  refine ⟨rfl, X', own', ⟨h.law.of a2 a3, h.put.upd a3 (by simp [inRoom])⟩, (a1.fit h.law.room.fit).2.1.trans hn, ?_⟩
  cases a1 with
  | move hk q => exact .inl ⟨hk, hI.moved q⟩
  | edit hk q =>
    rw [hn] at q
    have hcc : pickN c N < X.texts.length := by rw [hn]; exact pickN_lt c (by rw [← hn]; exact h.law.room.fit.num.1)
    rcases hI.edited hcc q with ⟨g1, g2⟩ | ⟨g1, g2⟩ | ⟨g1, g2⟩
    · exact .inr (.inl ⟨hk, g1, g2⟩)
    · exact .inr (.inr (.inl ⟨hk, g1, g2⟩))
    · exact .inr (.inr (.inr ⟨hk, g1, g2⟩))
/-- One more of a letter. -/
theorem PutAt.more {w wr : World} {rb b pb k : Nat} {X : IRoom} {ps : Nat → Nat} {own1 : Nat → Tag} (h : PutAt w rb b pb X ps own1 wr) (hk : k < 26) : PutAt w rb b pb X (fun j => if j = k then ps j + 1 else ps j) own1 (wr.setCell ⟨pb, k, none⟩ (.int .i64 ((ps k : Int) + 1))) := by
  have U : Upd own1 own1 (fun t => t = (5, 0, 0)) wr (wr.setCell ⟨pb, k, none⟩ (.int .i64 ((ps k : Int) + 1))) := Upd.setCell (p := ⟨pb, k, none⟩) (Upd.refl _ _ _) h.put.2 _
  refine ⟨⟨h.law.room.upd U (by simp) (by simp), h.law.upd.trans (U.mono fun t ht => by subst ht; simp [may9])⟩, ?_⟩
  have := h.put.set k (.int .i64 ((ps k : Int) + 1))
  rwa [putV_set ps hk] at this
theorem LtI.small {ps : Nat → Nat} {cuts : Nat} {X : IRoom} (h : LtI ps cuts X) : (∀ l, l < 26 → ps l ≤ 240) ∧ cuts ≤ 240 := by
  obtain ⟨us, ds, T, hr, ci, a1, a2, a3, a4⟩ := h.rows
  have hus : ∀ j, (us j).length ≤ 60 := fun j => by
    by_cases hj : j < X.texts.length
    · obtain ⟨g1, g2, g3⟩ := hr.at' hj
      exact (hr.line j _ _ _ g1 g2 g3).2.2.1
    · rw [ci.none j (by omega)]; simp
  have key : ∀ f : ROp → Nat, (∀ o, f o ≤ 1) → allp us f ≤ 240 := fun f hf => by
    have k1 : ∀ l : List GMsg, wsumG f l ≤ l.length := fun l => by
      unfold wsumG
      induction l with
      | nil => simp
      | cons a l ih => simp only [List.map_cons, List.sum_cons, List.length_cons]; have := hf a.op; omega
    unfold allp
    have := k1 (us 0)
    have := k1 (us 1)
    have := k1 (us 2)
    have := k1 (us 3)
    have := hus 0
    have := hus 1
    have := hus 2
    have := hus 3
    omega
  refine ⟨fun l hl => by rw [← a1 l hl]; exact key _ (fun o => by unfold wput; split <;> omega), by rw [← a4]; exact key _ (fun o => by unfold wc; split <;> omega)⟩
set_option maxRecDepth 100000 in
set_option maxHeartbeats 1600000 in
theorem letters_any (w : World) (cl wi : Int) (a : Option Addr) (L cap : Nat) (hcl : I64 cl) (hwi : I64 wi) (hs : StepsAt w w.heap.size a L) (hL : L ≤ 4611686018427387904) :
    Calls Try.prog 6 #[.int .i64 cl, .int .i64 wi, .slice a L cap] w fun e w' => e = .returned (.bool true) ∧ Below w.heap.size w w' := by
  have hq1 := pickN_lt cl (n := 4) (by omega)
  have hq2 := pickN_lt wi (n := 4) (by omega)
  have HO : Hid (Calls Try.prog 13 #[.int .i64 cl, .int .i64 wi] w fun e w' => ∃ rb b own', e = .returned (.pointer (some ⟨rb, 0, none⟩)) ∧ ∃ X, LawAt w rb b X own' w' ∧ LtI (fun _ => 0) 0 X ∧ X.texts.length = 1 + pickN cl 4) := by
    apply hide
    refine (kopened w cl wi hcl hwi).mono ?_
    rintro e w' ⟨rb, b, own', rfl, a1, a2⟩
    exact ⟨rb, b, own', rfl, _, ⟨a1, a2⟩, LtI.start (by omega) (by omega) (by omega) (by omega), by simp [IRoom.fresh]⟩
  have HS := hide hs
  clear hs hcl hwi hq2
  have hN : 1 ≤ 1 + pickN cl 4 ∧ 1 + pickN cl 4 ≤ 4 := by omega
  generalize 1 + pickN cl 4 = N at *
  clear hq1
  go_enter Try.func6, Try.ntmps6
  go_wp2_with fail
  refine (unhide HO).mono ?_
  rintro e w1 ⟨rb, b, own1, rfl, X1, h1, hI1, hn1⟩
  clear HO
  have H1 := hide (And.intro h1 (And.intro hI1 hn1))
  clear h1 hI1 hn1
  have hU : Upd own1 (retag own1 w1.heap.size (5, 0, 0)) (fun _ => False) w1 (w1.alloc (Obj.cells (putV fun _ => 0) 47)) := Upd.retag ((Upd.refl _ _ w1).alloc _) _ _ (Nat.le_refl _)
  have H2 : Hid (PutAt w rb b w1.heap.size X1 (fun _ => 0) (retag own1 w1.heap.size (5, 0, 0)) (w1.alloc (Obj.cells (putV fun _ => 0) 47)) ∧ LtI (fun _ => 0) 0 X1 ∧ X1.texts.length = N) :=
    hide ⟨⟨⟨(unhide H1).1.room.upd hU (fun _ _ h => h) (fun h => h), (unhide H1).1.upd.trans (hU.mono fun _ h => h.elim)⟩, CellsT.new w1 _ _ _ _⟩, (unhide H1).2⟩
  have hpv : putV (fun _ => 0) = #[Value.int .i64 0, Value.int .i64 0, Value.int .i64 0, Value.int .i64 0, Value.int .i64 0, Value.int .i64 0, Value.int .i64 0, Value.int .i64 0, Value.int .i64 0, Value.int .i64 0, Value.int .i64 0, Value.int .i64 0, Value.int .i64 0, Value.int .i64 0, Value.int .i64 0, Value.int .i64 0, Value.int .i64 0, Value.int .i64 0, Value.int .i64 0, Value.int .i64 0, Value.int .i64 0, Value.int .i64 0, Value.int .i64 0, Value.int .i64 0, Value.int .i64 0, Value.int .i64 0] := rfl
  rw [hpv] at H2
  clear hU H1 hpv
  go_wp2_with fail
  generalize w1.alloc _ = W at *
  generalize retag own1 w1.heap.size (5, 0, 0) = own2 at *
  generalize w1.heap.size = pb at *
  go_loopw [9, 10] (fun v9 v10 wr => ∃ (i cuts : Nat) (ps : Nat → Nat) (own3 : Nat → Tag) (X : IRoom), i ≤ L ∧ v10 = .int .i64 i ∧ v9 = .int .i64 cuts ∧ PutAt w rb b pb X ps own3 wr ∧ LtI ps cuts X ∧ X.texts.length = N) (fun v9 v10 _ => L - (intOf v10).toNat)
  case atStart => exact ⟨0, 0, fun _ => 0, own2, X1, by omega, rfl, rfl, (unhide H2).1, (unhide H2).2.1, (unhide H2).2.2⟩
  case round =>
    clear H2
    obtain ⟨i, cuts, ps, own3, X, hi, rfl, rfl, h3, hI3, hn3⟩ := hrel
    by_cases hlt : i < L
    · have hlt' : (i : Int) < (L : Int) := by omega
      obtain ⟨sb, so, kd, c, n, m, rfl, g2, g3, g4, g5, g6, g7⟩ := unhide HS i hlt
      have zz : ∀ (X : IRoom) (own1 : Nat → Tag) (wr : World), LawAt w rb b X own1 wr → wr.cell? ⟨sb, so + i * 4, none⟩ = some (.int .i64 kd) ∧ wr.cell? ⟨sb, so + i * 4 + 1, none⟩ = some (.int .i64 c) ∧ wr.cell? ⟨sb, so + i * 4 + 2, none⟩ = some (.int .i64 n) ∧ wr.cell? ⟨sb, so + i * 4 + 3, none⟩ = some (.int .i64 m) := fun X own1 wr h => ⟨h.old g2 (g7 0 _ rfl), h.old g2 (g7 1 _ rfl), h.old g2 (g7 2 _ rfl), h.old g2 (g7 3 _ rfl)⟩
      obtain ⟨z0, z1, z2, z3⟩ := zz X own3 wr h3.law
      have c0 := h3.law.room.c0
      have c1 := h3.law.room.c1
      rw [hn3] at c1
      have hq := pickN_lt c hN.1
      have HP := hide (fun w => kpick c N g4 hN.1 (by omega) w)
      have HR := hide (kRead (i := pickN c N) h3.drew.law.room.room h3.law.room.fit (by rw [hn3]; exact hq))
      have HPl := hide (h3.drew.play hI3 hn3 g3 g4 g5 g6)
      have HK := hide (fun w => kpick kd 8 g3 (by omega) (by omega) w)
      have HLt := hide (fun w => kletter m g6 w)
      have hcs := hI3.small.2
      have HSM := hide hI3.small
      have ZZ := hide zz
      clear h3 hI3 hn3 g7 zz
      unfold StepV at HPl
      unfold bstr at HR
      generalize X.tx (pickN c N) = t at *
      generalize pickN c N = q at *
      go_wp2_with fail
      go_region_held3 (fun w' => w'.cell? ⟨sb, so + i * 4, none⟩ = some (.int .i64 kd) ∧ w'.cell? ⟨sb, so + i * 4 + 1, none⟩ = some (.int .i64 c) ∧ w'.cell? ⟨sb, so + i * 4 + 2, none⟩ = some (.int .i64 n) ∧ w'.cell? ⟨sb, so + i * 4 + 3, none⟩ = some (.int .i64 m) ∧ w'.cell? ⟨rb, 0, none⟩ = some (.pointer (some ⟨b, 0, none⟩)) ∧ w'.cell? ⟨rb, 1, none⟩ = some (.int .i64 N)) (go_keep) (first | (go_at_call 20; with_reducible refine (unhide HP _).mono ?_; rintro e w' ⟨rfl, hw'⟩; obtain rfl := hw'.symm))
      all_goals
        go_wp2_with fail
        refine (unhide HR).mono ?_
        rintro e w' ⟨rfl, hw'⟩
        obtain rfl := hw'.symm
        go_wp2_with fail
        refine (unhide HPl).mono ?_
        rintro e w4 ⟨rfl, X4, own4, h4, hn4, arm⟩
        obtain ⟨y0, y1, y2, y3⟩ := unhide ZZ X4 own4 w4 h4.law
        have d0 := h4.law.room.c0
        have HR4 := hide (kRead (i := q) h4.law.room.room h4.law.room.fit (by rw [hn4]; exact hq))
        have H4 := hide (And.intro h4 hn4)
        clear h4 hn4 HR HPl
        unfold bstr at HR4
        generalize X4.tx q = t4 at *
        unfold Arm at arm
        generalize pickN kd 8 = kk at *
        rcases arm with ⟨a1, a2⟩ | ⟨a1, rfl, a2⟩ | ⟨a1, a3, a2⟩ | ⟨a1, a3, a2⟩
        · have ha : ¬ (kk : Int) < 3 := by omega
          replace a2 := hide a2
          go_wp2_with fail
          refine (unhide HR4).mono ?_
          rintro e w' ⟨rfl, hw'⟩
          obtain rfl := hw'.symm
          go_wp2_with fail
          refine (unhide HK _).mono ?_
          rintro e w' ⟨rfl, hw'⟩
          obtain rfl := hw'.symm
          go_wp2_with fail
          go_roundw
          case rel => exact ⟨i + 1, cuts, ps, own4, X4, by omega, by go_num, rfl, (unhide H4).1, unhide a2, (unhide H4).2⟩
          case measure => simp [intOf]; omega
        · have ha : (kk : Int) < 3 := by omega
          replace a2 := hide a2
          go_wp2_with fail
          refine (unhide HR4).mono ?_
          rintro e w' ⟨rfl, hw'⟩
          obtain rfl := hw'.symm
          go_wp2_with fail
          refine (unhide HK _).mono ?_
          rintro e w' ⟨rfl, hw'⟩
          obtain rfl := hw'.symm
          go_wp2_with fail
          go_roundw
          case rel => exact ⟨i + 1, cuts, ps, own4, X4, by omega, by go_num, rfl, (unhide H4).1, unhide a2, (unhide H4).2⟩
          case measure => simp [intOf]; omega
        · have ha : (kk : Int) < 3 := by omega
          have hb1 : (t.length : Int) < (t4.length : Int) := by omega
          have hb2 : ¬ (t4.length : Int) < (t.length : Int) := by omega
          have hk := pickN_lt m (n := 26) (by omega)
          have hps := (unhide HSM).1 (pickN m 26) hk
          have hck := (unhide H4).1.cell hk
          have hfk := (unhide H4).1.put.frozen (pickN m 26)
          have HMo := hide ((unhide H4).1.more hk)
          have HL2 : Hid (∀ w, Calls Try.prog 21 #[.int .i64 m] w fun e w' => e = .returned (.int .u8 (97 + (pickN m 26 : Int))) ∧ w' = w) := by
            apply hide
            intro w
            have := unhide HLt w
            unfold letterN at this
            rw [show ((97 + pickN m 26 : Nat) : Int) = 97 + (pickN m 26 : Int) by omega] at this
            exact this
          replace a2 := hide a2
          clear a3 HLt
          generalize pickN m 26 = k at *
          have hk' : (k : Int) < 26 := by omega
          generalize hpk : ps k = pk at *
          have HPK := hide hpk
          clear hpk
          go_wp2_with fail
          refine (unhide HR4).mono ?_
          rintro e w' ⟨rfl, hw'⟩
          obtain rfl := hw'.symm
          go_wp2_with fail
          refine (unhide HK _).mono ?_
          rintro e w' ⟨rfl, hw'⟩
          obtain rfl := hw'.symm
          go_wp2_with fail
          refine (unhide HL2 _).mono ?_
          rintro e w' ⟨rfl, hw'⟩
          obtain rfl := hw'.symm
          go_wp2_with fail
          go_roundw
          case rel => exact ⟨i + 1, cuts, _, own4, X4, by omega, by go_num, rfl, unhide HMo, unhide a2, (unhide H4).2⟩
          case measure => simp [intOf]; omega
        · have ha : (kk : Int) < 3 := by omega
          have hb1 : ¬ (t.length : Int) < (t4.length : Int) := by omega
          have hb2 : (t4.length : Int) < (t.length : Int) := by omega
          replace a2 := hide a2
          clear a3
          go_wp2_with fail
          refine (unhide HR4).mono ?_
          rintro e w' ⟨rfl, hw'⟩
          obtain rfl := hw'.symm
          go_wp2_with fail
          refine (unhide HK _).mono ?_
          rintro e w' ⟨rfl, hw'⟩
          obtain rfl := hw'.symm
          go_wp2_with fail
          go_roundw
          case rel => exact ⟨i + 1, cuts + 1, ps, own4, X4, by omega, by go_num, by go_num, (unhide H4).1, unhide a2, (unhide H4).2⟩
          case measure => simp [intOf]; omega
    · have hlt' : ¬ (i : Int) < (L : Int) := by omega
      have hsm := hI3.small
      have HSM := hide hsm.1
      have hcs := hsm.2
      have H3 := hide (And.intro h3 (And.intro hI3 hn3))
      clear h3 hI3 hn3 hsm
      go_wp2_with fail
      go_loopw [18] (fun v wr => ∃ (la : Nat) (own4 : Nat → Tag) (X : IRoom), la ≤ 2 ∧ v = .int .i64 la ∧ PutAt w rb b pb X ps own4 wr ∧ LtI ps cuts X ∧ X.texts.length = N ∧ (1 ≤ la → X.Quiet)) (fun v _ => 2 - (intOf v).toNat)
      case atStart => exact ⟨0, own3, X, by omega, rfl, (unhide H3).1, (unhide H3).2.1, (unhide H3).2.2, fun h => by omega⟩
      case round =>
        clear H3
        obtain ⟨la, own4, X4, hla, rfl, h4, hI4, hn4, hq4⟩ := hrel
        by_cases hl2 : la < 2
        · have hl2' : (la : Int) < 2 := by omega
          have H4 := hide (And.intro hI4 (And.intro hn4 hq4))
          have HP4 := hide h4
          clear h4 hI4 hn4 hq4
          go_wp2_with fail
          go_loopw [19] (fun v wr => ∃ x : Nat, x ≤ N + 1 ∧ v = .int .i64 ((x : Int) - 1) ∧ PutAt w rb b pb X4 ps own4 wr) (fun v _ => N + 1 - (intOf v + 1).toNat)
          case atStart => exact ⟨0, by omega, rfl, unhide HP4⟩
          case round =>
            clear HP4
            obtain ⟨x, hx, rfl, h5⟩ := hrel
            have c0 := h5.law.room.c0
            have c1 := h5.law.room.c1
            rw [(unhide H4).2.1] at c1
            by_cases hx2 : x < N + 1
            · have hx2' : (x : Int) - 1 < (N : Int) := by omega
              obtain ⟨t, ht, HR⟩ := jRead h5.law.room.room h5.law.room.fit (x := x) (by rw [(unhide H4).2.1]; omega)
              replace HR := hide HR
              have ht240 : t.length ≤ 240 := by
                have f := h5.law.room.fit
                obtain ⟨us, ds, T, hr⟩ := f.rows
                cases x with
                | zero =>
                  have e : t = X4.server := by simpa [IRoom.all] using ht.symm
                  rw [e]; exact hr.server240
                | succ y =>
                  have hyt : X4.texts[y]? = some t := by simpa [IRoom.all] using ht
                  obtain ⟨g1, g2, g3⟩ := hr.at' (i := y) (List.getElem?_eq_some_iff.1 hyt).1
                  exact hr.text240 hyt g2 g3
              have HM : Hid (∀ l, l < 26 → t.count (UInt8.ofNat (97 + l)) ≤ ps l) := by
                apply hide
                intro l hl
                obtain ⟨us, m1, m2, _⟩ := (unhide H4).1.most ht
                rw [← m2 l hl]
                exact m1 _
              have HLe : Hid (la = 1 → sumN 26 ps ≤ sumN 26 (fun l => t.count (UInt8.ofNat (97 + l))) + cuts) := hide fun h => (unhide H4).1.least h5.law.room.fit ((unhide H4).2.2 (by omega)) ht
              have HC : Hid (∀ (l : Nat) (w : World), l < 26 → Calls Try.prog 22 #[.string ⟨t.toArray⟩, .int .u8 (97 + (l : Int))] w fun e w' => e = .returned (.int .i64 (t.count (UInt8.ofNat (97 + l)))) ∧ w' = w) := by
                apply hide
                intro l w hl
                have := kcount t (UInt8.ofNat (97 + l)) (by omega) w
                have e : (((UInt8.ofNat (97 + l)).toNat : Nat) : Int) = 97 + (l : Int) := by simp; omega
                rw [e] at this
                exact this
              have H5 := hide h5
              clear h5 ht
              unfold bstr at HR
              go_wp2_with fail
              refine (unhide HR).mono ?_
              rintro e w' ⟨rfl, hw'⟩
              obtain rfl := hw'.symm
              go_wp2_with fail
              clear c0 c1
              generalize hcf : (fun l => t.count (UInt8.ofNat (97 + l))) = cf at *
              have HCF : Hid (∀ l, t.count (UInt8.ofNat (97 + l)) = cf l) := hide fun l => congrFun hcf l
              clear hcf
              go_loopw [22, 23] (fun v22 v23 wr => ∃ l : Nat, l ≤ 26 ∧ v23 = .int .i64 l ∧ v22 = .int .i64 ((sumN l ps : Int) - (sumN l cf : Int)) ∧ PutAt w rb b pb X4 ps own4 wr) (fun v22 v23 _ => 26 - (intOf v23).toNat)
              case atStart => exact ⟨0, by omega, rfl, by simp [sumN], unhide H5⟩
              case round =>
                clear H5
                obtain ⟨l, hl, rfl, rfl, h6⟩ := hrel
                have b1 : sumN l ps ≤ l * 240 := sumN_le l (fun j hj => unhide HSM j (by omega))
                have b2 : sumN l cf ≤ l * 240 := sumN_le l (fun j hj => by rw [← unhide HCF]; exact Nat.le_trans (List.count_le_length) ht240)
                by_cases hl6 : l < 26
                · have hl6' : (l : Int) < 26 := by omega
                  have hcl := h6.cell hl6
                  have hm6 := unhide HM l hl6
                  have HC6 := unhide HC l
                  rw [unhide HCF] at hm6 HC6
                  replace HC6 := hide HC6
                  have hp6 := unhide HSM l hl6
                  have e1 := hide (sumN_succ l ps)
                  have e2 := hide (sumN_succ l cf)
                  have H6 := hide h6
                  clear h6
                  have hm7 : ¬ (ps l : Int) < (cf l : Int) := by omega
                  generalize sumN l ps = sp at *
                  generalize sumN l cf = sc at *
                  generalize hpl : ps l = pl at *
                  generalize hcl2 : cf l = c2 at *
                  have HPL := hide hpl
                  have HCL := hide hcl2
                  clear hpl hcl2
                  go_wp2_with fail
                  refine (unhide HC6 _ hl6).mono ?_
                  rintro e w' ⟨rfl, hw'⟩
                  obtain rfl := hw'.symm
                  go_wp2_with fail
                  go_roundw
                  case rel => exact ⟨l + 1, by omega, by go_num, by rw [unhide e1, unhide e2]; go_num, unhide H6⟩
                  case measure => simp [intOf]; omega
                · have hl6' : ¬ (l : Int) < 26 := by omega
                  obtain rfl : l = 26 := by omega
                  have H6 := hide h6
                  have hle : la = 1 → ¬ (cuts : Int) < (sumN 26 ps : Int) - (sumN 26 cf : Int) := fun h => by have := unhide HLe h; omega
                  clear h6
                  generalize sumN 26 ps = sp at *
                  generalize sumN 26 cf = sc at *
                  by_cases hl1 : la = 1
                  · have hl1' : (la : Int) = 1 := by omega
                    have hle2 := hle hl1
                    clear hle
                    go_wp2_with fail
                    go_roundw
                    case rel => exact ⟨x + 1, by omega, by simp, unhide H6⟩
                    case measure => simp [intOf]; omega
                  · have hl1' : ¬ (la : Int) = 1 := by omega
                    clear hle
                    go_wp2_with fail
                    go_roundw
                    case rel => exact ⟨x + 1, by omega, by simp, unhide H6⟩
                    case measure => simp [intOf]; omega
            · have hx2' : ¬ (x : Int) - 1 < (N : Int) := by omega
              have HST : Hid (Calls Try.prog 16 #[.pointer (some ⟨rb, 0, none⟩), .int .i64 6] wr fun e w' => e = .returned (.bool true) ∧ ∃ Y own', PutAt w rb b pb Y ps own' w' ∧ LtI ps cuts Y ∧ Y.texts.length = N ∧ Y.Quiet) := by
                apply hide
                refine (ksettle own4 wr rb b X4 6 (by omega) h5.law.room).mono ?_
                rintro e w' ⟨rfl, own', Y, a1, a2, a3⟩
                exact ⟨rfl, Y, own', ⟨h5.law.of a1 a2, h5.put.upd a2 (by simp [inRoom])⟩, (unhide H4).1.settles a3 h5.law.room.fit, (a3.fit h5.law.room.fit).2.2.1.trans (unhide H4).2.1, a3.quiet h5.law.room.fit (by omega)⟩
              clear h5
              go_wp2_with fail
              refine (unhide HST).mono ?_
              rintro e w7 ⟨rfl, Y, own7, h7, hI7, hn7, hq7⟩
              have H7 := hide (And.intro h7 (And.intro hI7 (And.intro hn7 hq7)))
              clear h7 hI7 hn7 hq7 HST
              go_wp2_with fail
              go_roundw
              case rel => exact ⟨la + 1, own7, Y, by omega, by go_num, (unhide H7).1, (unhide H7).2.1, (unhide H7).2.2.1, fun _ => (unhide H7).2.2.2⟩
              case measure => simp [intOf]; omega
        · have hl2' : ¬ (la : Int) < 2 := by omega
          have H4 := hide h4.law.upd.base
          clear h4 hI4 hn4 hq4
          go_wp2_with fail
          go_ret
          exact ⟨rfl, unhide H4⟩
end Go.Proofs.Ytemkgikncmhoaaa

