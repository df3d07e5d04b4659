import Derived.Test.YtemkgikncmhoaaaM42
/-
  weavekeep: Lossless. Own work.
-/
namespace Go.Proofs.Ytemkgikncmhoaaa
open Go.RowKit
attribute [local go_sem ↓] Go.wp_at_zero Go.wp_at_succ

/-- Behind i steps, all delivered. -/
structure LsI (N i : Nat) (X : IRoom) : Prop where
  num : X.texts.length = N
  quiet : X.Quiet
  still : X.Still
  made : ∀ j, j < N → (X.e j).made ≤ i
  len : ∀ j, j < N → (X.tx j).length ≤ i
theorem LsI.start {n W : Nat} : LsI n 0 (IRoom.fresh n W) := by
  refine ⟨by simp [IRoom.fresh], Fit.still_fresh.2, Fit.still_fresh.1, fun j hj => ?_, fun j hj => ?_⟩
  · rw [fresh_e, if_pos hj]; exact Nat.le_refl _
  · rw [fresh_tx]; simp
theorem LsI.may {N i c : Nat} {X : IRoom} (h : LsI N i X) (f : Fit X) (hc : c < N) (hi : i < 40) : X.may c ∧ (X.tx c).length < 60 := by
  have hc' : c < X.texts.length := by rw [h.num]; exact hc
  refine ⟨⟨by rw [(h.quiet c hc').1]; exact f.win.1, by have := h.made c hc; omega⟩, by have := h.len c hc; omega⟩
/-- An edit that is not refused. -/
theorem LsI.edited {N i c : Nat} {X X' : IRoom} {m : Int} (h : LsI N i X) (f : Fit X) (hc : c < N) (hi : i < 40) (e : Edited X c m X') : ∃ o : ROp, X' = X.made c o ∧ Fit X' ∧ (o.does (X.tx c)).length ≠ (X.tx c).length ∧ (o.does (X.tx c)).length ≤ i + 1 := by
  have hc' : c < X.texts.length := by rw [h.num]; exact hc
  have hl := h.len c hc
  have hf := (e.fit f hc').1
  cases e with
  | no g => exact absurd (h.may f hc hi) g
  | put p hp hm hl2 =>
    refine ⟨_, rfl, hf, ?_, ?_⟩ <;> (rw [ROp.does_put, ins_len _ _ _ hp]; omega)
  | cut p hp hm =>
    refine ⟨_, rfl, hf, ?_, ?_⟩ <;> (rw [ROp.does_cut, del_len _ _ hp]; omega)
theorem LsI.next {N i c : Nat} {X Y : IRoom} {o : ROp} (h : LsI N i X) (f : Fit X) (hc : c < N) (hf : Fit (X.made c o)) (hl : (o.does (X.tx c)).length ≤ i + 1) (q : Turns (X.made c o) Y) (hY : Y.Still) : LsI N (i + 1) Y ∧ Y.server = o.does (X.tx c) := by
  have hc' : c < X.texts.length := by rw [h.num]; exact hc
  obtain ⟨a, b⟩ := f.edit_flush h.quiet h.still hc' o hf q hY
  have hn : Y.texts.length = N := by rw [(q.fit hf).2.1]; simpa [IRoom.made, IRoom.setA] using h.num
  refine ⟨⟨hn, a, hY, fun j hj => ?_, fun j hj => ?_⟩, b⟩
  · rw [q.made hf j, made_e f hc' o j]
    have := h.made j hj
    have := h.made c hc
    split <;> omega
  · rw [(q.fit hf).1.same a (by rw [hn]; exact hj), b]; exact hl
theorem LawAt.edit {w wr : World} {rb b : Nat} {X : IRoom} {own1 : Nat → Tag} {N i c : Nat} {kd n m : Int} (h : LawAt w rb b X own1 wr) (hI : LsI N i X) (hc : c < N) (hi : i < 40) (hkd : I64 kd) (hn : I64 n) (hm : I64 m) :
    Calls Try.prog 23 #[.pointer (some ⟨rb, 0, none⟩), .int .i64 c, .int .i64 kd, .int .i64 n, .int .i64 m] wr fun e w' => e = .returned (.bool true) ∧ ∃ (o : ROp) (own' : Nat → Tag), LawAt w rb b (X.made c o) own' w' ∧ (o.does (X.tx c)).length ≠ (X.tx c).length ∧ (o.does (X.tx c)).length ≤ i + 1 := by
  have hc' : c < X.texts.length := by rw [hI.num]; exact hc
  refine (kedit own1 wr rb b X c kd n m h.room hc' hkd hn hm).mono ?_
  rintro e w' ⟨rfl, X', a1, own', a2, a3⟩
  obtain ⟨o, rfl, _, b2, b3⟩ := hI.edited h.room.fit hc hi a1
  exact ⟨rfl, o, own', h.of a2 a3, b2, b3⟩
/-- Behind the edit: what is seen, and the flush. -/
theorem LawAt.edited {w wr : World} {rb b : Nat} {X : IRoom} {own1 : Nat → Tag} {N i c : Nat} {o : ROp} (h : LawAt w rb b (X.made c o) own1 wr) (hI : LsI N i X) (f : Fit X) (hc : c < N) (hl : (o.does (X.tx c)).length ≤ i + 1) :
    wr.cell? ⟨rb, 0, none⟩ = some (.pointer (some ⟨b, 0, none⟩)) ∧ (Calls Try.prog 15 #[.pointer (some ⟨b, 0, none⟩), .int .i64 c] wr fun e w' => e = .returned (.tuple #[bstr (o.does (X.tx c)), .int .i64 0]) ∧ w' = wr) ∧
    (Calls Try.prog 24 #[.pointer (some ⟨rb, 0, none⟩)] wr fun e w' => e = .returned (.bool true) ∧ ∃ Y own', LsI N (i + 1) Y ∧ LawAt w rb b Y own' w' ∧ (Calls Try.prog 17 #[.pointer (some ⟨rb, 0, none⟩)] w' fun e w'' => e = .returned (.tuple #[bstr (o.does (X.tx c)), .bool true]) ∧ w'' = w')) := by
  have hc' : c < X.texts.length := by rw [hI.num]; exact hc
  have e : (X.made c o).tx c = o.does (X.tx c) := by
    show (X.setA c _ _).tx c = _
    rw [tx_setA hc', if_pos rfl]
  have a := kRead (i := c) h.room.room h.room.fit (by simpa [IRoom.made, IRoom.setA] using hc')
  rw [e] at a
  refine ⟨h.room.c0, a, h.flush.mono ?_⟩
  rintro e w' ⟨rfl, Y, own', a1, a2, a3⟩
  obtain ⟨b1, b2⟩ := hI.next f hc h.room.fit hl a1 a2
  have := a3.alike b1.quiet
  rw [b2] at this
  exact ⟨rfl, Y, own', b1, a3, this⟩

theorem LawAt.drew {w wr : World} {rb b : Nat} {X : IRoom} {own1 : Nat → Tag} (h : LawAt w rb b X own1 wr) : LawAt w rb b X own1 wr.drew := ⟨h.room.drew, h.upd.drew⟩
theorem LawAt.old {w wr : World} {rb b : Nat} {X : IRoom} {own1 : Nat → Tag} (h : LawAt w rb b X own1 wr) {p : Addr} {v : Value} (hp : p.block < w.heap.size) (hc : w.cell? p = some v) : wr.cell? p = some v := (h.upd.base.cell hp).trans hc
set_option maxRecDepth 100000 in
set_option maxHeartbeats 1600000 in
theorem lossless_any (w : World) (cl wi : Int) (a : Option Addr) (L cap : Nat) (hcl : I64 cl) (hwi : I64 wi) (hs : StepsAt w w.heap.size a L) (hL : L ≤ 4611686018427387904) :
    Calls Try.prog 7 #[.int .i64 cl, .int .i64 wi, .slice a L cap] w fun e w' => e = .returned (.bool true) ∧ Below w.heap.size w w' := by
  have hq1 := pickN_lt cl (n := 4) (by omega)
  have HO : Hid (Calls Try.prog 13 #[.int .i64 cl, .int .i64 wi] w fun e w' => ∃ rb b own', e = .returned (.pointer (some ⟨rb, 0, none⟩)) ∧ ∃ X, LawAt w rb b X own' w' ∧ LsI (1 + pickN cl 4) 0 X) := by
    apply hide
    refine (kopened w cl wi hcl hwi).mono ?_
    rintro e w' ⟨rb, b, own', rfl, a1, a2⟩
    exact ⟨rb, b, own', rfl, _, ⟨a1, a2⟩, LsI.start⟩
  have HS := hide hs
  clear hs hcl hwi
  have hN : 1 ≤ 1 + pickN cl 4 ∧ 1 + pickN cl 4 ≤ 4 := by omega
  generalize 1 + pickN cl 4 = N at *
  clear hq1
  go_enter Try.func7, Try.ntmps7
  go_wp2_with fail
  refine (unhide HO).mono ?_
  rintro e w1 ⟨rb, b, own1, rfl, X1, h1, hI1⟩
  clear HO
  have H1 := hide (And.intro h1 hI1)
  clear h1 hI1
  go_wp2_with fail
  go_loopw [8] (fun v wr => ∃ (i : Nat) (own2 : Nat → Tag) (X : IRoom), i ≤ L ∧ i ≤ 40 ∧ v = .int .i64 i ∧ LawAt w rb b X own2 wr ∧ LsI N i X) (fun v _ => L - (intOf v).toNat)
  case atStart => exact ⟨0, own1, X1, by omega, by omega, rfl, (unhide H1).1, (unhide H1).2⟩
  case round =>
    clear H1
    obtain ⟨i, own2, X, hi, hi40, rfl, h2, hI2⟩ := hrel
    by_cases hlt : i < L ∧ i < 40
    · have hlt' : (i : Int) < (L : Int) := by omega
      have hlt2 : (i : Int) < 40 := by omega
      obtain ⟨sb, so, kd, c, n, m, rfl, g2, g3, g4, g5, g6, g7⟩ := unhide HS i hlt.1
      have zz : ∀ (X : IRoom) (own1 : Nat → Tag) (wr : World), LawAt w rb b X own1 wr → wr.cell? ⟨sb, so + i * 4, none⟩ = some (.int .i64 kd) ∧ wr.cell? ⟨sb, so + i * 4 + 1, none⟩ = some (.int .i64 c) ∧ wr.cell? ⟨sb, so + i * 4 + 2, none⟩ = some (.int .i64 n) ∧ wr.cell? ⟨sb, so + i * 4 + 3, none⟩ = some (.int .i64 m) := fun X own1 wr h => ⟨h.old g2 (g7 0 _ rfl), h.old g2 (g7 1 _ rfl), h.old g2 (g7 2 _ rfl), h.old g2 (g7 3 _ rfl)⟩
      obtain ⟨z0, z1, z2, z3⟩ := zz X own2 wr h2
      have c0 := h2.room.c0
      have c1 := h2.room.c1
      rw [hI2.num] at c1
      have hq := pickN_lt c hN.1
      have HP := hide (fun w => kpick c N g4 hN.1 (by omega) w)
      have HR := hide (kRead (i := pickN c N) h2.drew.room.room h2.room.fit (by rw [hI2.num]; exact hq))
      have HE : Hid (Calls Try.prog 23 #[.pointer (some ⟨rb, 0, none⟩), .int .i64 (pickN c N), .int .i64 kd, .int .i64 n, .int .i64 m] wr.drew.drew fun e w' => e = .returned (.bool true) ∧ (∃ (o : ROp) (own' : Nat → Tag), LawAt w rb b (X.made (pickN c N) o) own' w' ∧ (o.does (X.tx (pickN c N))).length ≠ (X.tx (pickN c N)).length ∧ (o.does (X.tx (pickN c N))).length ≤ i + 1) ∧ w'.cell? ⟨sb, so + i * 4, none⟩ = some (.int .i64 kd) ∧ w'.cell? ⟨sb, so + i * 4 + 2, none⟩ = some (.int .i64 n) ∧ w'.cell? ⟨sb, so + i * 4 + 3, none⟩ = some (.int .i64 m)) := by
        apply hide
        refine (h2.drew.drew.edit hI2 hq hlt.2 g3 g5 g6).mono ?_
        rintro e w' ⟨rfl, o, own', a1, a2, a3⟩
        obtain ⟨y0, _, y2, y3⟩ := zz _ _ _ a1
        exact ⟨rfl, ⟨o, own', a1, a2, a3⟩, y0, y2, y3⟩
      have H2 := hide (And.intro h2.room.fit hI2)
      clear h2 hI2 g7 zz
      generalize pickN c N = q at *
      unfold bstr at HR
      go_wp2_with fail
      go_region_held3 (fun w' => w'.cell? ⟨sb, so + i * 4, none⟩ = some (.int .i64 kd) ∧ w'.cell? ⟨sb, so + i * 4 + 1, none⟩ = some (.int .i64 c) ∧ w'.cell? ⟨sb, so + i * 4 + 2, none⟩ = some (.int .i64 n) ∧ w'.cell? ⟨sb, so + i * 4 + 3, none⟩ = some (.int .i64 m) ∧ w'.cell? ⟨rb, 0, none⟩ = some (.pointer (some ⟨b, 0, none⟩)) ∧ w'.cell? ⟨rb, 1, none⟩ = some (.int .i64 N)) (go_keep) (first | (go_at_call 20; with_reducible refine (unhide HP _).mono ?_; rintro e w' ⟨rfl, hw'⟩; obtain rfl := hw'.symm))
      all_goals
        go_wp2_with fail
        refine (unhide HR).mono ?_
        rintro e w' ⟨rfl, hw'⟩
        obtain rfl := hw'.symm
        go_wp2_with fail
        go_region_held3 (fun w' => w'.cell? ⟨sb, so + i * 4, none⟩ = some (.int .i64 kd) ∧ w'.cell? ⟨sb, so + i * 4 + 2, none⟩ = some (.int .i64 n) ∧ w'.cell? ⟨sb, so + i * 4 + 3, none⟩ = some (.int .i64 m)) (go_keep) (first | (go_at_call 23; with_reducible refine (unhide HE).mono ?_; rintro e w3 ⟨rfl, h3, y0, y2, y3⟩; replace h3 := hide h3))
        all_goals
          obtain ⟨o, own3, h4, hne, hle⟩ := unhide h3
          obtain ⟨d0, HR3, HF3⟩ := h4.edited (unhide H2).2 (unhide H2).1 hq hle
          replace HR3 := hide HR3
          replace HF3 := hide HF3
          have hne2 : ¬ X.tx q = o.does (X.tx q) := fun e => hne (congrArg List.length e).symm
          clear h3 h4 hne hle HE HR H2 y0 y2 y3
          unfold bstr at HR3 HF3
          generalize o.does (X.tx q) = t' at *
          generalize X.tx q = t at *
          have hne3 : (t == t') = false := by simp [hne2]
          clear hne2
          go_wp2_with fail
          refine (unhide HR3).mono ?_
          rintro e w' ⟨rfl, hw'⟩
          obtain rfl := hw'.symm
          go_wp2_with fail
          refine (unhide HF3).mono ?_
          rintro e w5 ⟨rfl, Y, own5, hI5, h5, HA⟩
          replace HA := hide HA
          have H5 := hide (And.intro h5 hI5)
          clear h5 hI5
          go_wp2_with fail
          refine (unhide HA).mono ?_
          rintro e w' ⟨rfl, hw'⟩
          obtain rfl := hw'.symm
          go_wp2_with fail
          go_roundw
          case rel => exact ⟨i + 1, own5, Y, by omega, by omega, by go_num, (unhide H5).1, (unhide H5).2⟩
          case measure => simp [intOf]; omega
    · have H2 := hide h2.upd.base
      clear h2 hI2
      have hlt' : ¬ (i : Int) < (L : Int) ∨ ((i : Int) < (L : Int) ∧ ¬ (i : Int) < 40) := by omega
      rcases hlt' with hlt' | ⟨hlt1, hlt'⟩ <;>
      · go_wp2_with fail
        go_ret
        exact ⟨rfl, unhide H2⟩
end Go.Proofs.Ytemkgikncmhoaaa

