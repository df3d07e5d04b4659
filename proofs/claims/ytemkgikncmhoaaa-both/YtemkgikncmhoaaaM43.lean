import Derived.Test.YtemkgikncmhoaaaM39
import Derived.Test.YtemkgikncmhoaaaM42
/-
  weavekeep: Lossless. Own work.
-/
namespace Go.Proofs.Ytemkgikncmhoaaa
open Go.RowKit
attribute [local go_sem ↓] Go.wp_at_zero Go.wp_at_succ

/-- Behind i steps, all delivered. -/
structure LsI (N i : Nat) (X : IRoom) : Prop where
  num : X.texts.length = N
  quiet : X.Quiet
  still : X.Still
  made : ∀ j, j < N → (X.e j).made ≤ i
  len : ∀ j, j < N → (X.tx j).length ≤ i
theorem LsI.start {n W : Nat} : LsI n 0 (IRoom.fresh n W) := by
  refine ⟨by simp [IRoom.fresh], Fit.still_fresh.2, Fit.still_fresh.1, fun j hj => ?_, fun j hj => ?_⟩
  · rw [fresh_e, if_pos hj]; exact Nat.le_refl _
  · rw [fresh_tx]; simp
theorem LsI.may {N i c : Nat} {X : IRoom} (h : LsI N i X) (f : Fit X) (hc : c < N) (hi : i < 40) : X.may c ∧ (X.tx c).length < 60 := by
  have hc' : c < X.texts.length := by rw [h.num]; exact hc
  refine ⟨⟨by rw [(h.quiet c hc').1]; exact f.win.1, by have := h.made c hc; omega⟩, by have := h.len c hc; omega⟩
/-- An edit that is not refused. -/
theorem LsI.edited {N i c : Nat} {X X' : IRoom} {m : Int} (h : LsI N i X) (f : Fit X) (hc : c < N) (hi : i < 40) (e : Edited X c m X') : ∃ o : ROp, X' = X.made c o ∧ Fit X' ∧ (o.does (X.tx c)).length ≠ (X.tx c).length ∧ (o.does (X.tx c)).length ≤ i + 1 := by
  have hc' : c < X.texts.length := by rw [h.num]; exact hc
  have hl := h.len c hc
  have hf := (e.fit f hc').1
  cases e with
  | no g => exact absurd (h.may f hc hi) g
  | put p hp hm hl2 =>
    refine ⟨_, rfl, hf, ?_, ?_⟩ <;> (rw [ROp.does_put, ins_len _ _ _ hp]; omega)
  | cut p hp hm =>
    refine ⟨_, rfl, hf, ?_, ?_⟩ <;> (rw [ROp.does_cut, del_len _ _ hp]; omega)
theorem LsI.next {N i c : Nat} {X Y : IRoom} {o : ROp} (h : LsI N i X) (f : Fit X) (hc : c < N) (hf : Fit (X.made c o)) (hl : (o.does (X.tx c)).length ≤ i + 1) (q : Turns (X.made c o) Y) (hY : Y.Still) : LsI N (i + 1) Y ∧ Y.server = o.does (X.tx c) := by
  have hc' : c < X.texts.length := by rw [h.num]; exact hc
  obtain ⟨a, b⟩ := f.edit_flush h.quiet h.still hc' o hf q hY
  have hn : Y.texts.length = N := by rw [(q.fit hf).2.1]; simpa [IRoom.made, IRoom.setA] using h.num
  refine ⟨⟨hn, a, hY, fun j hj => ?_, fun j hj => ?_⟩, b⟩
  · rw [q.made hf j, made_e f hc' o j]
    have := h.made j hj
    have := h.made c hc
    split <;> omega
  · rw [(q.fit hf).1.same a (by rw [hn]; exact hj), b]; exact hl
theorem LawAt.edit {w wr : World} {rb b : Nat} {X : IRoom} {own1 : Nat → Tag} {N i c : Nat} {kd n m : Int} (h : LawAt w rb b X own1 wr) (hI : LsI N i X) (hc : c < N) (hi : i < 40) (hkd : I64 kd) (hn : I64 n) (hm : I64 m) :
    Calls Try.prog 23 #[.pointer (some ⟨rb, 0, none⟩), .int .i64 c, .int .i64 kd, .int .i64 n, .int .i64 m] wr fun e w' => e = .returned (.bool true) ∧ ∃ (o : ROp) (own' : Nat → Tag), LawAt w rb b (X.made c o) own' w' ∧ (o.does (X.tx c)).length ≠ (X.tx c).length ∧ (o.does (X.tx c)).length ≤ i + 1 := by
  have hc' : c < X.texts.length := by rw [hI.num]; exact hc
  refine (kedit own1 wr rb b X c kd n m h.room hc' hkd hn hm).mono ?_
  rintro e w' ⟨rfl, X', a1, own', a2, a3⟩
  obtain ⟨o, rfl, _, b2, b3⟩ := hI.edited h.room.fit hc hi a1
  exact ⟨rfl, o, own', h.of a2 a3, b2, b3⟩
/-- Behind the edit: what is seen, and the flush. -/
theorem LawAt.edited {w wr : World} {rb b : Nat} {X : IRoom} {own1 : Nat → Tag} {N i c : Nat} {o : ROp} (h : LawAt w rb b (X.made c o) own1 wr) (hI : LsI N i X) (f : Fit X) (hc : c < N) (hl : (o.does (X.tx c)).length ≤ i + 1) :
    wr.cell? ⟨rb, 0, none⟩ = some (.pointer (some ⟨b, 0, none⟩)) ∧ (Calls Try.prog 15 #[.pointer (some ⟨b, 0, none⟩), .int .i64 c] wr fun e w' => e = .returned (.tuple #[bstr (o.does (X.tx c)), .int .i64 0]) ∧ w' = wr) ∧
    (Calls Try.prog 24 #[.pointer (some ⟨rb, 0, none⟩)] wr fun e w' => e = .returned (.bool true) ∧ ∃ Y own', LsI N (i + 1) Y ∧ LawAt w rb b Y own' w' ∧ (Calls Try.prog 17 #[.pointer (some ⟨rb, 0, none⟩)] w' fun e w'' => e = .returned (.tuple #[bstr (o.does (X.tx c)), .bool true]) ∧ w'' = w')) := by
  have hc' : c < X.texts.length := by rw [hI.num]; exact hc
  have e : (X.made c o).tx c = o.does (X.tx c) := by
    show (X.setA c _ _).tx c = _
    rw [tx_setA hc', if_pos rfl]
  have a := kRead (i := c) h.room.room h.room.fit (by simpa [IRoom.made, IRoom.setA] using hc')
  rw [e] at a
  refine ⟨h.room.c0, a, h.flush.mono ?_⟩
  rintro e w' ⟨rfl, Y, own', a1, a2, a3⟩
  obtain ⟨b1, b2⟩ := hI.next f hc h.room.fit hl a1 a2
  have := a3.alike b1.quiet
  rw [b2] at this
  exact ⟨rfl, Y, own', b1, a3, this⟩

theorem LawAt.drew {w wr : World} {rb b : Nat} {X : IRoom} {own1 : Nat → Tag} (h : LawAt w rb b X own1 wr) : LawAt w rb b X own1 wr.drew := ⟨h.room.drew, h.upd.drew⟩
theorem LawAt.old {w wr : World} {rb b : Nat} {X : IRoom} {own1 : Nat → Tag} (h : LawAt w rb b X own1 wr) {p : Addr} {v : Value} (hp : p.block < w.heap.size) (hc : w.cell? p = some v) : wr.cell? p = some v := (h.upd.base.cell hp).trans hc
set_option maxRecDepth 100000 in
set_option maxHeartbeats 1600000 in
theorem lossless_any (w : World) (cl wi : Int) (a : Option Addr) (L cap : Nat) (hcl : I64 cl) (hwi : I64 wi) (hs : StepsAt w w.heap.size a L) (hL : L ≤ 4611686018427387904) :
    Calls Try.prog 7 #[.int .i64 cl, .int .i64 wi, .slice a L cap] w fun e w' => e = .returned (.bool true) ∧ Below w.heap.size w w' := by
  have hq1 := pickN_lt cl (n := 4) (by omega)
  have HO : Hid (Calls Try.prog 13 #[.int .i64 cl, .int .i64 wi] w fun e w' => ∃ rb b own', e = .returned (.pointer (some ⟨rb, 0, none⟩)) ∧ ∃ X, LawAt w rb b X own' w' ∧ LsI (1 + pickN cl 4) 0 X) := by
    apply hide
    refine (kopened w cl wi hcl hwi).mono ?_
    rintro e w' ⟨rb, b, own', rfl, a1, a2⟩
    exact ⟨rb, b, own', rfl, _, ⟨a1, a2⟩, LsI.start⟩
  have HS := hide hs
  clear hs hcl hwi
  have hN : 1 ≤ 1 + pickN cl 4 ∧ 1 + pickN cl 4 ≤ 4 := by omega
  generalize 1 + pickN cl 4 = N at *
  clear hq1
  go_enter Try.func7, Try.ntmps7
  go_wp2_with fail
  refine (unhide HO).mono ?_
  rintro e w1 ⟨rb, b, own1, rfl, X1, h1, hI1⟩
  clear HO
  have H1 := hide (And.intro h1 hI1)
  clear h1 hI1
  go_wp2_with fail
  go_loopw [8] (fun v wr => ∃ (i : Nat) (own2 : Nat → Tag) (X : IRoom), i ≤ L ∧ i ≤ 40 ∧ v = .int .i64 i ∧ LawAt w rb b X own2 wr ∧ LsI N i X) (fun v _ => L - (intOf v).toNat)
  case atStart => exact ⟨0, own1, X1, by omega, by omega, rfl, (unhide H1).1, (unhide H1).2⟩
  case round =>
    clear H1
    obtain ⟨i, own2, X, hi, hi40, rfl, h2, hI2⟩ := hrel
    by_cases hlt : i < L ∧ i < 40
    · have hlt' : (i : Int) < (L : Int) := by omega
      have hlt2 : (i : Int) < 40 := by omega
      obtain ⟨sb, so, kd, c, n, m, rfl, g2, g3, g4, g5, g6, g7⟩ := unhide HS i hlt.1
      have zz : ∀ (X : IRoom) (own1 : Nat → Tag) (wr : World), LawAt w rb b X own1 wr → wr.cell? ⟨sb, so + i * 4, none⟩ = some (.int .i64 kd) ∧ wr.cell? ⟨sb, so + i * 4 + 1, none⟩ = some (.int .i64 c) ∧ wr.cell? ⟨sb, so + i * 4 + 2, none⟩ = some (.int .i64 n) ∧ wr.cell? ⟨sb, so + i * 4 + 3, none⟩ = some (.int .i64 m) := fun X own1 wr h => ⟨h.old g2 (g7 0 _ rfl), h.old g2 (g7 1 _ rfl), h.old g2 (g7 2 _ rfl), h.old g2 (g7 3 _ rfl)⟩
      obtain ⟨z0, z1, z2, z3⟩ := zz X own2 wr h2
      have c0 := h2.room.c0
      have c1 := h2.room.c1
      rw [hI2.num] at c1
      have hq := pickN_lt c hN.1
      have HP := hide (fun w => kpick c N g4 hN.1 (by omega) w)
      have HR := hide (kRead (i := pickN c N) h2.drew.room.room h2.room.fit (by rw [hI2.num]; exact hq))
      have HE : Hid (Calls Try.prog 23 #[.pointer (some ⟨rb, 0, none⟩), .int .i64 (pickN c N), .int .i64 kd, .int .i64 n, .int .i64 m] wr.drew.drew fun e w' => e = .returned (.bool true) ∧ (∃ (o : ROp) (own' : Nat → Tag), LawAt w rb b (X.made (pickN c N) o) own' w' ∧ (o.does (X.tx (pickN c N))).length ≠ (X.tx (pickN c N)).length ∧ (o.does (X.tx (pickN c N))).length ≤ i + 1) ∧ w'.cell? ⟨sb, so + i * 4, none⟩ = some (.int .i64 kd) ∧ w'.cell? ⟨sb, so + i * 4 + 2, none⟩ = some (.int .i64 n) ∧ w'.cell? ⟨sb, so + i * 4 + 3, none⟩ = some (.int .i64 m)) := by
        apply hide
        refine (h2.drew.drew.edit hI2 hq hlt.2 g3 g5 g6).mono ?_
        rintro e w' ⟨rfl, o, own', a1, a2, a3⟩
        obtain ⟨y0, _, y2, y3⟩ := zz _ _ _ a1
        exact ⟨rfl, ⟨o, own', a1, a2, a3⟩, y0, y2, y3⟩
      have H2 := hide (And.intro h2.room.fit hI2)
      clear h2 hI2 g7 zz
      generalize pickN c N = q at *
      unfold bstr at HR
      go_wp2_with fail
      go_region_held3 (fun w' => w'.cell? ⟨sb, so + i * 4, none⟩ = some (.int .i64 kd) ∧ w'.cell? ⟨sb, so + i * 4 + 1, none⟩ = some (.int .i64 c) ∧ w'.cell? ⟨sb, so + i * 4 + 2, none⟩ = some (.int .i64 n) ∧ w'.cell? ⟨sb, so + i * 4 + 3, none⟩ = some (.int .i64 m) ∧ w'.cell? ⟨rb, 0, none⟩ = some (.pointer (some ⟨b, 0, none⟩)) ∧ w'.cell? ⟨rb, 1, none⟩ = some (.int .i64 N)) (go_keep) (first | (go_at_call 20; with_reducible refine (unhide HP _).mono ?_; rintro e w' ⟨rfl, hw'⟩; obtain rfl := hw'.symm))
      all_goals
        go_wp2_with fail
        refine (unhide HR).mono ?_
        rintro e w' ⟨rfl, hw'⟩
        obtain rfl := hw'.symm
        go_wp2_with fail
        go_region_held3 (fun w' => w'.cell? ⟨sb, so + i * 4, none⟩ = some (.int .i64 kd) ∧ w'.cell? ⟨sb, so + i * 4 + 2, none⟩ = some (.int .i64 n) ∧ w'.cell? ⟨sb, so + i * 4 + 3, none⟩ = some (.int .i64 m)) (go_keep) (first | (go_at_call 23; with_reducible refine (unhide HE).mono ?_; rintro e w3 ⟨rfl, h3, y0, y2, y3⟩; replace h3 := hide h3))
        all_goals
          obtain ⟨o, own3, h4, hne, hle⟩ := unhide h3
          obtain ⟨d0, HR3, HF3⟩ := h4.edited (unhide H2).2 (unhide H2).1 hq hle
          replace HR3 := hide HR3
          replace HF3 := hide HF3
          have hne2 : ¬ X.tx q = o.does (X.tx q) := fun e => hne (congrArg List.length e).symm
          clear h3 h4 hne hle HE HR H2 y0 y2 y3
          unfold bstr at HR3 HF3
          generalize o.does (X.tx q) = t' at *
          generalize X.tx q = t at *
          have hne3 : (t == t') = false := by simp [hne2]
          clear hne2
          go_wp2_with fail
          refine (unhide HR3).mono ?_
          rintro e w' ⟨rfl, hw'⟩
          obtain rfl := hw'.symm
          go_wp2_with fail
          refine (unhide HF3).mono ?_
          rintro e w5 ⟨rfl, Y, own5, hI5, h5, HA⟩
          replace HA := hide HA
          have H5 := hide (And.intro h5 hI5)
          clear h5 hI5
          go_wp2_with fail
          refine (unhide HA).mono ?_
          rintro e w' ⟨rfl, hw'⟩
          obtain rfl := hw'.symm
          go_wp2_with fail
          go_roundw
          case rel => exact ⟨i + 1, own5, Y, by omega, by omega, by go_num, (unhide H5).1, (unhide H5).2⟩
          case measure => simp [intOf]; omega
    · have H2 := hide h2.upd.base
      clear h2 hI2
      have hlt' : ¬ (i : Int) < (L : Int) ∨ ((i : Int) < (L : Int) ∧ ¬ (i : Int) < 40) := by omega
      rcases hlt' with hlt' | ⟨hlt1, hlt'⟩ <;>
      · go_wp2_with fail
        go_ret
        exact ⟨rfl, unhide H2⟩
end Go.Proofs.Ytemkgikncmhoaaa

/-
  weavekeep: flush, pass by pass. Own work.
-/
namespace Go.Proofs.Ytemkgikncmhoaaa
open Go.RowKit
attribute [local go_sem ↓] Go.wp_at_zero Go.wp_at_succ

/-- A turn of each line, in their order. -/
def IRoom.passTo (X : IRoom) : Nat → IRoom
  | 0 => X
  | c + 1 => (X.passTo c).turn c
inductive Passes (X : IRoom) : IRoom → Prop
  | refl : Passes X X
  | step {Y : IRoom} (h : Passes X Y) : Passes X (Y.passTo Y.texts.length)
theorem passTo_turns (X : IRoom) (h : Fit X) : ∀ c, c ≤ X.texts.length → Turns X (X.passTo c)
  | 0, _ => .refl X
  | c + 1, hc => by
    have ih := passTo_turns X h c (by omega)
    exact .step c ih (by rw [(ih.fit h).2.1]; omega)
theorem Passes.turns' {X Y : IRoom} (p : Passes X Y) (h : Fit X) : Turns X Y := by
  induction p with
  | refl => exact .refl X
  | step q ih => exact ih.trans (passTo_turns _ (ih.fit h).1 _ (Nat.le_refl _))
/-- Behind a first pass, where there was something to do. -/
theorem Passes.first {X Y : IRoom} (p : Passes X Y) (hX : ¬ X.Still) (hY : Y.Still) : Passes (X.passTo X.texts.length) Y := by
  have : X = Y ∨ Passes (X.passTo X.texts.length) Y := by
    clear hY hX
    induction p with
    | refl => exact .inl rfl
    | step q ih =>
      rcases ih with e | ih
      · subst e; exact .inr .refl
      · exact .inr (.step ih)
  rcases this with rfl | g
  · exact absurd hY hX
  · exact g
set_option maxRecDepth 100000 in
set_option maxHeartbeats 1600000 in
theorem kflush2 (own : Nat → Tag) (w : World) (rb b : Nat) (X : IRoom) (h : KRoom own w rb b X) :
    Calls Try.prog 24 #[.pointer (some ⟨rb, 0, none⟩)] w fun e w' => e = .returned (.bool true) ∧ ∃ own' Y, KRoom own' w' rb b Y ∧ Upd own own' (inRoom 1) w w' ∧ Passes X Y ∧ Y.Still := by
  have hT : X.total ≤ 1728 := by obtain ⟨us, ds, T, hr⟩ := h.fit.rows; exact hr.total_le
  have HX := hide h.fit
  have H0 : Hid (FlAt own w rb b own w X) := hide ⟨h, Upd.refl _ _ _⟩
  have hn4 := h.fit.num
  generalize hN : X.texts.length = N at *
  have HN := hide hN
  clear h hN
  go_enter Try.func24, Try.ntmps24
  go_wp2_with fail
  go_loopw [3] (fun v3 wr => ∃ (k : Nat) (own1 : Nat → Tag) (Y : IRoom), k ≤ 3000 ∧ v3 = .int .i64 k ∧ FlAt own w rb b own1 wr Y ∧ Passes X Y ∧ Y.total + k ≤ 2999) (fun v3 _ => 3000 - (intOf v3).toNat)
  case atStart => exact ⟨0, own, X, by omega, rfl, unhide H0, .refl, by omega⟩
  case round =>
    obtain ⟨k, own1, Y, hk, rfl, hY, hXY, hk2⟩ := hrel
    have hlt' : (k : Int) < 3000 := by omega
    have HY : Hid (FlAt own w rb b own1 wr Y ∧ Passes X Y ∧ Y.texts.length = N) := hide ⟨hY, hXY, ((hXY.turns' (unhide HX)).fit (unhide HX)).2.1.trans (unhide HN)⟩
    clear hY hXY
    go_wp2_with fail
    go_loopw [4, 5] (fun v4 v5 w2 => ∃ (c : Nat) (sm : Bool) (own2 : Nat → Tag) (Z : IRoom), c ≤ N ∧ v5 = .int .i64 c ∧ v4 = .bool sm ∧ FlAt own w rb b own2 w2 Z ∧ Z = Y.passTo c ∧ Z.texts.length = N ∧ FlI Y Z k c 0 sm) (fun v4 v5 _ => N - (intOf v5).toNat)
    case atStart => exact ⟨0, false, own1, Y, by omega, rfl, rfl, (unhide HY).1, rfl, (unhide HY).2.2, FlI.start⟩
    case round =>
      obtain ⟨c, sm, own2, Z, hc, rfl, rfl, hZ, hXZ, hZN, hI⟩ := hrel
      have c0 := hZ.room.c0
      have c1 := hZ.room.c1
      rw [hZN] at c1
      have HZ := hide hZ
      have HXZ := hide hXZ
      have HZN := hide hZN
      have HI := hide hI
      have HF : Hid (Fit Z) := hide hZ.room.fit
      clear hZ hXZ hZN hI
      by_cases hlt : c < N
      · have hlt2 : (c : Int) < (N : Int) := by omega
        go_wp2_with fail
        clear c1
        go_loopw [4, 6] (fun v4 v6 w3 => ∃ (d : Nat) (sm : Bool) (own3 : Nat → Tag) (Z3 : IRoom), d ≤ 2 ∧ v6 = .int .i64 d ∧ v4 = .bool sm ∧ FlAt own w rb b own3 w3 Z3 ∧ FlI Y Z3 k c d sm ∧ (d = 0 → Z3 = Z) ∧ (d = 1 → Z3 = Z.up c 0) ∧ (d = 2 → Z3 = Z.turn c)) (fun v4 v6 _ => 2 - (intOf v6).toNat)
        case atStart => exact ⟨0, sm, own2, Z, by omega, rfl, rfl, unhide HZ, unhide HI, fun _ => rfl, fun h => by omega, fun h => by omega⟩
        case round =>
          obtain ⟨d, sm3, own3, Z3, hd, rfl, rfl, hZ3, hI3, e0, e1, e2⟩ := hrel
          have c0 := hZ3.room.c0
          have hF3 := hZ3.room.fit
          by_cases hd0 : d = 0
          · subst hd0
            obtain rfl := e0 rfl
            clear e0 e1 e2
            have hc3 : c < Z3.texts.length := by rw [unhide HZN]; exact hlt
            have HFl := hide (kFlying_0 (i := c) hZ3.room.room hF3 hc3)
            by_cases hz : (Z3.e c).flying = []
            · have HN1 : Hid (∃ own4, FlAt own w rb b own4 wr (Z3.up c 0) ∧ FlI Y (Z3.up c 0) k c 1 sm3) := hide ⟨own3, by rw [up_none (by rw [hz]; rfl)]; exact hZ3, hI3.up0 hz⟩
              rw [hz] at HFl
              clear hZ3 hI3 hF3 hz
              go_wp2_with (first | (go_at_call 26; with_reducible refine (unhide HFl).mono ?_; rintro e w' ⟨rfl, hw'⟩; obtain rfl := hw'.symm))
              go_roundw
              case rel =>
                obtain ⟨own4, a1, a2⟩ := unhide HN1
                exact ⟨1, sm3, own4, _, by omega, rfl, rfl, a1, a2, fun h => by omega, fun _ => rfl, fun h => by omega⟩
              case measure => simp [intOf]
            · have hl : 0 < (Z3.e c).flying.length := List.length_pos_iff.2 hz
              have HU : Hid (Calls Try.prog 27 #[.pointer (some ⟨b, 0, none⟩), .int .i64 c, .bool false, .int .i64 0, .int .i64 0] wr fun e w' => e = .returned (.int .i64 0) ∧ ∃ own4, FlAt own w rb b own4 w' (Z3.up c 0) ∧ FlI Y (Z3.up c 0) k c 1 true) := by
                apply hide
                refine (kUp (i := c) (n := 0) hZ3.room.room hF3 hc3 hl).mono ?_
                rintro e w' ⟨rfl, a⟩
                obtain ⟨own4, a'⟩ := hZ3.after a (hF3.up hc3 0) (by rw [(up_len hF3 hc3 0).1])
                exact ⟨rfl, own4, a', hI3.up hF3 hc3 hk2 hz⟩
              clear hZ3 hI3 hF3 hz
              generalize (Z3.e c).flying.length = m at *
              have hl' : (0 : Int) < (m : Int) := by omega
              go_wp2_with (first | (go_at_call 26; with_reducible refine (unhide HFl).mono ?_; rintro e w' ⟨rfl, hw'⟩; obtain rfl := hw'.symm) | (go_at_call 27; with_reducible refine (unhide HU).mono ?_; rintro e w4 ⟨rfl, hw4⟩))
              go_roundw
              case rel =>
                obtain ⟨own4, a1, a2⟩ := hw4
                exact ⟨1, true, own4, _, by omega, rfl, rfl, a1, a2, fun h => by omega, fun _ => rfl, fun h => by omega⟩
              case measure => simp [intOf]
          · by_cases hd1 : d = 1
            · subst hd1
              have ez := e1 rfl
              clear e0 e1 e2
              have hcz : c < Z.texts.length := by rw [unhide HZN]; exact hlt
              have hc3 : c < Z3.texts.length := by rw [ez, (up_len (unhide HF) hcz 0).1]; exact hcz
              have et : Z3.down c 0 = Z.turn c := by rw [ez]; rfl
              have HET := hide et
              have HFl := hide (kFlying_1 (i := c) hZ3.room.room hF3 hc3)
              clear ez et
              by_cases hz : (Z3.s c).flying = []
              · have HN1 : Hid (∃ own4, FlAt own w rb b own4 wr (Z3.down c 0) ∧ FlI Y (Z3.down c 0) k c 2 sm3) := hide ⟨own3, by rw [down_none (by rw [hz]; rfl)]; exact hZ3, hI3.down0 hz⟩
                rw [hz] at HFl
                clear hZ3 hI3 hF3 hz
                go_wp2_with (first | (go_at_call 26; with_reducible refine (unhide HFl).mono ?_; rintro e w' ⟨rfl, hw'⟩; obtain rfl := hw'.symm))
                go_roundw
                case rel =>
                  obtain ⟨own4, a1, a2⟩ := unhide HN1
                  exact ⟨2, sm3, own4, _, by omega, rfl, rfl, a1, a2, fun h => by omega, fun h => by omega, fun _ => unhide HET⟩
                case measure => simp [intOf]
              · have hl : 0 < (Z3.s c).flying.length := List.length_pos_iff.2 hz
                have HU : Hid (Calls Try.prog 27 #[.pointer (some ⟨b, 0, none⟩), .int .i64 c, .bool true, .int .i64 0, .int .i64 0] wr fun e w' => e = .returned (.int .i64 0) ∧ ∃ own4, FlAt own w rb b own4 w' (Z3.down c 0) ∧ FlI Y (Z3.down c 0) k c 2 true) := by
                  apply hide
                  refine (kDown (i := c) (n := 0) hZ3.room.room hF3 hc3 hl).mono ?_
                  rintro e w' ⟨rfl, a⟩
                  obtain ⟨own4, a'⟩ := hZ3.after a (hF3.down hc3 0) (down_len hF3 hc3 0).1
                  exact ⟨rfl, own4, a', hI3.down hF3 hc3 hk2 hz⟩
                clear hZ3 hI3 hF3 hz
                generalize (Z3.s c).flying.length = m at *
                have hl' : (0 : Int) < (m : Int) := by omega
                go_wp2_with (first | (go_at_call 26; with_reducible refine (unhide HFl).mono ?_; rintro e w' ⟨rfl, hw'⟩; obtain rfl := hw'.symm) | (go_at_call 27; with_reducible refine (unhide HU).mono ?_; rintro e w4 ⟨rfl, hw4⟩))
                go_roundw
                case rel =>
                  obtain ⟨own4, a1, a2⟩ := hw4
                  exact ⟨2, true, own4, _, by omega, rfl, rfl, a1, a2, fun h => by omega, fun h => by omega, fun _ => unhide HET⟩
                case measure => simp [intOf]
            · obtain rfl : d = 2 := by omega
              have ez := e2 rfl
              have HZ3 : Hid (FlAt own w rb b own3 wr (Z.turn c) ∧ FlI Y (Z.turn c) k (c + 1) 0 sm3 ∧ Z.turn c = Y.passTo (c + 1) ∧ (Z.turn c).texts.length = N) := by
                subst ez
                have hcz : c < Z.texts.length := by rw [unhide HZN]; exact hlt
                exact hide ⟨hZ3, hI3.next, congrArg (fun Q => IRoom.turn Q c) (unhide HXZ), ((unhide HF).turn hcz).2.1.trans (unhide HZN)⟩
              clear hZ3 hI3 hF3 e0 e1 e2 ez c0
              go_wp2_with fail
              go_roundw
              case rel =>
                obtain ⟨a1, a2, a3, a4⟩ := unhide HZ3
                exact ⟨c + 1, sm3, own3, _, by omega, by go_num, rfl, a1, a3, a4, a2⟩
              case measure => simp [intOf]; omega
      · have hlt2 : ¬ (c : Int) < (N : Int) := by omega
        obtain rfl : c = N := by omega
        cases sm with
        | true =>
          go_wp2_with fail
          go_roundw
          case rel => exact ⟨k + 1, own2, Z, by omega, by go_num, unhide HZ, by have e := unhide HXZ; have hYN := (unhide HY).2.2; rw [e, ← hYN]; exact .step (unhide HY).2.1, by have := (unhide HI).1 rfl; omega⟩
          case measure => simp [intOf]; omega
        | false =>
          go_wp2_with fail
          go_ret
          have hYN := (unhide HY).2.2
          obtain ⟨e, hs⟩ := (unhide HI).still hYN.symm
          subst e
          exact ⟨rfl, own2, Z, (unhide HZ).room, (unhide HZ).upd, (unhide HY).2.1, hs⟩
end Go.Proofs.Ytemkgikncmhoaaa

/-
  weave: two who put at once. Plain mathematics. Own work.
-/
namespace Go.Proofs.Ytemkgikncmhoaaa

section
variable {us ds : List GMsg} {T T' : Nat → Nat → List UInt8}
theorem Grid.below (h : Grid us ds T) {i k : Nat} (hp : Pt us ds i k) (hik : 0 < i + k) : (1 ≤ i ∧ Pt us ds (i - 1) k) ∨ (1 ≤ k ∧ Pt us ds i (k - 1)) := by
  by_cases hu : 1 ≤ i ∧ Pt us ds (i - 1) k
  · exact .inl hu
  · refine .inr ?_
    by_cases hk0 : k = 0
    · exfalso
      apply hu
      subst hk0
      refine ⟨by omega, ⟨by have := hp.li; omega, hp.lk, fun h1 => ?_, fun h1 => by omega⟩⟩
      exact Nat.le_trans (h.hist.mu (i - 1) i h1 (by omega) hp.li) (hp.ui (by omega))
    · refine ⟨by omega, ⟨hp.li, by have := hp.lk; omega, fun h1 => ?_, fun h1 => ?_⟩⟩
      · rcases h.hist.ac i k h1 hp.li (by omega) hp.lk with g | g
        · omega
        · exfalso
          apply hu
          refine ⟨h1, ⟨by have := hp.li; omega, hp.lk, fun h2 => ?_, fun _ => by omega⟩⟩
          exact Nat.le_trans (h.hist.mu (i - 1) i h2 (by omega) hp.li) (hp.ui h1)
      · exact Nat.le_trans (h.hist.md (k - 1) k h1 (by omega) hp.lk) (hp.dk (by omega))
/-- The texts of a grid are those of its rows. -/
theorem Grid.unique (h : Grid us ds T) (h' : Grid us ds T') : ∀ n i k, i + k = n → Pt us ds i k → T i k = T' i k
  | 0, i, k, e, _ => by
    obtain rfl : i = 0 := by omega
    obtain rfl : k = 0 := by omega
    rw [h.start, h'.start]
  | n + 1, i, k, e, hp => by
    rcases h.below hp (by omega) with ⟨h1, hq⟩ | ⟨h1, hq⟩
    · rw [(h.u i k h1 hp hq).2, (h'.u i k h1 hp hq).2, h.unique h' n (i - 1) k (by omega) hq]
    · rw [(h.d i k h1 hp hq).2, (h'.d i k h1 hp hq).2, h.unique h' n i (k - 1) (by omega) hq]
end
section
variable {X Y : IRoom} {us ds : Nat → List GMsg} {T : Nat → Nat → Nat → List UInt8} {i : Nat}
/-- The server takes one, the next, and nothing was kept. -/
theorem RInv.up_take (h : RInv X us ds T) (hi : i < X.texts.length) {d : ByteArray} {tk : Nat} {m : IMsg} (hd : (X.e i).flying[0]? = some d) (hr : readD d = some (tk, some m)) (hk : (X.s i).kept = []) (hn : m.number = (X.s i).taken + 1) (htk : tk ≤ (X.s i).known) :
    ((X.up i 0).s i).taken = m.number ∧ ∃ T', RInv (X.up i 0) us (fun j => if j = i then ds i else ds j ++ [⟨X.tk j, form (us i) (ds i) m.number (ds i).length⟩]) T' := by
  obtain ⟨g1, g2, g3⟩ := h.at' hi
  obtain ⟨hl, _⟩ := h.line i _ _ _ g1 g2 g3
  have hf := hl.a.flies d (List.mem_of_getElem? hd)
  have ht := (h.waitA g1 g2 g3).2.2.1
  obtain ⟨tk', m', e1, e2, e3⟩ : ∃ tk m, readD d = some (tk, m) ∧ tk ≤ (X.e i).taken ∧ ∀ q, m = some q → ∃ n, 1 ≤ n ∧ n ≤ (us i).length ∧ q = imsg (us i) n := by
    rcases hf.reads (by omega) (fun n tk a b c => h.bytesA g1 g2 g3 a b c) with e | e
    · rw [e] at hr; simp at hr
    · exact e
  rw [hr] at e1
  simp only [Option.some.injEq, Prod.mk.injEq] at e1
  obtain ⟨rfl, rfl⟩ := e1
  obtain ⟨n, n1, n2, rfl⟩ := e3 m rfl
  have hn' : n = (X.s i).taken + 1 := hn
  -- what the end hears
  have hS : (X.s i).hears X.window tk (some (imsg (us i) n)) = { X.s i with kept := [imsg (us i) n] } := by
    show ((X.s i).learn X.window tk).keep X.window (imsg (us i) n) = _
    have hlr : (X.s i).learn X.window tk = X.s i := by unfold IEnd.learn; rw [if_pos (.inl htk)]
    rw [hlr]
    unfold IEnd.keep
    rw [if_neg, hk]
    · rfl
    · rintro (g | g | g)
      · have g : n < (X.s i).taken + 1 := g
        omega
      · have g : (X.s i).taken + 1 + X.window ≤ n := g
        have := h.w1
        omega
      · rw [hk] at g; simp at g
  have hR1 := h.loseA g1 g2 g3 0
  obtain ⟨q1, q2⟩ := setA_get (t' := X.tx i) (E' := (X.e i).lose 0) g1 g2
  have q3 : (X.setA i (X.tx i) ((X.e i).lose 0)).sends[i]? = some (X.s i) := g3
  have hR2 := hR1.hearsB q1 q2 q3 tk (some (imsg (us i) n)) e2 (fun q hq => by cases hq; exact ⟨n, n1, n2, rfl⟩)
  have hw : (X.setA i (X.tx i) ((X.e i).lose 0)).window = X.window := rfl
  rw [hw, hS] at hR2
  have r3 := setB_get (S' := { X.s i with kept := [imsg (us i) n] }) q3
  have hnk : ({ X.s i with kept := [imsg (us i) n] } : IEnd).nextKept = some (imsg (us i) n) := by
    unfold IEnd.nextKept
    simp [imsg, hn']
  obtain ⟨T', hR3⟩ := hR2.takeB (i := i) q1 q2 r3 (n := n) hn' n2
  obtain ⟨hl2, _⟩ := hR2.line i _ _ _ q1 q2 r3
  obtain ⟨ef, _⟩ := hl2.b.took hl2.g.hist.swap hn' n2
  rw [ef] at hR3
  have hlen : i < ((X.setA i (X.tx i) ((X.e i).lose 0)).setB i { X.s i with kept := [imsg (us i) n] }).texts.length := by simpa [IRoom.setA, IRoom.setB] using hi
  have hR4 := hR3.wordB (i := i) (by simpa [IRoom.tell, IRoom.setA, IRoom.setB] using hi)
  have eu : X.up i 0 = (((X.setA i (X.tx i) ((X.e i).lose 0)).setB i { X.s i with kept := [imsg (us i) n] }).tell i ((({ X.s i with kept := [imsg (us i) n] } : IEnd).drop n).take (imsg (us i) n)) (form (us i) (ds i) n (ds i).length)).wordB i := by
    unfold IRoom.up
    rw [hd]
    show IRoom.comeB _ i d = _
    unfold IRoom.comeB
    rw [hr]
    show IRoom.arriveB _ i tk (some (imsg (us i) n)) = _
    unfold IRoom.arriveB
    simp only [q3, hw, hS, List.length_cons, List.length_nil]
    rw [IRoom.takesB_some r3 hnk 0]
    unfold IRoom.stepB
    rw [ef]
    rfl
  have htk2 : ∀ j, ((X.setA i (X.tx i) ((X.e i).lose 0)).setB i { X.s i with kept := [imsg (us i) n] }).tk j = X.tk j := fun j => IRoom.tk_setB (X := X.setA i (X.tx i) ((X.e i).lose 0)) (S' := { X.s i with kept := [imsg (us i) n] }) q3 rfl j
  simp only [htk2] at hR4
  refine ⟨?_, T', by rw [eu]; exact hR4⟩
  rw [eu]
  unfold IRoom.wordB
  have hsl : ((X.setA i (X.tx i) ((X.e i).lose 0)).setB i { X.s i with kept := [imsg (us i) n] }).sends.length = X.sends.length := by simp [IRoom.setA, IRoom.setB]
  have e5 : (((X.setA i (X.tx i) ((X.e i).lose 0)).setB i { X.s i with kept := [imsg (us i) n] }).tell i ((({ X.s i with kept := [imsg (us i) n] } : IEnd).drop n).take (imsg (us i) n)) (form (us i) (ds i) n (ds i).length)).sends[i]? = some ((({ X.s i with kept := [imsg (us i) n] } : IEnd).drop n).take (imsg (us i) n)) := by
    simp only [IRoom.tell, List.getElem?_mapIdx, r3]
    simp
  simp only [e5]
  rw [s_setB (by have := (List.getElem?_eq_some_iff.1 e5).1; exact this), if_pos rfl, (word_fields _).2.2.1]
  rfl
/-- All that was made is taken. -/
def IRoom.AllT (X : IRoom) : Prop := ∀ j, j < X.texts.length → (X.e j).made ≤ (X.s j).taken
theorem AllT.up (a : X.AllT) (h : Fit X) (hi : i < X.texts.length) (n : Nat) : (X.up i n).AllT ∧ (X.up i n).server = X.server := by
  cases hd : (X.e i).flying[n]? with
  | none => rw [up_none hd]; exact ⟨a, rfl⟩
  | some d =>
    obtain ⟨us, ds, T, hr⟩ := h.rows
    obtain ⟨os, u, ⟨ds', T', hr'⟩, _⟩ := hr.upped' hi hd
    have hi' : i < (X.up i n).texts.length := by rw [u.texts]; exact hi
    obtain ⟨_, c2, c3⟩ := u.came.load (hr.pair hi).b
    have e1 := (hr.pair hi).a.made
    have e2 := (hr'.pair hi').b.tk
    have e3 := a i hi
    have hos : os = [] := List.eq_nil_of_length_eq_zero (by omega)
    subst hos
    refine ⟨fun j hj => ?_, u.server⟩
    rw [up_made h hi n j]
    rw [u.texts] at hj
    by_cases hji : j = i
    · subst hji
      have : ((X.up j n).s j).taken = (X.s j).taken := by simpa using c2
      rw [this]
      exact a j hj
    · rw [u.s j hji, if_pos hj]
      exact a j hj
theorem AllT.down (a : X.AllT) (h : Fit X) (hi : i < X.texts.length) (n : Nat) : (X.down i n).AllT ∧ (X.down i n).server = X.server := by
  cases hd : (X.s i).flying[n]? with
  | none => rw [down_none hd]; exact ⟨a, rfl⟩
  | some d =>
    obtain ⟨us, ds, T, hr⟩ := h.rows
    obtain ⟨k, u, hr', _⟩ := hr.downed' hi hd
    refine ⟨fun j hj => ?_, u.server⟩
    rw [down_made h hi n j]
    rw [u.len] at hj
    rw [u.s]
    by_cases hji : j = i
    · subst hji; rw [if_pos rfl]; exact a j hj
    · rw [if_neg hji]; exact a j hj
theorem Turns.allT (q : Turns X Y) (a : X.AllT) (h : Fit X) : Y.AllT ∧ Y.server = X.server := by
  induction q with
  | refl => exact ⟨a, rfl⟩
  | step i q hi ih =>
    have hF := (q.fit h).1
    obtain ⟨a1, b1⟩ := AllT.up ih.1 hF hi 0
    obtain ⟨a2, b2⟩ := AllT.down a1 (hF.up hi 0) (by rw [(up_len hF hi 0).1]; exact hi) 0
    exact ⟨a2, b2.trans (b1.trans ih.2)⟩
/-- The numbers of a line on which nobody waits. -/
theorem RInv.eqs (h : RInv X us ds T) (hq : X.Quiet) {j : Nat} (hj : j < X.texts.length) : (X.s j).taken = (us j).length ∧ (X.e j).taken = (ds j).length ∧ (X.s j).known = (ds j).length ∧ (X.e j).known = (us j).length ∧ (X.s j).kept = [] ∧ (X.e j).made = (us j).length := by
  have p := h.pair hj
  have m1 := p.a.made
  have m2 := p.b.made
  have t1 := p.a.tk
  have t2 := p.b.tk
  have ka := p.ka
  have kb := p.kb
  have e1 : (X.e j).made = (X.e j).known := by unfold IEnd.made; rw [(hq j hj).1]; rfl
  have e2 : (X.s j).made = (X.s j).known := by unfold IEnd.made; rw [(hq j hj).2]; rfl
  refine ⟨by omega, by omega, by omega, by omega, ?_, m1⟩
  cases hz : (X.s j).kept with
  | nil => rfl
  | cons m l =>
    obtain ⟨n, b1, b2, _⟩ := p.b.kept m (by rw [hz]; simp)
    omega
end
end Go.Proofs.Ytemkgikncmhoaaa

