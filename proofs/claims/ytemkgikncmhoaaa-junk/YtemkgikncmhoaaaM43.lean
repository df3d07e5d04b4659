import Derived.Test.YtemkgikncmhoaaaM42
/-
  weavekeep: Lossless. Own work.
-/
namespace Go.Proofs.Ytemkgikncmhoaaa
open Go.RowKit
attribute [local go_sem ↓] Go.wp_at_zero Go.wp_at_succ

/-- Behind i steps, all delivered. -/
structure LsI (N i : Nat) (X : IRoom) : Prop where
  num : X.texts.length = N
  quiet : X.Quiet
  still : X.Still
  made : ∀ j, j < N → (X.e j).made ≤ i
  len : ∀ j, j < N → (X.tx j).length ≤ i
theorem LsI.start {n W : Nat} : LsI n 0 (IRoom.fresh n W) := by
  refine ⟨by simp [IRoom.fresh], Fit.still_fresh.2, Fit.still_fresh.1, fun j hj => ?_, fun j hj => ?_⟩
  · rw [fresh_e, if_pos hj]; exact Nat.le_refl _
  · rw [fresh_tx]; simp
theorem LsI.may {N i c : Nat} {X : IRoom} (h : LsI N i X) (f : Fit X) (hc : c < N) (hi : i < 40) : X.may c ∧ (X.tx c).length < 60 := by
  have hc' : c < X.texts.length := by rw [h.num]; exact hc
  refine ⟨⟨by rw [(h.quiet c hc').1]; exact f.win.1, by have := h.made c hc; omega⟩, by have := h.len c hc; omega⟩
/-- An edit that is not refused. -/
theorem LsI.edited {N i c : Nat} {X X' : IRoom} {m : Int} (h : LsI N i X) (f : Fit X) (hc : c < N) (hi : i < 40) (e : Edited X c m X') : ∃ o : ROp, X' = X.made c o ∧ Fit X' ∧ (o.does (X.tx c)).length ≠ (X.tx c).length ∧ (o.does (X.tx c)).length ≤ i + 1 := by
  have hc' : c < X.texts.length := by rw [h.num]; exact hc
  have hl := h.len c hc
  have hf := (e.fit f hc').1
  cases e with
  | no g => exact absurd (h.may f hc hi) g
  | put p hp hm hl2 =>
    refine ⟨_, rfl, hf, ?_, ?_⟩ <;> (rw [ROp.does_put, ins_len _ _ _ hp]; omega)
  | cut p hp hm =>
    refine ⟨_, rfl, hf, ?_, ?_⟩ <;> (rw [ROp.does_cut, del_len _ _ hp]; omega)
theorem LsI.next {N i c : Nat} {X Y : IRoom} {o : ROp} (h : LsI N i X) (f : Fit X) (hc : c < N) (hf : Fit (X.made c o)) (hl : (o.does (X.tx c)).length ≤ i + 1) (q : Turns (X.made c o) Y) (hY : Y.Still) : LsI N (i + 1) Y ∧ Y.server = o.does (X.tx c) := by
  have hc' : c < X.texts.length := by rw [h.num]; exact hc
  obtain ⟨a, b⟩ := f.edit_flush h.quiet h.still hc' o hf q hY
  have hn : Y.texts.length = N := by rw [(q.fit hf).2.1]; simpa [IRoom.made, IRoom.setA] using h.num
  refine ⟨⟨hn, a, hY, fun j hj => ?_, fun j hj => ?_⟩, b⟩
  · rw [q.made hf j, made_e f hc' o j]
    have := h.made j hj
    have := h.made c hc
    split <;> omega
  · rw [(q.fit hf).1.same a (by rw [hn]; exact hj), b]; exact hl
theorem LawAt.edit {w wr : World} {rb b : Nat} {X : IRoom} {own1 : Nat → Tag} {N i c : Nat} {kd n m : Int} (h : LawAt w rb b X own1 wr) (hI : LsI N i X) (hc : c < N) (hi : i < 40) (hkd : I64 kd) (hn : I64 n) (hm : I64 m) :
    Calls Try.prog 23 #[.pointer (some ⟨rb, 0, none⟩), .int .i64 c, .int .i64 kd, .int .i64 n, .int .i64 m] wr fun e w' => e = .returned (.bool true) ∧ ∃ (o : ROp) (own' : Nat → Tag), LawAt w rb b (X.made c o) own' w' ∧ (o.does (X.tx c)).length ≠ (X.tx c).length ∧ (o.does (X.tx c)).length ≤ i + 1 := by
  have hc' : c < X.texts.length := by rw [hI.num]; exact hc
  refine (kedit own1 wr rb b X c kd n m h.room hc' hkd hn hm).mono ?_
  rintro e w' ⟨rfl, X', a1, own', a2, a3⟩
  obtain ⟨o, rfl, _, b2, b3⟩ := hI.edited h.room.fit hc hi a1
  exact ⟨rfl, o, own', h.of a2 a3, b2, b3⟩
/-- Behind the edit: what is seen, and the flush. -/
theorem LawAt.edited {w wr : World} {rb b : Nat} {X : IRoom} {own1 : Nat → Tag} {N i c : Nat} {o : ROp} (h : LawAt w rb b (X.made c o) own1 wr) (hI : LsI N i X) (f : Fit X) (hc : c < N) (hl : (o.does (X.tx c)).length ≤ i + 1) :
    wr.cell? ⟨rb, 0, none⟩ = some (.pointer (some ⟨b, 0, none⟩)) ∧ (Calls Try.prog 15 #[.pointer (some ⟨b, 0, none⟩), .int .i64 c] wr fun e w' => e = .returned (.tuple #[bstr (o.does (X.tx c)), .int .i64 0]) ∧ w' = wr) ∧
    (Calls Try.prog 24 #[.pointer (some ⟨rb, 0, none⟩)] wr fun e w' => e = .returned (.bool true) ∧ ∃ Y own', LsI N (i + 1) Y ∧ LawAt w rb b Y own' w' ∧ (Calls Try.prog 17 #[.pointer (some ⟨rb, 0, none⟩)] w' fun e w'' => e = .returned (.tuple #[bstr (o.does (X.tx c)), .bool true]) ∧ w'' = w')) := by
  have hc' : c < X.texts.length := by rw [hI.num]; exact hc
  have e : (X.made c o).tx c = o.does (X.tx c) := by
    show (X.setA c _ _).tx c = _
    rw [tx_setA hc', if_pos rfl]
  have a := kRead (i := c) h.room.room h.room.fit (by simpa [IRoom.made, IRoom.setA] using hc')
  rw [e] at a
  refine ⟨h.room.c0, a, h.flush.mono ?_⟩
  rintro e w' ⟨rfl, Y, own', a1, a2, a3⟩
  obtain ⟨b1, b2⟩ := hI.next f hc h.room.fit hl a1 a2
  have := a3.alike b1.quiet
  rw [b2] at this
  exact ⟨rfl, Y, own', b1, a3, this⟩

theorem LawAt.drew {w wr : World} {rb b : Nat} {X : IRoom} {own1 : Nat → Tag} (h : LawAt w rb b X own1 wr) : LawAt w rb b X own1 wr.drew := ⟨h.room.drew, h.upd.drew⟩
theorem LawAt.old {w wr : World} {rb b : Nat} {X : IRoom} {own1 : Nat → Tag} (h : LawAt w rb b X own1 wr) {p : Addr} {v : Value} (hp : p.block < w.heap.size) (hc : w.cell? p = some v) : wr.cell? p = some v := (h.upd.base.cell hp).trans hc
set_option maxRecDepth 100000 in
set_option maxHeartbeats 1600000 in
theorem lossless_any (w : World) (cl wi : Int) (a : Option Addr) (L cap : Nat) (hcl : I64 cl) (hwi : I64 wi) (hs : StepsAt w w.heap.size a L) (hL : L ≤ 4611686018427387904) :
    Calls Try.prog 7 #[.int .i64 cl, .int .i64 wi, .slice a L cap] w fun e w' => e = .returned (.bool true) ∧ Below w.heap.size w w' := by
  have hq1 := pickN_lt cl (n := 4) (by omega)
  have HO : Hid (Calls Try.prog 13 #[.int .i64 cl, .int .i64 wi] w fun e w' => ∃ rb b own', e = .returned (.pointer (some ⟨rb, 0, none⟩)) ∧ ∃ X, LawAt w rb b X own' w' ∧ LsI (1 + pickN cl 4) 0 X) := by
    apply hide
    refine (kopened w cl wi hcl hwi).mono ?_
    rintro e w' ⟨rb, b, own', rfl, a1, a2⟩
    exact ⟨rb, b, own', rfl, _, ⟨a1, a2⟩, LsI.start⟩
  have HS := hide hs
  clear hs hcl hwi
  have hN : 1 ≤ 1 + pickN cl 4 ∧ 1 + pickN cl 4 ≤ 4 := by omega
  generalize 1 + pickN cl 4 = N at *
  clear hq1
  go_enter Try.func7, Try.ntmps7
  go_wp2_with fail
  refine (unhide HO).mono ?_
  rintro e w1 ⟨rb, b, own1, rfl, X1, h1, hI1⟩
  clear HO
  have H1 := hide (And.intro h1 hI1)
  clear h1 hI1
  go_wp2_with fail
  go_loopw [8] (fun v wr => ∃ (i : Nat) (own2 : Nat → Tag) (X : IRoom), i ≤ L ∧ i ≤ 40 ∧ v = .int .i64 i ∧ LawAt w rb b X own2 wr ∧ LsI N i X) (fun v _ => L - (intOf v).toNat)
  case atStart => exact ⟨0, own1, X1, by omega, by omega, rfl, (unhide H1).1, (unhide H1).2⟩
  case round =>
    clear H1
    obtain ⟨i, own2, X, hi, hi40, rfl, h2, hI2⟩ := hrel
    by_cases hlt : i < L ∧ i < 40
    · have hlt' : (i : Int) < (L : Int) := by omega
      have hlt2 : (i : Int) < 40 := by omega
      obtain ⟨sb, so, kd, c, n, m, rfl, g2, g3, g4, g5, g6, g7⟩ := unhide HS i hlt.1
      have zz : ∀ (X : IRoom) (own1 : Nat → Tag) (wr : World), LawAt w rb b X own1 wr → wr.cell? ⟨sb, so + i * 4, none⟩ = some (.int .i64 kd) ∧ wr.cell? ⟨sb, so + i * 4 + 1, none⟩ = some (.int .i64 c) ∧ wr.cell? ⟨sb, so + i * 4 + 2, none⟩ = some (.int .i64 n) ∧ wr.cell? ⟨sb, so + i * 4 + 3, none⟩ = some (.int .i64 m) := fun X own1 wr h => ⟨h.old g2 (g7 0 _ rfl), h.old g2 (g7 1 _ rfl), h.old g2 (g7 2 _ rfl), h.old g2 (g7 3 _ rfl)⟩
      obtain ⟨z0, z1, z2, z3⟩ := zz X own2 wr h2
      have c0 := h2.room.c0
      have c1 := h2.room.c1
      rw [hI2.num] at c1
      have hq := pickN_lt c hN.1
      have HP := hide (fun w => kpick c N g4 hN.1 (by omega) w)
      have HR := hide (kRead (i := pickN c N) h2.drew.room.room h2.room.fit (by rw [hI2.num]; exact hq))
      have HE : Hid (Calls Try.prog 23 #[.pointer (some ⟨rb, 0, none⟩), .int .i64 (pickN c N), .int .i64 kd, .int .i64 n, .int .i64 m] wr.drew.drew fun e w' => e = .returned (.bool true) ∧ (∃ (o : ROp) (own' : Nat → Tag), LawAt w rb b (X.made (pickN c N) o) own' w' ∧ (o.does (X.tx (pickN c N))).length ≠ (X.tx (pickN c N)).length ∧ (o.does (X.tx (pickN c N))).length ≤ i + 1) ∧ w'.cell? ⟨sb, so + i * 4, none⟩ = some (.int .i64 kd) ∧ w'.cell? ⟨sb, so + i * 4 + 2, none⟩ = some (.int .i64 n) ∧ w'.cell? ⟨sb, so + i * 4 + 3, none⟩ = some (.int .i64 m)) := by
        apply hide
        refine (h2.drew.drew.edit hI2 hq hlt.2 g3 g5 g6).mono ?_
        rintro e w' ⟨rfl, o, own', a1, a2, a3⟩
        obtain ⟨y0, _, y2, y3⟩ := zz _ _ _ a1
        exact ⟨rfl, ⟨o, own', a1, a2, a3⟩, y0, y2, y3⟩
      have H2 := hide (And.intro h2.room.fit hI2)
      clear h2 hI2 g7 zz
      generalize pickN c N = q at *
      unfold bstr at HR
      go_wp2_with fail
      go_region_held3 (fun w' => w'.cell? ⟨sb, so + i * 4, none⟩ = some (.int .i64 kd) ∧ w'.cell? ⟨sb, so + i * 4 + 1, none⟩ = some (.int .i64 c) ∧ w'.cell? ⟨sb, so + i * 4 + 2, none⟩ = some (.int .i64 n) ∧ w'.cell? ⟨sb, so + i * 4 + 3, none⟩ = some (.int .i64 m) ∧ w'.cell? ⟨rb, 0, none⟩ = some (.pointer (some ⟨b, 0, none⟩)) ∧ w'.cell? ⟨rb, 1, none⟩ = some (.int .i64 N)) (go_keep) (first | (go_at_call 20; with_reducible refine (unhide HP _).mono ?_; rintro e w' ⟨rfl, hw'⟩; obtain rfl := hw'.symm))
      all_goals
        go_wp2_with fail
        refine (unhide HR).mono ?_
        rintro e w' ⟨rfl, hw'⟩
        obtain rfl := hw'.symm
        go_wp2_with fail
        go_region_held3 (fun w' => w'.cell? ⟨sb, so + i * 4, none⟩ = some (.int .i64 kd) ∧ w'.cell? ⟨sb, so + i * 4 + 2, none⟩ = some (.int .i64 n) ∧ w'.cell? ⟨sb, so + i * 4 + 3, none⟩ = some (.int .i64 m)) (go_keep) (first | (go_at_call 23; with_reducible refine (unhide HE).mono ?_; rintro e w3 ⟨rfl, h3, y0, y2, y3⟩; replace h3 := hide h3))
        all_goals
          obtain ⟨o, own3, h4, hne, hle⟩ := unhide h3
          obtain ⟨d0, HR3, HF3⟩ := h4.edited (unhide H2).2 (unhide H2).1 hq hle
          replace HR3 := hide HR3
          replace HF3 := hide HF3
          have hne2 : ¬ X.tx q = o.does (X.tx q) := fun e => hne (congrArg List.length e).symm
          clear h3 h4 hne hle HE HR H2 y0 y2 y3
          unfold bstr at HR3 HF3
          generalize o.does (X.tx q) = t' at *
          generalize X.tx q = t at *
          have hne3 : (t == t') = false := by simp [hne2]
          clear hne2
          go_wp2_with fail
          refine (unhide HR3).mono ?_
          rintro e w' ⟨rfl, hw'⟩
          obtain rfl := hw'.symm
          go_wp2_with fail
          refine (unhide HF3).mono ?_
          rintro e w5 ⟨rfl, Y, own5, hI5, h5, HA⟩
          replace HA := hide HA
          have H5 := hide (And.intro h5 hI5)
          clear h5 hI5
          go_wp2_with fail
          refine (unhide HA).mono ?_
          rintro e w' ⟨rfl, hw'⟩
          obtain rfl := hw'.symm
          go_wp2_with fail
          go_roundw
          case rel => exact ⟨i + 1, own5, Y, by omega, by omega, by go_num, (unhide H5).1, (unhide H5).2⟩
          case measure => simp [intOf]; omega
    · have H2 := hide h2.upd.base
      clear h2 hI2
      have hlt' : ¬ (i : Int) < (L : Int) ∨ ((i : Int) < (L : Int) ∧ ¬ (i : Int) < 40) := by omega
      rcases hlt' with hlt' | ⟨hlt1, hlt'⟩ <;>
      · go_wp2_with fail
        go_ret
        exact ⟨rfl, unhide H2⟩
end Go.Proofs.Ytemkgikncmhoaaa

/-
  weave: one client alone. Plain mathematics. Own work.
-/
namespace Go.Proofs.Ytemkgikncmhoaaa

/-- The text that these make, from nothing. -/
def txt (l : List GMsg) : List UInt8 := l.foldl (fun s m => m.op.does s) []
/-- All the texts on the way. -/
def hist (l : List GMsg) : List (List UInt8) := (List.range (l.length + 1)).map fun k => txt (l.take k)
theorem txt_push (l : List GMsg) (g : GMsg) : txt (l ++ [g]) = g.op.does (txt l) := by simp [txt]
theorem hist_len (l : List GMsg) : (hist l).length = l.length + 1 := by simp [hist]
theorem hist_get (l : List GMsg) {k : Nat} (h : k ≤ l.length) : (hist l)[k]? = some (txt (l.take k)) := by
  unfold hist
  rw [List.getElem?_map, List.getElem?_range (by omega)]
  rfl
theorem hist_push (l : List GMsg) (g : GMsg) : hist (l ++ [g]) = hist l ++ [txt (l ++ [g])] := by
  unfold hist
  rw [show (l ++ [g]).length + 1 = (l.length + 1) + 1 by simp, List.range_succ, List.map_append]
  congr 1
  · apply List.map_congr_left
    intro k hk
    have := List.mem_range.1 hk
    rw [List.take_append_of_le_length (by omega)]
  · simp only [List.map_cons, List.map_nil]
    rw [List.take_of_length_le (by simp)]
theorem gmsg_get {l : List GMsg} {i : Nat} (h : i < l.length) : gmsg l (i + 1) = l[i] := by
  unfold gmsg
  rw [List.getD_eq_getElem?_getD, Nat.add_sub_cancel, List.getElem?_eq_getElem h]
  rfl
theorem Grid.alone {us : List GMsg} {T : Nat → Nat → List UInt8} (g : Grid us [] T) : ∀ k, k ≤ us.length → T k 0 = txt (us.take k)
  | 0, _ => by rw [g.start]; simp [txt]
  | k + 1, hk => by
    have pt : ∀ j, j ≤ us.length → Pt us [] j 0 := fun j hj => ⟨hj, Nat.le_refl _, fun h => by have := g.hist.bu j h hj; simpa using this, fun h => by omega⟩
    obtain ⟨_, e⟩ := g.u (k + 1) 0 (by omega) (pt _ hk) (pt _ (by omega))
    rw [e, form_base us [] (k + 1) 0 (Nat.zero_le _), gmsg_get (by omega), Nat.add_sub_cancel, g.alone k (by omega), List.take_succ_eq_append_getElem (by omega), txt_push]
/-- A room of one client, behind these messages; k: how far the server's text has been looked for. -/
structure AlI (us : List GMsg) (k : Nat) (X : IRoom) : Prop where
  num : X.texts.length = 1
  rows : ∃ us' ds T, RInv X us' ds T ∧ us' 0 = us
  far : k ≤ (X.s 0).taken
section
variable {us : List GMsg} {k : Nat} {X X' : IRoom}
theorem RInv.none {us ds : Nat → List GMsg} {T : Nat → Nat → Nat → List UInt8} (h : RInv X us ds T) (hn : X.texts.length = 1) : ds 0 = [] := by
  have ht := h.tot 0 (by omega)
  have z : ∀ j, 1 ≤ j → X.tk j = 0 := fun j hj => by
    have := (h.far (i := j) (by omega)).2
    unfold IRoom.tk
    unfold IRoom.s at this
    rw [this]
    rfl
  rw [z 1 (by omega), z 2 (by omega), z 3 (by omega)] at ht
  exact List.eq_nil_of_length_eq_zero (by omega)
theorem AlI.see (h : AlI us k X) : X.tx 0 = txt us ∧ X.server = txt (us.take (X.s 0).taken) ∧ (X.s 0).taken ≤ us.length ∧ us.length ≤ 60 ∧ (X.s 0).made = 0 := by
  obtain ⟨us', ds, T, hr, rfl⟩ := h.rows
  have hi : 0 < X.texts.length := by have := h.num; omega
  have hd := hr.none h.num
  obtain ⟨g1, g2, g3⟩ := hr.at' hi
  obtain ⟨hl, _, h60, _⟩ := hr.line 0 _ _ _ g1 g2 g3
  have g := hl.g
  have ta := hl.ta
  have tb := hl.tb
  have t1 := hl.a.tk
  have t2 := hl.b.tk
  have m := hl.b.made
  rw [hd] at g tb t1 m
  have e0 : (X.e 0).taken = 0 := by simpa using t1
  rw [e0] at ta
  simp only [List.length_nil] at tb m
  refine ⟨?_, ?_, t2, h60, m⟩
  · rw [ta, g.alone _ (Nat.le_refl _), List.take_length]
  · rw [tb, g.alone _ t2]
theorem AlI.moved (h : AlI us k X) (m : Moved X X') : AlI us k X' := by
  obtain ⟨us', ds, T, hr, rfl⟩ := h.rows
  cases m with
  | air a => exact ⟨by rw [a.texts]; exact h.num, ⟨us', ds, T, a.rows _ _ _ hr, rfl⟩, by rw [a.staken]; exact h.far⟩
  | up i n hi =>
    obtain rfl : i = 0 := by have := h.num; omega
    cases hd : (X.e 0).flying[n]? with
    | none => rw [up_none hd]; exact h
    | some d =>
      obtain ⟨os, u, ⟨ds', T', hr'⟩, _⟩ := hr.upped' hi hd
      have := (u.came.load (hr.pair hi).b).2.1
      exact ⟨by rw [u.texts]; exact h.num, ⟨us', ds', T', hr', rfl⟩, by rw [this]; have := h.far; omega⟩
  | down i n hi =>
    obtain rfl : i = 0 := by have := h.num; omega
    cases hd : (X.s 0).flying[n]? with
    | none => rw [down_none hd]; exact h
    | some d =>
      obtain ⟨q, u, hr', _⟩ := hr.downed' hi hd
      exact ⟨by rw [u.len]; exact h.num, ⟨us', ds, T, hr', rfl⟩, by rw [u.s, if_pos rfl]; exact h.far⟩
theorem AlI.made (h : AlI us k X) (o : ROp) (hc : o.client = (0 : Nat)) (hn : o.Norm) (hf : o.fits (X.tx 0).length) (hm : X.may 0) : AlI (us ++ [⟨(X.e 0).taken, o⟩]) k (X.made 0 o) := by
  obtain ⟨us', ds, T, hr, rfl⟩ := h.rows
  have hi : 0 < X.texts.length := by have := h.num; omega
  obtain ⟨g1, g2, g3⟩ := hr.at' hi
  obtain ⟨T', hr'⟩ := hr.make g1 g2 g3 o hc hn hf hm.1 hm.2
  exact ⟨by simpa [IRoom.made, IRoom.setA] using h.num, ⟨_, _, _, hr', upd_same _ _ _⟩, h.far⟩
/-- A step: nothing for the client's text, or one message more, and another text. -/
theorem AlI.played (h : AlI us k X) {kd c m : Int} (p : Played X kd c m X') : AlI us k X' ∨ ∃ g, AlI (us ++ [g]) k X' ∧ txt (us ++ [g]) ≠ txt us := by
  have hi : 0 < X.texts.length := by have := h.num; omega
  have hx := h.see.1
  cases p with
  | move hk q => exact .inl (h.moved q)
  | edit hk e =>
    have e0 : pickN c X.texts.length = 0 := by have := pickN_lt c (n := X.texts.length) (by omega); have := h.num; omega
    rw [e0] at e
    cases e with
    | no _ => exact .inl h
    | put p hp hm hl =>
      have hlo := letterN_ok m
      refine .inr ⟨_, h.made _ rfl ⟨⟨by simp, by simp⟩, by simp; omega⟩ (.inr (.inl ⟨rfl, by simp, by simpa using hp⟩)) hm, ?_⟩
      rw [txt_push, ← hx]
      intro q
      have := congrArg List.length q
      rw [ROp.does_put, ins_len _ _ _ hp] at this
      omega
    | cut p hp hm =>
      refine .inr ⟨_, h.made _ rfl ⟨⟨by simp, by simp⟩, by simp⟩ (.inr (.inr ⟨rfl, by simp, by simpa using hp⟩)) hm, ?_⟩
      rw [txt_push, ← hx]
      intro q
      have := congrArg List.length q
      rw [ROp.does_cut, del_len _ _ hp] at this
      omega
theorem AlI.solo (h : AlI us k X) : Solo 0 (txt us) X := by
  obtain ⟨a, _, _, _, d⟩ := h.see
  exact ⟨a, fun j hj hj0 => by have := h.num; omega, by rw [d]; exact Nat.zero_le _⟩
theorem AlI.start (W : Nat) (h1 : 1 ≤ W) (h4 : W ≤ 4) : AlI [] 0 (IRoom.fresh 1 W) :=
  ⟨by simp [IRoom.fresh], ⟨_, _, _, RInv.fresh (by omega) (by omega) h1 h4, rfl⟩, Nat.zero_le _⟩
end
end Go.Proofs.Ytemkgikncmhoaaa

/-
  weavekeep: Alone. Own work.
-/
namespace Go.Proofs.Ytemkgikncmhoaaa
open Go.RowKit
attribute [local go_sem ↓] Go.wp_at_zero Go.wp_at_succ

def strs (ts : List (List UInt8)) : List Value := ts.map fun t => .string ⟨t.toArray⟩
theorem strs_len (ts : List (List UInt8)) : (strs ts).length = ts.length := by simp [strs]
theorem strs_get {ts : List (List UInt8)} {k : Nat} {t : List UInt8} (h : ts[k]? = some t) : (strs ts)[k]? = some (.string ⟨t.toArray⟩) := by simp [strs, h]
theorem strs_one (ts : List (List UInt8)) : ∀ u ∈ strs ts, u.oneCell' = true := by
  intro u hu
  obtain ⟨t, _, rfl⟩ := List.mem_map.1 hu
  rfl
/-- A law that keeps texts besides. -/
structure TxtAt (w : World) (rb b : Nat) (X : IRoom) (own1 : Nat → Tag) (v : Value) (ts : List (List UInt8)) (wr : World) : Prop where
  law : LawAt w rb b X own1 wr
  row : OwnsT own1 (4, 0, 0) wr 9 1 v ts.length (strs ts)
theorem TxtAt.of {w wr w' : World} {rb b : Nat} {X X' : IRoom} {own1 own' : Nat → Tag} {v : Value} {ts : List (List UInt8)} (h : TxtAt w rb b X own1 v ts wr) (h1 : KRoom own' w' rb b X') (h2 : Upd own1 own' (inRoom 1) wr w') : TxtAt w rb b X' own' v ts w' :=
  ⟨h.law.of h1 h2, h.row.upd h2 (by simp [inRoom])⟩
theorem TxtAt.drew {w wr : World} {rb b : Nat} {X : IRoom} {own1 : Nat → Tag} {v : Value} {ts : List (List UInt8)} (h : TxtAt w rb b X own1 v ts wr) : TxtAt w rb b X own1 v ts wr.drew := ⟨h.law.drew, h.row.drew⟩
/-- Behind an append. -/
theorem TxtAt.push {w wr wa w' : World} {rb b : Nat} {X : IRoom} {own1 own' : Nat → Tag} {v v' : Value} {ts : List (List UInt8)} {t : List UInt8} (h : TxtAt w rb b X own1 v ts wr) (ha : Upd own1 own1 (fun _ => False) wr wa) (h1 : OwnsT own' (4, 0, 0) w' 9 1 v' (ts.length + 1) (strs ts ++ [.string ⟨t.toArray⟩])) (h2 : Upd own1 own' (fun x => x = (4, 0, 0)) wa w') : TxtAt w rb b X own' v' (ts ++ [t]) w' := by
  have U : Upd own1 own' (fun x => x = (4, 0, 0)) wr w' := (ha.mono fun _ h => h.elim).trans h2
  refine ⟨⟨h.law.room.upd U (by simp) (by simp), h.law.upd.trans (U.mono fun t ht => by subst ht; simp [may9])⟩, ?_⟩
  simpa [strs] using h1
theorem TxtAt.play {w wr : World} {rb b : Nat} {X : IRoom} {own1 : Nat → Tag} {v : Value} {ts : List (List UInt8)} (h : TxtAt w rb b X own1 v ts wr) {kd c n m : Int} (hkd : I64 kd) (hc : I64 c) (hn : I64 n) (hm : I64 m) :
    Calls Try.prog 14 #[.pointer (some ⟨rb, 0, none⟩), .agg (StepV kd c n m)] wr fun e w' => e = .returned (.bool true) ∧ ∃ X' own', Played X kd c m X' ∧ TxtAt w rb b X' own' v ts w' := by
  refine (kplay own1 wr rb b X kd c n m h.law.room hkd hc hn hm).mono ?_
  rintro e w' ⟨rfl, X', a1, own', a2, a3⟩
  exact ⟨rfl, X', own', a1, h.of a2 a3⟩
theorem TxtAt.settle {w wr : World} {rb b : Nat} {X : IRoom} {own1 : Nat → Tag} {v : Value} {ts : List (List UInt8)} (h : TxtAt w rb b X own1 v ts wr) (R : Nat) (hR : R ≤ 1000) :
    Calls Try.prog 16 #[.pointer (some ⟨rb, 0, none⟩), .int .i64 R] wr fun e w' => e = .returned (.bool true) ∧ ∃ X' own', Settles X R X' ∧ TxtAt w rb b X' own' v ts w' := by
  refine (ksettle own1 wr rb b X R hR h.law.room).mono ?_
  rintro e w' ⟨rfl, own', Y, a1, a2, a3⟩
  exact ⟨rfl, Y, own', a3, h.of a1 a2⟩

theorem TxtAt.cell {w wr : World} {rb b g n cp k : Nat} {X : IRoom} {own1 : Nat → Tag} {ts : List (List UInt8)} {t : List UInt8} (h : TxtAt w rb b X own1 (.slice (some ⟨g, 0, none⟩) n cp) ts wr) (hk : ts[k]? = some t) : wr.cell? ⟨g, k, none⟩ = some (.string ⟨t.toArray⟩) := by
  obtain ⟨g', cap, e, _, _, hc, _⟩ := h.row.get (strs_get hk)
  simp only [Value.slice.injEq, Option.some.injEq, Addr.mk.injEq, and_true] at e
  rw [e.1]
  exact hc
set_option maxRecDepth 100000 in
set_option maxHeartbeats 1600000 in
theorem alone_any (w : World) (wi : Int) (a : Option Addr) (L cap : Nat) (hwi : I64 wi) (hs : StepsAt w w.heap.size a L) (hL : L ≤ 4611686018427387904) :
    Calls Try.prog 4 #[.int .i64 wi, .slice a L cap] w fun e w' => e = .returned (.bool true) ∧ Below w.heap.size w w' := by
  obtain ⟨i1, hi, hz0, hz1, hz2⟩ := info_parts Try.info9
  have hq2 := pickN_lt wi (n := 4) (by omega)
  have HO : Hid (Calls Try.prog 13 #[.int .i64 0, .int .i64 wi] w fun e w' => ∃ rb b own', e = .returned (.pointer (some ⟨rb, 0, none⟩)) ∧ ∃ X, TxtAt w rb b X own' (.slice none 0 0) [] w' ∧ AlI [] 0 X) := by
    apply hide
    refine (kopened w 0 wi (by unfold I64; omega) hwi).mono ?_
    rintro e w' ⟨rb, b, own', rfl, a1, a2⟩
    exact ⟨rb, b, own', rfl, _, ⟨⟨a1, a2⟩, OwnsT.nil _ _ _ _ _⟩, AlI.start _ (by omega) (by omega)⟩
  have HS := hide hs
  clear hs hwi hq2
  go_enter Try.func4, Try.ntmps4
  go_wp2_with fail
  refine (unhide HO).mono ?_
  rintro e w1 ⟨rb, b, own1, rfl, X1, h1, hI1⟩
  clear HO
  have H1 := hide (And.intro h1 hI1)
  clear h1 hI1
  go_wp2_with (at_builtin; go_must (refine wpList_append_T _ rfl (.tmp 21) (.tmp 22) 28 rfl 9 i1 (.string ⟨#[]⟩) 1 16 Try.underlying28 hi hz0 hz1 hz2 rfl (by decide) _ 0 _ own1 (4, 0, 0) rfl ((unhide H1).1.row.alloc _) ⟨w1.heap.size, 0, none⟩ 1 1 [.string ⟨#[]⟩] rfl rfl (World.news_of_block (cs := #[.string ⟨#[]⟩]) (t := 9) (fr := (0, 0)) (heap_alloc_new w1 _)) (by intro u hu; simp at hu; subst hu; rfl) (by simp [maxLen]) (by omega) ?_))
  intro v3 w3 ho3 hu3
  have H3 : Hid (TxtAt w rb b X1 (retag own1 (w1.heap.size + 1) (4, 0, 0)) v3 (hist []) w3 ∧ AlI [] 0 X1) := hide ⟨(unhide H1).1.push (t := []) ((Upd.refl own1 (fun _ => False) w1).alloc _) ho3 hu3, (unhide H1).2⟩
  clear ho3 hu3 H1
  generalize retag own1 (w1.heap.size + 1) (4, 0, 0) = own3 at *
  go_wp2_with fail
  go_loopw [6, 7, 8] (fun v6 v7 v8 wr => ∃ (i k : Nat) (us : List GMsg) (own2 : Nat → Tag) (X : IRoom), i ≤ L ∧ v8 = .int .i64 i ∧ v7 = .int .i64 k ∧ TxtAt w rb b X own2 v6 (hist us) wr ∧ AlI us k X) (fun v6 v7 v8 _ => L - (intOf v8).toNat)
  case atStart => exact ⟨0, 0, [], own3, X1, by omega, rfl, rfl, (unhide H3).1, (unhide H3).2⟩
  case round =>
    clear H3
    obtain ⟨i, k, us, own2, X, hi2, rfl, rfl, h2, hI2⟩ := hrel
    by_cases hlt : i < L
    · have hlt' : (i : Int) < (L : Int) := by omega
      obtain ⟨sb, so, kd, c, n, m, rfl, g2, g3, g4, g5, g6, g7⟩ := h2.law.steps (unhide HS) i hlt
      have z0 := g7 0 (Value.int .i64 kd) rfl
      have z1 := g7 1 (Value.int .i64 c) rfl
      have z2 := g7 2 (Value.int .i64 n) rfl
      have z3 := g7 3 (Value.int .i64 m) rfl
      rw [Nat.add_zero] at z0
      have HP := hide (h2.play g3 g4 g5 g6)
      unfold StepV at HP
      have HI2 := hide hI2
      clear h2 hI2 g7
      go_wp2_with fail
      refine (unhide HP).mono ?_
      rintro e w4 ⟨rfl, X4, own4, hp4, h4⟩
      clear HP
      have hus := (unhide HI2).see
      obtain ⟨g, cp, rfl, hcp1, hcp2, hlast, _⟩ := h4.row.get (strs_get (hist_get us (k := us.length) (Nat.le_refl _)))
      rw [List.take_length] at hlast
      rw [hist_len] at h4 hcp1
      rw [hist_len]
      have d0 := h4.law.room.c0
      have hul : us.length ≤ 60 := hus.2.2.2.1
      replace hus := hide hus
      generalize hM : us.length = M at *
      have HM := hide hM
      clear hM
      have hm1 : (wrap64 ((M : Int) + 1 - 1)).toNat = M := by unfold wrap64; omega
      rcases (unhide HI2).played hp4 with hI4 | ⟨gm, hI4, hne⟩
      · have hi0 : 0 < X4.texts.length := by rw [hI4.num]; omega
        have HR := kRead (i := 0) h4.law.room.room h4.law.room.fit hi0
        rw [hI4.see.1] at HR
        replace HR : Hid (Calls Try.prog 15 #[.pointer (some ⟨b, 0, none⟩), .int .i64 0] w4 fun e w' => e = .returned (.tuple #[bstr (txt us), .int .i64 0]) ∧ w' = w4) := hide HR
        have H4 := hide (And.intro h4 hI4)
        clear h4 hI4 hp4
        unfold bstr at HR
        generalize (⟨(txt us).toArray⟩ : ByteArray) = s at *
        go_wp2_with fail
        refine (unhide HR).mono ?_
        rintro e w' ⟨rfl, hw'⟩
        obtain rfl := hw'.symm
        go_wp2_with fail
        clear HI2 hus d0 hlast HR
        obtain ⟨_, hsv, htk, hM60, _⟩ := (unhide H4).2.see
        have d5 := (unhide H4).1.law.room.c0
        have HV := xread_server own4 1 b X4 w4 (unhide H4).1.law.room.room
        rw [hsv] at HV
        replace HV := hide HV
        generalize hTK : (X4.s 0).taken = tk at *
        have HTK := hide hTK
        clear hTK hsv
        rw [(unhide HM)] at htk hM60
        have HC : Hid (∀ j wr, j ≤ tk → TxtAt w rb b X4 own4 (.slice (some ⟨g, 0, none⟩) (M + 1) cp) (hist us) wr → wr.cell? ⟨g, j, none⟩ = some (.string ⟨(txt (List.take j us)).toArray⟩)) := hide fun j wr hj h => h.cell (hist_get _ (k := j) (by rw [unhide HM]; omega))
        unfold bstr at HV
        go_wp2_with fail
        refine (unhide HV).mono ?_
        rintro e w' ⟨rfl, hw'⟩
        obtain rfl := hw'.symm
        go_wp2_with fail
        clear d5
        go_loopw [7] (fun v7 wr => ∃ j : Nat, j ≤ tk ∧ v7 = .int .i64 j ∧ TxtAt w rb b X4 own4 (.slice (some ⟨g, 0, none⟩) (M + 1) cp) (hist us) wr) (fun v7 _ => tk - (intOf v7).toNat)
        case atStart => exact ⟨k, by have := (unhide H4).2.far; rw [unhide HTK] at this; exact this, rfl, (unhide H4).1⟩
        case round =>
          obtain ⟨j, hj, rfl, h6⟩ := hrel
          have hcj := unhide HC j _ hj h6
          have H6 := hide h6
          clear h6
          have hj1 : (j : Int) < (M : Int) + 1 := by omega
          have hj2 : ¬ (j : Int) = (M : Int) + 1 := by omega
          by_cases he : txt (List.take j us) = txt (List.take tk us)
          · rw [he] at hcj
            replace he := hide he
            generalize (⟨(txt (List.take tk us)).toArray⟩ : ByteArray) = t at *
            go_wp2_with fail
            go_roundw
            case rel => exact ⟨i + 1, j, _, own4, X4, by omega, by go_num, rfl, unhide H6, (unhide H4).2.num, (unhide H4).2.rows, by rw [unhide HTK]; exact hj⟩
            case measure => simp [intOf]; omega
          · have hne6 : ¬ j = tk := fun e => he (by rw [e])
            have he2 : (txt (List.take j us) == txt (List.take tk us)) = false := by simp [he]
            clear he
            generalize txt (List.take j us) = tj at *
            generalize txt (List.take tk us) = tt at *
            go_wp2_with fail
            go_roundw
            case rel => exact ⟨j + 1, by omega, by go_num, unhide H6⟩
            case measure => simp [intOf]; omega
      · have hi0 : 0 < X4.texts.length := by rw [hI4.num]; omega
        have HR := kRead (i := 0) h4.law.room.room h4.law.room.fit hi0
        rw [hI4.see.1] at HR
        replace HR : Hid (Calls Try.prog 15 #[.pointer (some ⟨b, 0, none⟩), .int .i64 0] w4 fun e w' => e = .returned (.tuple #[bstr (txt (us ++ [gm])), .int .i64 0]) ∧ w' = w4) := hide HR
        have hne2 : (txt (us ++ [gm]) == txt us) = false := by simp [hne]
        have H4 := hide (And.intro h4 hI4)
        have HROW : Hid (OwnsT own4 (4, 0, 0) (w4.alloc (Obj.cells #[.string ⟨(txt (us ++ [gm])).toArray⟩] 9)) 9 1 (.slice (some ⟨g, 0, none⟩) (M + 1) cp) (M + 1) (strs (hist us))) := hide (by have := h4.row; rw [hist_len, unhide HM] at this; exact this.alloc _)
        have hM6 : M + 1 ≤ 60 := by have := hI4.see.2.2.2.1; rw [List.length_append, unhide HM] at this; simpa using this
        have HT := hide (hist_push us gm)
        have HM5 : Hid ((us ++ [gm]).length = M + 1) := hide (by rw [List.length_append, unhide HM]; rfl)
        clear h4 hI4 hp4 hne
        unfold bstr at HR
        generalize htx : txt (us ++ [gm]) = tn at *
        generalize us ++ [gm] = us5 at *
        generalize txt us = t0 at *
        go_wp2_with fail
        refine (unhide HR).mono ?_
        rintro e w' ⟨rfl, hw'⟩
        obtain rfl := hw'.symm
        go_wp2_with (at_builtin; go_must (refine wpList_append_T _ rfl (.tmp 52) (.tmp 54) 28 rfl 9 i1 (.string ⟨#[]⟩) 1 16 Try.underlying28 hi hz0 hz1 hz2 rfl (by decide) _ (M + 1) _ own4 (4, 0, 0) rfl (unhide HROW) ⟨w4.heap.size, 0, none⟩ 1 1 [.string ⟨tn.toArray⟩] rfl rfl (World.news_of_block (cs := #[.string ⟨tn.toArray⟩]) (t := 9) (fr := (0, 0)) (heap_alloc_new w4 _)) (by intro u hu; simp at hu; subst hu; rfl) (by simp [maxLen]; omega) (by omega) ?_))
        intro v5 w5 ho5 hu5
        have h5 := (unhide H4).1.push (t := tn) ((Upd.refl own4 (fun _ => False) w4).alloc _) (by rw [hist_len, unhide HM]; exact ho5) hu5
        rw [← unhide HT] at h5
        have H5 := hide (And.intro h5 (unhide H4).2)
        clear ho5 hu5 h5
        generalize retag own4 (w4.heap.size + 1) (4, 0, 0) = own5 at *
        obtain ⟨g5, cp5, rfl, _, _, _, _⟩ := (unhide H5).1.row.get (strs_get (hist_get us5 (k := 0) (Nat.zero_le _)))
        rw [hist_len, unhide HM5] at H5
        rw [hist_len, unhide HM5]
        generalize M + 1 = M5 at *
        clear HI2 hus d0 hlast HR H4 HROW HT htx
        obtain ⟨_, hsv, htk, hM60, _⟩ := (unhide H5).2.see
        have d5 := (unhide H5).1.law.room.c0
        have HV := xread_server own5 1 b X4 w5 (unhide H5).1.law.room.room
        rw [hsv] at HV
        replace HV := hide HV
        generalize hTK : (X4.s 0).taken = tk at *
        have HTK := hide hTK
        clear hTK hsv
        rw [(unhide HM5)] at htk hM60
        have HC : Hid (∀ j wr, j ≤ tk → TxtAt w rb b X4 own5 (.slice (some ⟨g5, 0, none⟩) (M5 + 1) cp5) (hist us5) wr → wr.cell? ⟨g5, j, none⟩ = some (.string ⟨(txt (List.take j us5)).toArray⟩)) := hide fun j wr hj h => h.cell (hist_get _ (k := j) (by rw [unhide HM5]; omega))
        unfold bstr at HV
        go_wp2_with fail
        refine (unhide HV).mono ?_
        rintro e w' ⟨rfl, hw'⟩
        obtain rfl := hw'.symm
        go_wp2_with fail
        clear d5
        go_loopw [7] (fun v7 wr => ∃ j : Nat, j ≤ tk ∧ v7 = .int .i64 j ∧ TxtAt w rb b X4 own5 (.slice (some ⟨g5, 0, none⟩) (M5 + 1) cp5) (hist us5) wr) (fun v7 _ => tk - (intOf v7).toNat)
        case atStart => exact ⟨k, by have := (unhide H5).2.far; rw [unhide HTK] at this; exact this, rfl, (unhide H5).1⟩
        case round =>
          obtain ⟨j, hj, rfl, h6⟩ := hrel
          have hcj := unhide HC j _ hj h6
          have H6 := hide h6
          clear h6
          have hj1 : (j : Int) < (M5 : Int) + 1 := by omega
          have hj2 : ¬ (j : Int) = (M5 : Int) + 1 := by omega
          by_cases he : txt (List.take j us5) = txt (List.take tk us5)
          · rw [he] at hcj
            replace he := hide he
            generalize (⟨(txt (List.take tk us5)).toArray⟩ : ByteArray) = t at *
            go_wp2_with fail
            go_roundw
            case rel => exact ⟨i + 1, j, _, own5, X4, by omega, by go_num, rfl, unhide H6, (unhide H5).2.num, (unhide H5).2.rows, by rw [unhide HTK]; exact hj⟩
            case measure => simp [intOf]; omega
          · have hne6 : ¬ j = tk := fun e => he (by rw [e])
            have he2 : (txt (List.take j us5) == txt (List.take tk us5)) = false := by simp [he]
            clear he
            generalize txt (List.take j us5) = tj at *
            generalize txt (List.take tk us5) = tt at *
            go_wp2_with fail
            go_roundw
            case rel => exact ⟨j + 1, by omega, by go_num, unhide H6⟩
            case measure => simp [intOf]; omega
    · have hlt' : ¬ (i : Int) < (L : Int) := by omega
      obtain ⟨g, cp, rfl, hcp1, hcp2, _, _⟩ := h2.row.get (strs_get (hist_get us (k := us.length) (Nat.le_refl _)))
      rw [hist_len] at h2 hcp1
      rw [hist_len]
      have hul := hI2.see.2.2.2.1
      have HST : Hid (Calls Try.prog 16 #[.pointer (some ⟨rb, 0, none⟩), .int .i64 4] wr fun e w' => e = .returned (.bool true) ∧ ∃ own', w'.cell? ⟨g, us.length, none⟩ = some (.string ⟨(txt us).toArray⟩) ∧ (∃ Y, LawAt w rb b Y own' w' ∧ Calls Try.prog 17 #[.pointer (some ⟨rb, 0, none⟩)] w' fun e w'' => e = .returned (.tuple #[bstr (txt us), .bool true]) ∧ w'' = w')) := by
        apply hide
        refine (h2.settle 4 (by omega)).mono ?_
        rintro e w' ⟨rfl, Y, own', a1, a2⟩
        have hc := a2.cell (hist_get us (k := us.length) (Nat.le_refl _))
        rw [List.take_length] at hc
        have hq := a1.quiet h2.law.room.fit (by omega)
        have hi0 : 0 < X.texts.length := by rw [hI2.num]; omega
        have hsl := (a1.solo hI2.solo h2.law.room.fit hi0).tx
        have hy : 0 < Y.texts.length := by rw [(a1.fit h2.law.room.fit).2.2.1]; exact hi0
        have ha := a2.law.alike hq
        rw [← a2.law.room.fit.same hq hy, hsl] at ha
        exact ⟨rfl, own', hc, Y, a2.law, ha⟩
      clear h2 hI2
      generalize us.length = M at *
      generalize txt us = tx at *
      have hm1 : (wrap64 ((M : Int) + 1 - 1)).toNat = M := by unfold wrap64; omega
      unfold bstr at HST
      go_wp2_with fail
      refine (unhide HST).mono ?_
      rintro e w5 ⟨rfl, own5, hc5, Y, h5, HA⟩
      replace HA := hide HA
      have H5 := hide h5.upd.base
      clear h5 HST
      go_wp2_with fail
      refine (unhide HA).mono ?_
      rintro e w' ⟨rfl, hw'⟩
      obtain rfl := hw'.symm
      go_wp2_with fail
      go_ret
      exact ⟨rfl, unhide H5⟩
end Go.Proofs.Ytemkgikncmhoaaa

