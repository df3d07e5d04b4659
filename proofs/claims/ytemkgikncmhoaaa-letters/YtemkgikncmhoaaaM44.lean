import Derived.Test.YtemkgikncmhoaaaM38
import Derived.Test.YtemkgikncmhoaaaM43
/-
  weave: one client alone. Plain mathematics. Own work.
-/
namespace Go.Proofs.Ytemkgikncmhoaaa

/-- The text that these make, from nothing. -/
def txt (l : List GMsg) : List UInt8 := l.foldl (fun s m => m.op.does s) []
/-- All the texts on the way. -/
def hist (l : List GMsg) : List (List UInt8) := (List.range (l.length + 1)).map fun k => txt (l.take k)
theorem txt_push (l : List GMsg) (g : GMsg) : txt (l ++ [g]) = g.op.does (txt l) := by simp [txt]
theorem hist_len (l : List GMsg) : (hist l).length = l.length + 1 := by simp [hist]
theorem hist_get (l : List GMsg) {k : Nat} (h : k ≤ l.length) : (hist l)[k]? = some (txt (l.take k)) := by
  unfold hist
  rw [List.getElem?_map, List.getElem?_range (by omega)]
  rfl
theorem hist_push (l : List GMsg) (g : GMsg) : hist (l ++ [g]) = hist l ++ [txt (l ++ [g])] := by
  unfold hist
  rw [show (l ++ [g]).length + 1 = (l.length + 1) + 1 by simp, List.range_succ, List.map_append]
  congr 1
  · apply List.map_congr_left
    intro k hk
    have := List.mem_range.1 hk
    rw [List.take_append_of_le_length (by omega)]
  · simp only [List.map_cons, List.map_nil]
    rw [List.take_of_length_le (by simp)]
theorem gmsg_get {l : List GMsg} {i : Nat} (h : i < l.length) : gmsg l (i + 1) = l[i] := by
  unfold gmsg
  rw [List.getD_eq_getElem?_getD, Nat.add_sub_cancel, List.getElem?_eq_getElem h]
  rfl
theorem Grid.alone {us : List GMsg} {T : Nat → Nat → List UInt8} (g : Grid us [] T) : ∀ k, k ≤ us.length → T k 0 = txt (us.take k)
  | 0, _ => by rw [g.start]; simp [txt]
  | k + 1, hk => by
    have pt : ∀ j, j ≤ us.length → Pt us [] j 0 := fun j hj => ⟨hj, Nat.le_refl _, fun h => by have := g.hist.bu j h hj; simpa using this, fun h => by omega⟩
    obtain ⟨_, e⟩ := g.u (k + 1) 0 (by omega) (pt _ hk) (pt _ (by omega))
    rw [e, form_base us [] (k + 1) 0 (Nat.zero_le _), gmsg_get (by omega), Nat.add_sub_cancel, g.alone k (by omega), List.take_succ_eq_append_getElem (by omega), txt_push]
/-- A room of one client, behind these messages; k: how far the server's text has been looked for. -/
structure AlI (us : List GMsg) (k : Nat) (X : IRoom) : Prop where
  num : X.texts.length = 1
  rows : ∃ us' ds T, RInv X us' ds T ∧ us' 0 = us
  far : k ≤ (X.s 0).taken
section
variable {us : List GMsg} {k : Nat} {X X' : IRoom}
theorem RInv.none {us ds : Nat → List GMsg} {T : Nat → Nat → Nat → List UInt8} (h : RInv X us ds T) (hn : X.texts.length = 1) : ds 0 = [] := by
  have ht := h.tot 0 (by omega)
  have z : ∀ j, 1 ≤ j → X.tk j = 0 := fun j hj => by
    have := (h.far (i := j) (by omega)).2
    unfold IRoom.tk
    unfold IRoom.s at this
    rw [this]
    rfl
  rw [z 1 (by omega), z 2 (by omega), z 3 (by omega)] at ht
  exact List.eq_nil_of_length_eq_zero (by omega)
theorem AlI.see (h : AlI us k X) : X.tx 0 = txt us ∧ X.server = txt (us.take (X.s 0).taken) ∧ (X.s 0).taken ≤ us.length ∧ us.length ≤ 60 ∧ (X.s 0).made = 0 := by
  obtain ⟨us', ds, T, hr, rfl⟩ := h.rows
  have hi : 0 < X.texts.length := by have := h.num; omega
  have hd := hr.none h.num
  obtain ⟨g1, g2, g3⟩ := hr.at' hi
  obtain ⟨hl, _, h60, _⟩ := hr.line 0 _ _ _ g1 g2 g3
  have g := hl.g
  have ta := hl.ta
  have tb := hl.tb
  have t1 := hl.a.tk
  have t2 := hl.b.tk
  have m := hl.b.made
  rw [hd] at g tb t1 m
  have e0 : (X.e 0).taken = 0 := by simpa using t1
  rw [e0] at ta
  simp only [List.length_nil] at tb m
  refine ⟨?_, ?_, t2, h60, m⟩
  · rw [ta, g.alone _ (Nat.le_refl _), List.take_length]
  · rw [tb, g.alone _ t2]
theorem AlI.moved (h : AlI us k X) (m : Moved X X') : AlI us k X' := by
  obtain ⟨us', ds, T, hr, rfl⟩ := h.rows
  cases m with
  | air a => exact ⟨by rw [a.texts]; exact h.num, ⟨us', ds, T, a.rows _ _ _ hr, rfl⟩, by rw [a.staken]; exact h.far⟩
  | up i n hi =>
    obtain rfl : i = 0 := by have := h.num; omega
    cases hd : (X.e 0).flying[n]? with
    | none => rw [up_none hd]; exact h
    | some d =>
      obtain ⟨os, u, ⟨ds', T', hr'⟩, _⟩ := hr.upped' hi hd
      have := (u.came.load (hr.pair hi).b).2.1
      exact ⟨by rw [u.texts]; exact h.num, ⟨us', ds', T', hr', rfl⟩, by rw [this]; have := h.far; omega⟩
  | down i n hi =>
    obtain rfl : i = 0 := by have := h.num; omega
    cases hd : (X.s 0).flying[n]? with
    | none => rw [down_none hd]; exact h
    | some d =>
      obtain ⟨q, u, hr', _⟩ := hr.downed' hi hd
      exact ⟨by rw [u.len]; exact h.num, ⟨us', ds, T, hr', rfl⟩, by rw [u.s, if_pos rfl]; exact h.far⟩
theorem AlI.made (h : AlI us k X) (o : ROp) (hc : o.client = (0 : Nat)) (hn : o.Norm) (hf : o.fits (X.tx 0).length) (hm : X.may 0) : AlI (us ++ [⟨(X.e 0).taken, o⟩]) k (X.made 0 o) := by
  obtain ⟨us', ds, T, hr, rfl⟩ := h.rows
  have hi : 0 < X.texts.length := by have := h.num; omega
  obtain ⟨g1, g2, g3⟩ := hr.at' hi
  obtain ⟨T', hr'⟩ := hr.make g1 g2 g3 o hc hn hf hm.1 hm.2
  exact ⟨by simpa [IRoom.made, IRoom.setA] using h.num, ⟨_, _, _, hr', upd_same _ _ _⟩, h.far⟩
/-- A step: nothing for the client's text, or one message more, and another text. -/
theorem AlI.played (h : AlI us k X) {kd c m : Int} (p : Played X kd c m X') : AlI us k X' ∨ ∃ g, AlI (us ++ [g]) k X' ∧ txt (us ++ [g]) ≠ txt us := by
  have hi : 0 < X.texts.length := by have := h.num; omega
  have hx := h.see.1
  cases p with
  | move hk q => exact .inl (h.moved q)
  | edit hk e =>
    have e0 : pickN c X.texts.length = 0 := by have := pickN_lt c (n := X.texts.length) (by omega); have := h.num; omega
    rw [e0] at e
    cases e with
    | no _ => exact .inl h
    | put p hp hm hl =>
      have hlo := letterN_ok m
      refine .inr ⟨_, h.made _ rfl ⟨⟨by simp, by simp⟩, by simp; omega⟩ (.inr (.inl ⟨rfl, by simp, by simpa using hp⟩)) hm, ?_⟩
      rw [txt_push, ← hx]
      intro q
      have := congrArg List.length q
      rw [ROp.does_put, ins_len _ _ _ hp] at this
      omega
    | cut p hp hm =>
      refine .inr ⟨_, h.made _ rfl ⟨⟨by simp, by simp⟩, by simp⟩ (.inr (.inr ⟨rfl, by simp, by simpa using hp⟩)) hm, ?_⟩
      rw [txt_push, ← hx]
      intro q
      have := congrArg List.length q
      rw [ROp.does_cut, del_len _ _ hp] at this
      omega
theorem AlI.solo (h : AlI us k X) : Solo 0 (txt us) X := by
  obtain ⟨a, _, _, _, d⟩ := h.see
  exact ⟨a, fun j hj hj0 => by have := h.num; omega, by rw [d]; exact Nat.zero_le _⟩
theorem AlI.start (W : Nat) (h1 : 1 ≤ W) (h4 : W ≤ 4) : AlI [] 0 (IRoom.fresh 1 W) :=
  ⟨by simp [IRoom.fresh], ⟨_, _, _, RInv.fresh (by omega) (by omega) h1 h4, rfl⟩, Nat.zero_le _⟩
end
end Go.Proofs.Ytemkgikncmhoaaa

/-
  weavekeep: Alone. Own work.
-/
namespace Go.Proofs.Ytemkgikncmhoaaa
open Go.RowKit
attribute [local go_sem ↓] Go.wp_at_zero Go.wp_at_succ

def strs (ts : List (List UInt8)) : List Value := ts.map fun t => .string ⟨t.toArray⟩
theorem strs_len (ts : List (List UInt8)) : (strs ts).length = ts.length := by simp [strs]
theorem strs_get {ts : List (List UInt8)} {k : Nat} {t : List UInt8} (h : ts[k]? = some t) : (strs ts)[k]? = some (.string ⟨t.toArray⟩) := by simp [strs, h]
theorem strs_one (ts : List (List UInt8)) : ∀ u ∈ strs ts, u.oneCell' = true := by
  intro u hu
  obtain ⟨t, _, rfl⟩ := List.mem_map.1 hu
  rfl
/-- A law that keeps texts besides. -/
structure TxtAt (w : World) (rb b : Nat) (X : IRoom) (own1 : Nat → Tag) (v : Value) (ts : List (List UInt8)) (wr : World) : Prop where
  law : LawAt w rb b X own1 wr
  row : OwnsT own1 (4, 0, 0) wr 9 1 v ts.length (strs ts)
theorem TxtAt.of {w wr w' : World} {rb b : Nat} {X X' : IRoom} {own1 own' : Nat → Tag} {v : Value} {ts : List (List UInt8)} (h : TxtAt w rb b X own1 v ts wr) (h1 : KRoom own' w' rb b X') (h2 : Upd own1 own' (inRoom 1) wr w') : TxtAt w rb b X' own' v ts w' :=
  ⟨h.law.of h1 h2, h.row.upd h2 (by simp [inRoom])⟩
theorem TxtAt.drew {w wr : World} {rb b : Nat} {X : IRoom} {own1 : Nat → Tag} {v : Value} {ts : List (List UInt8)} (h : TxtAt w rb b X own1 v ts wr) : TxtAt w rb b X own1 v ts wr.drew := ⟨h.law.drew, h.row.drew⟩
/-- Behind an append. -/
theorem TxtAt.push {w wr wa w' : World} {rb b : Nat} {X : IRoom} {own1 own' : Nat → Tag} {v v' : Value} {ts : List (List UInt8)} {t : List UInt8} (h : TxtAt w rb b X own1 v ts wr) (ha : Upd own1 own1 (fun _ => False) wr wa) (h1 : OwnsT own' (4, 0, 0) w' 9 1 v' (ts.length + 1) (strs ts ++ [.string ⟨t.toArray⟩])) (h2 : Upd own1 own' (fun x => x = (4, 0, 0)) wa w') : TxtAt w rb b X own' v' (ts ++ [t]) w' := by
  have U : Upd own1 own' (fun x => x = (4, 0, 0)) wr w' := (ha.mono fun _ h => h.elim).trans h2
  refine ⟨⟨h.law.room.upd U (by simp) (by simp), h.law.upd.trans (U.mono fun t ht => by subst ht; simp [may9])⟩, ?_⟩
  simpa [strs] using h1
theorem TxtAt.play {w wr : World} {rb b : Nat} {X : IRoom} {own1 : Nat → Tag} {v : Value} {ts : List (List UInt8)} (h : TxtAt w rb b X own1 v ts wr) {kd c n m : Int} (hkd : I64 kd) (hc : I64 c) (hn : I64 n) (hm : I64 m) :
    Calls Try.prog 14 #[.pointer (some ⟨rb, 0, none⟩), .agg (StepV kd c n m)] wr fun e w' => e = .returned (.bool true) ∧ ∃ X' own', Played X kd c m X' ∧ TxtAt w rb b X' own' v ts w' := by
  refine (kplay own1 wr rb b X kd c n m h.law.room hkd hc hn hm).mono ?_
  rintro e w' ⟨rfl, X', a1, own', a2, a3⟩
  exact ⟨rfl, X', own', a1, h.of a2 a3⟩
theorem TxtAt.settle {w wr : World} {rb b : Nat} {X : IRoom} {own1 : Nat → Tag} {v : Value} {ts : List (List UInt8)} (h : TxtAt w rb b X own1 v ts wr) (R : Nat) (hR : R ≤ 1000) :
    Calls Try.prog 16 #[.pointer (some ⟨rb, 0, none⟩), .int .i64 R] wr fun e w' => e = .returned (.bool true) ∧ ∃ X' own', Settles X R X' ∧ TxtAt w rb b X' own' v ts w' := by
  refine (ksettle own1 wr rb b X R hR h.law.room).mono ?_
  rintro e w' ⟨rfl, own', Y, a1, a2, a3⟩
  exact ⟨rfl, Y, own', a3, h.of a1 a2⟩

theorem TxtAt.cell {w wr : World} {rb b g n cp k : Nat} {X : IRoom} {own1 : Nat → Tag} {ts : List (List UInt8)} {t : List UInt8} (h : TxtAt w rb b X own1 (.slice (some ⟨g, 0, none⟩) n cp) ts wr) (hk : ts[k]? = some t) : wr.cell? ⟨g, k, none⟩ = some (.string ⟨t.toArray⟩) := by
  obtain ⟨g', cap, e, _, _, hc, _⟩ := h.row.get (strs_get hk)
  simp only [Value.slice.injEq, Option.some.injEq, Addr.mk.injEq, and_true] at e
  rw [e.1]
  exact hc
set_option maxRecDepth 100000 in
set_option maxHeartbeats 1600000 in
theorem alone_any (w : World) (wi : Int) (a : Option Addr) (L cap : Nat) (hwi : I64 wi) (hs : StepsAt w w.heap.size a L) (hL : L ≤ 4611686018427387904) :
    Calls Try.prog 4 #[.int .i64 wi, .slice a L cap] w fun e w' => e = .returned (.bool true) ∧ Below w.heap.size w w' := by
  obtain ⟨i1, hi, hz0, hz1, hz2⟩ := info_parts Try.info9
  have hq2 := pickN_lt wi (n := 4) (by omega)
  have HO : Hid (Calls Try.prog 13 #[.int .i64 0, .int .i64 wi] w fun e w' => ∃ rb b own', e = .returned (.pointer (some ⟨rb, 0, none⟩)) ∧ ∃ X, TxtAt w rb b X own' (.slice none 0 0) [] w' ∧ AlI [] 0 X) := by
    apply hide
    refine (kopened w 0 wi (by unfold I64; omega) hwi).mono ?_
    rintro e w' ⟨rb, b, own', rfl, a1, a2⟩
    exact ⟨rb, b, own', rfl, _, ⟨⟨a1, a2⟩, OwnsT.nil _ _ _ _ _⟩, AlI.start _ (by omega) (by omega)⟩
  have HS := hide hs
  clear hs hwi hq2
  go_enter Try.func4, Try.ntmps4
  go_wp2_with fail
  refine (unhide HO).mono ?_
  rintro e w1 ⟨rb, b, own1, rfl, X1, h1, hI1⟩
  clear HO
  have H1 := hide (And.intro h1 hI1)
  clear h1 hI1
  go_wp2_with (at_builtin; go_must (refine wpList_append_T _ rfl (.tmp 21) (.tmp 22) 28 rfl 9 i1 (.string ⟨#[]⟩) 1 16 Try.underlying28 hi hz0 hz1 hz2 rfl (by decide) _ 0 _ own1 (4, 0, 0) rfl ((unhide H1).1.row.alloc _) ⟨w1.heap.size, 0, none⟩ 1 1 [.string ⟨#[]⟩] rfl rfl (World.news_of_block (cs := #[.string ⟨#[]⟩]) (t := 9) (fr := (0, 0)) (heap_alloc_new w1 _)) (by intro u hu; simp at hu; subst hu; rfl) (by simp [maxLen]) (by omega) ?_))
  intro v3 w3 ho3 hu3
  have H3 : Hid (TxtAt w rb b X1 (retag own1 (w1.heap.size + 1) (4, 0, 0)) v3 (hist []) w3 ∧ AlI [] 0 X1) := hide ⟨(unhide H1).1.push (t := []) ((Upd.refl own1 (fun _ => False) w1).alloc _) ho3 hu3, (unhide H1).2⟩
  clear ho3 hu3 H1
  generalize retag own1 (w1.heap.size + 1) (4, 0, 0) = own3 at *
  go_wp2_with fail
  go_loopw [6, 7, 8] (fun v6 v7 v8 wr => ∃ (i k : Nat) (us : List GMsg) (own2 : Nat → Tag) (X : IRoom), i ≤ L ∧ v8 = .int .i64 i ∧ v7 = .int .i64 k ∧ TxtAt w rb b X own2 v6 (hist us) wr ∧ AlI us k X) (fun v6 v7 v8 _ => L - (intOf v8).toNat)
  case atStart => exact ⟨0, 0, [], own3, X1, by omega, rfl, rfl, (unhide H3).1, (unhide H3).2⟩
  case round =>
    clear H3
    obtain ⟨i, k, us, own2, X, hi2, rfl, rfl, h2, hI2⟩ := hrel
    by_cases hlt : i < L
    · have hlt' : (i : Int) < (L : Int) := by omega
      obtain ⟨sb, so, kd, c, n, m, rfl, g2, g3, g4, g5, g6, g7⟩ := h2.law.steps (unhide HS) i hlt
      have z0 := g7 0 (Value.int .i64 kd) rfl
      have z1 := g7 1 (Value.int .i64 c) rfl
      have z2 := g7 2 (Value.int .i64 n) rfl
      have z3 := g7 3 (Value.int .i64 m) rfl
      rw [Nat.add_zero] at z0
      have HP := hide (h2.play g3 g4 g5 g6)
      unfold StepV at HP
      have HI2 := hide hI2
      clear h2 hI2 g7
      go_wp2_with fail
      refine (unhide HP).mono ?_
      rintro e w4 ⟨rfl, X4, own4, hp4, h4⟩
      clear HP
      have hus := (unhide HI2).see
      obtain ⟨g, cp, rfl, hcp1, hcp2, hlast, _⟩ := h4.row.get (strs_get (hist_get us (k := us.length) (Nat.le_refl _)))
      rw [List.take_length] at hlast
      rw [hist_len] at h4 hcp1
      rw [hist_len]
      have d0 := h4.law.room.c0
      have hul : us.length ≤ 60 := hus.2.2.2.1
      replace hus := hide hus
      generalize hM : us.length = M at *
      have HM := hide hM
      clear hM
      have hm1 : (wrap64 ((M : Int) + 1 - 1)).toNat = M := by unfold wrap64; omega
      rcases (unhide HI2).played hp4 with hI4 | ⟨gm, hI4, hne⟩
      · have hi0 : 0 < X4.texts.length := by rw [hI4.num]; omega
        have HR := kRead (i := 0) h4.law.room.room h4.law.room.fit hi0
        rw [hI4.see.1] at HR
        replace HR : Hid (Calls Try.prog 15 #[.pointer (some ⟨b, 0, none⟩), .int .i64 0] w4 fun e w' => e = .returned (.tuple #[bstr (txt us), .int .i64 0]) ∧ w' = w4) := hide HR
        have H4 := hide (And.intro h4 hI4)
        clear h4 hI4 hp4
        unfold bstr at HR
        generalize (⟨(txt us).toArray⟩ : ByteArray) = s at *
        go_wp2_with fail
        refine (unhide HR).mono ?_
        rintro e w' ⟨rfl, hw'⟩
        obtain rfl := hw'.symm
        go_wp2_with fail
        clear HI2 hus d0 hlast HR
        obtain ⟨_, hsv, htk, hM60, _⟩ := (unhide H4).2.see
        have d5 := (unhide H4).1.law.room.c0
        have HV := xread_server own4 1 b X4 w4 (unhide H4).1.law.room.room
        rw [hsv] at HV
        replace HV := hide HV
        generalize hTK : (X4.s 0).taken = tk at *
        have HTK := hide hTK
        clear hTK hsv
        rw [(unhide HM)] at htk hM60
        have HC : Hid (∀ j wr, j ≤ tk → TxtAt w rb b X4 own4 (.slice (some ⟨g, 0, none⟩) (M + 1) cp) (hist us) wr → wr.cell? ⟨g, j, none⟩ = some (.string ⟨(txt (List.take j us)).toArray⟩)) := hide fun j wr hj h => h.cell (hist_get _ (k := j) (by rw [unhide HM]; omega))
        unfold bstr at HV
        go_wp2_with fail
        refine (unhide HV).mono ?_
        rintro e w' ⟨rfl, hw'⟩
        obtain rfl := hw'.symm
        go_wp2_with fail
        clear d5
        go_loopw [7] (fun v7 wr => ∃ j : Nat, j ≤ tk ∧ v7 = .int .i64 j ∧ TxtAt w rb b X4 own4 (.slice (some ⟨g, 0, none⟩) (M + 1) cp) (hist us) wr) (fun v7 _ => tk - (intOf v7).toNat)
        case atStart => exact ⟨k, by have := (unhide H4).2.far; rw [unhide HTK] at this; exact this, rfl, (unhide H4).1⟩
        case round =>
          obtain ⟨j, hj, rfl, h6⟩ := hrel
          have hcj := unhide HC j _ hj h6
          have H6 := hide h6
          clear h6
          have hj1 : (j : Int) < (M : Int) + 1 := by omega
          have hj2 : ¬ (j : Int) = (M : Int) + 1 := by omega
          by_cases he : txt (List.take j us) = txt (List.take tk us)
          · rw [he] at hcj
            replace he := hide he
            generalize (⟨(txt (List.take tk us)).toArray⟩ : ByteArray) = t at *
            go_wp2_with fail
            go_roundw
            case rel => exact ⟨i + 1, j, _, own4, X4, by omega, by go_num, rfl, unhide H6, (unhide H4).2.num, (unhide H4).2.rows, by rw [unhide HTK]; exact hj⟩
            case measure => simp [intOf]; omega
          · have hne6 : ¬ j = tk := fun e => he (by rw [e])
            have he2 : (txt (List.take j us) == txt (List.take tk us)) = false := by simp [he]
            clear he
            generalize txt (List.take j us) = tj at *
            generalize txt (List.take tk us) = tt at *
            go_wp2_with fail
            go_roundw
            case rel => exact ⟨j + 1, by omega, by go_num, unhide H6⟩
            case measure => simp [intOf]; omega
      · have hi0 : 0 < X4.texts.length := by rw [hI4.num]; omega
        have HR := kRead (i := 0) h4.law.room.room h4.law.room.fit hi0
        rw [hI4.see.1] at HR
        replace HR : Hid (Calls Try.prog 15 #[.pointer (some ⟨b, 0, none⟩), .int .i64 0] w4 fun e w' => e = .returned (.tuple #[bstr (txt (us ++ [gm])), .int .i64 0]) ∧ w' = w4) := hide HR
        have hne2 : (txt (us ++ [gm]) == txt us) = false := by simp [hne]
        have H4 := hide (And.intro h4 hI4)
        have HROW : Hid (OwnsT own4 (4, 0, 0) (w4.alloc (Obj.cells #[.string ⟨(txt (us ++ [gm])).toArray⟩] 9)) 9 1 (.slice (some ⟨g, 0, none⟩) (M + 1) cp) (M + 1) (strs (hist us))) := hide (by have := h4.row; rw [hist_len, unhide HM] at this; exact this.alloc _)
        have hM6 : M + 1 ≤ 60 := by have := hI4.see.2.2.2.1; rw [List.length_append, unhide HM] at this; simpa using this
        have HT := hide (hist_push us gm)
        have HM5 : Hid ((us ++ [gm]).length = M + 1) := hide (by rw [List.length_append, unhide HM]; rfl)
        clear h4 hI4 hp4 hne
        unfold bstr at HR
        generalize htx : txt (us ++ [gm]) = tn at *
        generalize us ++ [gm] = us5 at *
        generalize txt us = t0 at *
        go_wp2_with fail
        refine (unhide HR).mono ?_
        rintro e w' ⟨rfl, hw'⟩
        obtain rfl := hw'.symm
        go_wp2_with (at_builtin; go_must (refine wpList_append_T _ rfl (.tmp 52) (.tmp 54) 28 rfl 9 i1 (.string ⟨#[]⟩) 1 16 Try.underlying28 hi hz0 hz1 hz2 rfl (by decide) _ (M + 1) _ own4 (4, 0, 0) rfl (unhide HROW) ⟨w4.heap.size, 0, none⟩ 1 1 [.string ⟨tn.toArray⟩] rfl rfl (World.news_of_block (cs := #[.string ⟨tn.toArray⟩]) (t := 9) (fr := (0, 0)) (heap_alloc_new w4 _)) (by intro u hu; simp at hu; subst hu; rfl) (by simp [maxLen]; omega) (by omega) ?_))
        intro v5 w5 ho5 hu5
        have h5 := (unhide H4).1.push (t := tn) ((Upd.refl own4 (fun _ => False) w4).alloc _) (by rw [hist_len, unhide HM]; exact ho5) hu5
        rw [← unhide HT] at h5
        have H5 := hide (And.intro h5 (unhide H4).2)
        clear ho5 hu5 h5
        generalize retag own4 (w4.heap.size + 1) (4, 0, 0) = own5 at *
        obtain ⟨g5, cp5, rfl, _, _, _, _⟩ := (unhide H5).1.row.get (strs_get (hist_get us5 (k := 0) (Nat.zero_le _)))
        rw [hist_len, unhide HM5] at H5
        rw [hist_len, unhide HM5]
        generalize M + 1 = M5 at *
        clear HI2 hus d0 hlast HR H4 HROW HT htx
        obtain ⟨_, hsv, htk, hM60, _⟩ := (unhide H5).2.see
        have d5 := (unhide H5).1.law.room.c0
        have HV := xread_server own5 1 b X4 w5 (unhide H5).1.law.room.room
        rw [hsv] at HV
        replace HV := hide HV
        generalize hTK : (X4.s 0).taken = tk at *
        have HTK := hide hTK
        clear hTK hsv
        rw [(unhide HM5)] at htk hM60
        have HC : Hid (∀ j wr, j ≤ tk → TxtAt w rb b X4 own5 (.slice (some ⟨g5, 0, none⟩) (M5 + 1) cp5) (hist us5) wr → wr.cell? ⟨g5, j, none⟩ = some (.string ⟨(txt (List.take j us5)).toArray⟩)) := hide fun j wr hj h => h.cell (hist_get _ (k := j) (by rw [unhide HM5]; omega))
        unfold bstr at HV
        go_wp2_with fail
        refine (unhide HV).mono ?_
        rintro e w' ⟨rfl, hw'⟩
        obtain rfl := hw'.symm
        go_wp2_with fail
        clear d5
        go_loopw [7] (fun v7 wr => ∃ j : Nat, j ≤ tk ∧ v7 = .int .i64 j ∧ TxtAt w rb b X4 own5 (.slice (some ⟨g5, 0, none⟩) (M5 + 1) cp5) (hist us5) wr) (fun v7 _ => tk - (intOf v7).toNat)
        case atStart => exact ⟨k, by have := (unhide H5).2.far; rw [unhide HTK] at this; exact this, rfl, (unhide H5).1⟩
        case round =>
          obtain ⟨j, hj, rfl, h6⟩ := hrel
          have hcj := unhide HC j _ hj h6
          have H6 := hide h6
          clear h6
          have hj1 : (j : Int) < (M5 : Int) + 1 := by omega
          have hj2 : ¬ (j : Int) = (M5 : Int) + 1 := by omega
          by_cases he : txt (List.take j us5) = txt (List.take tk us5)
          · rw [he] at hcj
            replace he := hide he
            generalize (⟨(txt (List.take tk us5)).toArray⟩ : ByteArray) = t at *
            go_wp2_with fail
            go_roundw
            case rel => exact ⟨i + 1, j, _, own5, X4, by omega, by go_num, rfl, unhide H6, (unhide H5).2.num, (unhide H5).2.rows, by rw [unhide HTK]; exact hj⟩
            case measure => simp [intOf]; omega
          · have hne6 : ¬ j = tk := fun e => he (by rw [e])
            have he2 : (txt (List.take j us5) == txt (List.take tk us5)) = false := by simp [he]
            clear he
            generalize txt (List.take j us5) = tj at *
            generalize txt (List.take tk us5) = tt at *
            go_wp2_with fail
            go_roundw
            case rel => exact ⟨j + 1, by omega, by go_num, unhide H6⟩
            case measure => simp [intOf]; omega
    · have hlt' : ¬ (i : Int) < (L : Int) := by omega
      obtain ⟨g, cp, rfl, hcp1, hcp2, _, _⟩ := h2.row.get (strs_get (hist_get us (k := us.length) (Nat.le_refl _)))
      rw [hist_len] at h2 hcp1
      rw [hist_len]
      have hul := hI2.see.2.2.2.1
      have HST : Hid (Calls Try.prog 16 #[.pointer (some ⟨rb, 0, none⟩), .int .i64 4] wr fun e w' => e = .returned (.bool true) ∧ ∃ own', w'.cell? ⟨g, us.length, none⟩ = some (.string ⟨(txt us).toArray⟩) ∧ (∃ Y, LawAt w rb b Y own' w' ∧ Calls Try.prog 17 #[.pointer (some ⟨rb, 0, none⟩)] w' fun e w'' => e = .returned (.tuple #[bstr (txt us), .bool true]) ∧ w'' = w')) := by
        apply hide
        refine (h2.settle 4 (by omega)).mono ?_
        rintro e w' ⟨rfl, Y, own', a1, a2⟩
        have hc := a2.cell (hist_get us (k := us.length) (Nat.le_refl _))
        rw [List.take_length] at hc
        have hq := a1.quiet h2.law.room.fit (by omega)
        have hi0 : 0 < X.texts.length := by rw [hI2.num]; omega
        have hsl := (a1.solo hI2.solo h2.law.room.fit hi0).tx
        have hy : 0 < Y.texts.length := by rw [(a1.fit h2.law.room.fit).2.2.1]; exact hi0
        have ha := a2.law.alike hq
        rw [← a2.law.room.fit.same hq hy, hsl] at ha
        exact ⟨rfl, own', hc, Y, a2.law, ha⟩
      clear h2 hI2
      generalize us.length = M at *
      generalize txt us = tx at *
      have hm1 : (wrap64 ((M : Int) + 1 - 1)).toNat = M := by unfold wrap64; omega
      unfold bstr at HST
      go_wp2_with fail
      refine (unhide HST).mono ?_
      rintro e w5 ⟨rfl, own5, hc5, Y, h5, HA⟩
      replace HA := hide HA
      have H5 := hide h5.upd.base
      clear h5 HST
      go_wp2_with fail
      refine (unhide HA).mono ?_
      rintro e w' ⟨rfl, hw'⟩
      obtain rfl := hw'.symm
      go_wp2_with fail
      go_ret
      exact ⟨rfl, unhide H5⟩
end Go.Proofs.Ytemkgikncmhoaaa

/-
  weavekeep: Junk: what is spoilt does nothing. Own work.
-/
namespace Go.Proofs.Ytemkgikncmhoaaa
open Go.RowKit

/-- An end of a line. -/
def IRoom.side (X : IRoom) (c : Nat) (s : Bool) : IEnd := if s then X.s c else X.e c
/-- Nothing is seen of it but what flies. -/
structure Same (X X' : IRoom) : Prop where
  fit : Fit X'
  texts : X'.texts = X.texts
  server : X'.server = X.server
  window : X'.window = X.window
  wait : ∀ j, (X'.e j).waiting = (X.e j).waiting
theorem Air.same {X X' : IRoom} (a : Air X X') (h : Fit X) : Same X X' := ⟨a.fit h, a.texts, a.server, a.window, a.ewait⟩
theorem Same.trans {X Y Z : IRoom} (a : Same X Y) (b : Same Y Z) : Same X Z := ⟨b.fit, b.texts.trans a.texts, b.server.trans a.server, b.window.trans a.window, fun j => (b.wait j).trans (a.wait j)⟩
section
variable {own : Nat → Tag} {rid b c n : Nat} {X : IRoom} {w : World} {s : Bool} {d : ByteArray}
theorem jFlying (h : RoomX own rid w b X) (f : Fit X) (hc : c < X.texts.length) (s : Bool) : Calls Try.prog 26 #[.pointer (some ⟨b, 0, none⟩), .int .i64 c, .bool s] w fun e w' => e = .returned (.tuple #[.int .i64 (X.side c s).flying.length, .int .i64 0]) ∧ w' = w := by
  cases s with
  | false => exact kFlying_0 h f hc
  | true => exact kFlying_1 h f hc
theorem Fit.spoils (f : Fit X) (hc : c < X.texts.length) (hd : (X.side c s).flying[0]? = some d) (hr : readD d ≠ none) : readD (spoil d) = none := by
  obtain ⟨us, ds, T, hR⟩ := f.rows
  have key : ∀ {own oth : List GMsg} {P : IEnd}, Half own oth P → d ∈ P.flying → readD (spoil d) = none := fun {own oth P} h hm => by
    have := (h.flies d hm).good hr
    rcases this with ⟨n, tk, h1, h2, h3⟩ | ⟨tk, h3⟩
    · exact readD_msg_spoilt _ _
    · exact readD_word_spoilt _
  cases s with
  | false => exact key (hR.pair hc).a (List.mem_of_getElem? hd)
  | true => exact key (hR.pair hc).b (List.mem_of_getElem? hd)
/-- Spoilt the first time. -/
theorem jFirst (h : RoomX own rid w b X) (f : Fit X) (hc : c < X.texts.length) (s : Bool) (hl : 0 < (X.side c s).flying.length) : Calls Try.prog 27 #[.pointer (some ⟨b, 0, none⟩), .int .i64 c, .bool s, .int .i64 0, .int .i64 3] w fun e w' => ∃ (r : Int) (X1 : IRoom) (d1 : ByteArray), e = .returned (.int .i64 r) ∧ After own rid b w X1 w' ∧ Same X X1 ∧ (X1.side c s).flying.length = (X.side c s).flying.length ∧ (X1.side c s).flying[0]? = some d1 ∧ readD d1 = none := by
  have gg := f.get hc
  have he : c < X.ends.length := (List.getElem?_eq_some_iff.1 gg.2.1).1
  have hs : c < X.sends.length := (List.getElem?_eq_some_iff.1 gg.2.2).1
  have hd : (X.side c s).flying[0]? = some (X.side c s).flying[0] := List.getElem?_eq_getElem hl
  generalize (X.side c s).flying[0] = d at hd
  cases s with
  | false =>
    refine (kSpoil_0 (n := 0) h f hc hd).mono ?_
    rintro e w' (⟨r, rfl, a⟩ | ⟨r, rfl, a⟩)
    · exact ⟨8, X, d, rfl, a, ⟨f, rfl, rfl, rfl, fun _ => rfl⟩, rfl, hd, r⟩
    · have e1 : (X.setA c (X.tx c) { X.e c with flying := (X.e c).flying.set 0 (spoil d) }).side c false = { X.e c with flying := (X.e c).flying.set 0 (spoil d) } := by
        show IRoom.e _ c = _
        rw [e_setA he, if_pos rfl]
      refine ⟨0, _, spoil d, rfl, a, (f.spoilA hc hd r).same f, ?_, ?_, f.spoils (s := false) hc hd r⟩
      · rw [e1]; simp [IRoom.side]
      · rw [e1]; exact List.getElem?_set_self hl
  | true =>
    refine (kSpoil_1 (n := 0) h f hc hd).mono ?_
    rintro e w' (⟨r, rfl, a⟩ | ⟨r, rfl, a⟩)
    · exact ⟨8, X, d, rfl, a, ⟨f, rfl, rfl, rfl, fun _ => rfl⟩, rfl, hd, r⟩
    · have e1 : (X.setB c { X.s c with flying := (X.s c).flying.set 0 (spoil d) }).side c true = { X.s c with flying := (X.s c).flying.set 0 (spoil d) } := by
        show IRoom.s _ c = _
        rw [s_setB hs, if_pos rfl]
      refine ⟨0, _, spoil d, rfl, a, (f.spoilB hc hd r).same f, ?_, ?_, f.spoils (s := true) hc hd r⟩
      · rw [e1]; simp [IRoom.side]
      · rw [e1]; exact List.getElem?_set_self hl
/-- Spoilt twice: refused. -/
theorem jSecond (h : RoomX own rid w b X) (f : Fit X) (hc : c < X.texts.length) (s : Bool) (hd : (X.side c s).flying[0]? = some d) (hr : readD d = none) : Calls Try.prog 27 #[.pointer (some ⟨b, 0, none⟩), .int .i64 c, .bool s, .int .i64 0, .int .i64 3] w fun e w' => e = .returned (.int .i64 8) ∧ After own rid b w X w' := by
  cases s with
  | false =>
    refine (kSpoil_0 (n := 0) h f hc hd).mono ?_
    rintro e w' (⟨_, rfl, a⟩ | ⟨r, _⟩)
    · exact ⟨rfl, a⟩
    · exact absurd hr r
  | true =>
    refine (kSpoil_1 (n := 0) h f hc hd).mono ?_
    rintro e w' (⟨_, rfl, a⟩ | ⟨r, _⟩)
    · exact ⟨rfl, a⟩
    · exact absurd hr r
/-- Delivered: nothing. -/
theorem jThird (h : RoomX own rid w b X) (f : Fit X) (hc : c < X.texts.length) (s : Bool) (hd : (X.side c s).flying[0]? = some d) (hr : readD d = none) : Calls Try.prog 27 #[.pointer (some ⟨b, 0, none⟩), .int .i64 c, .bool s, .int .i64 0, .int .i64 0] w fun e w' => e = .returned (.int .i64 0) ∧ ∃ X1, After own rid b w X1 w' ∧ Same X X1 ∧ (X1.side c s).flying.length + 1 = (X.side c s).flying.length := by
  have gg := f.get hc
  have he : c < X.ends.length := (List.getElem?_eq_some_iff.1 gg.2.1).1
  have hs : c < X.sends.length := (List.getElem?_eq_some_iff.1 gg.2.2).1
  have hl := (List.getElem?_eq_some_iff.1 hd).1
  cases s with
  | false =>
    refine (kUp (n := 0) h f hc hl).mono ?_
    rintro e w' ⟨rfl, a⟩
    have e0 : X.up c 0 = X.setA c (X.tx c) ((X.e c).lose 0) := by
      have hd' : (X.e c).flying[0]? = some d := hd
      unfold IRoom.up
      rw [hd']
      show IRoom.comeB _ c d = _
      unfold IRoom.comeB
      rw [hr]
    rw [e0] at a
    refine ⟨rfl, _, a, (f.loseA hc 0).same f, ?_⟩
    have e1 : (X.setA c (X.tx c) ((X.e c).lose 0)).side c false = (X.e c).lose 0 := by
      show IRoom.e _ c = _
      rw [e_setA he, if_pos rfl]
    rw [e1]
    exact len_lose hd
  | true =>
    refine (kDown (n := 0) h f hc hl).mono ?_
    rintro e w' ⟨rfl, a⟩
    have e0 : X.down c 0 = X.setB c ((X.s c).lose 0) := by
      have hd' : (X.s c).flying[0]? = some d := hd
      unfold IRoom.down
      rw [hd']
      show IRoom.comeA _ c d = _
      unfold IRoom.comeA
      rw [hr]
    rw [e0] at a
    refine ⟨rfl, _, a, (f.loseB hc 0).same f, ?_⟩
    have e1 : (X.setB c ((X.s c).lose 0)).side c true = (X.s c).lose 0 := by
      show IRoom.s _ c = _
      rw [s_setB hs, if_pos rfl]
    rw [e1]
    exact len_lose hd
/-- All texts, the server's ahead. -/
def IRoom.all (X : IRoom) : List (List UInt8) := X.server :: X.texts
theorem jRead (h : RoomX own rid w b X) (f : Fit X) {x : Nat} (hx : x ≤ X.texts.length) : ∃ t, X.all[x]? = some t ∧ Calls Try.prog 15 #[.pointer (some ⟨b, 0, none⟩), .int .i64 ((x : Int) - 1)] w fun e w' => e = .returned (.tuple #[bstr t, .int .i64 0]) ∧ w' = w := by
  cases x with
  | zero => exact ⟨X.server, rfl, xread_server own rid b X w h⟩
  | succ x =>
    refine ⟨X.tx x, (f.get (i := x) (by omega)).1, ?_⟩
    have := kRead (i := x) h f (by omega)
    rw [show ((x + 1 : Nat) : Int) - 1 = (x : Int) by omega]
    exact this
theorem Same.all {X X' : IRoom} (a : Same X X') : X'.all = X.all := by unfold IRoom.all; rw [a.texts, a.server]
end
/-- Three calls of Fate: spoilt, spoilt, delivered. -/
theorem TxtAt.same {w wr w' : World} {rb b : Nat} {X X' : IRoom} {own1 : Nat → Tag} {v : Value} {ts : List (List UInt8)} (h : TxtAt w rb b X own1 v ts wr) (a : After own1 1 b wr X' w') (s : Same X X') : ∃ own', TxtAt w rb b X' own' v ts w' := by
  obtain ⟨own', a1, a2⟩ := h.law.room.after a s.fit (by rw [s.texts])
  exact ⟨own', h.of a1 a2⟩
end Go.Proofs.Ytemkgikncmhoaaa

