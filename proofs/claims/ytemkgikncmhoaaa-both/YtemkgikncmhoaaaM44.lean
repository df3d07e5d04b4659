import Derived.Test.YtemkgikncmhoaaaM43
/-
  weave: two who put at once: the text that all come to. Plain mathematics. Own work.
-/
namespace Go.Proofs.Ytemkgikncmhoaaa

/-- A line where nobody waited and nothing flew, behind at most one edit: nothing is lost. -/
theorem Fit.flow_of {X X' : IRoom} (h : Fit X) (hq : X.Quiet) (hs : X.Still) (hf : Fit X') (hw : X'.window = X.window) (hl : X'.texts.length = X.texts.length) (hS : ∀ j, X'.s j = X.s j) (hE : ∀ j, X'.e j = X.e j ∨ ∃ o, X'.e j = (X.e j).make o X.window) : X'.Flow (fun j => (X.s j).sentTo X.window) fun _ => 4 := by
  obtain ⟨us, ds, T, hr⟩ := h.rows
  obtain ⟨us', ds', T', hr'⟩ := hf.rows
  intro j hj
  have hj2 : j < X.texts.length := by rw [← hl]; exact hj
  have hsane := hf.sane j hj
  have p := hr.pair hj2
  have p' := hr'.pair hj
  have q1 := hq j hj2
  have f1 := hs j hj2
  have m1 : (X.e j).made = (X.e j).known := by unfold IEnd.made; rw [q1.1]; rfl
  have m2 : (X.s j).made = (X.s j).known := by unfold IEnd.made; rw [q1.2]; rfl
  have st : (X.s j).sentTo X.window = (X.s j).known := by unfold IEnd.sentTo; rw [q1.2]; simp
  have a1 := p.a.made
  have a2 := p.b.made
  have t1 := p.a.tk
  have t2 := p.b.tk
  have ka := p.ka
  have kb := p.kb
  rw [hS j, hw] at hsane p'
  show Go.Proofs.Ytemkgikncmhoaaa.Flow _ _ X'.window (X'.e j) (X'.s j)
  rw [hS j, hw]
  have rest : ∀ E' : IEnd, Go.Proofs.Ytemkgikncmhoaaa.Sane X.window E' (X.s j) → E'.flying.length ≤ 4 → (nums E'.flying).length ≤ 4 → E'.taken = (X.e j).taken → E'.known = (X.e j).known → (∀ n, (X.s j).taken < n → n ≤ E'.made → n ∈ nums E'.flying) → Go.Proofs.Ytemkgikncmhoaaa.Flow ((X.s j).sentTo X.window) 4 X.window E' (X.s j) := fun E' b1 b2 b3 b4 b5 b6 => by
    refine ⟨b1, b2, by rw [f1.2]; simp; omega, by rw [f1.2]; simp [newer, nums], by rw [f1.2]; simp [newer, nums], Nat.le_refl _, fun n x y => .inl (b6 n x y), fun n x y => ?_, fun x => ?_, fun x => ?_⟩
    · rw [b4] at x; omega
    · rw [b5] at x; omega
    · rw [b4] at x; omega
  rcases hE j with e | ⟨o, e⟩
  · rw [e] at hsane ⊢
    refine rest _ hsane (by rw [f1.1]; simp) (by rw [f1.1]; simp [nums]) rfl rfl fun n x y => ?_
    omega
  · rw [e] at hsane p' ⊢
    have hw2 : (X.e j).waiting.length + 1 ≤ X.window := by rw [q1.1]; exact p.w1
    have hfl : ((X.e j).make o X.window).flying = [ckd (((X.e j).next o).bytes (X.e j).taken)] := by
      rw [make_flying, if_pos hw2, f1.1]; rfl
    obtain ⟨b1, b2, _, b4⟩ := make_fields (X.e j) o X.window
    have hrd : readD (ckd (((X.e j).next o).bytes (X.e j).taken)) = some ((X.e j).taken, some ((X.e j).next o)) := by
      have := p'.ra ((X.e j).next o) (by rw [b4]; simp)
      rwa [b1] at this
    have hnm : nums ((X.e j).make o X.window).flying = [(X.e j).made + 1] := by
      rw [hfl]
      simp only [nums, List.filterMap_cons, numD_msg hrd, List.filterMap_nil]
      rfl
    refine rest _ hsane (by rw [hfl]; simp) (by rw [hnm]; simp) b1 b2 fun n x y => ?_
    rw [hnm]
    have : ((X.e j).make o X.window).made = (X.e j).made + 1 := by
      unfold IEnd.made; rw [b2, b4, List.length_append]; simp; omega
    have : n = (X.e j).made + 1 := by omega
    simp [this]
section
variable {X : IRoom}
theorem made_get {c : Nat} (h : Fit X) (hc : c < X.texts.length) (o : ROp) (j : Nat) : (X.made c o).e j = (if j = c then (X.e c).make o X.window else X.e j) ∧ (X.made c o).s j = X.s j ∧ (X.made c o).tx j = (if j = c then o.does (X.tx c) else X.tx j) := by
  have gg := h.get hc
  exact ⟨e_setA (List.getElem?_eq_some_iff.1 gg.2.1).1 j, rfl, tx_setA hc j⟩
/-- In what order the two put does not matter. -/
theorem made_comm (h : Fit X) (hn : X.texts.length = 2) (P Q : ROp) : (X.made 1 Q).made 0 P = (X.made 0 P).made 1 Q := by
  have h0 : 0 < X.texts.length := by omega
  have h1 : 1 < X.texts.length := by omega
  obtain ⟨a1, _, a3⟩ := made_get h h1 Q 0
  obtain ⟨b1, _, b3⟩ := made_get h h0 P 1
  rw [if_neg (by decide)] at a1 a3 b1 b3
  show IRoom.setA _ 0 (P.does ((X.made 1 Q).tx 0)) (((X.made 1 Q).e 0).make P X.window) = IRoom.setA _ 1 (Q.does ((X.made 0 P).tx 1)) (((X.made 0 P).e 1).make Q X.window)
  rw [a1, a3, b1, b3]
  unfold IRoom.made IRoom.setA
  simp only
  rw [List.set_comm _ _ (by decide : (1 : Nat) ≠ 0), List.set_comm _ _ (by decide : (1 : Nat) ≠ 0)]
theorem both_server (h : Fit X) (hq : X.Quiet) (hs : X.Still) (hn : X.texts.length = 2) (P Q : ROp) (hP : P.client = (0 : Nat) ∧ P.Norm ∧ P.fits (X.tx 0).length) (hQ : Q.client = (1 : Nat) ∧ Q.Norm ∧ Q.fits (X.tx 1).length) (m0 : X.may 0) (m1 : X.may 1) :
    Fit ((X.made 0 P).made 1 Q) ∧ ¬ ((X.made 0 P).made 1 Q).Still ∧ (((X.made 0 P).made 1 Q).passTo 2).AllT ∧ (((X.made 0 P).made 1 Q).passTo 2).server = (Q.turn P).does (P.does (X.tx 0)) := by
  obtain ⟨us, ds, T, hr⟩ := h.rows
  have h0 : 0 < X.texts.length := by omega
  have h1 : 1 < X.texts.length := by omega
  obtain ⟨g1, g2, g3⟩ := hr.at' h0
  obtain ⟨T1, hr1⟩ := hr.make g1 g2 g3 P hP.1 hP.2.1 hP.2.2 m0.1 m0.2
  have f1 : Fit (X.made 0 P) := h.make h0 P hP.1 hP.2.1 hP.2.2 m0.1 m0.2
  have n1 : (X.made 0 P).texts.length = 2 := by simpa [IRoom.made, IRoom.setA] using hn
  obtain ⟨b1, b2, b3⟩ := made_get h h0 P 1
  rw [if_neg (by decide)] at b1 b3
  have h1' : 1 < (X.made 0 P).texts.length := by omega
  have mm : (X.made 0 P).may 1 := by
    unfold IRoom.may
    rw [b1]; exact m1
  obtain ⟨k1, k2, k3⟩ := hr1.at' h1'
  have hQ3 : Q.fits ((X.made 0 P).tx 1).length := by rw [b3]; exact hQ.2.2
  obtain ⟨T2, hr2⟩ := hr1.make k1 k2 k3 Q hQ.1 hQ.2.1 hQ3 mm.1 mm.2
  have f2 : Fit ((X.made 0 P).made 1 Q) := f1.make h1' Q hQ.1 hQ.2.1 hQ3 mm.1 mm.2
  -- the rows
  have u0 : upd (upd us 0 (us 0 ++ [⟨(X.e 0).taken, P⟩])) 1 (upd us 0 (us 0 ++ [⟨(X.e 0).taken, P⟩]) 1 ++ [⟨((X.made 0 P).e 1).taken, Q⟩]) 0 = us 0 ++ [⟨(X.e 0).taken, P⟩] := by rw [upd_other _ _ (by decide), upd_same]
  have u1 : upd (upd us 0 (us 0 ++ [⟨(X.e 0).taken, P⟩])) 1 (upd us 0 (us 0 ++ [⟨(X.e 0).taken, P⟩]) 1 ++ [⟨((X.made 0 P).e 1).taken, Q⟩]) 1 = us 1 ++ [⟨(X.e 1).taken, Q⟩] := by rw [upd_same, upd_other _ _ (by decide), b1]
  change RInv ((X.made 0 P).made 1 Q) (upd (upd us 0 (us 0 ++ [⟨(X.e 0).taken, P⟩])) 1 (upd us 0 (us 0 ++ [⟨(X.e 0).taken, P⟩]) 1 ++ [⟨((X.made 0 P).e 1).taken, Q⟩])) ds T2 at hr2
  generalize upd (upd us 0 (us 0 ++ [⟨(X.e 0).taken, P⟩])) 1 (upd us 0 (us 0 ++ [⟨(X.e 0).taken, P⟩]) 1 ++ [⟨((X.made 0 P).e 1).taken, Q⟩]) = us2 at hr2 u0 u1
  -- the ends
  obtain ⟨c0, c0s, c0t⟩ := made_get f1 h1' Q 0
  obtain ⟨c1, c1s, _⟩ := made_get f1 h1' Q 1
  obtain ⟨d0, d0s, d0t⟩ := made_get h h0 P 0
  rw [if_neg (by decide), d0, if_pos rfl] at c0
  rw [if_pos rfl, b1] at c1
  rw [if_neg (by decide), d0t, if_pos rfl] at c0t
  have s0 : ((X.made 0 P).made 1 Q).s 0 = X.s 0 := rfl
  have s1 : ((X.made 0 P).made 1 Q).s 1 = X.s 1 := rfl
  have ww : (X.made 0 P).window = X.window := rfl
  rw [ww] at c1
  have n2 : ((X.made 0 P).made 1 Q).texts.length = 2 := by simpa [IRoom.made, IRoom.setA] using hn
  generalize (X.made 0 P).made 1 Q = X2 at *
  obtain ⟨x1, x2, x3, x4, x5, x6⟩ := hr.eqs hq h0
  obtain ⟨y1, y2, y3, y4, y5, y6⟩ := hr.eqs hq h1
  have still : ∀ {j : Nat} {o : ROp}, j < X.texts.length → X2.e j = (X.e j).make o X.window → (X2.e j).flying = [ckd (((X.e j).next o).bytes (X.e j).taken)] ∧ readD (ckd (((X.e j).next o).bytes (X.e j).taken)) = some ((X.e j).taken, some ((X.e j).next o)) := fun {j o} hj e => by
    have p := hr.pair hj
    have p2 := hr2.pair (i := j) (by omega)
    have hw2 : (X.e j).waiting.length + 1 ≤ X.window := by rw [(hq j hj).1]; exact p.w1
    obtain ⟨z1, z2, _, z4⟩ := make_fields (X.e j) o X.window
    refine ⟨by rw [e, make_flying, if_pos hw2, (hs j hj).1]; rfl, ?_⟩
    have := p2.ra ((X.e j).next o) (by rw [e, z4]; simp)
    rwa [e, z1] at this
  obtain ⟨fl0, rd0⟩ := still h0 c0
  obtain ⟨fl1, rd1⟩ := still h1 c1
  have hns : ¬ X2.Still := fun g => by
    have := (g 0 (by omega)).1
    rw [fl0] at this
    simp at this
  refine ⟨f2, hns, ?_⟩
  -- the first one up
  obtain ⟨tk0, T3, hr3⟩ := hr2.up_take (i := 0) (by omega) (by rw [fl0]; rfl) rd0 (by rw [s0]; exact x5) (by rw [s0, x1]; show (X.e 0).made + 1 = _; rw [x6]) (by rw [s0, x2, x3]; exact Nat.le_refl _)
  have num0 : ((X.e 0).next P).number = (us 0).length + 1 := by show (X.e 0).made + 1 = _; rw [x6]
  have num1 : ((X.e 1).next Q).number = (us 1).length + 1 := by show (X.e 1).made + 1 = _; rw [y6]
  have fP : form (us2 0) (ds 0) ((X.e 0).next P).number (ds 0).length = P := by
    rw [num0, u0, form_base _ _ _ _ (by rw [gmsg_last]; exact Nat.le_of_eq x2.symm), gmsg_last]
  obtain ⟨os, uu, _⟩ := hr2.upped' (i := 0) (n := 0) (by omega) (by rw [fl0]; rfl)
  rw [fP] at hr3
  have dd1 : (fun j => if j = 0 then ds 0 else ds j ++ [⟨X2.tk j, P⟩]) 1 = ds 1 ++ [⟨(X.s 1).taken, P⟩] := by
    show (if (1 : Nat) = 0 then ds 0 else ds 1 ++ [⟨X2.tk 1, P⟩]) = _
    rw [if_neg (by decide)]
    have : X2.tk 1 = (X.s 1).taken := by show (X2.s 1).taken = _; rw [s1]
    rw [this]
  have dd0 : (fun j => if j = 0 then ds 0 else ds j ++ [⟨X2.tk j, P⟩]) 0 = ds 0 := if_pos rfl
  generalize (fun j => if j = 0 then ds 0 else ds j ++ [⟨X2.tk j, P⟩]) = ds3 at hr3 dd0 dd1
  have z1e : (X2.up 0 0).e 1 = X2.e 1 := by rw [uu.e, if_neg (by decide)]
  have z1e0 : (X2.up 0 0).e 0 = (X2.e 0).lose 0 := by rw [uu.e, if_pos rfl]
  have z1s : ((X2.up 0 0).s 1).taken = (X.s 1).taken ∧ ((X2.up 0 0).s 1).known = (X.s 1).known ∧ ((X2.up 0 0).s 1).kept = (X.s 1).kept := by
    rw [uu.s 1 (by decide), if_pos (by omega), s1]
    exact makes_fields _ _ _
  have z1x : (X2.up 0 0).texts = X2.texts := uu.texts
  have l3 : (X2.up 0 0).texts.length = 2 := by rw [z1x]; exact n2
  -- the server has the first one's text
  have sv3 : (X2.up 0 0).server = P.does (X.tx 0) := by
    obtain ⟨q1, q2, q3⟩ := hr3.at' (i := 0) (by omega)
    have p3 := hr3.pair (i := 0) (by omega)
    have e1 : ((X2.up 0 0).e 0).taken = (X.e 0).taken := by
      rw [z1e0, c0]
      exact (make_fields (X.e 0) P X.window).1
    have := hr3.alike q1 q2 q3 (by rw [e1, p3.b.made, dd0, x2]) (by rw [tk0, p3.a.made, num0, u0]; simp)
    rw [← this]
    show ((X2.up 0 0).texts).getD 0 [] = _
    rw [z1x]
    exact c0t
  have f3 : Fit (X2.up 0 0) := f2.up (by omega) 0
  -- the first one down
  obtain ⟨hr4, sv4, z4s, z4e, l4, m4⟩ : RInv ((X2.up 0 0).down 0 0) us2 ds3 T3 ∧ ((X2.up 0 0).down 0 0).server = (X2.up 0 0).server ∧ ((X2.up 0 0).down 0 0).s 1 = (X2.up 0 0).s 1 ∧ ((X2.up 0 0).down 0 0).e 1 = (X2.up 0 0).e 1 ∧ ((X2.up 0 0).down 0 0).texts.length = 2 ∧ (((X2.up 0 0).down 0 0).s 0).taken = ((X2.up 0 0).s 0).taken := by
    cases hd : ((X2.up 0 0).s 0).flying[0]? with
    | none => rw [down_none hd]; exact ⟨hr3, rfl, rfl, rfl, l3, rfl⟩
    | some d =>
      obtain ⟨k, u, hr', _⟩ := hr3.downed' (i := 0) (n := 0) (by omega) hd
      exact ⟨hr', u.server, by rw [u.s, if_neg (by decide)], by rw [u.e 1 (by decide)], by rw [u.len]; exact l3, by rw [u.s, if_pos rfl]; rfl⟩
  have f4 : Fit ((X2.up 0 0).down 0 0) := f3.down (by omega) 0
  have mk0 : (((X2.up 0 0).down 0 0).e 0).made = (us 0).length + 1 := by
    rw [(hr4.pair (i := 0) (by omega)).a.made, u0]; simp
  have pass : X2.passTo 2 = (((X2.up 0 0).down 0 0).up 1 0).down 1 0 := rfl
  rw [pass]
  generalize (X2.up 0 0).down 0 0 = Z at *
  have ze : Z.e 1 = X2.e 1 := z4e.trans z1e
  -- the second one up
  have hfl : (Z.e 1).flying[0]? = some (ckd (((X.e 1).next Q).bytes (X.e 1).taken)) := by rw [ze, fl1]; rfl
  obtain ⟨tk1, T5, hr5⟩ := hr4.up_take (i := 1) (by omega) hfl rd1 (by rw [z4s, z1s.2.2]; exact y5) (by rw [z4s, z1s.1, y1]; exact num1) (by rw [z4s, z1s.2.1, y2, y3]; exact Nat.le_refl _)
  obtain ⟨os5, u5, _⟩ := hr4.upped' (i := 1) (n := 0) (by omega) hfl
  have l5 : (Z.up 1 0).texts.length = 2 := by rw [u5.texts]; exact l4
  have f5 : Fit (Z.up 1 0) := f4.up (by omega) 0
  have allT : (Z.up 1 0).AllT := fun j hj => by
    rw [up_made f4 (by omega) 0 j]
    rcases (show j = 0 ∨ j = 1 by omega) with rfl | rfl
    · rw [mk0, u5.s 0 (by decide), if_pos (by omega), (makes_fields _ _ _).1, m4, tk0, num0]
      exact Nat.le_refl _
    · rw [(hr4.pair (i := 1) (by omega)).a.made, tk1, num1, u1]
      simp
  have sv5 : (Z.up 1 0).server = (Q.turn P).does (P.does (X.tx 0)) := by
    obtain ⟨q1, q2, q3⟩ := hr5.at' (i := 1) (by omega)
    obtain ⟨hl5, _⟩ := hr5.line 1 _ _ _ q1 q2 q3
    obtain ⟨r1, r2, r3⟩ := hr4.at' (i := 1) (by omega)
    obtain ⟨hl4, _⟩ := hr4.line 1 _ _ _ r1 r2 r3
    have e5 : (fun j => if j = 1 then ds3 1 else ds3 j ++ [⟨Z.tk j, form (us2 1) (ds3 1) ((X.e 1).next Q).number (ds3 1).length⟩]) 1 = ds3 1 := if_pos rfl
    have tb5 := hl5.tb
    have pb5 := hl5.pb
    have gg5 := hl5.g
    rw [tk1, num1] at tb5 pb5
    have tb4 := hl4.tb
    have pb4 := hl4.pb
    rw [z4s, z1s.1, y1] at tb4 pb4
    simp only [if_true] at tb5 pb5 gg5
    have hu := gg5.u ((us 1).length + 1) (ds3 1).length (by omega) pb5 (by simpa using pb4)
    rw [tb5, hu.2, Nat.add_sub_cancel, gg5.unique hl4.g _ _ _ rfl pb4, ← tb4, sv4, sv3]
    congr 1
    have hk1 : (ds3 1).length = (ds 1).length + 1 := by rw [dd1]; simp
    rw [hk1, u1, dd1]
    rw [form_step _ _ _ _ (by omega) (by rw [gmsg_last, y2]; exact Nat.lt_succ_self _), Nat.add_sub_cancel, Nat.add_sub_cancel, form_base _ _ _ _ (by rw [gmsg_last, y2]; exact Nat.le_refl _), gmsg_last, form_base _ _ _ _ (by rw [gmsg_last, y1]; exact Nat.le_refl _), gmsg_last]
  obtain ⟨a1, a2⟩ := AllT.down (i := 1) allT f5 (by omega) 0
  exact ⟨a1, a2.trans sv5⟩
/-- Both letters stand where they were meant: the text that all come to. -/
theorem both_end {Y : IRoom} (h : Fit X) (hq : X.Quiet) (hs : X.Still) (hn : X.texts.length = 2) (P Q : ROp) (hP : P.client = (0 : Nat) ∧ P.Norm ∧ P.fits (X.tx 0).length) (hQ : Q.client = (1 : Nat) ∧ Q.Norm ∧ Q.fits (X.tx 1).length) (m0 : X.may 0) (m1 : X.may 1) (p : Passes ((X.made 0 P).made 1 Q) Y) (hY : Y.Still) : Y.Quiet ∧ Y.server = (Q.turn P).does (P.does (X.tx 0)) := by
  obtain ⟨f2, hns, aT, sv⟩ := both_server h hq hs hn P Q hP hQ m0 m1
  have h0 : 0 < X.texts.length := by omega
  have h1 : 1 < X.texts.length := by omega
  have f1 : Fit (X.made 0 P) := h.make h0 P hP.1 hP.2.1 hP.2.2 m0.1 m0.2
  have n2 : ((X.made 0 P).made 1 Q).texts.length = 2 := by simpa [IRoom.made, IRoom.setA] using hn
  have t := p.turns' f2
  have fl : ((X.made 0 P).made 1 Q).Flow (fun j => (X.s j).sentTo X.window) fun _ => 4 := by
    refine h.flow_of hq hs f2 rfl (by rw [n2, hn]) (fun j => rfl) fun j => ?_
    obtain ⟨c0, _, _⟩ := made_get f1 (c := 1) (by simpa [IRoom.made, IRoom.setA] using h1) Q j
    obtain ⟨d0, _, _⟩ := made_get h h0 P j
    rw [c0]
    by_cases hj : j = 1
    · subst hj
      rw [if_pos rfl]
      exact .inr ⟨Q, by rw [d0, if_neg (by decide)]; rfl⟩
    · rw [if_neg hj, d0]
      by_cases hj0 : j = 0
      · subst hj0; rw [if_pos rfl]; exact .inr ⟨P, rfl⟩
      · rw [if_neg hj0]; exact .inl rfl
  have hq2 := (t.fit f2).1.rest (t.flow f2 fl) hY
  refine ⟨hq2, ?_⟩
  have p2 := p.first hns hY
  rw [n2] at p2
  have fp := ((passTo_turns _ f2 2 (by omega)).fit f2).1
  exact ((p2.turns' fp).allT aT fp).2.trans sv
end
end Go.Proofs.Ytemkgikncmhoaaa

/-
  weavekeep: Both. Own work.
-/
namespace Go.Proofs.Ytemkgikncmhoaaa
open Go.RowKit
attribute [local go_sem ↓] Go.wp_at_zero Go.wp_at_succ

/-- Numbers, where they lie. -/
def IntsAt (w : World) (B : Nat) (a : Option Addr) (L : Nat) : Prop :=
  ∀ i, i < L → ∃ (b o : Nat) (v : Int), a = some ⟨b, o, none⟩ ∧ b < B ∧ I64 v ∧ w.cell? ⟨b, o + i, none⟩ = some (.int .i64 v)
structure BoI (i : Nat) (X : IRoom) : Prop where
  ls : LsI 2 i X
  len : (X.tx 0).length = i
theorem LawAt.boPut {w wr : World} {rb b : Nat} {X : IRoom} {own1 : Nat → Tag} {i : Nat} (h : LawAt w rb b X own1 wr) (hI : BoI i X) (hi : i < 12) (l : Nat) (hl : 33 ≤ l ∧ l ≤ 126) :
    Calls Try.prog 25 #[.pointer (some ⟨b, 0, none⟩), .int .i64 0, .int .i64 i, .int .u8 l] wr fun e w' => e = .returned (.int .i64 0) ∧ ∃ own', LawAt w rb b (X.made 0 ⟨(0 : Nat), 1, i, l⟩) own' w' := by
  have h0 : 0 < X.texts.length := by rw [hI.ls.num]; omega
  have hm := hI.ls.may h.room.fit (c := 0) (by omega) (by omega)
  have hp : i ≤ (X.tx 0).length := by rw [hI.len]; exact Nat.le_refl _
  refine (kPut (i := 0) h.room.room h.room.fit h0 i l hp hl).mono ?_
  rintro e w' (⟨rfl, a1, a2, a⟩ | ⟨r, _, _, a, _⟩)
  · have f := h.room.fit.put h0 hp hl hm.1
    obtain ⟨own', b1, b2⟩ := h.room.after a f (by simp [IRoom.made, IRoom.setA])
    exact ⟨rfl, own', h.of b1 b2⟩
  · exact absurd hm a
theorem LawAt.boFlush {w wr : World} {rb b : Nat} {X : IRoom} {own1 : Nat → Tag} {i l : Nat} (h : LawAt w rb b (X.made 0 ⟨(0 : Nat), 1, i, l⟩) own1 wr) (hI : BoI i X) (f : Fit X) :
    Calls Try.prog 24 #[.pointer (some ⟨rb, 0, none⟩)] wr fun e w' => e = .returned (.bool true) ∧ ∃ Y own', BoI (i + 1) Y ∧ LawAt w rb b Y own' w' := by
  have hlen : ((⟨(0 : Nat), 1, i, l⟩ : ROp).does (X.tx 0)).length = i + 1 := by
    have := hI.len
    rw [ROp.does_put, ins_len _ _ _ (by omega)]; omega
  refine h.flush.mono ?_
  rintro e w' ⟨rfl, Y, own', a1, a2, a3⟩
  obtain ⟨b1, b2⟩ := hI.ls.next f (c := 0) (by omega) h.room.fit (by omega) a1 a2
  refine ⟨rfl, Y, own', ⟨b1, ?_⟩, a3⟩
  rw [a3.room.fit.same b1.quiet (by rw [b1.num]; omega), b2, hlen]
/-- The two put. -/
structure TwoPut (X : IRoom) (p q : Nat) : Prop where
  fit : Fit X
  quiet : X.Quiet
  still : X.Still
  num : X.texts.length = 2
  m0 : X.may 0 ∧ (X.tx 0).length < 60
  m1 : X.may 1 ∧ (X.tx 1).length < 60
  hp : p ≤ (X.tx 0).length
  hq : q ≤ (X.tx 1).length
def PX (p : Nat) : ROp := ⟨(0 : Nat), 1, p, (88 : Nat)⟩
def QY (q : Nat) : ROp := ⟨(1 : Nat), 1, q, (89 : Nat)⟩
section
variable {w wr : World} {rb b p q : Nat} {X : IRoom} {own1 : Nat → Tag}
theorem TwoPut.other (t : TwoPut X p q) (o : ROp) : ((X.made 0 o).may 1 ∧ ((X.made 0 o).tx 1).length < 60 ∧ q ≤ ((X.made 0 o).tx 1).length) ∧ ((X.made 1 o).may 0 ∧ ((X.made 1 o).tx 0).length < 60 ∧ p ≤ ((X.made 1 o).tx 0).length) := by
  obtain ⟨a1, _, a3⟩ := made_get t.fit (c := 0) (by rw [t.num]; omega) o 1
  obtain ⟨b1, _, b3⟩ := made_get t.fit (c := 1) (by rw [t.num]; omega) o 0
  rw [if_neg (by decide)] at a1 a3 b1 b3
  unfold IRoom.may
  rw [a1, a3, b1, b3]
  exact ⟨⟨t.m1.1, t.m1.2, t.hq⟩, ⟨t.m0.1, t.m0.2, t.hp⟩⟩
theorem kPutAt {i pl l : Nat} (h : LawAt w rb b X own1 wr) (hi : i < X.texts.length) (hm : X.may i) (hl60 : (X.tx i).length < 60) (hp : pl ≤ (X.tx i).length) (hl : 33 ≤ l ∧ l ≤ 126) :
    Calls Try.prog 25 #[.pointer (some ⟨b, 0, none⟩), .int .i64 i, .int .i64 pl, .int .u8 l] wr fun e w' => e = .returned (.int .i64 0) ∧ ∃ own', LawAt w rb b (X.made i ⟨i, 1, pl, l⟩) own' w' := by
  refine (kPut (i := i) h.room.room h.room.fit hi pl l hp hl).mono ?_
  rintro e w' (⟨rfl, a1, a2, a⟩ | ⟨r, _, _, a, _⟩)
  · have f := h.room.fit.put hi hp hl hm
    obtain ⟨own', b1, b2⟩ := h.room.after a f (by simp [IRoom.made, IRoom.setA])
    exact ⟨rfl, own', h.of b1 b2⟩
  · exact absurd ⟨hm, hl60⟩ a
theorem TwoPut.flush (t : TwoPut X p q) (h : LawAt w rb b ((X.made 0 (PX p)).made 1 (QY q)) own1 wr) :
    Calls Try.prog 24 #[.pointer (some ⟨rb, 0, none⟩)] wr fun e w' => e = .returned (.bool true) ∧ ∃ own' Y, LawAt w rb b Y own' w' ∧ Calls Try.prog 17 #[.pointer (some ⟨rb, 0, none⟩)] w' fun e w'' => e = .returned (.tuple #[bstr (((QY q).turn (PX p)).does ((PX p).does (X.tx 0))), .bool true]) ∧ w'' = w' := by
  refine (kflush2 own1 wr rb b _ h.room).mono ?_
  rintro e w' ⟨rfl, own', Y, a1, a2, a3, a4⟩
  have hp := t.hp
  have hq := t.hq
  obtain ⟨b1, b2⟩ := both_end t.fit t.quiet t.still t.num (PX p) (QY q) ⟨rfl, ⟨⟨by simp [PX], by simp [PX]⟩, by simp [PX]⟩, .inr (.inl ⟨rfl, by simp [PX], by simpa [PX] using hp⟩)⟩ ⟨rfl, ⟨⟨by simp [QY], by simp [QY]⟩, by simp [QY]⟩, .inr (.inl ⟨rfl, by simp [QY], by simpa [QY] using hq⟩)⟩ t.m0.1 t.m1.1 a3 a4
  have hl := h.of a1 a2
  have := hl.alike b1
  rw [b2] at this
  exact ⟨rfl, own', Y, hl, this⟩
end
theorem two_text (t : List UInt8) (p q : Nat) : ((QY q).turn (PX p)).does ((PX p).does t) = if p ≤ q then insB (insB t p 88) (q + 1) 89 else insB (insB t p 88) q 89 := by
  unfold QY PX
  rw [turn_pp, ROp.does_put, ROp.does_put]
  have e : (if p < q ∨ (q = p ∧ ((0 : Nat) : Int) < ((1 : Nat) : Int)) then q + 1 else q) = if p ≤ q then q + 1 else q := by
    by_cases h : p ≤ q
    · rw [if_pos h, if_pos (by omega)]
    · rw [if_neg h, if_neg (by omega)]
  rw [e]
  split <;> rfl
theorem str_ins2 (t : List UInt8) (q l : Nat) : (⟨t.toArray⟩ : ByteArray).extract 0 q ++ (⟨#[UInt8.ofNat l]⟩ : ByteArray) ++ (⟨t.toArray⟩ : ByteArray).extract q (⟨t.toArray⟩ : ByteArray).size = ⟨(insB t q l).toArray⟩ := by
  apply ByteArray.ext
  have := str_ins t q l
  rw [ByteArray.toList_eq] at this
  rw [← Array.toArray_toList (xs := (_ : ByteArray).data), this]
set_option maxRecDepth 100000 in
set_option maxHeartbeats 1600000 in
theorem both_any (w : World) (av bv : Int) (first : Bool) (a : Option Addr) (L cap : Nat) (hav : I64 av) (hbv : I64 bv) (hs : IntsAt w w.heap.size a L) (hL : L ≤ 4611686018427387904) :
    Calls Try.prog 8 #[.slice a L cap, .int .i64 av, .int .i64 bv, .bool first] w fun e w' => e = .returned (.bool true) ∧ Below w.heap.size w w' := by
  have HO : Hid (Calls Try.prog 13 #[.int .i64 1, .int .i64 3] w fun e w' => ∃ rb b own', e = .returned (.pointer (some ⟨rb, 0, none⟩)) ∧ ∃ X, LawAt w rb b X own' w' ∧ BoI 0 X) := by
    apply hide
    refine (kopened w 1 3 (by unfold I64; omega) (by unfold I64; omega)).mono ?_
    rintro e w' ⟨rb, b, own', rfl, a1, a2⟩
    exact ⟨rb, b, own', rfl, _, ⟨a1, a2⟩, LsI.start (n := 2), by rw [fresh_tx]; rfl⟩
  have HS := hide hs
  clear hs
  go_enter Try.func8, Try.ntmps8
  go_wp2_with fail
  refine (unhide HO).mono ?_
  rintro e w1 ⟨rb, b, own1, rfl, X1, h1, hI1⟩
  clear HO
  have H1 := hide (And.intro h1 hI1)
  clear h1 hI1
  go_wp2_with fail
  go_loopw [10] (fun v wr => ∃ (i : Nat) (own2 : Nat → Tag) (X : IRoom), i ≤ L ∧ i ≤ 12 ∧ v = .int .i64 i ∧ LawAt w rb b X own2 wr ∧ BoI i X) (fun v _ => L - (intOf v).toNat)
  case atStart => exact ⟨0, own1, X1, by omega, by omega, rfl, (unhide H1).1, (unhide H1).2⟩
  case round =>
    clear H1
    obtain ⟨i, own2, X, hi, hi12, rfl, h2, hI2⟩ := hrel
    by_cases hlt : i < L ∧ i < 12
    · have hlt' : (i : Int) < (L : Int) := by omega
      have hlt2 : (i : Int) < 12 := by omega
      obtain ⟨tb, to', tv, rfl, g2, g3, g4⟩ := unhide HS i hlt.1
      have z0 := h2.old g2 g4
      have c0 := h2.room.c0
      have HL := hide (fun w => kletter tv g3 w)
      have hlo := letterN_ok tv
      have HP : Hid (Calls Try.prog 25 #[.pointer (some ⟨b, 0, none⟩), .int .i64 0, .int .i64 i, .int .u8 (letterN tv)] wr.drew fun e w' => e = .returned (.int .i64 0) ∧ (∃ own', LawAt w rb b (X.made 0 ⟨(0 : Nat), 1, i, letterN tv⟩) own' w') ∧ w'.cell? ⟨tb, to' + i, none⟩ = some (.int .i64 tv) ∧ w'.cell? ⟨rb, 0, none⟩ = some (.pointer (some ⟨b, 0, none⟩))) := by
        apply hide
        refine (h2.drew.boPut hI2 hlt.2 (letterN tv) ⟨by omega, by omega⟩).mono ?_
        rintro e w' ⟨rfl, own', a⟩
        exact ⟨rfl, ⟨own', a⟩, a.old g2 g4, a.room.c0⟩
      have H2 := hide (And.intro h2.room.fit hI2)
      clear h2 hI2
      generalize letterN tv = l at *
      go_wp2_with fail
      go_region_held3 (fun w' => w'.cell? ⟨tb, to' + i, none⟩ = some (.int .i64 tv) ∧ w'.cell? ⟨rb, 0, none⟩ = some (.pointer (some ⟨b, 0, none⟩))) (go_keep) (first | (go_at_call 21; with_reducible refine (unhide HL _).mono ?_; rintro e w' ⟨rfl, hw'⟩; obtain rfl := hw'.symm) | (go_at_call 25; with_reducible refine (unhide HP).mono ?_; rintro e w3 ⟨rfl, h3, y0, y1⟩; replace h3 := hide h3))
      all_goals
        obtain ⟨own3, h3⟩ := unhide h3
        have HF := hide (h3.boFlush (unhide H2).2 (unhide H2).1)
        clear h3
        go_wp2_with fail
        refine (unhide HF).mono ?_
        rintro e w4 ⟨rfl, Y, own4, hI4, h4⟩
        have H4 := hide (And.intro h4 hI4)
        clear h4 hI4
        go_wp2_with fail
        go_roundw
        case rel => exact ⟨i + 1, own4, Y, by omega, by omega, by go_num, (unhide H4).1, (unhide H4).2⟩
        case measure => simp [intOf]; omega
    · have hlt' : ¬ (i : Int) < (L : Int) ∨ ((i : Int) < (L : Int) ∧ ¬ (i : Int) < 12) := by omega
      have hn2 : X.texts.length = 2 := hI2.ls.num
      have e0 := h2.room.fit.same hI2.ls.quiet (i := 0) (by omega)
      have e1 := h2.room.fit.same hI2.ls.quiet (i := 1) (by omega)
      have hlen : X.server.length ≤ 12 := by rw [← e0, hI2.len]; exact hi12
      have HA := hide (h2.alike hI2.ls.quiet)
      have HPa := hide (fun w => kpick av (X.server.length + 1) hav (by omega) (by omega) w)
      have HPb := hide (fun w => kpick bv (X.server.length + 1) hbv (by omega) (by omega) w)
      have hp := pickN_lt av (n := X.server.length + 1) (by omega)
      have hq := pickN_lt bv (n := X.server.length + 1) (by omega)
      generalize pickN av (X.server.length + 1) = p at *
      generalize pickN bv (X.server.length + 1) = q at *
      have hm0 := hI2.ls.may h2.room.fit (c := 0) (by omega) (by omega)
      have hm1 := hI2.ls.may h2.room.fit (c := 1) (by omega) (by omega)
      have T : TwoPut X p q := ⟨h2.room.fit, hI2.ls.quiet, hI2.ls.still, hn2, hm0, hm1, by rw [e0]; omega, by rw [e1]; omega⟩
      have c0 := h2.room.c0
      have HA1 : Hid (Calls Try.prog 25 #[.pointer (some ⟨b, 0, none⟩), .int .i64 0, .int .i64 p, .int .u8 88] wr fun e w' => e = .returned (.int .i64 0) ∧ w'.cell? ⟨rb, 0, none⟩ = some (.pointer (some ⟨b, 0, none⟩)) ∧ Calls Try.prog 25 #[.pointer (some ⟨b, 0, none⟩), .int .i64 1, .int .i64 q, .int .u8 89] w' fun e w'' => e = .returned (.int .i64 0) ∧ ∃ own'', LawAt w rb b ((X.made 0 (PX p)).made 1 (QY q)) own'' w'') := by
        apply hide
        refine (kPutAt (i := 0) (pl := p) (l := 88) h2 (by omega) hm0.1 hm0.2 T.hp ⟨by omega, by omega⟩).mono ?_
        rintro e w' ⟨rfl, own', a⟩
        obtain ⟨⟨o1, o2, o3⟩, _⟩ := T.other (PX p)
        exact ⟨rfl, a.room.c0, kPutAt (i := 1) (pl := q) (l := 89) a (by simpa [IRoom.made, IRoom.setA] using (show 1 < X.texts.length by omega)) o1 o2 o3 ⟨by omega, by omega⟩⟩
      have HA2 : Hid (Calls Try.prog 25 #[.pointer (some ⟨b, 0, none⟩), .int .i64 1, .int .i64 q, .int .u8 89] wr fun e w' => e = .returned (.int .i64 0) ∧ w'.cell? ⟨rb, 0, none⟩ = some (.pointer (some ⟨b, 0, none⟩)) ∧ Calls Try.prog 25 #[.pointer (some ⟨b, 0, none⟩), .int .i64 0, .int .i64 p, .int .u8 88] w' fun e w'' => e = .returned (.int .i64 0) ∧ ∃ own'', LawAt w rb b ((X.made 0 (PX p)).made 1 (QY q)) own'' w'') := by
        apply hide
        refine (kPutAt (i := 1) (pl := q) (l := 89) h2 (by omega) hm1.1 hm1.2 T.hq ⟨by omega, by omega⟩).mono ?_
        rintro e w' ⟨rfl, own', a⟩
        obtain ⟨_, ⟨o1, o2, o3⟩⟩ := T.other (QY q)
        refine ⟨rfl, a.room.c0, (kPutAt (i := 0) (pl := p) (l := 88) a (by simpa [IRoom.made, IRoom.setA] using (show 0 < X.texts.length by omega)) o1 o2 o3 ⟨by omega, by omega⟩).mono ?_⟩
        rintro e w'' ⟨rfl, own'', a'⟩
        rw [← made_comm T.fit hn2]
        exact ⟨rfl, own'', a'⟩
      have HFl : Hid (∀ wr own1, LawAt w rb b ((X.made 0 (PX p)).made 1 (QY q)) own1 wr → Calls Try.prog 24 #[.pointer (some ⟨rb, 0, none⟩)] wr fun e w' => e = .returned (.bool true) ∧ ∃ own' Y, LawAt w rb b Y own' w' ∧ Calls Try.prog 17 #[.pointer (some ⟨rb, 0, none⟩)] w' fun e w'' => e = .returned (.tuple #[bstr (if p ≤ q then insB (insB X.server p 88) (q + 1) 89 else insB (insB X.server p 88) q 89), .bool true]) ∧ w'' = w') := by
        apply hide
        intro wr own1 h
        have := T.flush h
        rw [two_text, e0] at this
        exact this
      clear h2 hI2 T hm0 hm1 e0 e1 hn2
      have hsz1 : (⟨(insB X.server p 88).toArray⟩ : ByteArray).size = X.server.length + 1 := by
        simp [ByteArray.size, insB]; omega
      have HE1 : Hid ((⟨X.server.toArray⟩ : ByteArray).extract 0 p ++ ({ data := #[88] } : ByteArray) ++ (⟨X.server.toArray⟩ : ByteArray).extract p (⟨X.server.toArray⟩ : ByteArray).size = ⟨(insB X.server p 88).toArray⟩) := hide (str_ins2 X.server p 88)
      have HE2 : Hid ((⟨(insB X.server p 88).toArray⟩ : ByteArray).extract 0 (q + 1) ++ ({ data := #[89] } : ByteArray) ++ (⟨(insB X.server p 88).toArray⟩ : ByteArray).extract (q + 1) (⟨(insB X.server p 88).toArray⟩ : ByteArray).size = ⟨(insB (insB X.server p 88) (q + 1) 89).toArray⟩) := hide (str_ins2 (insB X.server p 88) (q + 1) 89)
      have HE3 : Hid ((⟨(insB X.server p 88).toArray⟩ : ByteArray).extract 0 q ++ ({ data := #[89] } : ByteArray) ++ (⟨(insB X.server p 88).toArray⟩ : ByteArray).extract q (⟨(insB X.server p 88).toArray⟩ : ByteArray).size = ⟨(insB (insB X.server p 88) q 89).toArray⟩) := hide (str_ins2 (insB X.server p 88) q 89)
      have hsz0 : (⟨X.server.toArray⟩ : ByteArray).size = X.server.length := by simp [ByteArray.size]
      unfold bstr at HA HFl
      generalize (⟨(insB X.server p 88).toArray⟩ : ByteArray) = W1 at *
      generalize hs0 : (⟨X.server.toArray⟩ : ByteArray) = s at *
      generalize X.server.length = n at *
      rw [← hsz0] at HPa HPb hp hq hlen hsz1
      replace hs0 := hide hs0
      rw [show ((s.size + 1 : Nat) : Int) = (s.size : Int) + 1 by omega] at HPa HPb
      clear hsz0
      have hp1 : (p : Int) ≤ (s.size : Int) := by omega
      have hq1 : (q : Int) ≤ (s.size : Int) := by omega
      have hq3 : (s.size : Int) ≤ 240 := by omega
      have hb1 : ¬ 9223372036854775807 < min p s.size + 1 := by omega
      have hb2 : ¬ 9223372036854775807 < min p s.size + 1 + (s.size - p) := by omega
      have hw1 : (q : Int) + 1 ≤ (W1.size : Int) := by omega
      have hw2 : (q : Int) ≤ (W1.size : Int) := by omega
      have hb3 : ¬ 9223372036854775807 < min (q + 1) W1.size + 1 := by omega
      have hb4 : ¬ 9223372036854775807 < min (q + 1) W1.size + 1 + (W1.size - (q + 1)) := by omega
      have hb5 : ¬ 9223372036854775807 < min q W1.size + 1 := by omega
      have hb6 : ¬ 9223372036854775807 < min q W1.size + 1 + (W1.size - q) := by omega
      have hw3 : (W1.size : Int) ≤ 240 := by omega
      replace hsz1 := hide hsz1
      by_cases hpq : p ≤ q
      · simp only [if_pos hpq] at HFl
        have hpq' : (p : Int) ≤ (q : Int) := by omega
        clear hpq
        generalize insB (insB X.server p 88) (q + 1) 89 = fin at *
        rcases hlt' with hlt' | ⟨hlt1, hlt'⟩
        all_goals cases first
        all_goals
          go_wp2_with fail
          refine (unhide HA).mono ?_
          rintro e w' ⟨rfl, hw'⟩
          obtain rfl := hw'.symm
          go_wp2_with fail
          refine (unhide HPa _).mono ?_
          rintro e w' ⟨rfl, hw'⟩
          obtain rfl := hw'.symm
          go_wp2_with fail
          refine (unhide HPb _).mono ?_
          rintro e w' ⟨rfl, hw'⟩
          obtain rfl := hw'.symm
          go_wp2_with fail
          first | (with_reducible refine (unhide HA1).mono ?_) | (with_reducible refine (unhide HA2).mono ?_)
          rintro e w4 ⟨rfl, d4, HB⟩
          replace HB := hide HB
          go_wp2_with fail
          refine (unhide HB).mono ?_
          rintro e w5 ⟨rfl, own5, h5⟩
          have HF := hide (unhide HFl _ _ h5)
          clear h5
          go_wp2_with fail
          refine (unhide HF).mono ?_
          rintro e w6 ⟨rfl, own6, Y, h6, HAl⟩
          replace HAl := hide HAl
          have H6 := hide h6.upd.base
          clear h6 HF HFl HB HA HPa HPb HA1 HA2
          go_wp2_with fail
          refine (unhide HAl).mono ?_
          rintro e w' ⟨rfl, hw'⟩
          obtain rfl := hw'.symm
          go_wp2_with fail
          go_region
          all_goals
            rw [unhide HE1]
            go_wp2_with fail
            go_region
            all_goals
              rw [unhide HE2]
              go_wp2_with fail
              go_ret
              exact ⟨by simp, (unhide H6).drew.drew⟩
      · simp only [if_neg hpq] at HFl
        have hpq' : ¬ (p : Int) ≤ (q : Int) := by omega
        clear hpq
        generalize insB (insB X.server p 88) q 89 = fin at *
        rcases hlt' with hlt' | ⟨hlt1, hlt'⟩
        all_goals cases first
        all_goals
          go_wp2_with fail
          refine (unhide HA).mono ?_
          rintro e w' ⟨rfl, hw'⟩
          obtain rfl := hw'.symm
          go_wp2_with fail
          refine (unhide HPa _).mono ?_
          rintro e w' ⟨rfl, hw'⟩
          obtain rfl := hw'.symm
          go_wp2_with fail
          refine (unhide HPb _).mono ?_
          rintro e w' ⟨rfl, hw'⟩
          obtain rfl := hw'.symm
          go_wp2_with fail
          first | (with_reducible refine (unhide HA1).mono ?_) | (with_reducible refine (unhide HA2).mono ?_)
          rintro e w4 ⟨rfl, d4, HB⟩
          replace HB := hide HB
          go_wp2_with fail
          refine (unhide HB).mono ?_
          rintro e w5 ⟨rfl, own5, h5⟩
          have HF := hide (unhide HFl _ _ h5)
          clear h5
          go_wp2_with fail
          refine (unhide HF).mono ?_
          rintro e w6 ⟨rfl, own6, Y, h6, HAl⟩
          replace HAl := hide HAl
          have H6 := hide h6.upd.base
          clear h6 HF HFl HB HA HPa HPb HA1 HA2
          go_wp2_with fail
          refine (unhide HAl).mono ?_
          rintro e w' ⟨rfl, hw'⟩
          obtain rfl := hw'.symm
          go_wp2_with fail
          go_region
          all_goals
            rw [unhide HE1]
            go_wp2_with fail
            go_region
            all_goals
              rw [unhide HE3]
              go_wp2_with fail
              go_ret
              exact ⟨by simp, (unhide H6).drew.drew⟩
end Go.Proofs.Ytemkgikncmhoaaa

