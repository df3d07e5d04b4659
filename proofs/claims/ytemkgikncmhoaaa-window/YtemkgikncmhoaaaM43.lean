import Derived.Test.YtemkgikncmhoaaaM42
/-
  weavekeep: Window. Own work.
-/
namespace Go.Proofs.Ytemkgikncmhoaaa
open Go.RowKit
attribute [local go_sem ↓] Go.wp_at_zero Go.wp_at_succ

/-- Behind i puts of client x alone, who hears nothing. -/
structure WinI (x W n i : Nat) (X : IRoom) : Prop where
  win : X.window = W
  num : X.texts.length = n
  wl : (X.e x).waiting.length = min i W
  kn : (X.e x).known = 0
  tl : (X.tx x).length = min i W
  solo : Solo x (X.tx x) X
theorem WinI.start {x n W : Nat} (h1 : 1 ≤ n) (h2 : n ≤ 4) (h3 : 1 ≤ W) (h4 : W ≤ 4) (hx : x < n) : WinI x W n 0 (IRoom.fresh n W) := by
  refine ⟨rfl, by simp [IRoom.fresh], ?_, ?_, ?_, Quiet.solo (Fit.fresh h1 h2 h3 h4) Fit.still_fresh.2 (by simpa [IRoom.fresh] using hx)⟩
  · rw [fresh_e, if_pos hx]; simp [IEnd.empty]
  · rw [fresh_e, if_pos hx]; rfl
  · rw [fresh_tx]; simp
theorem WinI.may {x W n i : Nat} {X : IRoom} (h : WinI x W n i X) (hW : W ≤ 4) (hi : i < W) : X.may x ∧ (X.tx x).length < 60 := by
  have h1 := h.wl
  have h2 := h.tl
  refine ⟨⟨by rw [h.win]; omega, by unfold IEnd.made; rw [h.kn]; omega⟩, by omega⟩
theorem WinI.put {x W n i : Nat} {X : IRoom} (h : WinI x W n i X) (f : Fit X) (hx : x < n) (hi : i < W) (o : ROp) (ho : o.verb = 1) (hp : o.place = 0) : WinI x W n (i + 1) (X.made x o) := by
  have hx' : x < X.texts.length := by rw [h.num]; exact hx
  have gg := f.get hx'
  have he : x < X.ends.length := (List.getElem?_eq_some_iff.1 gg.2.1).1
  have ee : (X.made x o).e x = (X.e x).make o X.window := by
    show (X.setA x _ _).e x = _
    rw [e_setA he, if_pos rfl]
  have et : (X.made x o).tx x = o.does (X.tx x) := by
    show (X.setA x _ _).tx x = _
    rw [tx_setA hx', if_pos rfl]
  obtain ⟨_, b2, _, b4⟩ := make_fields (X.e x) o X.window
  have h1 := h.wl
  have h2 := h.tl
  refine ⟨h.win, (by simpa [IRoom.made, IRoom.setA] using h.num), ?_, ?_, ?_, ?_⟩
  · rw [ee, b4, List.length_append]; simp; omega
  · rw [ee, b2, h.kn]
  · rw [et]
    unfold ROp.does
    rw [if_pos ho, hp]
    simp
    omega
  · rw [et]
    exact h.solo.make f hx' o
theorem WinI.more {x W n i : Nat} {X : IRoom} (h : WinI x W n i X) (hi : W ≤ i) : WinI x W n (i + 1) X :=
  ⟨h.win, h.num, by rw [h.wl]; omega, h.kn, by rw [h.tl]; omega, h.solo⟩
/-- A Put within the window, and one beyond it. -/
theorem LawAt.winPut {w wr : World} {rb b : Nat} {X : IRoom} {own1 : Nat → Tag} {x W n i : Nat} (h : LawAt w rb b X own1 wr) (hI : WinI x W n i X) (hx : x < n) (hi : i < W) (hW : W ≤ 4) (l : Nat) (hl : 33 ≤ l ∧ l ≤ 126) :
    Calls Try.prog 25 #[.pointer (some ⟨b, 0, none⟩), .int .i64 x, .int .i64 0, .int .u8 l] wr fun e w' => e = .returned (.int .i64 0) ∧ ∃ X' own', WinI x W n (i + 1) X' ∧ LawAt w rb b X' own' w' ∧ X'.tx x = UInt8.ofNat l :: X.tx x := by
  have hx' : x < X.texts.length := by rw [hI.num]; exact hx
  have hm := hI.may hW hi
  refine (kPut (i := x) h.room.room h.room.fit hx' 0 l (Nat.zero_le _) hl).mono ?_
  rintro e w' (⟨rfl, a1, a2, a⟩ | ⟨r, _, _, a, _⟩)
  · have f := h.room.fit.put hx' (p := 0) (Nat.zero_le _) hl hm.1
    obtain ⟨own', b1, b2⟩ := h.room.after a f (by simp [IRoom.made, IRoom.setA])
    refine ⟨rfl, _, own', hI.put h.room.fit hx hi _ rfl rfl, h.of b1 b2, ?_⟩
    show (X.setA x _ _).tx x = _
    rw [tx_setA hx', if_pos rfl]
    simp [ROp.does, byteOf]
  · exact absurd hm a
theorem LawAt.winFull {w wr : World} {rb b : Nat} {X : IRoom} {own1 : Nat → Tag} {x W n i : Nat} (h : LawAt w rb b X own1 wr) (hI : WinI x W n i X) (hx : x < n) (hi : W ≤ i) (hW : W ≤ 4) :
    Calls Try.prog 25 #[.pointer (some ⟨b, 0, none⟩), .int .i64 x, .int .i64 0, .int .u8 97] wr fun e w' => e = .returned (.int .i64 5) ∧ ∃ X' own', WinI x W n (i + 1) X' ∧ LawAt w rb b X' own' w' := by
  have hx' : x < X.texts.length := by rw [hI.num]; exact hx
  have h1 := hI.wl
  have h2 := hI.tl
  have h3 : (X.e x).made = (X.e x).known + (X.e x).waiting.length := rfl
  have h4 := hI.kn
  have h5 := hI.win
  refine (kPut (i := x) h.room.room h.room.fit hx' 0 97 (Nat.zero_le _) ⟨by omega, by omega⟩).mono ?_
  rintro e w' (⟨rfl, a1, a2, a⟩ | ⟨r, hr, rfl, _, a⟩)
  · have := a1.1; omega
  · have hr5 : r = 5 := by omega
    subst hr5
    have U := Upd.of_below own1 (fun _ => False) a
    exact ⟨rfl, X, own1, hI.more hi, h.of (h.room.upd U (fun _ _ h => h) (fun h => h)) (U.mono fun _ h => h.elim)⟩
/-- What is seen of the client. -/
theorem LawAt.winSee {w wr : World} {rb b : Nat} {X : IRoom} {own1 : Nat → Tag} {x W n i : Nat} (h : LawAt w rb b X own1 wr) (hI : WinI x W n i X) (hx : x < n) :
    wr.cell? ⟨rb, 0, none⟩ = some (.pointer (some ⟨b, 0, none⟩)) ∧ (Calls Try.prog 19 #[.pointer (some ⟨b, 0, none⟩), .int .i64 x] wr fun e w' => e = .returned (.tuple #[.int .i64 (min i W : Nat), .int .i64 0]) ∧ w' = wr) ∧ (∃ s : ByteArray, s.size = min i W ∧ Calls Try.prog 15 #[.pointer (some ⟨b, 0, none⟩), .int .i64 x] wr fun e w' => e = .returned (.tuple #[.string s, .int .i64 0]) ∧ w' = wr) := by
  have hx' : x < X.texts.length := by rw [hI.num]; exact hx
  have a1 := kWaits (i := x) h.room.room h.room.fit hx'
  have a2 := kRead (i := x) h.room.room h.room.fit hx'
  rw [hI.wl] at a1
  exact ⟨h.room.c0, a1, ⟨(X.tx x).toArray⟩, by simp [ByteArray.size, hI.tl], a2⟩
/-- Behind settling: all is free again. -/
theorem WinI.free {x W n i k : Nat} {X Y : IRoom} (h : WinI x W n i X) (f : Fit X) (hx : x < n) (hi : W ≤ i) (q : Settles X k Y) (hk : 1 ≤ k) : (Y.e x).waiting = [] ∧ (Y.e x).made = W ∧ Y.tx x = X.tx x ∧ (X.tx x).length = W ∧ Y.window = W ∧ Y.texts.length = n := by
  have hx' : x < X.texts.length := by rw [h.num]; exact hx
  obtain ⟨a, b, c, d⟩ := q.fit f
  have h1 := h.wl
  refine ⟨(q.quiet f hk x (by rw [c]; exact hx')).1, ?_, (q.solo h.solo f hx').tx, by rw [h.tl]; omega, by rw [d, h.win], by rw [c, h.num]⟩
  rw [q.made f hx']
  unfold IEnd.made
  rw [h.kn, h1]; omega

set_option maxRecDepth 100000 in
set_option maxHeartbeats 1600000 in
theorem window_any (w : World) (cl wi c mo : Int) (hcl : I64 cl) (hwi : I64 wi) (hc : I64 c) (hmo : I64 mo) :
    Calls Try.prog 9 #[.int .i64 cl, .int .i64 wi, .int .i64 c, .int .i64 mo] w fun e w' => e = .returned (.bool true) ∧ Below w.heap.size w w' := by
  have hq1 := pickN_lt cl (n := 4) (by omega)
  have hq2 := pickN_lt wi (n := 4) (by omega)
  have hq3 := pickN_lt mo (n := 3) (by omega)
  have hx := pickN_lt c (n := 1 + pickN cl 4) (by omega)
  have HO : Hid (Calls Try.prog 13 #[.int .i64 cl, .int .i64 wi] w fun e w' => ∃ rb b own', e = .returned (.pointer (some ⟨rb, 0, none⟩)) ∧ ∃ X, LawAt w rb b X own' w' ∧ WinI (pickN c (1 + pickN cl 4)) (1 + pickN wi 4) (1 + pickN cl 4) 0 X) := by
    apply hide
    refine (kopened w cl wi hcl hwi).mono ?_
    rintro e w' ⟨rb, b, own', rfl, a1, a2⟩
    exact ⟨rb, b, own', rfl, _, ⟨a1, a2⟩, WinI.start (by omega) (by omega) (by omega) (by omega) hx⟩
  have HP1 : Hid (∀ w, Calls Try.prog 20 #[.int .i64 c, .int .i64 ((1 + pickN cl 4 : Nat) : Int)] w fun e w' => e = .returned (.int .i64 (pickN c (1 + pickN cl 4))) ∧ w' = w) := hide (fun w => kpick c (1 + pickN cl 4) hc (by omega) (by omega) w)
  have HP2 := hide (fun w => kpick wi 4 hwi (by omega) (by omega) w)
  have HP3 : Hid (∀ w, Calls Try.prog 20 #[.int .i64 mo, .int .i64 3] w fun e w' => e = .returned (.int .i64 (pickN mo 3)) ∧ w' = w) := hide (fun w => kpick mo 3 hmo (by omega) (by omega) w)
  clear hcl hwi hc hmo
  generalize pickN c (1 + pickN cl 4) = x at *
  generalize pickN wi 4 = q2 at *
  generalize pickN mo 3 = q3 at *
  have hn4 : 1 + pickN cl 4 ≤ 4 := by omega
  generalize 1 + pickN cl 4 = N at *
  generalize pickN cl 4 = q1 at *
  go_enter Try.func9, Try.ntmps9
  go_wp2_with fail
  refine (unhide HO).mono ?_
  rintro e w1 ⟨rb, b, own1, rfl, X1, h1, hI1⟩
  clear HO
  have c0 := h1.room.c0
  have c1 := h1.room.c1
  rw [hI1.num] at c1
  have H1 := hide h1
  have HI1 := hide hI1
  clear h1 hI1
  go_wp2_with fail
  refine (unhide HP1 _).mono ?_
  rintro e w' ⟨rfl, hw'⟩
  obtain rfl := hw'.symm
  go_wp2_with fail
  refine (unhide HP2 _).mono ?_
  rintro e w' ⟨rfl, hw'⟩
  obtain rfl := hw'.symm
  go_wp2_with fail
  clear c0 c1
  go_loopw [12] (fun v wr => ∃ (i : Nat) (own2 : Nat → Tag) (X : IRoom), i ≤ 1 + q2 + q3 ∧ v = .int .i64 i ∧ LawAt w rb b X own2 wr ∧ WinI x (1 + q2) N i X) (fun v _ => 1 + q2 + q3 - (intOf v).toNat)
  case atStart => exact ⟨0, own1, X1, by omega, rfl, unhide H1, unhide HI1⟩
  case round =>
    clear H1 HI1
    obtain ⟨i, own2, X, hi, rfl, h2, hI2⟩ := hrel
    by_cases hlt : i < 1 + q2 + q3
    · have hlt' : (i : Int) < 1 + (q2 : Int) + (q3 : Int) := by omega
      have c0 := h2.room.c0
      by_cases hw : i < 1 + q2
      · have hw' : (i : Int) < 1 + (q2 : Int) := by omega
        have HPut : Hid (Calls Try.prog 25 #[.pointer (some ⟨b, 0, none⟩), .int .i64 x, .int .i64 0, .int .u8 97] wr fun e w' => e = .returned (.int .i64 0) ∧ ∃ X' own', WinI x (1 + q2) N (i + 1) X' ∧ LawAt w rb b X' own' w') := by
          apply hide
          refine (h2.winPut hI2 hx hw (by omega) 97 ⟨by omega, by omega⟩).mono ?_
          rintro e w' ⟨rfl, X', own', a1, a2, _⟩
          exact ⟨rfl, X', own', a1, a2⟩
        clear h2 hI2
        go_wp2_with fail
        refine (unhide HP3 _).mono ?_
        rintro e w' ⟨rfl, hw'⟩
        obtain rfl := hw'.symm
        go_wp2_with fail
        refine (unhide HPut).mono ?_
        rintro e w3 ⟨rfl, X3, own3, hI3, h3⟩
        obtain ⟨d0, HW, s, hsz, HR⟩ := h3.winSee hI3 hx
        rw [show min (i + 1) (1 + q2) = i + 1 by omega] at HW hsz
        rw [show ((i + 1 : Nat) : Int) = (i : Int) + 1 by omega] at HW
        have hsz' : (s.size : Int) = (i : Int) + 1 := by omega
        replace HW := hide HW
        replace HR := hide HR
        have H3 := hide (And.intro h3 hI3)
        clear h3 hI3 hsz
        go_wp2_with fail
        refine (unhide HW).mono ?_
        rintro e w' ⟨rfl, hw'⟩
        obtain rfl := hw'.symm
        go_wp2_with fail
        refine (unhide HR).mono ?_
        rintro e w' ⟨rfl, hw'⟩
        obtain rfl := hw'.symm
        go_wp2_with fail
        go_roundw
        case rel => exact ⟨i + 1, own3, X3, by omega, by go_num, (unhide H3).1, (unhide H3).2⟩
        case measure => simp [intOf]; omega
      · have hw' : ¬ (i : Int) < 1 + (q2 : Int) := by omega
        have hw2 : 1 + (q2 : Int) ≤ (i : Int) := by omega
        have HPut := hide (h2.winFull hI2 hx (by omega) (by omega))
        clear h2 hI2
        go_wp2_with fail
        refine (unhide HP3 _).mono ?_
        rintro e w' ⟨rfl, hw'⟩
        obtain rfl := hw'.symm
        go_wp2_with fail
        refine (unhide HPut).mono ?_
        rintro e w3 ⟨rfl, X3, own3, hI3, h3⟩
        obtain ⟨d0, HW, s, hsz, HR⟩ := h3.winSee hI3 hx
        rw [show min (i + 1) (1 + q2) = 1 + q2 by omega] at HW hsz
        rw [show ((1 + q2 : Nat) : Int) = 1 + (q2 : Int) by omega] at HW
        have hsz' : (s.size : Int) = 1 + (q2 : Int) := by omega
        replace HW := hide HW
        replace HR := hide HR
        have H3 := hide (And.intro h3 hI3)
        clear h3 hI3 hsz
        go_wp2_with fail
        refine (unhide HW).mono ?_
        rintro e w' ⟨rfl, hw'⟩
        obtain rfl := hw'.symm
        go_wp2_with fail
        refine (unhide HR).mono ?_
        rintro e w' ⟨rfl, hw'⟩
        obtain rfl := hw'.symm
        go_wp2_with fail
        go_roundw
        case rel => exact ⟨i + 1, own3, X3, by omega, by go_num, (unhide H3).1, (unhide H3).2⟩
        case measure => simp [intOf]; omega
    · have hlt' : ¬ (i : Int) < 1 + (q2 : Int) + (q3 : Int) := by omega
      have HS : Hid (Calls Try.prog 16 #[.pointer (some ⟨rb, 0, none⟩), .int .i64 3] wr fun e w' => e = .returned (.bool true) ∧ ∃ Y own', ((Y.e x).waiting = [] ∧ (Y.e x).made = 1 + q2 ∧ (Y.tx x).length = 1 + q2 ∧ Y.window = 1 + q2 ∧ Y.texts.length = N) ∧ LawAt w rb b Y own' w') := by
        apply hide
        refine (h2.settle 3 (by omega)).mono ?_
        rintro e w' ⟨rfl, Y, own', a1, a2⟩
        obtain ⟨b1, b2, b3, b4, b5, b6⟩ := hI2.free h2.room.fit hx (by omega) a1 (by omega)
        exact ⟨rfl, Y, own', ⟨b1, b2, by rw [b3, b4], b5, b6⟩, a2⟩
      clear h2 hI2
      go_wp2_with fail
      refine (unhide HP3 _).mono ?_
      rintro e w' ⟨rfl, hw'⟩
      obtain rfl := hw'.symm
      go_wp2_with fail
      refine (unhide HS).mono ?_
      rintro e w3 ⟨rfl, Y, own3, ⟨y1, y2, y3, y4, y5⟩, h3⟩
      have hxY : x < Y.texts.length := by rw [y5]; exact hx
      have d0 := h3.room.c0
      have HW := kWaits (i := x) h3.room.room h3.room.fit hxY
      rw [y1] at HW
      replace HW := hide HW
      have HPut : Hid (Calls Try.prog 25 #[.pointer (some ⟨b, 0, none⟩), .int .i64 x, .int .i64 0, .int .u8 98] w3 fun e w' => e = .returned (.int .i64 0) ∧ ∃ own', LawAt w rb b (Y.made x ⟨x, 1, (0 : Nat), (98 : Nat)⟩) own' w') := by
        apply hide
        have hm : Y.may x := ⟨by rw [y1, y4]; simp; omega, by omega⟩
        refine (kPut (i := x) h3.room.room h3.room.fit hxY 0 98 (Nat.zero_le _) ⟨by omega, by omega⟩).mono ?_
        rintro e w' (⟨rfl, a1, a2, a⟩ | ⟨r, _, _, a, _⟩)
        · have f := h3.room.fit.put hxY (p := 0) (l := 98) (Nat.zero_le _) ⟨by omega, by omega⟩ hm
          obtain ⟨own', b1, b2⟩ := h3.room.after a f (by simp [IRoom.made, IRoom.setA])
          exact ⟨rfl, own', h3.of b1 b2⟩
        · exact absurd ⟨hm, by omega⟩ a
      have HR : Hid (∀ w4 own4, LawAt w rb b (Y.made x ⟨x, 1, (0 : Nat), (98 : Nat)⟩) own4 w4 → w4.cell? ⟨rb, 0, none⟩ = some (.pointer (some ⟨b, 0, none⟩)) ∧ Calls Try.prog 15 #[.pointer (some ⟨b, 0, none⟩), .int .i64 x] w4 fun e w' => e = .returned (.tuple #[.string ⟨((98 : UInt8) :: Y.tx x).toArray⟩, .int .i64 0]) ∧ w' = w4) := by
        apply hide
        intro w4 own4 h4
        have e : (Y.made x ⟨x, 1, (0 : Nat), (98 : Nat)⟩).tx x = (98 : UInt8) :: Y.tx x := by
          show (Y.setA x _ _).tx x = _
          rw [tx_setA hxY, if_pos rfl]
          simp [ROp.does, byteOf]
        have := kRead (i := x) h4.room.room h4.room.fit (by simpa [IRoom.made, IRoom.setA] using hxY)
        rw [e] at this
        exact ⟨h4.room.c0, this⟩
      have hsz : ((Y.tx x).length : Int) = 1 + (q2 : Int) := by omega
      have hs0 : ((⟨((98 : UInt8) :: Y.tx x).toArray⟩ : ByteArray)[0]'(by simp [ByteArray.size])).toNat = 98 := rfl
      clear h3 y1 y2 y3 y4 y5
      go_wp2_with fail
      refine (unhide HW).mono ?_
      rintro e w' ⟨rfl, hw'⟩
      obtain rfl := hw'.symm
      go_wp2_with fail
      refine (unhide HPut).mono ?_
      rintro e w4 ⟨rfl, own4, h4⟩
      obtain ⟨d4, HR4⟩ := unhide HR w4 own4 h4
      replace HR4 := hide HR4
      have H4 := hide h4.upd.base
      clear h4
      go_wp2_with fail
      refine (unhide HR4).mono ?_
      rintro e w' ⟨rfl, hw'⟩
      obtain rfl := hw'.symm
      go_wp2_with fail
      go_ret
      exact ⟨rfl, unhide H4⟩
end Go.Proofs.Ytemkgikncmhoaaa

