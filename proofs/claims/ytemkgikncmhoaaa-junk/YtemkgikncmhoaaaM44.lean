import Derived.Test.YtemkgikncmhoaaaM43
/-
  weavekeep: Junk: what is spoilt does nothing. Own work.
-/
namespace Go.Proofs.Ytemkgikncmhoaaa
open Go.RowKit

/-- An end of a line. -/
def IRoom.side (X : IRoom) (c : Nat) (s : Bool) : IEnd := if s then X.s c else X.e c
/-- Nothing is seen of it but what flies. -/
structure Same (X X' : IRoom) : Prop where
  fit : Fit X'
  texts : X'.texts = X.texts
  server : X'.server = X.server
  window : X'.window = X.window
  wait : ∀ j, (X'.e j).waiting = (X.e j).waiting
theorem Air.same {X X' : IRoom} (a : Air X X') (h : Fit X) : Same X X' := ⟨a.fit h, a.texts, a.server, a.window, a.ewait⟩
theorem Same.trans {X Y Z : IRoom} (a : Same X Y) (b : Same Y Z) : Same X Z := ⟨b.fit, b.texts.trans a.texts, b.server.trans a.server, b.window.trans a.window, fun j => (b.wait j).trans (a.wait j)⟩
section
variable {own : Nat → Tag} {rid b c n : Nat} {X : IRoom} {w : World} {s : Bool} {d : ByteArray}
theorem jFlying (h : RoomX own rid w b X) (f : Fit X) (hc : c < X.texts.length) (s : Bool) : Calls Try.prog 26 #[.pointer (some ⟨b, 0, none⟩), .int .i64 c, .bool s] w fun e w' => e = .returned (.tuple #[.int .i64 (X.side c s).flying.length, .int .i64 0]) ∧ w' = w := by
  cases s with
  | false => exact kFlying_0 h f hc
  | true => exact kFlying_1 h f hc
theorem Fit.spoils (f : Fit X) (hc : c < X.texts.length) (hd : (X.side c s).flying[0]? = some d) (hr : readD d ≠ none) : readD (spoil d) = none := by
  obtain ⟨us, ds, T, hR⟩ := f.rows
  have key : ∀ {own oth : List GMsg} {P : IEnd}, Half own oth P → d ∈ P.flying → readD (spoil d) = none := fun {own oth P} h hm => by
    have := (h.flies d hm).good hr
    rcases this with ⟨n, tk, h1, h2, h3⟩ | ⟨tk, h3⟩
    · exact readD_msg_spoilt _ _
    · exact readD_word_spoilt _
  cases s with
  | false => exact key (hR.pair hc).a (List.mem_of_getElem? hd)
  | true => exact key (hR.pair hc).b (List.mem_of_getElem? hd)
/-- Spoilt the first time. -/
theorem jFirst (h : RoomX own rid w b X) (f : Fit X) (hc : c < X.texts.length) (s : Bool) (hl : 0 < (X.side c s).flying.length) : Calls Try.prog 27 #[.pointer (some ⟨b, 0, none⟩), .int .i64 c, .bool s, .int .i64 0, .int .i64 3] w fun e w' => ∃ (r : Int) (X1 : IRoom) (d1 : ByteArray), e = .returned (.int .i64 r) ∧ After own rid b w X1 w' ∧ Same X X1 ∧ (X1.side c s).flying.length = (X.side c s).flying.length ∧ (X1.side c s).flying[0]? = some d1 ∧ readD d1 = none := by
  have gg := f.get hc
  have he : c < X.ends.length := (List.getElem?_eq_some_iff.1 gg.2.1).1
  have hs : c < X.sends.length := (List.getElem?_eq_some_iff.1 gg.2.2).1
  have hd : (X.side c s).flying[0]? = some (X.side c s).flying[0] := List.getElem?_eq_getElem hl
  generalize (X.side c s).flying[0] = d at hd
  cases s with
  | false =>
    refine (kSpoil_0 (n := 0) h f hc hd).mono ?_
    rintro e w' (⟨r, rfl, a⟩ | ⟨r, rfl, a⟩)
    · exact ⟨8, X, d, rfl, a, ⟨f, rfl, rfl, rfl, fun _ => rfl⟩, rfl, hd, r⟩
    · have e1 : (X.setA c (X.tx c) { X.e c with flying := (X.e c).flying.set 0 (spoil d) }).side c false = { X.e c with flying := (X.e c).flying.set 0 (spoil d) } := by
        show IRoom.e _ c = _
        rw [e_setA he, if_pos rfl]
      refine ⟨0, _, spoil d, rfl, a, (f.spoilA hc hd r).same f, ?_, ?_, f.spoils (s := false) hc hd r⟩
      · rw [e1]; simp [IRoom.side]
      · rw [e1]; exact List.getElem?_set_self hl
  | true =>
    refine (kSpoil_1 (n := 0) h f hc hd).mono ?_
    rintro e w' (⟨r, rfl, a⟩ | ⟨r, rfl, a⟩)
    · exact ⟨8, X, d, rfl, a, ⟨f, rfl, rfl, rfl, fun _ => rfl⟩, rfl, hd, r⟩
    · have e1 : (X.setB c { X.s c with flying := (X.s c).flying.set 0 (spoil d) }).side c true = { X.s c with flying := (X.s c).flying.set 0 (spoil d) } := by
        show IRoom.s _ c = _
        rw [s_setB hs, if_pos rfl]
      refine ⟨0, _, spoil d, rfl, a, (f.spoilB hc hd r).same f, ?_, ?_, f.spoils (s := true) hc hd r⟩
      · rw [e1]; simp [IRoom.side]
      · rw [e1]; exact List.getElem?_set_self hl
/-- Spoilt twice: refused. -/
theorem jSecond (h : RoomX own rid w b X) (f : Fit X) (hc : c < X.texts.length) (s : Bool) (hd : (X.side c s).flying[0]? = some d) (hr : readD d = none) : Calls Try.prog 27 #[.pointer (some ⟨b, 0, none⟩), .int .i64 c, .bool s, .int .i64 0, .int .i64 3] w fun e w' => e = .returned (.int .i64 8) ∧ After own rid b w X w' := by
  cases s with
  | false =>
    refine (kSpoil_0 (n := 0) h f hc hd).mono ?_
    rintro e w' (⟨_, rfl, a⟩ | ⟨r, _⟩)
    · exact ⟨rfl, a⟩
    · exact absurd hr r
  | true =>
    refine (kSpoil_1 (n := 0) h f hc hd).mono ?_
    rintro e w' (⟨_, rfl, a⟩ | ⟨r, _⟩)
    · exact ⟨rfl, a⟩
    · exact absurd hr r
/-- Delivered: nothing. -/
theorem jThird (h : RoomX own rid w b X) (f : Fit X) (hc : c < X.texts.length) (s : Bool) (hd : (X.side c s).flying[0]? = some d) (hr : readD d = none) : Calls Try.prog 27 #[.pointer (some ⟨b, 0, none⟩), .int .i64 c, .bool s, .int .i64 0, .int .i64 0] w fun e w' => e = .returned (.int .i64 0) ∧ ∃ X1, After own rid b w X1 w' ∧ Same X X1 ∧ (X1.side c s).flying.length + 1 = (X.side c s).flying.length := by
  have gg := f.get hc
  have he : c < X.ends.length := (List.getElem?_eq_some_iff.1 gg.2.1).1
  have hs : c < X.sends.length := (List.getElem?_eq_some_iff.1 gg.2.2).1
  have hl := (List.getElem?_eq_some_iff.1 hd).1
  cases s with
  | false =>
    refine (kUp (n := 0) h f hc hl).mono ?_
    rintro e w' ⟨rfl, a⟩
    have e0 : X.up c 0 = X.setA c (X.tx c) ((X.e c).lose 0) := by
      have hd' : (X.e c).flying[0]? = some d := hd
      unfold IRoom.up
      rw [hd']
      show IRoom.comeB _ c d = _
      unfold IRoom.comeB
      rw [hr]
    rw [e0] at a
    refine ⟨rfl, _, a, (f.loseA hc 0).same f, ?_⟩
    have e1 : (X.setA c (X.tx c) ((X.e c).lose 0)).side c false = (X.e c).lose 0 := by
      show IRoom.e _ c = _
      rw [e_setA he, if_pos rfl]
    rw [e1]
    exact len_lose hd
  | true =>
    refine (kDown (n := 0) h f hc hl).mono ?_
    rintro e w' ⟨rfl, a⟩
    have e0 : X.down c 0 = X.setB c ((X.s c).lose 0) := by
      have hd' : (X.s c).flying[0]? = some d := hd
      unfold IRoom.down
      rw [hd']
      show IRoom.comeA _ c d = _
      unfold IRoom.comeA
      rw [hr]
    rw [e0] at a
    refine ⟨rfl, _, a, (f.loseB hc 0).same f, ?_⟩
    have e1 : (X.setB c ((X.s c).lose 0)).side c true = (X.s c).lose 0 := by
      show IRoom.s _ c = _
      rw [s_setB hs, if_pos rfl]
    rw [e1]
    exact len_lose hd
/-- All texts, the server's ahead. -/
def IRoom.all (X : IRoom) : List (List UInt8) := X.server :: X.texts
theorem jRead (h : RoomX own rid w b X) (f : Fit X) {x : Nat} (hx : x ≤ X.texts.length) : ∃ t, X.all[x]? = some t ∧ Calls Try.prog 15 #[.pointer (some ⟨b, 0, none⟩), .int .i64 ((x : Int) - 1)] w fun e w' => e = .returned (.tuple #[bstr t, .int .i64 0]) ∧ w' = w := by
  cases x with
  | zero => exact ⟨X.server, rfl, xread_server own rid b X w h⟩
  | succ x =>
    refine ⟨X.tx x, (f.get (i := x) (by omega)).1, ?_⟩
    have := kRead (i := x) h f (by omega)
    rw [show ((x + 1 : Nat) : Int) - 1 = (x : Int) by omega]
    exact this
theorem Same.all {X X' : IRoom} (a : Same X X') : X'.all = X.all := by unfold IRoom.all; rw [a.texts, a.server]
end
/-- Three calls of Fate: spoilt, spoilt, delivered. -/
theorem TxtAt.same {w wr w' : World} {rb b : Nat} {X X' : IRoom} {own1 : Nat → Tag} {v : Value} {ts : List (List UInt8)} (h : TxtAt w rb b X own1 v ts wr) (a : After own1 1 b wr X' w') (s : Same X X') : ∃ own', TxtAt w rb b X' own' v ts w' := by
  obtain ⟨own', a1, a2⟩ := h.law.room.after a s.fit (by rw [s.texts])
  exact ⟨own', h.of a1 a2⟩
end Go.Proofs.Ytemkgikncmhoaaa

/-
  weavekeep: Junk. Own work.
-/
namespace Go.Proofs.Ytemkgikncmhoaaa
open Go.RowKit
attribute [local go_sem ↓] Go.wp_at_zero Go.wp_at_succ

set_option maxRecDepth 100000 in
set_option maxHeartbeats 1600000 in
theorem junk_any (w : World) (cl wi : Int) (a : Option Addr) (L cap : Nat) (hcl : I64 cl) (hwi : I64 wi) (hs : StepsAt w w.heap.size a L) (hL : L ≤ 4611686018427387904) :
    Calls Try.prog 10 #[.int .i64 cl, .int .i64 wi, .slice a L cap] w fun e w' => e = .returned (.bool true) ∧ Below w.heap.size w w' := by
  obtain ⟨i1, hi, hz0, hz1, hz2⟩ := info_parts Try.info9
  have HO := hide (kplayed w cl wi a L cap hcl hwi hs hL)
  clear hs hcl hwi
  go_enter Try.func10, Try.ntmps10
  go_wp2_with fail
  refine (unhide HO).mono ?_
  rintro e w1 ⟨rb, b, X1, own1, rfl, h1⟩
  clear HO
  have hN := h1.room.fit.num
  generalize hn : X1.texts.length = N at *
  have HN := hide hn
  have H1 := hide h1
  clear h1 hn
  go_wp2_with fail
  go_loopw [9] (fun v wr => ∃ (c : Nat) (own2 : Nat → Tag) (X : IRoom), c ≤ N ∧ v = .int .i64 c ∧ X.texts.length = N ∧ LawAt w rb b X own2 wr) (fun v _ => N - (intOf v).toNat)
  case atStart => exact ⟨0, own1, X1, by omega, rfl, unhide HN, unhide H1⟩
  case round =>
    clear H1 HN
    obtain ⟨c, own2, X2, hc, rfl, hn2, h2⟩ := hrel
    have c0 := h2.room.c0
    have c1 := h2.room.c1
    rw [hn2] at c1
    by_cases hlt : c < N
    · have hlt' : (c : Int) < (N : Int) := by omega
      have H2 := hide h2
      have HN2 := hide hn2
      clear h2 hn2
      go_wp2_with fail
      clear c0 c1
      go_loopw [10] (fun v w3 => ∃ (d : Nat) (own3 : Nat → Tag) (X : IRoom), d ≤ 2 ∧ v = .int .i64 d ∧ X.texts.length = N ∧ LawAt w rb b X own3 w3) (fun v _ => 2 - (intOf v).toNat)
      case atStart => exact ⟨0, own2, X2, by omega, rfl, unhide HN2, unhide H2⟩
      case round =>
        clear H2 HN2
        obtain ⟨d, own3, X3, hd, rfl, hn3, h3⟩ := hrel
        by_cases hd2 : d < 2
        · have hd2' : (d : Int) < 2 := by omega
          have c0 := h3.room.c0
          have hc3 : c < X3.texts.length := by rw [hn3]; exact hlt
          have HF := hide (jFlying (c := c) h3.room.room h3.room.fit hc3 ((d : Int) == 1))
          have hfl : (X3.side c ((d : Int) == 1)).flying.length ≤ 12 := by
            have := h3.room.fit.lens hc3
            cases ((d : Int) == 1)
            · exact this.2.1
            · exact this.2.2.1
          have H3 := hide h3
          have HN3 := hide hn3
          clear h3 hn3 hc3
          generalize hF : (X3.side c ((d : Int) == 1)).flying.length = F at *
          have HFL := hide hF
          clear hF
          go_wp2_with fail
          refine (unhide HF).mono ?_
          rintro e w' ⟨rfl, hw'⟩
          obtain rfl := hw'.symm
          go_wp2_with fail
          clear c0
          go_loopw [13] (fun v w4 => ∃ (i : Nat) (own4 : Nat → Tag) (X : IRoom), i ≤ F ∧ v = .int .i64 i ∧ X.texts.length = N ∧ (X.side c ((d : Int) == 1)).flying.length + i = F ∧ LawAt w rb b X own4 w4) (fun v _ => F - (intOf v).toNat)
          case atStart => exact ⟨0, own3, X3, by omega, rfl, unhide HN3, unhide HFL, unhide H3⟩
          case round =>
            clear H3 HN3 HFL HF
            obtain ⟨i, own4, X4, hi4, rfl, hn4, hf4, h4⟩ := hrel
            by_cases hlt3 : i < F
            · have hlt3' : (i : Int) < (F : Int) := by omega
              have H4 : Hid (TxtAt w rb b X4 own4 (.slice none 0 0) [] wr) := hide ⟨h4, OwnsT.nil _ _ _ _ _⟩
              have HN4 := hide hn4
              have HF4 := hide hf4
              clear h4 hn4 hf4
              have hal : X4.all.length = N + 1 := by show X4.texts.length + 1 = _; rw [unhide HN4]
              have HAL := hide hal
              clear hal
              go_wp2_with fail
              go_loopw [14, 15] (fun v14 v15 w5 => ∃ (x : Nat) (own5 : Nat → Tag), x ≤ N + 1 ∧ v15 = .int .i64 ((x : Int) - 1) ∧ TxtAt w rb b X4 own5 v14 (X4.all.take x) w5) (fun v14 v15 _ => N + 1 - (intOf v15 + 1).toNat)
              case atStart => exact ⟨0, own4, by omega, rfl, unhide H4⟩
              case round =>
                clear H4
                obtain ⟨x, own5, hx, rfl, h5⟩ := hrel
                have c0 := h5.law.room.c0
                have c1 := h5.law.room.c1
                rw [unhide HN4] at c1
                by_cases hx2 : x < N + 1
                · have hx2' : (x : Int) - 1 < (N : Int) := by omega
                  obtain ⟨t, ht, HR⟩ := jRead h5.law.room.room h5.law.room.fit (x := x) (by rw [unhide HN4]; omega)
                  replace HR := hide HR
                  have htake : X4.all.take (x + 1) = X4.all.take x ++ [t] := by rw [List.take_add_one, ht]; rfl
                  have hlen : (X4.all.take x).length = x := by rw [List.length_take, unhide HAL]; omega
                  have hrow := h5.row
                  rw [hlen] at hrow
                  have HROW := hide hrow
                  have H5 := hide (And.intro h5 (And.intro htake hlen))
                  clear h5 htake hlen hrow ht
                  unfold bstr at HR
                  go_wp2_with fail
                  refine (unhide HR).mono ?_
                  rintro e w' ⟨rfl, hw'⟩
                  obtain rfl := hw'.symm
                  go_wp2_with (at_builtin; go_must (refine wpList_append_T _ rfl (.tmp 89) (.tmp 91) 28 rfl 9 i1 (.string ⟨#[]⟩) 1 16 Try.underlying28 hi hz0 hz1 hz2 rfl (by decide) _ x _ own5 (4, 0, 0) rfl ((unhide HROW).alloc _) ⟨wr.heap.size, 0, none⟩ 1 1 [.string ⟨t.toArray⟩] rfl rfl (World.news_of_block (cs := #[.string ⟨t.toArray⟩]) (t := 9) (fr := (0, 0)) (heap_alloc_new wr _)) (by intro u hu; simp at hu; subst hu; rfl) (by simp [maxLen]; omega) (by omega) ?_))
                  intro v6 w6 ho6 hu6
                  obtain ⟨h5, htake, hlen⟩ := unhide H5
                  have h6 := h5.push (t := t) ((Upd.refl own5 (fun _ => False) wr).alloc _) (by rw [hlen]; exact ho6) hu6
                  rw [← htake] at h6
                  have H6 := hide h6
                  clear h5 htake hlen h6 ho6 hu6 HROW H5 HR
                  generalize retag own5 (wr.heap.size + 1) (4, 0, 0) = own6 at *
                  go_wp2_with fail
                  go_roundw
                  case rel => exact ⟨x + 1, own6, by omega, by simp, unhide H6⟩
                  case measure => simp [intOf]; omega
                · have hx2' : ¬ (x : Int) - 1 < (N : Int) := by omega
                  rw [List.take_of_length_le (by rw [unhide HAL]; omega)] at h5
                  obtain ⟨g, cp, rfl, _, _, _, _⟩ := h5.row.get (i := 0) (strs_get (k := 0) (ts := X4.all) (t := X4.server) rfl)
                  rw [unhide HAL] at h5
                  rw [unhide HAL]
                  have hc5 : c < X4.texts.length := by rw [unhide HN4]; exact hlt
                  have hfl0 : 0 < (X4.side c ((d : Int) == 1)).flying.length := by have := unhide HF4; omega
                  have HW := hide (kWaits (i := c) h5.law.room.room h5.law.room.fit hc5)
                  have HF1 : Hid (Calls Try.prog 27 #[.pointer (some ⟨b, 0, none⟩), .int .i64 c, .bool ((d : Int) == 1), .int .i64 0, .int .i64 3] wr fun e w' => ∃ (r : Int) (X5 : IRoom) (own6 : Nat → Tag) (d1 : ByteArray), e = .returned (.int .i64 r) ∧ TxtAt w rb b X5 own6 (.slice (some ⟨g, 0, none⟩) (N + 1) cp) X4.all w' ∧ Same X4 X5 ∧ (X5.side c ((d : Int) == 1)).flying.length = (X4.side c ((d : Int) == 1)).flying.length ∧ (X5.side c ((d : Int) == 1)).flying[0]? = some d1 ∧ readD d1 = none) := by
                    apply hide
                    refine (jFirst h5.law.room.room h5.law.room.fit hc5 ((d : Int) == 1) hfl0).mono ?_
                    rintro e w' ⟨r, X5, d1, rfl, a1, a2, a3, a4, a5⟩
                    obtain ⟨own6, b1⟩ := h5.same a1 a2
                    exact ⟨r, X5, own6, d1, rfl, b1, a2, a3, a4, a5⟩
                  clear h5 hfl0
                  generalize hK : (X4.e c).waiting.length = K at *
                  have HK := hide hK
                  clear hK
                  go_wp2_with fail
                  refine (unhide HW).mono ?_
                  rintro e w' ⟨rfl, hw'⟩
                  obtain rfl := hw'.symm
                  go_wp2_with fail
                  refine (unhide HF1).mono ?_
                  rintro e w6 ⟨r, X5, own6, d1, rfl, h6, hs6, hl6, hd6, hr6⟩
                  have hc6 : c < X5.texts.length := by rw [hs6.texts]; exact hc5
                  have c6 := h6.law.room.c0
                  have HF2 : Hid (Calls Try.prog 27 #[.pointer (some ⟨b, 0, none⟩), .int .i64 c, .bool ((d : Int) == 1), .int .i64 0, .int .i64 3] w6 fun e w' => e = .returned (.int .i64 8) ∧ ∃ own7, TxtAt w rb b X5 own7 (.slice (some ⟨g, 0, none⟩) (N + 1) cp) X4.all w') := by
                    apply hide
                    refine (jSecond h6.law.room.room h6.law.room.fit hc6 ((d : Int) == 1) hd6 hr6).mono ?_
                    rintro e w' ⟨rfl, a1⟩
                    exact ⟨rfl, h6.same a1 ⟨h6.law.room.fit, rfl, rfl, rfl, fun _ => rfl⟩⟩
                  have HS6 := hide (And.intro hs6 (And.intro hl6 (And.intro hd6 hr6)))
                  clear h6 hs6 hl6 hd6 hr6 HF1 HW
                  go_wp2_with fail
                  refine (unhide HF2).mono ?_
                  rintro e w7 ⟨rfl, own7, h7⟩
                  obtain ⟨hs6, hl6, hd6, hr6⟩ := unhide HS6
                  have c7 := h7.law.room.c0
                  have HF3 : Hid (Calls Try.prog 27 #[.pointer (some ⟨b, 0, none⟩), .int .i64 c, .bool ((d : Int) == 1), .int .i64 0, .int .i64 0] w7 fun e w' => e = .returned (.int .i64 0) ∧ ∃ own8 X8, TxtAt w rb b X8 own8 (.slice (some ⟨g, 0, none⟩) (N + 1) cp) X4.all w' ∧ Same X4 X8 ∧ (X8.side c ((d : Int) == 1)).flying.length + (i + 1) = F) := by
                    apply hide
                    refine (jThird h7.law.room.room h7.law.room.fit hc6 ((d : Int) == 1) hd6 hr6).mono ?_
                    rintro e w' ⟨rfl, X8, a1, a2, a3⟩
                    obtain ⟨own8, h8⟩ := h7.same a1 a2
                    exact ⟨rfl, own8, X8, h8, hs6.trans a2, by have := unhide HF4; omega⟩
                  clear h7 hs6 hl6 hd6 hr6 HF2 HS6
                  go_wp2_with fail
                  refine (unhide HF3).mono ?_
                  rintro e w8 ⟨rfl, own8, X8, h8, hs8, hl8⟩
                  have hc8 : c < X8.texts.length := by rw [hs8.texts]; exact hc5
                  have c8 := h8.law.room.c0
                  have HW8 := kWaits (i := c) h8.law.room.room h8.law.room.fit hc8
                  rw [hs8.wait c, unhide HK] at HW8
                  replace HW8 := hide HW8
                  have HF8 := hide (jFlying (c := c) h8.law.room.room h8.law.room.fit hc8 ((d : Int) == 1))
                  have H8 := hide (And.intro h8 (And.intro hs8 hl8))
                  have HA8 := hide hs8.all
                  have HN8 : Hid (X8.texts.length = N) := hide (by rw [hs8.texts]; exact unhide HN4)
                  have hl9 : ((X8.side c ((d : Int) == 1)).flying.length : Int) = (F : Int) - (i : Int) - 1 := by omega
                  clear h8 hs8 hl8 HF3 hc8 hc6 hc5
                  generalize hF8 : (X8.side c ((d : Int) == 1)).flying.length = F8 at *
                  have HF8E := hide hF8
                  clear hF8
                  go_wp2_with fail
                  refine (unhide HW8).mono ?_
                  rintro e w' ⟨rfl, hw'⟩
                  obtain rfl := hw'.symm
                  go_wp2_with fail
                  refine (unhide HF8).mono ?_
                  rintro e w' ⟨rfl, hw'⟩
                  obtain rfl := hw'.symm
                  go_wp2_with fail
                  clear c0 c1 c6 c7 c8 HW8 HF8
                  go_loopw [26] (fun v w9 => ∃ x : Nat, x ≤ N + 1 ∧ v = .int .i64 ((x : Int) - 1) ∧ TxtAt w rb b X8 own8 (.slice (some ⟨g, 0, none⟩) (N + 1) cp) X4.all w9) (fun v _ => N + 1 - (intOf v + 1).toNat)
                  case atStart => exact ⟨0, by omega, rfl, (unhide H8).1⟩
                  case round =>
                    obtain ⟨y, hy, rfl, h9⟩ := hrel
                    have c0 := h9.law.room.c0
                    have c1 := h9.law.room.c1
                    rw [unhide HN8] at c1
                    by_cases hy2 : y < N + 1
                    · have hy2' : (y : Int) - 1 < (N : Int) := by omega
                      obtain ⟨t, ht, HR⟩ := jRead h9.law.room.room h9.law.room.fit (x := y) (by rw [unhide HN8]; omega)
                      replace HR := hide HR
                      rw [unhide HA8] at ht
                      have hcy := h9.cell ht
                      have H9 := hide h9
                      clear h9 ht
                      unfold bstr at HR
                      generalize (⟨t.toArray⟩ : ByteArray) = ta at *
                      have hm1 : (wrap64 ((y : Int) - 1 + 1)).toNat = y := by unfold wrap64; omega
                      have hm2 : (0 : Int) ≤ (y : Int) - 1 + 1 := by omega
                      have hm3 : (y : Int) - 1 + 1 < (N : Int) + 1 := by omega
                      go_wp2_with fail
                      refine (unhide HR).mono ?_
                      rintro e w' ⟨rfl, hw'⟩
                      obtain rfl := hw'.symm
                      go_wp2_with fail
                      go_roundw
                      case rel => exact ⟨y + 1, by omega, by simp, unhide H9⟩
                      case measure => simp [intOf]; omega
                    · have hy2' : ¬ (y : Int) - 1 < (N : Int) := by omega
                      have H9 := hide h9.law
                      clear h9
                      go_wp2_with fail
                      go_roundw
                      case rel => exact ⟨i + 1, own8, X8, by omega, by go_num, unhide HN8, by rw [unhide HF8E]; exact (unhide H8).2.2, unhide H9⟩
                      case measure => simp [intOf]; omega
            · have hlt3' : ¬ (i : Int) < (F : Int) := by omega
              have H4 := hide (And.intro h4 hn4)
              clear h4 hn4 hf4
              go_wp2_with fail
              go_roundw
              case rel => exact ⟨d + 1, own4, X4, by omega, by go_num, (unhide H4).2, (unhide H4).1⟩
              case measure => simp [intOf]; omega
        · have hd2' : ¬ (d : Int) < 2 := by omega
          have H3 := hide (And.intro h3 hn3)
          clear h3 hn3
          go_wp2_with fail
          go_roundw
          case rel => exact ⟨c + 1, own3, X3, by omega, by go_num, (unhide H3).2, (unhide H3).1⟩
          case measure => simp [intOf]; omega
    · have hlt' : ¬ (c : Int) < (N : Int) := by omega
      have HST : Hid (Calls Try.prog 16 #[.pointer (some ⟨rb, 0, none⟩), .int .i64 6] wr fun e w' => e = .returned (.bool true) ∧ ∃ Y own', LawAt w rb b Y own' w' ∧ Calls Try.prog 17 #[.pointer (some ⟨rb, 0, none⟩)] w' fun e w'' => e = .returned (.tuple #[bstr Y.server, .bool true]) ∧ w'' = w') := by
        apply hide
        refine (h2.settle 6 (by omega)).mono ?_
        rintro e w' ⟨rfl, Y, own', a1, a2⟩
        exact ⟨rfl, Y, own', a2, a2.alike (a1.quiet h2.room.fit (by omega))⟩
      clear h2 hn2
      go_wp2_with fail
      refine (unhide HST).mono ?_
      rintro e w5 ⟨rfl, Y, own5, h5, HA⟩
      replace HA := hide HA
      have H5 := hide h5.upd.base
      clear h5 HST
      unfold bstr at HA
      go_wp2_with fail
      refine (unhide HA).mono ?_
      rintro e w' ⟨rfl, hw'⟩
      obtain rfl := hw'.symm
      go_wp2_with fail
      go_ret
      exact ⟨rfl, unhide H5⟩
end Go.Proofs.Ytemkgikncmhoaaa

