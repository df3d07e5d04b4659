import Derived.Test.YtemkgikncmhoaaaM38
import Derived.Test.YtemkgikncmhoaaaM39
/-
  weavekeep: flush, pass by pass. Own work.
-/
namespace Go.Proofs.Ytemkgikncmhoaaa
open Go.RowKit
attribute [local go_sem ↓] Go.wp_at_zero Go.wp_at_succ

/-- A turn of each line, in their order. -/
def IRoom.passTo (X : IRoom) : Nat → IRoom
  | 0 => X
  | c + 1 => (X.passTo c).turn c
inductive Passes (X : IRoom) : IRoom → Prop
  | refl : Passes X X
  | step {Y : IRoom} (h : Passes X Y) : Passes X (Y.passTo Y.texts.length)
theorem passTo_turns (X : IRoom) (h : Fit X) : ∀ c, c ≤ X.texts.length → Turns X (X.passTo c)
  | 0, _ => .refl X
  | c + 1, hc => by
    have ih := passTo_turns X h c (by omega)
    exact .step c ih (by rw [(ih.fit h).2.1]; omega)
theorem Passes.turns' {X Y : IRoom} (p : Passes X Y) (h : Fit X) : Turns X Y := by
  induction p with
  | refl => exact .refl X
  | step q ih => exact ih.trans (passTo_turns _ (ih.fit h).1 _ (Nat.le_refl _))
/-- Behind a first pass, where there was something to do. -/
theorem Passes.first {X Y : IRoom} (p : Passes X Y) (hX : ¬ X.Still) (hY : Y.Still) : Passes (X.passTo X.texts.length) Y := by
  have : X = Y ∨ Passes (X.passTo X.texts.length) Y := by
    clear hY hX
    induction p with
    | refl => exact .inl rfl
    | step q ih =>
      rcases ih with e | ih
      · subst e; exact .inr .refl
      · exact .inr (.step ih)
  rcases this with rfl | g
  · exact absurd hY hX
  · exact g
set_option maxRecDepth 100000 in
set_option maxHeartbeats 1600000 in
theorem kflush2 (own : Nat → Tag) (w : World) (rb b : Nat) (X : IRoom) (h : KRoom own w rb b X) :
    Calls Try.prog 24 #[.pointer (some ⟨rb, 0, none⟩)] w fun e w' => e = .returned (.bool true) ∧ ∃ own' Y, KRoom own' w' rb b Y ∧ Upd own own' (inRoom 1) w w' ∧ Passes X Y ∧ Y.Still := by
  have hT : X.total ≤ 1728 := by obtain ⟨us, ds, T, hr⟩ := h.fit.rows; exact hr.total_le
  have HX := hide h.fit
  have H0 : Hid (FlAt own w rb b own w X) := hide ⟨h, Upd.refl _ _ _⟩
  have hn4 := h.fit.num
  generalize hN : X.texts.length = N at *
  have HN := hide hN
  clear h hN
  go_enter Try.func24, Try.ntmps24
  go_wp2_with fail
  go_loopw [3] (fun v3 wr => ∃ (k : Nat) (own1 : Nat → Tag) (Y : IRoom), k ≤ 3000 ∧ v3 = .int .i64 k ∧ FlAt own w rb b own1 wr Y ∧ Passes X Y ∧ Y.total + k ≤ 2999) (fun v3 _ => 3000 - (intOf v3).toNat)
  case atStart => exact ⟨0, own, X, by omega, rfl, unhide H0, .refl, by omega⟩
  case round =>
    obtain ⟨k, own1, Y, hk, rfl, hY, hXY, hk2⟩ := hrel
    have hlt' : (k : Int) < 3000 := by omega
    have HY : Hid (FlAt own w rb b own1 wr Y ∧ Passes X Y ∧ Y.texts.length = N) := hide ⟨hY, hXY, ((hXY.turns' (unhide HX)).fit (unhide HX)).2.1.trans (unhide HN)⟩
    clear hY hXY
    go_wp2_with fail
    go_loopw [4, 5] (fun v4 v5 w2 => ∃ (c : Nat) (sm : Bool) (own2 : Nat → Tag) (Z : IRoom), c ≤ N ∧ v5 = .int .i64 c ∧ v4 = .bool sm ∧ FlAt own w rb b own2 w2 Z ∧ Z = Y.passTo c ∧ Z.texts.length = N ∧ FlI Y Z k c 0 sm) (fun v4 v5 _ => N - (intOf v5).toNat)
    case atStart => exact ⟨0, false, own1, Y, by omega, rfl, rfl, (unhide HY).1, rfl, (unhide HY).2.2, FlI.start⟩
    case round =>
      obtain ⟨c, sm, own2, Z, hc, rfl, rfl, hZ, hXZ, hZN, hI⟩ := hrel
      have c0 := hZ.room.c0
      have c1 := hZ.room.c1
      rw [hZN] at c1
      have HZ := hide hZ
      have HXZ := hide hXZ
      have HZN := hide hZN
      have HI := hide hI
      have HF : Hid (Fit Z) := hide hZ.room.fit
      clear hZ hXZ hZN hI
      by_cases hlt : c < N
      · have hlt2 : (c : Int) < (N : Int) := by omega
        go_wp2_with fail
        clear c1
        go_loopw [4, 6] (fun v4 v6 w3 => ∃ (d : Nat) (sm : Bool) (own3 : Nat → Tag) (Z3 : IRoom), d ≤ 2 ∧ v6 = .int .i64 d ∧ v4 = .bool sm ∧ FlAt own w rb b own3 w3 Z3 ∧ FlI Y Z3 k c d sm ∧ (d = 0 → Z3 = Z) ∧ (d = 1 → Z3 = Z.up c 0) ∧ (d = 2 → Z3 = Z.turn c)) (fun v4 v6 _ => 2 - (intOf v6).toNat)
        case atStart => exact ⟨0, sm, own2, Z, by omega, rfl, rfl, unhide HZ, unhide HI, fun _ => rfl, fun h => by omega, fun h => by omega⟩
        case round =>
          obtain ⟨d, sm3, own3, Z3, hd, rfl, rfl, hZ3, hI3, e0, e1, e2⟩ := hrel
          have c0 := hZ3.room.c0
          have hF3 := hZ3.room.fit
          by_cases hd0 : d = 0
          · subst hd0
            obtain rfl := e0 rfl
            clear e0 e1 e2
            have hc3 : c < Z3.texts.length := by rw [unhide HZN]; exact hlt
            have HFl := hide (kFlying_0 (i := c) hZ3.room.room hF3 hc3)
            by_cases hz : (Z3.e c).flying = []
            · have HN1 : Hid (∃ own4, FlAt own w rb b own4 wr (Z3.up c 0) ∧ FlI Y (Z3.up c 0) k c 1 sm3) := hide ⟨own3, by rw [up_none (by rw [hz]; rfl)]; exact hZ3, hI3.up0 hz⟩
              rw [hz] at HFl
              clear hZ3 hI3 hF3 hz
              go_wp2_with (first | (go_at_call 26; with_reducible refine (unhide HFl).mono ?_; rintro e w' ⟨rfl, hw'⟩; obtain rfl := hw'.symm))
              go_roundw
              case rel =>
                obtain ⟨own4, a1, a2⟩ := unhide HN1
                exact ⟨1, sm3, own4, _, by omega, rfl, rfl, a1, a2, fun h => by omega, fun _ => rfl, fun h => by omega⟩
              case measure => simp [intOf]
            · have hl : 0 < (Z3.e c).flying.length := List.length_pos_iff.2 hz
              have HU : Hid (Calls Try.prog 27 #[.pointer (some ⟨b, 0, none⟩), .int .i64 c, .bool false, .int .i64 0, .int .i64 0] wr fun e w' => e = .returned (.int .i64 0) ∧ ∃ own4, FlAt own w rb b own4 w' (Z3.up c 0) ∧ FlI Y (Z3.up c 0) k c 1 true) := by
                apply hide
                refine (kUp (i := c) (n := 0) hZ3.room.room hF3 hc3 hl).mono ?_
                rintro e w' ⟨rfl, a⟩
                obtain ⟨own4, a'⟩ := hZ3.after a (hF3.up hc3 0) (by rw [(up_len hF3 hc3 0).1])
                exact ⟨rfl, own4, a', hI3.up hF3 hc3 hk2 hz⟩
              clear hZ3 hI3 hF3 hz
              generalize (Z3.e c).flying.length = m at *
              have hl' : (0 : Int) < (m : Int) := by omega
              go_wp2_with (first | (go_at_call 26; with_reducible refine (unhide HFl).mono ?_; rintro e w' ⟨rfl, hw'⟩; obtain rfl := hw'.symm) | (go_at_call 27; with_reducible refine (unhide HU).mono ?_; rintro e w4 ⟨rfl, hw4⟩))
              go_roundw
              case rel =>
                obtain ⟨own4, a1, a2⟩ := hw4
                exact ⟨1, true, own4, _, by omega, rfl, rfl, a1, a2, fun h => by omega, fun _ => rfl, fun h => by omega⟩
              case measure => simp [intOf]
          · by_cases hd1 : d = 1
            · subst hd1
              have ez := e1 rfl
              clear e0 e1 e2
              have hcz : c < Z.texts.length := by rw [unhide HZN]; exact hlt
              have hc3 : c < Z3.texts.length := by rw [ez, (up_len (unhide HF) hcz 0).1]; exact hcz
              have et : Z3.down c 0 = Z.turn c := by rw [ez]; rfl
              have HET := hide et
              have HFl := hide (kFlying_1 (i := c) hZ3.room.room hF3 hc3)
              clear ez et
              by_cases hz : (Z3.s c).flying = []
              · have HN1 : Hid (∃ own4, FlAt own w rb b own4 wr (Z3.down c 0) ∧ FlI Y (Z3.down c 0) k c 2 sm3) := hide ⟨own3, by rw [down_none (by rw [hz]; rfl)]; exact hZ3, hI3.down0 hz⟩
                rw [hz] at HFl
                clear hZ3 hI3 hF3 hz
                go_wp2_with (first | (go_at_call 26; with_reducible refine (unhide HFl).mono ?_; rintro e w' ⟨rfl, hw'⟩; obtain rfl := hw'.symm))
                go_roundw
                case rel =>
                  obtain ⟨own4, a1, a2⟩ := unhide HN1
                  exact ⟨2, sm3, own4, _, by omega, rfl, rfl, a1, a2, fun h => by omega, fun h => by omega, fun _ => unhide HET⟩
                case measure => simp [intOf]
              · have hl : 0 < (Z3.s c).flying.length := List.length_pos_iff.2 hz
                have HU : Hid (Calls Try.prog 27 #[.pointer (some ⟨b, 0, none⟩), .int .i64 c, .bool true, .int .i64 0, .int .i64 0] wr fun e w' => e = .returned (.int .i64 0) ∧ ∃ own4, FlAt own w rb b own4 w' (Z3.down c 0) ∧ FlI Y (Z3.down c 0) k c 2 true) := by
                  apply hide
                  refine (kDown (i := c) (n := 0) hZ3.room.room hF3 hc3 hl).mono ?_
                  rintro e w' ⟨rfl, a⟩
                  obtain ⟨own4, a'⟩ := hZ3.after a (hF3.down hc3 0) (down_len hF3 hc3 0).1
                  exact ⟨rfl, own4, a', hI3.down hF3 hc3 hk2 hz⟩
                clear hZ3 hI3 hF3 hz
                generalize (Z3.s c).flying.length = m at *
                have hl' : (0 : Int) < (m : Int) := by omega
                go_wp2_with (first | (go_at_call 26; with_reducible refine (unhide HFl).mono ?_; rintro e w' ⟨rfl, hw'⟩; obtain rfl := hw'.symm) | (go_at_call 27; with_reducible refine (unhide HU).mono ?_; rintro e w4 ⟨rfl, hw4⟩))
                go_roundw
                case rel =>
                  obtain ⟨own4, a1, a2⟩ := hw4
                  exact ⟨2, true, own4, _, by omega, rfl, rfl, a1, a2, fun h => by omega, fun h => by omega, fun _ => unhide HET⟩
                case measure => simp [intOf]
            · obtain rfl : d = 2 := by omega
              have ez := e2 rfl
              have HZ3 : Hid (FlAt own w rb b own3 wr (Z.turn c) ∧ FlI Y (Z.turn c) k (c + 1) 0 sm3 ∧ Z.turn c = Y.passTo (c + 1) ∧ (Z.turn c).texts.length = N) := by
                subst ez
                have hcz : c < Z.texts.length := by rw [unhide HZN]; exact hlt
                exact hide ⟨hZ3, hI3.next, congrArg (fun Q => IRoom.turn Q c) (unhide HXZ), ((unhide HF).turn hcz).2.1.trans (unhide HZN)⟩
              clear hZ3 hI3 hF3 e0 e1 e2 ez c0
              go_wp2_with fail
              go_roundw
              case rel =>
                obtain ⟨a1, a2, a3, a4⟩ := unhide HZ3
                exact ⟨c + 1, sm3, own3, _, by omega, by go_num, rfl, a1, a3, a4, a2⟩
              case measure => simp [intOf]; omega
      · have hlt2 : ¬ (c : Int) < (N : Int) := by omega
        obtain rfl : c = N := by omega
        cases sm with
        | true =>
          go_wp2_with fail
          go_roundw
          case rel => exact ⟨k + 1, own2, Z, by omega, by go_num, unhide HZ, by have e := unhide HXZ; have hYN := (unhide HY).2.2; rw [e, ← hYN]; exact .step (unhide HY).2.1, by have := (unhide HI).1 rfl; omega⟩
          case measure => simp [intOf]; omega
        | false =>
          go_wp2_with fail
          go_ret
          have hYN := (unhide HY).2.2
          obtain ⟨e, hs⟩ := (unhide HI).still hYN.symm
          subst e
          exact ⟨rfl, own2, Z, (unhide HZ).room, (unhide HZ).upd, (unhide HY).2.1, hs⟩
end Go.Proofs.Ytemkgikncmhoaaa

/-
  weave: two who put at once. Plain mathematics. Own work.
-/
namespace Go.Proofs.Ytemkgikncmhoaaa

section
variable {us ds : List GMsg} {T T' : Nat → Nat → List UInt8}
theorem Grid.below (h : Grid us ds T) {i k : Nat} (hp : Pt us ds i k) (hik : 0 < i + k) : (1 ≤ i ∧ Pt us ds (i - 1) k) ∨ (1 ≤ k ∧ Pt us ds i (k - 1)) := by
  by_cases hu : 1 ≤ i ∧ Pt us ds (i - 1) k
  · exact .inl hu
  · refine .inr ?_
    by_cases hk0 : k = 0
    · exfalso
      apply hu
      subst hk0
      refine ⟨by omega, ⟨by have := hp.li; omega, hp.lk, fun h1 => ?_, fun h1 => by omega⟩⟩
      exact Nat.le_trans (h.hist.mu (i - 1) i h1 (by omega) hp.li) (hp.ui (by omega))
    · refine ⟨by omega, ⟨hp.li, by have := hp.lk; omega, fun h1 => ?_, fun h1 => ?_⟩⟩
      · rcases h.hist.ac i k h1 hp.li (by omega) hp.lk with g | g
        · omega
        · exfalso
          apply hu
          refine ⟨h1, ⟨by have := hp.li; omega, hp.lk, fun h2 => ?_, fun _ => by omega⟩⟩
          exact Nat.le_trans (h.hist.mu (i - 1) i h2 (by omega) hp.li) (hp.ui h1)
      · exact Nat.le_trans (h.hist.md (k - 1) k h1 (by omega) hp.lk) (hp.dk (by omega))
/-- The texts of a grid are those of its rows. -/
theorem Grid.unique (h : Grid us ds T) (h' : Grid us ds T') : ∀ n i k, i + k = n → Pt us ds i k → T i k = T' i k
  | 0, i, k, e, _ => by
    obtain rfl : i = 0 := by omega
    obtain rfl : k = 0 := by omega
    rw [h.start, h'.start]
  | n + 1, i, k, e, hp => by
    rcases h.below hp (by omega) with ⟨h1, hq⟩ | ⟨h1, hq⟩
    · rw [(h.u i k h1 hp hq).2, (h'.u i k h1 hp hq).2, h.unique h' n (i - 1) k (by omega) hq]
    · rw [(h.d i k h1 hp hq).2, (h'.d i k h1 hp hq).2, h.unique h' n i (k - 1) (by omega) hq]
end
section
variable {X Y : IRoom} {us ds : Nat → List GMsg} {T : Nat → Nat → Nat → List UInt8} {i : Nat}
/-- The server takes one, the next, and nothing was kept. -/
theorem RInv.up_take (h : RInv X us ds T) (hi : i < X.texts.length) {d : ByteArray} {tk : Nat} {m : IMsg} (hd : (X.e i).flying[0]? = some d) (hr : readD d = some (tk, some m)) (hk : (X.s i).kept = []) (hn : m.number = (X.s i).taken + 1) (htk : tk ≤ (X.s i).known) :
    ((X.up i 0).s i).taken = m.number ∧ ∃ T', RInv (X.up i 0) us (fun j => if j = i then ds i else ds j ++ [⟨X.tk j, form (us i) (ds i) m.number (ds i).length⟩]) T' := by
  obtain ⟨g1, g2, g3⟩ := h.at' hi
  obtain ⟨hl, _⟩ := h.line i _ _ _ g1 g2 g3
  have hf := hl.a.flies d (List.mem_of_getElem? hd)
  have ht := (h.waitA g1 g2 g3).2.2.1
  obtain ⟨tk', m', e1, e2, e3⟩ : ∃ tk m, readD d = some (tk, m) ∧ tk ≤ (X.e i).taken ∧ ∀ q, m = some q → ∃ n, 1 ≤ n ∧ n ≤ (us i).length ∧ q = imsg (us i) n := by
    rcases hf.reads (by omega) (fun n tk a b c => h.bytesA g1 g2 g3 a b c) with e | e
    · rw [e] at hr; simp at hr
    · exact e
  rw [hr] at e1
  simp only [Option.some.injEq, Prod.mk.injEq] at e1
  obtain ⟨rfl, rfl⟩ := e1
  obtain ⟨n, n1, n2, rfl⟩ := e3 m rfl
  have hn' : n = (X.s i).taken + 1 := hn
  -- what the end hears
  have hS : (X.s i).hears X.window tk (some (imsg (us i) n)) = { X.s i with kept := [imsg (us i) n] } := by
    show ((X.s i).learn X.window tk).keep X.window (imsg (us i) n) = _
    have hlr : (X.s i).learn X.window tk = X.s i := by unfold IEnd.learn; rw [if_pos (.inl htk)]
    rw [hlr]
    unfold IEnd.keep
    rw [if_neg, hk]
    · rfl
    · rintro (g | g | g)
      · have g : n < (X.s i).taken + 1 := g
        omega
      · have g : (X.s i).taken + 1 + X.window ≤ n := g
        have := h.w1
        omega
      · rw [hk] at g; simp at g
  have hR1 := h.loseA g1 g2 g3 0
  obtain ⟨q1, q2⟩ := setA_get (t' := X.tx i) (E' := (X.e i).lose 0) g1 g2
  have q3 : (X.setA i (X.tx i) ((X.e i).lose 0)).sends[i]? = some (X.s i) := g3
  have hR2 := hR1.hearsB q1 q2 q3 tk (some (imsg (us i) n)) e2 (fun q hq => by cases hq; exact ⟨n, n1, n2, rfl⟩)
  have hw : (X.setA i (X.tx i) ((X.e i).lose 0)).window = X.window := rfl
  rw [hw, hS] at hR2
  have r3 := setB_get (S' := { X.s i with kept := [imsg (us i) n] }) q3
  have hnk : ({ X.s i with kept := [imsg (us i) n] } : IEnd).nextKept = some (imsg (us i) n) := by
    unfold IEnd.nextKept
    simp [imsg, hn']
  obtain ⟨T', hR3⟩ := hR2.takeB (i := i) q1 q2 r3 (n := n) hn' n2
  obtain ⟨hl2, _⟩ := hR2.line i _ _ _ q1 q2 r3
  obtain ⟨ef, _⟩ := hl2.b.took hl2.g.hist.swap hn' n2
  rw [ef] at hR3
  have hlen : i < ((X.setA i (X.tx i) ((X.e i).lose 0)).setB i { X.s i with kept := [imsg (us i) n] }).texts.length := by simpa [IRoom.setA, IRoom.setB] using hi
  have hR4 := hR3.wordB (i := i) (by simpa [IRoom.tell, IRoom.setA, IRoom.setB] using hi)
  have eu : X.up i 0 = (((X.setA i (X.tx i) ((X.e i).lose 0)).setB i { X.s i with kept := [imsg (us i) n] }).tell i ((({ X.s i with kept := [imsg (us i) n] } : IEnd).drop n).take (imsg (us i) n)) (form (us i) (ds i) n (ds i).length)).wordB i := by
    unfold IRoom.up
    rw [hd]
    show IRoom.comeB _ i d = _
    unfold IRoom.comeB
    rw [hr]
    show IRoom.arriveB _ i tk (some (imsg (us i) n)) = _
    unfold IRoom.arriveB
    simp only [q3, hw, hS, List.length_cons, List.length_nil]
    rw [IRoom.takesB_some r3 hnk 0]
    unfold IRoom.stepB
    rw [ef]
    rfl
  have htk2 : ∀ j, ((X.setA i (X.tx i) ((X.e i).lose 0)).setB i { X.s i with kept := [imsg (us i) n] }).tk j = X.tk j := fun j => IRoom.tk_setB (X := X.setA i (X.tx i) ((X.e i).lose 0)) (S' := { X.s i with kept := [imsg (us i) n] }) q3 rfl j
  simp only [htk2] at hR4
  refine ⟨?_, T', by rw [eu]; exact hR4⟩
  rw [eu]
  unfold IRoom.wordB
  have hsl : ((X.setA i (X.tx i) ((X.e i).lose 0)).setB i { X.s i with kept := [imsg (us i) n] }).sends.length = X.sends.length := by simp [IRoom.setA, IRoom.setB]
  have e5 : (((X.setA i (X.tx i) ((X.e i).lose 0)).setB i { X.s i with kept := [imsg (us i) n] }).tell i ((({ X.s i with kept := [imsg (us i) n] } : IEnd).drop n).take (imsg (us i) n)) (form (us i) (ds i) n (ds i).length)).sends[i]? = some ((({ X.s i with kept := [imsg (us i) n] } : IEnd).drop n).take (imsg (us i) n)) := by
    simp only [IRoom.tell, List.getElem?_mapIdx, r3]
    simp
  simp only [e5]
  rw [s_setB (by have := (List.getElem?_eq_some_iff.1 e5).1; exact this), if_pos rfl, (word_fields _).2.2.1]
  rfl
/-- All that was made is taken. -/
def IRoom.AllT (X : IRoom) : Prop := ∀ j, j < X.texts.length → (X.e j).made ≤ (X.s j).taken
theorem AllT.up (a : X.AllT) (h : Fit X) (hi : i < X.texts.length) (n : Nat) : (X.up i n).AllT ∧ (X.up i n).server = X.server := by
  cases hd : (X.e i).flying[n]? with
  | none => rw [up_none hd]; exact ⟨a, rfl⟩
  | some d =>
    obtain ⟨us, ds, T, hr⟩ := h.rows
    obtain ⟨os, u, ⟨ds', T', hr'⟩, _⟩ := hr.upped' hi hd
    have hi' : i < (X.up i n).texts.length := by rw [u.texts]; exact hi
    obtain ⟨_, c2, c3⟩ := u.came.load (hr.pair hi).b
    have e1 := (hr.pair hi).a.made
    have e2 := (hr'.pair hi').b.tk
    have e3 := a i hi
    have hos : os = [] := List.eq_nil_of_length_eq_zero (by omega)
    subst hos
    refine ⟨fun j hj => ?_, u.server⟩
    rw [up_made h hi n j]
    rw [u.texts] at hj
    by_cases hji : j = i
    · subst hji
      have : ((X.up j n).s j).taken = (X.s j).taken := by simpa using c2
      rw [this]
      exact a j hj
    · rw [u.s j hji, if_pos hj]
      exact a j hj
theorem AllT.down (a : X.AllT) (h : Fit X) (hi : i < X.texts.length) (n : Nat) : (X.down i n).AllT ∧ (X.down i n).server = X.server := by
  cases hd : (X.s i).flying[n]? with
  | none => rw [down_none hd]; exact ⟨a, rfl⟩
  | some d =>
    obtain ⟨us, ds, T, hr⟩ := h.rows
    obtain ⟨k, u, hr', _⟩ := hr.downed' hi hd
    refine ⟨fun j hj => ?_, u.server⟩
    rw [down_made h hi n j]
    rw [u.len] at hj
    rw [u.s]
    by_cases hji : j = i
    · subst hji; rw [if_pos rfl]; exact a j hj
    · rw [if_neg hji]; exact a j hj
theorem Turns.allT (q : Turns X Y) (a : X.AllT) (h : Fit X) : Y.AllT ∧ Y.server = X.server := by
  induction q with
  | refl => exact ⟨a, rfl⟩
  | step i q hi ih =>
    have hF := (q.fit h).1
    obtain ⟨a1, b1⟩ := AllT.up ih.1 hF hi 0
    obtain ⟨a2, b2⟩ := AllT.down a1 (hF.up hi 0) (by rw [(up_len hF hi 0).1]; exact hi) 0
    exact ⟨a2, b2.trans (b1.trans ih.2)⟩
/-- The numbers of a line on which nobody waits. -/
theorem RInv.eqs (h : RInv X us ds T) (hq : X.Quiet) {j : Nat} (hj : j < X.texts.length) : (X.s j).taken = (us j).length ∧ (X.e j).taken = (ds j).length ∧ (X.s j).known = (ds j).length ∧ (X.e j).known = (us j).length ∧ (X.s j).kept = [] ∧ (X.e j).made = (us j).length := by
  have p := h.pair hj
  have m1 := p.a.made
  have m2 := p.b.made
  have t1 := p.a.tk
  have t2 := p.b.tk
  have ka := p.ka
  have kb := p.kb
  have e1 : (X.e j).made = (X.e j).known := by unfold IEnd.made; rw [(hq j hj).1]; rfl
  have e2 : (X.s j).made = (X.s j).known := by unfold IEnd.made; rw [(hq j hj).2]; rfl
  refine ⟨by omega, by omega, by omega, by omega, ?_, m1⟩
  cases hz : (X.s j).kept with
  | nil => rfl
  | cons m l =>
    obtain ⟨n, b1, b2, _⟩ := p.b.kept m (by rw [hz]; simp)
    omega
end
end Go.Proofs.Ytemkgikncmhoaaa

/-
  weave: how many letters there are. Plain mathematics. Own work.
-/
namespace Go.Proofs.Ytemkgikncmhoaaa

/-- Of an operation: a Put of that letter; a Put; a Cut. -/
def wput (b : UInt8) (o : ROp) : Nat := if o.verb = 1 ∧ byteOf o.letter = b then 1 else 0
def wp (o : ROp) : Nat := if o.verb = 1 then 1 else 0
def wc (o : ROp) : Nat := if o.verb = 2 then 1 else 0
/-- What turning may make of an operation: a Put stays one, with its letter; a Cut stays one, or is nothing. -/
def Kin (a o : ROp) : Prop := (a.verb = o.verb ∧ a.letter = o.letter) ∨ (o.verb ≠ 1 ∧ a.verb = 0)
theorem Kin.refl (o : ROp) : Kin o o := .inl ⟨rfl, rfl⟩
theorem turn_kin {a b o : ROp} (hb : b.Norm) (h : Kin a o) : Kin (a.turn b) o := by
  have hv : b.verb = 0 ∨ b.verb = 1 ∨ b.verb = 2 := by rcases hb.2 with ⟨g, _⟩ | ⟨g, _⟩ | ⟨g, _⟩ <;> simp [g]
  have keep : ∀ x : ROp, x.verb = a.verb → x.letter = a.letter → Kin x o := fun x h1 h2 => by
    rcases h with ⟨g1, g2⟩ | ⟨g1, g2⟩
    · exact .inl ⟨h1.trans g1, h2.trans g2⟩
    · exact .inr ⟨g1, h1.trans g2⟩
  unfold ROp.turn
  by_cases h1 : a.verb = 0 ∨ b.verb = 0
  · rw [if_pos h1]; exact h
  · rw [if_neg h1]
    by_cases h2 : a.verb = 1 ∧ b.verb = 1
    · rw [if_pos h2]; split
      · exact keep _ rfl rfl
      · exact h
    · rw [if_neg h2]
      by_cases h3 : a.verb = 1 ∧ b.verb = 2
      · rw [if_pos h3]; split
        · exact keep _ rfl rfl
        · exact h
      · rw [if_neg h3]
        by_cases h4 : a.verb = 2 ∧ b.verb = 1
        · rw [if_pos h4]; split
          · exact keep _ rfl rfl
          · exact h
        · rw [if_neg h4]
          have ha : a.verb ≠ 1 := fun g => by
            rcases hv with hv | hv | hv
            · exact h1 (.inr hv)
            · exact h2 ⟨g, hv⟩
            · exact h3 ⟨g, hv⟩
          split
          · refine .inr ⟨?_, rfl⟩
            rcases h with ⟨g1, _⟩ | ⟨g1, _⟩
            · rw [← g1]; exact ha
            · exact g1
          · split
            · exact keep _ rfl rfl
            · exact h
theorem gF_kin : ∀ (f : Nat) (us ds : List GMsg) (i k : Nat), Norms us → Norms ds → 1 ≤ i → i ≤ us.length → k ≤ ds.length → Kin (gF f us ds i k) (gmsg us i).op
  | 0, us, ds, i, k, _, _, _, _, _ => .refl _
  | f + 1, us, ds, i, k, h1, h2, hi, hl, hk => by
    unfold gF
    split
    · exact .refl _
    · rename_i hc
      exact turn_kin (gF_norm f ds us k (i - 1) h2 h1 (by omega) hk (by omega)) (gF_kin f us ds i (k - 1) h1 h2 hi hl (by omega))
theorem form_kin {us ds : List GMsg} (h1 : Norms us) (h2 : Norms ds) {i k : Nat} (hi : 1 ≤ i) (hl : i ≤ us.length) (hk : k ≤ ds.length) : Kin (form us ds i k) (gmsg us i).op := gF_kin _ _ _ _ _ h1 h2 hi hl hk
theorem Kin.wput {a o : ROp} (h : Kin a o) (b : UInt8) : wput b a = Go.Proofs.Ytemkgikncmhoaaa.wput b o := by
  unfold Go.Proofs.Ytemkgikncmhoaaa.wput
  rcases h with ⟨g1, g2⟩ | ⟨g1, g2⟩
  · rw [g1, g2]
  · rw [if_neg (fun q => by rw [g2] at q; simp at q), if_neg (fun q => g1 q.1)]
theorem Kin.wp {a o : ROp} (h : Kin a o) : wp a = Go.Proofs.Ytemkgikncmhoaaa.wp o := by
  unfold Go.Proofs.Ytemkgikncmhoaaa.wp
  rcases h with ⟨g1, g2⟩ | ⟨g1, g2⟩
  · rw [g1]
  · rw [if_neg (by rw [g2]; decide), if_neg g1]
theorem Kin.wc {a o : ROp} (h : Kin a o) : wc a ≤ Go.Proofs.Ytemkgikncmhoaaa.wc o := by
  unfold Go.Proofs.Ytemkgikncmhoaaa.wc
  rcases h with ⟨g1, g2⟩ | ⟨g1, g2⟩
  · rw [g1]; exact Nat.le_refl _
  · rw [if_neg (by rw [g2]; decide)]; exact Nat.zero_le _

/-! ### What an operation does to the count -/
theorem does_count (o : ROp) (s : List UInt8) (b : UInt8) : (o.does s).count b ≤ s.count b + wput b o := by
  unfold ROp.does wput
  by_cases h1 : o.verb = 1
  · rw [if_pos h1]
    have hc : s.count b = (s.take o.place.toNat).count b + (s.drop o.place.toNat).count b := by rw [← List.count_append, List.take_append_drop]
    rw [List.count_append, List.count_append, hc]
    by_cases hb : byteOf o.letter = b
    · rw [if_pos ⟨h1, hb⟩, hb]; simp; omega
    · rw [if_neg (fun q => hb q.2)]
      rw [List.count_singleton, if_neg (by simpa using hb)]
      omega
  · rw [if_neg h1]
    by_cases h2 : o.verb = 2
    · rw [if_pos h2]
      refine Nat.le_trans ?_ (Nat.le_add_right _ _)
      rw [List.count_append]
      have hc : s.count b = (s.take o.place.toNat).count b + (s.drop o.place.toNat).count b := by rw [← List.count_append, List.take_append_drop]
      rw [hc]
      have : ((s.drop (o.place.toNat + 1))).count b ≤ (s.drop o.place.toNat).count b := by
        rw [show s.drop (o.place.toNat + 1) = (s.drop o.place.toNat).drop 1 by rw [List.drop_drop]]
        exact (List.drop_sublist _ _).count_le _
      omega
    · rw [if_neg h2]; exact Nat.le_add_right _ _
theorem does_length (o : ROp) (s : List UInt8) (hf : o.fits s.length) : s.length + wp o ≤ (o.does s).length + wc o := by
  unfold wp wc
  rcases hf with h | ⟨h, h1, h2⟩ | ⟨h, h1, h2⟩
  · rw [if_neg (by rw [h]; decide), if_neg (by rw [h]; decide)]
    unfold ROp.does
    rw [if_neg (by rw [h]; decide), if_neg (by rw [h]; decide)]
    omega
  · rw [if_pos h]
    unfold ROp.does
    rw [if_pos h, ins_len _ _ _ (by omega)]
    omega
  · rw [if_neg (by rw [h]; decide), if_pos h]
    unfold ROp.does
    rw [if_neg (by rw [h]; decide), if_pos h, del_len _ _ (by omega)]
    omega
/-- A weight, over the first k messages. -/
def wsumG (f : ROp → Nat) (l : List GMsg) : Nat := (l.map fun g => f g.op).sum
theorem wsumG_push (f : ROp → Nat) (l : List GMsg) (g : GMsg) : wsumG f (l ++ [g]) = wsumG f l + f g.op := by simp [wsumG]
theorem wsumG_take (f : ROp → Nat) (l : List GMsg) {k : Nat} (h1 : 1 ≤ k) (h : k ≤ l.length) : wsumG f (l.take k) = wsumG f (l.take (k - 1)) + f (gmsg l k).op := by
  obtain ⟨j, rfl⟩ : ∃ j, k = j + 1 := ⟨k - 1, by omega⟩
  have hj : j < l.length := by omega
  rw [Nat.add_sub_cancel, List.take_add_one, List.getElem?_eq_getElem hj]
  show wsumG f (l.take j ++ [l[j]]) = _
  rw [wsumG_push]
  unfold gmsg
  rw [List.getD_eq_getElem?_getD, Nat.add_sub_cancel, List.getElem?_eq_getElem hj]
  rfl
theorem wsumG_le (f : ROp → Nat) (l : List GMsg) (k : Nat) : wsumG f (l.take k) ≤ wsumG f l := by
  have : wsumG f l = wsumG f (l.take k) + wsumG f (l.drop k) := by
    unfold wsumG
    rw [← List.sum_append, ← List.map_append, List.take_append_drop]
  omega
section
variable {us ds : List GMsg} {T : Nat → Nat → List UInt8}
theorem Grid.count (h : Grid us ds T) (hu : Norms us) (hd : Norms ds) (b : UInt8) : ∀ n i k, i + k = n → Pt us ds i k → (T i k).count b ≤ wsumG (wput b) (us.take i) + wsumG (wput b) (ds.take k)
  | 0, i, k, e, hp => by
    obtain rfl : i = 0 := by omega
    obtain rfl : k = 0 := by omega
    rw [h.start]; simp
  | n + 1, i, k, e, hp => by
    rcases h.below hp (by omega) with ⟨h1, hq⟩ | ⟨h1, hq⟩
    · have ih := h.count hu hd b n (i - 1) k (by omega) hq
      rw [(h.u i k h1 hp hq).2, wsumG_take _ us h1 hp.li]
      have := does_count (form us ds i k) (T (i - 1) k) b
      rw [(form_kin hu hd h1 hp.li hp.lk).wput b] at this
      omega
    · have ih := h.count hu hd b n i (k - 1) (by omega) hq
      rw [(h.d i k h1 hp hq).2, wsumG_take _ ds h1 hp.lk]
      have := does_count (form ds us k i) (T i (k - 1)) b
      rw [(form_kin hd hu h1 hp.lk hp.li).wput b] at this
      omega
theorem Grid.lower (h : Grid us ds T) (hu : Norms us) (hd : Norms ds) : ∀ n i k, i + k = n → Pt us ds i k → wsumG wp (us.take i) + wsumG wp (ds.take k) ≤ (T i k).length + (wsumG wc (us.take i) + wsumG wc (ds.take k))
  | 0, i, k, e, hp => by
    obtain rfl : i = 0 := by omega
    obtain rfl : k = 0 := by omega
    rw [h.start]; simp [wsumG]
  | n + 1, i, k, e, hp => by
    rcases h.below hp (by omega) with ⟨h1, hq⟩ | ⟨h1, hq⟩
    · have ih := h.lower hu hd n (i - 1) k (by omega) hq
      obtain ⟨hf, he⟩ := h.u i k h1 hp hq
      rw [he, wsumG_take _ us h1 hp.li, wsumG_take wc us h1 hp.li]
      have := does_length (form us ds i k) (T (i - 1) k) hf
      have kin := form_kin hu hd h1 hp.li hp.lk
      rw [kin.wp] at this
      have := kin.wc
      omega
    · have ih := h.lower hu hd n i (k - 1) (by omega) hq
      obtain ⟨hf, he⟩ := h.d i k h1 hp hq
      rw [he, wsumG_take _ ds h1 hp.lk, wsumG_take wc ds h1 hp.lk]
      have := does_length (form ds us k i) (T i (k - 1)) hf
      have kin := form_kin hd hu h1 hp.lk hp.li
      rw [kin.wp] at this
      have := kin.wc
      omega
end

/-! ### A room -/
/-- The weight of what the server has taken. -/
def IRoom.took (X : IRoom) (us : Nat → List GMsg) (f : ROp → Nat) : Nat := wsumG f ((us 0).take (X.tk 0)) + wsumG f ((us 1).take (X.tk 1)) + wsumG f ((us 2).take (X.tk 2)) + wsumG f ((us 3).take (X.tk 3))
/-- What the server told each is what it took of the others. -/
structure CInv (X : IRoom) (us ds : Nat → List GMsg) : Prop where
  put : ∀ b i, i < X.texts.length → wsumG (wput b) (ds i) + wsumG (wput b) ((us i).take (X.tk i)) = X.took us (wput b)
  puts : ∀ i, i < X.texts.length → wsumG wp (ds i) + wsumG wp ((us i).take (X.tk i)) = X.took us wp
  cuts : ∀ i, i < X.texts.length → wsumG wc (ds i) + wsumG wc ((us i).take (X.tk i)) ≤ X.took us wc
  none : ∀ i, X.texts.length ≤ i → us i = []
theorem took_step {X X' : IRoom} {us : Nat → List GMsg} {i : Nat} (f : ROp → Nat) (hi : i < 4) (h1 : X'.tk i = X.tk i + 1) (h2 : ∀ j, j ≠ i → X'.tk j = X.tk j) (hl : X.tk i + 1 ≤ (us i).length) : X'.took us f = X.took us f + f (gmsg (us i) (X.tk i + 1)).op := by
  have a0 := h2 0
  have a1 := h2 1
  have a2 := h2 2
  have a3 := h2 3
  have e := wsumG_take f (us i) (k := X.tk i + 1) (by omega) hl
  rw [Nat.add_sub_cancel] at e
  unfold IRoom.took
  match i, hi with
  | 0, _ => rw [h1, a1 (by decide), a2 (by decide), a3 (by decide), e]; omega
  | 1, _ => rw [h1, a0 (by decide), a2 (by decide), a3 (by decide), e]; omega
  | 2, _ => rw [h1, a0 (by decide), a1 (by decide), a3 (by decide), e]; omega
  | 3, _ => rw [h1, a0 (by decide), a1 (by decide), a2 (by decide), e]; omega
section
variable {X X' : IRoom} {us ds : Nat → List GMsg} {T : Nat → Nat → Nat → List UInt8} {i : Nat}
theorem CInv.same (c : CInv X us ds) (hl : X'.texts.length = X.texts.length) (ht : ∀ j, X'.tk j = X.tk j) : CInv X' us ds := by
  have e : ∀ f, X'.took us f = X.took us f := fun f => by unfold IRoom.took; rw [ht, ht, ht, ht]
  exact ⟨fun b i hi => by rw [e, ht]; exact c.put b i (by omega), fun i hi => by rw [e, ht]; exact c.puts i (by omega), fun i hi => by rw [e, ht]; exact c.cuts i (by omega), fun i hi => c.none i (by omega)⟩
/-- The server takes one. -/
theorem CInv.take (c : CInv X us ds) (hi : i < X.texts.length) (h4 : X.texts.length ≤ 4) {o : ROp} (hl : X'.texts.length = X.texts.length) (h1 : X'.tk i = X.tk i + 1) (h2 : ∀ j, j ≠ i → X'.tk j = X.tk j) (hn : X.tk i + 1 ≤ (us i).length) (hk : Kin o (gmsg (us i) (X.tk i + 1)).op) : CInv X' us (fun j => if j = i then ds i else ds j ++ [⟨X.tk j, o⟩]) := by
  have ts : ∀ f, X'.took us f = X.took us f + f (gmsg (us i) (X.tk i + 1)).op := fun f => took_step f (by omega) h1 h2 hn
  have e : ∀ f, wsumG f ((us i).take (X.tk i + 1)) = wsumG f ((us i).take (X.tk i)) + f (gmsg (us i) (X.tk i + 1)).op := fun f => by
    have := wsumG_take f (us i) (k := X.tk i + 1) (by omega) hn
    rwa [Nat.add_sub_cancel] at this
  refine ⟨fun b j hj => ?_, fun j hj => ?_, fun j hj => ?_, fun j hj => c.none j (by omega)⟩
  · rw [hl] at hj
    rw [ts]
    have := c.put b j hj
    by_cases hji : j = i
    · subst hji; rw [if_pos rfl, h1, e]; omega
    · rw [if_neg hji, h2 j hji, wsumG_push, hk.wput b]; omega
  · rw [hl] at hj
    rw [ts]
    have := c.puts j hj
    by_cases hji : j = i
    · subst hji; rw [if_pos rfl, h1, e]; omega
    · rw [if_neg hji, h2 j hji, wsumG_push, hk.wp]; omega
  · rw [hl] at hj
    rw [ts]
    have := c.cuts j hj
    by_cases hji : j = i
    · subst hji; rw [if_pos rfl, h1, e]; omega
    · rw [if_neg hji, h2 j hji, wsumG_push]
      dsimp only
      have := hk.wc
      omega
end
end Go.Proofs.Ytemkgikncmhoaaa

/-
  weavekeep: settle. Own work.
-/
namespace Go.Proofs.Ytemkgikncmhoaaa
open Go.RowKit
attribute [local go_sem ↓] Go.wp_at_zero Go.wp_at_succ

theorem FlAt.flush {own own1 : Nat → Tag} {w wr : World} {rb b : Nat} {Z : IRoom} (h : FlAt own w rb b own1 wr Z) :
    Calls Try.prog 24 #[.pointer (some ⟨rb, 0, none⟩)] wr fun e w' => e = .returned (.bool true) ∧ ∃ own' Y, FlAt own w rb b own' w' Y ∧ Turns Z Y ∧ Y.Still := by
  refine (kflush own1 wr rb b Z h.room).mono ?_
  rintro e w' ⟨rfl, own', Y, a1, a2, a3, a4⟩
  exact ⟨rfl, own', Y, ⟨a1, h.upd.trans a2⟩, a3, a4⟩
theorem ticked_len {X : IRoom} (h : Fit X) {c : Nat} (hc : c ≤ X.texts.length) : (X.ticked c).texts.length = X.texts.length := by rw [(h.ticked c hc).texts]

set_option maxRecDepth 100000 in
set_option maxHeartbeats 1600000 in
theorem ksettle (own : Nat → Tag) (w : World) (rb b : Nat) (X : IRoom) (R : Nat) (hR : R ≤ 1000) (h : KRoom own w rb b X) :
    Calls Try.prog 16 #[.pointer (some ⟨rb, 0, none⟩), .int .i64 R] w fun e w' => e = .returned (.bool true) ∧ ∃ own' Y, KRoom own' w' rb b Y ∧ Upd own own' (inRoom 1) w w' ∧ Settles X R Y := by
  have HX := hide h.fit
  have hn4 := h.fit.num
  have HF0 : Hid (Calls Try.prog 24 #[.pointer (some ⟨rb, 0, none⟩)] w fun e w' => e = .returned (.bool true) ∧ ∃ own' Y, FlAt own w rb b own' w' Y ∧ Settles X 0 Y) := by
    apply hide
    refine (FlAt.flush (own := own) (w := w) ⟨h, Upd.refl _ _ _⟩).mono ?_
    rintro e w' ⟨rfl, own', Y, a1, a2, a3⟩
    exact ⟨rfl, own', Y, a1, .start a2 a3⟩
  generalize hN : X.texts.length = N at *
  have HN := hide hN
  clear h hN
  go_enter Try.func16, Try.ntmps16
  go_wp2_with (first | (go_at_call 24; with_reducible refine (unhide HF0).mono ?_; rintro e w1 ⟨rfl, hw1⟩))
  obtain ⟨own1, Y1, hY1, hS1⟩ := hw1
  go_loopw [5, 6] (fun v4 v5 wr => ∃ (i : Nat) (own1 : Nat → Tag) (Y : IRoom), i ≤ R ∧ v5 = .int .i64 i ∧ v4 = .bool true ∧ FlAt own w rb b own1 wr Y ∧ Settles X i Y) (fun v4 v5 _ => R - (intOf v5).toNat)
  case atStart => exact ⟨0, own1, Y1, by omega, rfl, rfl, hY1, hS1⟩
  case round =>
    clear hY1 hS1
    obtain ⟨i, own2, Y, hi, rfl, rfl, hY, hS⟩ := hrel
    have hYN : Y.texts.length = N := (hS.fit (unhide HX)).2.2.1.trans (unhide HN)
    have HY := hide hY
    have HS := hide hS
    have HYN := hide hYN
    have HYF : Hid (Fit Y) := hide hY.room.fit
    clear hY hS hYN
    by_cases hlt : i < R
    · have hlt' : (i : Int) < (R : Int) := by omega
      go_wp2_with fail
      go_loopw [7] (fun v6 w2 => ∃ (c : Nat) (own3 : Nat → Tag), c ≤ N ∧ v6 = .int .i64 c ∧ FlAt own w rb b own3 w2 (Y.ticked c)) (fun v6 _ => N - (intOf v6).toNat)
      case atStart => exact ⟨0, own2, by omega, rfl, unhide HY⟩
      case round =>
        obtain ⟨c, own3, hc, rfl, hZ⟩ := hrel
        have hcl : c ≤ Y.texts.length := by rw [unhide HYN]; exact hc
        have hZN : (Y.ticked c).texts.length = N := (ticked_len (unhide HYF) hcl).trans (unhide HYN)
        have c0 := hZ.room.c0
        have c1 := hZ.room.c1
        rw [hZN] at c1
        by_cases hlt2 : c < N
        · have hlt2' : (c : Int) < (N : Int) := by omega
          have hcz : c < (Y.ticked c).texts.length := by omega
          have HT0 : Hid (Calls Try.prog 34 #[.pointer (some ⟨b, 0, none⟩), .int .i64 c, .bool false] wr fun e w' => e = .returned (.int .i64 0) ∧ ∃ own4, FlAt own w rb b own4 w' ((Y.ticked c).tickA c)) := by
            apply hide
            refine (kTick_0 (i := c) hZ.room.room hZ.room.fit hcz).mono ?_
            rintro e w' ⟨rfl, a⟩
            obtain ⟨own4, a'⟩ := hZ.after a (hZ.room.fit.tickA hcz) (by rw [(hZ.room.fit.tickA' hcz).texts])
            exact ⟨rfl, own4, a'⟩
          have HT1 : Hid (∀ w4 own4, FlAt own w rb b own4 w4 ((Y.ticked c).tickA c) → w4.cell? ⟨rb, 0, none⟩ = some (.pointer (some ⟨b, 0, none⟩)) ∧ Calls Try.prog 34 #[.pointer (some ⟨b, 0, none⟩), .int .i64 c, .bool true] w4 fun e w' => e = .returned (.int .i64 0) ∧ ∃ own5, FlAt own w rb b own5 w' (Y.ticked (c + 1))) := by
            apply hide
            intro w4 own4 h4
            have hcz2 : c < ((Y.ticked c).tickA c).texts.length := by rw [(hZ.room.fit.tickA' hcz).texts]; exact hcz
            refine ⟨h4.room.c0, (kTick_1 (i := c) h4.room.room h4.room.fit hcz2).mono ?_⟩
            rintro e w' ⟨rfl, a⟩
            obtain ⟨own5, a'⟩ := h4.after a (h4.room.fit.tickB hcz2) (by rw [(h4.room.fit.tickB' hcz2).texts])
            exact ⟨rfl, own5, a'⟩
          clear hZ hZN
          go_wp2_with (first | (go_at_call 34; with_reducible refine (unhide HT0).mono ?_; rintro e w4 ⟨rfl, own4, h4⟩; obtain ⟨d0, HT2⟩ := unhide HT1 w4 own4 h4; replace HT2 := hide HT2; clear h4) | (go_at_call 34; with_reducible refine (unhide HT2).mono ?_; rintro e w5 ⟨rfl, own5, h5⟩))
          go_roundw
          case rel => exact ⟨c + 1, own5, by omega, by go_num, h5⟩
          case measure => simp [intOf]; omega
        · have hlt2' : ¬ (c : Int) < (N : Int) := by omega
          have HF1 : Hid (Calls Try.prog 24 #[.pointer (some ⟨rb, 0, none⟩)] wr fun e w' => e = .returned (.bool true) ∧ ∃ own' Z, FlAt own w rb b own' w' Z ∧ Settles X (i + 1) Z) := by
            apply hide
            obtain rfl : c = Y.texts.length := by have := unhide HYN; omega
            refine hZ.flush.mono ?_
            rintro e w' ⟨rfl, own', Z, a1, a2, a3⟩
            exact ⟨rfl, own', Z, a1, .round (unhide HS) a2 a3⟩
          clear hZ hZN
          go_wp2_with (first | (go_at_call 24; with_reducible refine (unhide HF1).mono ?_; rintro e w4 ⟨rfl, hw4⟩))
          go_roundw
          case rel =>
            obtain ⟨own4, Z, a1, a2⟩ := hw4
            exact ⟨i + 1, own4, Z, by omega, by go_num, rfl, a1, a2⟩
          case measure => simp [intOf]; omega
    · have hlt' : ¬ (i : Int) < (R : Int) := by omega
      obtain rfl : i = R := by omega
      go_wp2_with fail
      go_ret
      exact ⟨rfl, own2, Y, (unhide HY).room, (unhide HY).upd, unhide HS⟩
end Go.Proofs.Ytemkgikncmhoaaa

