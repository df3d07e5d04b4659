import Derived.Test.YtemkgikncmhoaaaM24
import Derived.Test.YtemkgikncmhoaaaM25
import Derived.Test.YtemkgikncmhoaaaM26
namespace Go.Proofs.Ytemkgikncmhoaaa
open Go.RowKit

theorem bytes_int {xs : List Int} (h : Bytes xs) {k : Nat} {x : Int} (hx : xs[k]? = some x) : ((byteOf x).toNat : Int) = x := by
 have hk := h k
 simp only [List.getD, hx, Option.getD_some] at hk
 simp [byteOf]
 omega
theorem sum_bytes (xs : List Int) (n : Nat) : ((byteOf (sumTo xs n % 251)).toNat : Int) = sumTo xs n % 251 := by
 simp [byteOf]
 omega
theorem wsum_bytes (xs : List Int) (n : Nat) : ((byteOf (wsumTo xs n % 251)).toNat : Int) = wsumTo xs n % 251 := by
 simp [byteOf]
 omega

/-- How a message's datagram is read. -/
theorem reads_msg (m : IMsg) (tk : Nat) (h : Bytes (m.bytes tk)) :
  (∀ w, Calls Try.prog 86 #[.string (ckd (m.bytes tk))] w fun e w' => e = .returned (.bool true) ∧ Below w.heap.size w w') ∧
  (∀ w, Calls Try.prog 88 #[.string (ckd (m.bytes tk))] w fun e w' => e = .returned (.int .i64 tk) ∧ w' = w) ∧
  (∀ w, Calls Try.prog 89 #[.string (ckd (m.bytes tk))] w fun e w' => e = .returned (.bool true) ∧ w' = w) ∧
  (∀ w, Calls Try.prog 91 #[.string (ckd (m.bytes tk))] w fun e w' => e = .returned (.agg #[Value.int IntKind.i64 m.number, Value.int IntKind.i64 m.ctx, Value.int IntKind.i64 m.op.client, Value.int IntKind.i64 m.op.verb, Value.int IntKind.i64 m.op.place, Value.int IntKind.u8 m.op.letter]) ∧ Below w.heap.size w w') ∧
  (∀ w, Calls Try.prog 77 #[.string (ckd (m.bytes tk))] w fun e w' => e = .returned (.bool false) ∧ w' = w) ∧
  (∀ w, Calls Try.prog 78 #[.string (ckd (m.bytes tk))] w fun e w' => e = .returned (.string (spoil (ckd (m.bytes tk)))) ∧ Below w.heap.size w w') ∧
  (∀ w, Calls Try.prog 86 #[.string (spoil (ckd (m.bytes tk)))] w fun e w' => e = .returned (.bool false) ∧ w' = w) ∧
  (∀ w, Calls Try.prog 77 #[.string (spoil (ckd (m.bytes tk)))] w fun e w' => e = .returned (.bool true) ∧ w' = w) := by
 obtain ⟨c0, hc0⟩ : ∃ c, c = byteOf (sumTo (m.bytes tk) 8 % 251) := ⟨_, rfl⟩
 obtain ⟨c1, hc1⟩ : ∃ c, c = byteOf (wsumTo (m.bytes tk) 8 % 251) := ⟨_, rfl⟩
 have hd : ckd (m.bytes tk) = ⟨#[byteOf 1, byteOf m.number, byteOf m.ctx, byteOf tk, byteOf m.op.client, byteOf m.op.verb, byteOf m.op.place, byteOf m.op.letter, c0, c1]⟩ := by rw [hc0, hc1]; rfl
 have hs : spoil (ckd (m.bytes tk)) = ⟨#[255 - byteOf 1, byteOf m.number, byteOf m.ctx, byteOf tk, byteOf m.op.client, byteOf m.op.verb, byteOf m.op.place, byteOf m.op.letter, c0, c1]⟩ := by rw [hd]; rfl
 have x0 : ((byteOf 1).toNat : Int) = 1 := by decide
 have y0 : ((255 - byteOf 1).toNat : Int) = 254 := by decide
 have x1 : ((byteOf m.number).toNat : Int) = m.number := bytes_int h (k := 1) rfl
 have x2 : ((byteOf m.ctx).toNat : Int) = m.ctx := bytes_int h (k := 2) rfl
 have x3 : ((byteOf tk).toNat : Int) = tk := bytes_int h (k := 3) rfl
 have x4 : ((byteOf m.op.client).toNat : Int) = m.op.client := bytes_int h (k := 4) rfl
 have x5 : ((byteOf m.op.verb).toNat : Int) = m.op.verb := bytes_int h (k := 5) rfl
 have x6 : ((byteOf m.op.place).toNat : Int) = m.op.place := bytes_int h (k := 6) rfl
 have x7 : ((byteOf m.op.letter).toNat : Int) = m.op.letter := bytes_int h (k := 7) rfl
 have z0 : (c0.toNat : Int) = sumTo (m.bytes tk) 8 % 251 := by rw [hc0]; exact sum_bytes _ 8
 have z1 : (c1.toNat : Int) = wsumTo (m.bytes tk) 8 % 251 := by rw [hc1]; exact wsum_bytes _ 8
 rw [hs, hd]
 refine ⟨fun w => ?_, fun w => ?_, fun w => ?_, fun w => ?_, fun w => ?_, fun w => ?_, fun w => ?_, fun w => ?_⟩
 ·have := xwell10 (byteOf 1) (byteOf m.number) (byteOf m.ctx) (byteOf tk) (byteOf m.op.client) (byteOf m.op.verb) (byteOf m.op.place) (byteOf m.op.letter) c0 c1 w x0
  rw [x0, x1, x2, x3, x4, x5, x6, x7, z0, z1] at this
  simpa [IMsg.bytes] using this
 ·have := xtaken10 (byteOf 1) (byteOf m.number) (byteOf m.ctx) (byteOf tk) (byteOf m.op.client) (byteOf m.op.verb) (byteOf m.op.place) (byteOf m.op.letter) c0 c1 w (by decide)
  rwa [x3] at this
 ·exact xisMessage10 (byteOf 1) (byteOf m.number) (byteOf m.ctx) (byteOf tk) (byteOf m.op.client) (byteOf m.op.verb) (byteOf m.op.place) (byteOf m.op.letter) c0 c1 w
 ·have := xmessage10 (byteOf 1) (byteOf m.number) (byteOf m.ctx) (byteOf tk) (byteOf m.op.client) (byteOf m.op.verb) (byteOf m.op.place) (byteOf m.op.letter) c0 c1 w
  rwa [x1, x2, x4, x5, x6, x7] at this
 ·exact xspoilt10 (byteOf 1) (byteOf m.number) (byteOf m.ctx) (byteOf tk) (byteOf m.op.client) (byteOf m.op.verb) (byteOf m.op.place) (byteOf m.op.letter) c0 c1 w
 ·exact xspoil10 (byteOf 1) (byteOf m.number) (byteOf m.ctx) (byteOf tk) (byteOf m.op.client) (byteOf m.op.verb) (byteOf m.op.place) (byteOf m.op.letter) c0 c1 w
 ·exact xbad10 (255 - byteOf 1) (byteOf m.number) (byteOf m.ctx) (byteOf tk) (byteOf m.op.client) (byteOf m.op.verb) (byteOf m.op.place) (byteOf m.op.letter) c0 c1 w (by rw [y0]; decide)
 ·exact xspoilt10 (255 - byteOf 1) (byteOf m.number) (byteOf m.ctx) (byteOf tk) (byteOf m.op.client) (byteOf m.op.verb) (byteOf m.op.place) (byteOf m.op.letter) c0 c1 w

/-- How a word is read. -/
theorem reads_word (tk : Nat) (h : tk ≤ 255) :
  (∀ w, Calls Try.prog 86 #[.string (ckd [2, (tk : Int)])] w fun e w' => e = .returned (.bool true) ∧ Below w.heap.size w w') ∧
  (∀ w, Calls Try.prog 88 #[.string (ckd [2, (tk : Int)])] w fun e w' => e = .returned (.int .i64 tk) ∧ w' = w) ∧
  (∀ w, Calls Try.prog 89 #[.string (ckd [2, (tk : Int)])] w fun e w' => e = .returned (.bool false) ∧ w' = w) ∧
  (∀ w, Calls Try.prog 77 #[.string (ckd [2, (tk : Int)])] w fun e w' => e = .returned (.bool false) ∧ w' = w) ∧
  (∀ w, Calls Try.prog 78 #[.string (ckd [2, (tk : Int)])] w fun e w' => e = .returned (.string (spoil (ckd [2, (tk : Int)]))) ∧ Below w.heap.size w w') ∧
  (∀ w, Calls Try.prog 86 #[.string (spoil (ckd [2, (tk : Int)]))] w fun e w' => e = .returned (.bool false) ∧ w' = w) ∧
  (∀ w, Calls Try.prog 77 #[.string (spoil (ckd [2, (tk : Int)]))] w fun e w' => e = .returned (.bool true) ∧ w' = w) := by
 obtain ⟨c0, hc0⟩ : ∃ c, c = byteOf (sumTo [2, (tk : Int)] 2 % 251) := ⟨_, rfl⟩
 obtain ⟨c1, hc1⟩ : ∃ c, c = byteOf (wsumTo [2, (tk : Int)] 2 % 251) := ⟨_, rfl⟩
 have hd : ckd [2, (tk : Int)] = ⟨#[byteOf 2, byteOf tk, c0, c1]⟩ := by rw [hc0, hc1]; rfl
 have hs : spoil (ckd [2, (tk : Int)]) = ⟨#[255 - byteOf 2, byteOf tk, c0, c1]⟩ := by rw [hd]; rfl
 have x0 : ((byteOf 2).toNat : Int) = 2 := by decide
 have y0 : ((255 - byteOf 2).toNat : Int) = 253 := by decide
 have x1 : ((byteOf tk).toNat : Int) = tk := by simp [byteOf]; omega
 have z0 : (c0.toNat : Int) = sumTo [2, (tk : Int)] 2 % 251 := by rw [hc0]; simp [byteOf]; omega
 have z1 : (c1.toNat : Int) = wsumTo [2, (tk : Int)] 2 % 251 := by rw [hc1]; simp [byteOf]; omega
 rw [hs, hd]
 refine ⟨fun w => ?_, fun w => ?_, fun w => ?_, fun w => ?_, fun w => ?_, fun w => ?_, fun w => ?_⟩
 ·have := xwell4 (byteOf 2) (byteOf tk) c0 c1 w x0
  rw [x0, x1, z0, z1] at this
  simpa using this
 ·have := xtaken4 (byteOf 2) (byteOf tk) c0 c1 w (by decide)
  rwa [x1] at this
 ·exact xisMessage4 (byteOf 2) (byteOf tk) c0 c1 w
 ·exact xspoilt4 (byteOf 2) (byteOf tk) c0 c1 w
 ·exact xspoil4 (byteOf 2) (byteOf tk) c0 c1 w
 ·exact xbad4 (255 - byteOf 2) (byteOf tk) c0 c1 w (by rw [y0]; decide)
 ·exact xspoilt4 (255 - byteOf 2) (byteOf tk) c0 c1 w
end Go.Proofs.Ytemkgikncmhoaaa

namespace Go.Proofs.Ytemkgikncmhoaaa

theorem Half.fl {own oth : List GMsg} {E : IEnd} (h : Half own oth E) (fl : List ByteArray) (h1 : fl.length ≤ 12) (h2 : ∀ d ∈ fl, Flies own E.taken d) : Half own oth { E with flying := fl } :=
 ⟨h.kn, h.wait, h.tk, h.ctx, h.seen, h.opn, h.kept, h.kept1, h1, h2⟩
theorem Half.lose {own oth : List GMsg} {E : IEnd} (h : Half own oth E) (n : Nat) : Half own oth (E.lose n) := by
 refine h.fl _ ?_ fun d hd => ?_
 ·have := h.fly
  simp
  omega
 ·rcases List.mem_append.1 hd with hd | hd
  ·exact h.flies d (List.mem_of_mem_take hd)
  ·exact h.flies d (List.mem_of_mem_drop hd)
theorem Half.double {own oth : List GMsg} {E : IEnd} (h : Half own oth E) {d : ByteArray} (hd : d ∈ E.flying) : Half own oth (E.fly d) := by
 unfold IEnd.fly
 split
 ·refine h.fl _ (by simp; omega) fun q hq => ?_
  rcases List.mem_append.1 hq with hq | hq
  ·exact h.flies q hq
  ·rw [List.mem_singleton.1 hq]
   exact h.flies d hd
 ·exact h
theorem Half.spoil {own oth : List GMsg} {E : IEnd} (h : Half own oth E) {d : ByteArray} (n : Nat) (hd : Dgm own E.taken d) : Half own oth { E with flying := E.flying.set n (Go.Proofs.Ytemkgikncmhoaaa.spoil d) } := by
 refine h.fl _ (by simpa using h.fly) fun q hq => ?_
 rcases List.mem_or_eq_of_mem_set hq with hq | rfl
 ·exact h.flies q hq
 ·exact .inr ⟨d, hd, rfl⟩

section
variable {X : IRoom} {us ds : Nat → List GMsg} {T : Nat → Nat → Nat → List UInt8}
theorem RInv.turnA (h : RInv X us ds T) {i : Nat} {t : List UInt8} {E S E' : IEnd} (h1 : X.texts[i]? = some t) (h2 : X.ends[i]? = some E) (h3 : X.sends[i]? = some S) (hE : Half (us i) (ds i) E → Half (us i) (ds i) E') (k1 : E'.taken = E.taken) (k2 : E'.known = E.known) : RInv (X.setA i t E') us ds T := by
 obtain ⟨hl, _⟩ := h.line i t E S h1 h2 h3
 exact h.setE h1 h2 h3 (hE hl.a) k1 (by rw [k2]; exact hl.ka) (by rw [k2]; exact Nat.le_refl _)
theorem RInv.turnB (h : RInv X us ds T) {i : Nat} {t : List UInt8} {E S S' : IEnd} (h1 : X.texts[i]? = some t) (h2 : X.ends[i]? = some E) (h3 : X.sends[i]? = some S) (hS : Half (ds i) (us i) S → Half (ds i) (us i) S') (k1 : S'.taken = S.taken) (k2 : S'.known = S.known) : RInv (X.setB i S') us ds T := by
 obtain ⟨hl, _⟩ := h.line i t E S h1 h2 h3
 exact h.setS h1 h2 h3 (hS hl.b) k1 (by rw [k2]; exact hl.kb)
theorem RInv.loseA (h : RInv X us ds T) {i : Nat} {t : List UInt8} {E S : IEnd} (h1 : X.texts[i]? = some t) (h2 : X.ends[i]? = some E) (h3 : X.sends[i]? = some S) (n : Nat) : RInv (X.setA i t (E.lose n)) us ds T :=
 h.turnA h1 h2 h3 (fun q => q.lose n) rfl rfl
theorem RInv.loseB (h : RInv X us ds T) {i : Nat} {t : List UInt8} {E S : IEnd} (h1 : X.texts[i]? = some t) (h2 : X.ends[i]? = some E) (h3 : X.sends[i]? = some S) (n : Nat) : RInv (X.setB i (S.lose n)) us ds T :=
 h.turnB h1 h2 h3 (fun q => q.lose n) rfl rfl
end
end Go.Proofs.Ytemkgikncmhoaaa

namespace Go.Proofs.Ytemkgikncmhoaaa
open Go.RowKit
attribute [local go_sem ↓] Go.wp_at_zero Go.wp_at_succ

set_option maxRecDepth 100000 in
set_option maxHeartbeats 1600000 in
theorem xarr_word_0 (A : RAddr) (own : Nat → Tag) (rid b : Nat) (X : IRoom) (us ds : Nat → List GMsg) (T : Nat → Nat → Nat → List UInt8) (hI : RInv X us ds T) (i : Nat) (t : List UInt8) (E S : IEnd) (d : ByteArray) (tk : Nat) (w : World) (h : RoomF A own rid w b X) (ht : X.texts[i]? = some t) (hE : X.ends[i]? = some E) (hS : X.sends[i]? = some S) (hwf : ∀ w, Calls Try.prog 86 #[.string d] w fun e w' => e = .returned (.bool true) ∧ Below w.heap.size w w') (htk : ∀ w, Calls Try.prog 88 #[.string d] w fun e w' => e = .returned (.int .i64 tk) ∧ w' = w) (hism : ∀ w, Calls Try.prog 89 #[.string d] w fun e w' => e = .returned (.bool false) ∧ w' = w) :
  Calls Try.prog 74 #[.pointer (some ⟨b, 0, none⟩), .agg #[.int .i64 i, .bool false], .string d] w fun e w' => e = .returned (.tuple #[]) ∧ ∃ own', RoomF A own' rid w' b (X.arriveA i tk none) ∧ Upd own own' (inRoom rid) w w' := by
 have V : Upd own (retag own w.heap.size (rid + 1, 0, 12)) (fun _ => False) w (w.alloc (Obj.cells #[Value.int IntKind.i64 i, Value.bool false] 80)) := Upd.retag ((Upd.refl own (fun _ => False) w).alloc _) _ _ (Nat.le_refl _)
 have CA := CellsT.new w #[Value.int IntKind.i64 i, Value.bool false] 80 own (rid + 1, 0, 12)
 have hR1 := h.upd V (fun _ _ h => h)
 have hi4 : i < 4 := by have := hI.n4; have := (List.getElem?_eq_some_iff.1 ht).1; omega
 have HWF := hide (hwf (w.alloc (Obj.cells #[Value.int IntKind.i64 i, Value.bool false] 80)))
 have HTK := hide htk
 have HISM := hide hism
 obtain ⟨wb, wm, wt, wfl⟩ := hI.waitA ht hE hS
 have hw4 := hI.w4
 go_enter Try.func74, Try.ntmps74
 go_wp2_with (first | (go_at_call 86; with_reducible refine (unhide HWF).mono ?_; rintro e w1 ⟨rfl, hb1⟩))
 have U1 := Upd.of_below (retag own w.heap.size (rid + 1, 0, 12)) (fun _ => False) hb1
 have R2 := hR1.upd U1 (fun _ _ h => h)
 have C2 := CA.upd U1 (fun h => h)
 have T2 : Upd own (retag own w.heap.size (rid + 1, 0, 12)) (inRoom rid) w w1 := (V.trans U1).mono fun _ h => h.elim
 clear V CA hR1 h hwf htk hism HWF U1 hb1
 generalize retag own w.heap.size (rid + 1, 0, 12) = own1 at *
 obtain ⟨N, HN⟩ : ∃ N, Hid (w.heap.size = N) := ⟨_, rfl⟩
 rw [unhide HN] at C2 ⊢
 obtain ⟨mb, eb, sb, tbi, tb, O⟩ := R2.opened ht hE hS
 obtain ⟨hae, _, _, _⟩ := O.at_
 have c1 := O.c1
 have lk0 := O.lk0w w1.drew rfl
 have a0 := C2.cell 0
 have a1 := C2.cell 1
 simp only [List.getElem?_toArray, List.getElem?_cons_zero, List.getElem?_cons_succ] at a0 a1
 have HLEARN : Hid (Calls Try.prog 87 #[.pointer (some ⟨eb, 0, none⟩), .int .i64 tk] w1.drew fun e w2 => e = .returned (.tuple #[]) ∧ Hid (∃ own2, RoomF A own2 rid w2 b (X.setA i t (E.learn X.window tk)) ∧ Upd own own2 (inRoom rid) w w2 ∧ CellsT own2 (rid + 1, 0, 12) w2 N #[Value.int IntKind.i64 i, Value.bool false] 80)) := by
  apply hide
  have U : Upd own1 own1 (fun _ => False) w1 w1.drew := (Upd.refl own1 _ w1).drew
  refine (xlearn own1 rid (2 * i) eb tbi X.window tk E w1.drew (O.hE.upd U (fun _ _ _ h => h)) (by omega) hw4 wfl wb).mono ?_
  rintro e w2 ⟨rfl, own2, a1, a2⟩
  have a2' := (U.mono (may' := inEnd rid (2 * i)) fun _ h => h.elim).trans a2
  exact ⟨rfl, hide ⟨own2, O.setE a2' a1, T2.trans (a2'.mono fun _ h => h.1), C2.upd a2' (fun h => absurd h.1 (by simp))⟩⟩
 have HX : Hid (X.arriveA i tk none = (X.setA i t (E.learn X.window tk))) := by apply hide; unfold IRoom.arriveA; simp only [ht, hE]; rfl
 clear O R2 C2 T2
 go_region_held3 (fun w' => w'.cell? ⟨b, 1, none⟩ = some (.map (some mb)) ∧ w'.cell? ⟨N, 0, none⟩ = some (.int .i64 i) ∧ w'.cell? ⟨N, 1, none⟩ = some (.bool false)) (first | exact ⟨c1, a0, a1⟩) (fail)
 all_goals go_wp2_with (first | (go_at_call 88; with_reducible refine (unhide HTK _).mono ?_; rintro e w2 ⟨rfl, hw2⟩; obtain rfl := hw2.symm) | (go_at_call 87; with_reducible refine (unhide HLEARN).mono ?_; rintro e w2 ⟨rfl, hst⟩) | (go_at_call 89; with_reducible refine (unhide HISM _).mono ?_; rintro e w3 ⟨rfl, hw3⟩; obtain rfl := hw3.symm))
 all_goals
  obtain ⟨own2, z1, z2, _⟩ := unhide hst
  exact bodyPost_ret (results_none rfl _ _ _) rfl ⟨rfl, own2, by rw [unhide HX]; exact z1, z2⟩

set_option maxRecDepth 100000 in
set_option maxHeartbeats 1600000 in
theorem xarr_msg_0 (A : RAddr) (own : Nat → Tag) (rid b : Nat) (X : IRoom) (us ds : Nat → List GMsg) (T : Nat → Nat → Nat → List UInt8) (hI : RInv X us ds T) (i : Nat) (t : List UInt8) (E S : IEnd) (d : ByteArray) (tk : Nat) (w : World) (h : RoomF A own rid w b X) (ht : X.texts[i]? = some t) (hE : X.ends[i]? = some E) (hS : X.sends[i]? = some S) (m : IMsg) (hwf : ∀ w, Calls Try.prog 86 #[.string d] w fun e w' => e = .returned (.bool true) ∧ Below w.heap.size w w') (htk : ∀ w, Calls Try.prog 88 #[.string d] w fun e w' => e = .returned (.int .i64 tk) ∧ w' = w) (hism : ∀ w, Calls Try.prog 89 #[.string d] w fun e w' => e = .returned (.bool true) ∧ w' = w)
  (hmsg : ∀ w, Calls Try.prog 91 #[.string d] w fun e w' => e = .returned (.agg #[Value.int IntKind.i64 m.number, Value.int IntKind.i64 m.ctx, Value.int IntKind.i64 m.op.client, Value.int IntKind.i64 m.op.verb, Value.int IntKind.i64 m.op.place, Value.int IntKind.u8 m.op.letter]) ∧ Below w.heap.size w w') (htl : tk ≤ S.taken) (hmn : ∃ n, 1 ≤ n ∧ n ≤ (ds i).length ∧ m = imsg (ds i) n) :
  Calls Try.prog 74 #[.pointer (some ⟨b, 0, none⟩), .agg #[.int .i64 i, .bool false], .string d] w fun e w' => e = .returned (.tuple #[]) ∧ ∃ own', RoomF A own' rid w' b (X.arriveA i tk (some m)) ∧ Upd own own' (inRoom rid) w w' := by
 have HMSG := hide hmsg
 clear hmsg
 have V : Upd own (retag own w.heap.size (rid + 1, 0, 12)) (fun _ => False) w (w.alloc (Obj.cells #[Value.int IntKind.i64 i, Value.bool false] 80)) := Upd.retag ((Upd.refl own (fun _ => False) w).alloc _) _ _ (Nat.le_refl _)
 have CA := CellsT.new w #[Value.int IntKind.i64 i, Value.bool false] 80 own (rid + 1, 0, 12)
 have hR1 := h.upd V (fun _ _ h => h)
 have hi4 : i < 4 := by have := hI.n4; have := (List.getElem?_eq_some_iff.1 ht).1; omega
 have HWF := hide (hwf (w.alloc (Obj.cells #[Value.int IntKind.i64 i, Value.bool false] 80)))
 have HTK := hide htk
 have HISM := hide hism
 obtain ⟨wb, wm, wt, wfl⟩ := hI.waitA ht hE hS
 have hw4 := hI.w4
 go_enter Try.func74, Try.ntmps74
 go_wp2_with (first | (go_at_call 86; with_reducible refine (unhide HWF).mono ?_; rintro e w1 ⟨rfl, hb1⟩))
 have U1 := Upd.of_below (retag own w.heap.size (rid + 1, 0, 12)) (fun _ => False) hb1
 have R2 := hR1.upd U1 (fun _ _ h => h)
 have C2 := CA.upd U1 (fun h => h)
 have T2 : Upd own (retag own w.heap.size (rid + 1, 0, 12)) (inRoom rid) w w1 := (V.trans U1).mono fun _ h => h.elim
 clear V CA hR1 h hwf htk hism HWF U1 hb1
 generalize retag own w.heap.size (rid + 1, 0, 12) = own1 at *
 obtain ⟨N, HN⟩ : ∃ N, Hid (w.heap.size = N) := ⟨_, rfl⟩
 rw [unhide HN] at C2 ⊢
 obtain ⟨mb, eb, sb, tbi, tb, O⟩ := R2.opened ht hE hS
 obtain ⟨hae, _, _, _⟩ := O.at_
 have c1 := O.c1
 have lk0 := O.lk0w w1.drew rfl
 have a0 := C2.cell 0
 have a1 := C2.cell 1
 simp only [List.getElem?_toArray, List.getElem?_cons_zero, List.getElem?_cons_succ] at a0 a1
 have HLEARN : Hid (Calls Try.prog 87 #[.pointer (some ⟨eb, 0, none⟩), .int .i64 tk] w1.drew fun e w2 => e = .returned (.tuple #[]) ∧ Hid (∃ own2, RoomF A own2 rid w2 b (X.setA i t (E.learn X.window tk)) ∧ Upd own own2 (inRoom rid) w w2 ∧ CellsT own2 (rid + 1, 0, 12) w2 N #[Value.int IntKind.i64 i, Value.bool false] 80)) := by
  apply hide
  have U : Upd own1 own1 (fun _ => False) w1 w1.drew := (Upd.refl own1 _ w1).drew
  refine (xlearn own1 rid (2 * i) eb tbi X.window tk E w1.drew (O.hE.upd U (fun _ _ _ h => h)) (by omega) hw4 wfl wb).mono ?_
  rintro e w2 ⟨rfl, own2, a1, a2⟩
  have a2' := (U.mono (may' := inEnd rid (2 * i)) fun _ h => h.elim).trans a2
  exact ⟨rfl, hide ⟨own2, O.setE a2' a1, T2.trans (a2'.mono fun _ h => h.1), C2.upd a2' (fun h => absurd h.1 (by simp))⟩⟩
 have I2 : RInv (X.setA i t ((E.learn X.window tk).keep X.window m)) us ds T := hI.hearsA ht hE hS tk (some m) htl (fun q hq => by cases hq; exact hmn)
 have hi := (List.getElem?_eq_some_iff.1 ht).1
 have g1 : (X.setA i t (E.learn X.window tk)).texts[i]? = some t := by simp [IRoom.setA, (List.getElem?_eq_some_iff.1 ht).1]
 have g2 : (X.setA i t (E.learn X.window tk)).ends[i]? = some (E.learn X.window tk) := by simp [IRoom.setA, (List.getElem?_eq_some_iff.1 hE).1]
 have g3 : (X.setA i t (E.learn X.window tk)).sends[i]? = some S := hS
 have k1 : (X.setA i t ((E.learn X.window tk).keep X.window m)).texts[i]? = some t := by simp [IRoom.setA, (List.getElem?_eq_some_iff.1 ht).1]
 have k2 : (X.setA i t ((E.learn X.window tk).keep X.window m)).ends[i]? = some ((E.learn X.window tk).keep X.window m) := by simp [IRoom.setA, (List.getElem?_eq_some_iff.1 hE).1]
 have k3 : (X.setA i t ((E.learn X.window tk).keep X.window m)).sends[i]? = some S := hS
 have hmm : m.number ≤ 1000 := by
  obtain ⟨n, _, n2, rfl⟩ := hmn
  have := hI.ds180 hi
  obtain ⟨_, _, hu, _⟩ := hI.line i t E S ht hE hS
  show n ≤ 1000
  omega
 have ht1 : (E.learn X.window tk).taken ≤ 1000 := by rw [(Half.learn_fields E X.window tk).1]; omega
 have HKEEP : Hid (∀ w2 w3, Hid (∃ own2, RoomF A own2 rid w2 b (X.setA i t (E.learn X.window tk)) ∧ Upd own own2 (inRoom rid) w w2 ∧ CellsT own2 (rid + 1, 0, 12) w2 N #[Value.int IntKind.i64 i, Value.bool false] 80) → Below w2.heap.size w2 w3 → Calls Try.prog 90 #[.pointer (some ⟨eb, 0, none⟩), .agg #[Value.int IntKind.i64 m.number, Value.int IntKind.i64 m.ctx, Value.int IntKind.i64 m.op.client, Value.int IntKind.i64 m.op.verb, Value.int IntKind.i64 m.op.place, Value.int IntKind.u8 m.op.letter]] w3 fun e w4 => e = .returned (.tuple #[]) ∧ (w4.cell? ⟨N, 0, none⟩ = some (.int .i64 i) ∧ w4.cell? ⟨N, 1, none⟩ = some (.bool false)) ∧ Hid (∃ own4, RoomF A own4 rid w4 b (X.setA i t ((E.learn X.window tk).keep X.window m)) ∧ Upd own own4 (inRoom rid) w w4 ∧ CellsT own4 (rid + 1, 0, 12) w4 N #[Value.int IntKind.i64 i, Value.bool false] 80)) := by
  apply hide
  rintro w2 w3 hst hb3
  obtain ⟨own2, z1, z2, z3⟩ := unhide hst
  have U := Upd.of_below own2 (fun _ => False) hb3
  obtain ⟨_, e2, s2, _, _, O2⟩ := (RoomF.upd z1 U (fun _ _ h => h)).opened g1 g2 g3
  obtain ⟨p1, _, _, _⟩ := O2.at_
  rw [hae] at p1
  obtain ⟨rfl, rfl⟩ : eb = e2 ∧ sb = s2 := by simpa using p1
  have hh := xkeep own2 rid (2 * i) eb _ X.window (E.learn X.window tk) m w3 O2.hE ht1 hmm
  unfold IMsg.cells at hh
  refine hh.mono ?_
  rintro e w4 ⟨rfl, own4, b1, b2⟩
  have c4 := (z3.upd U (fun h => h)).upd b2 (fun h => absurd h.1 (by simp))
  have r4 := O2.setE b2 b1
  exact ⟨rfl, ⟨c4.cell 0, c4.cell 1⟩, hide ⟨own4, by simpa [setA_setA] using r4, (z2.trans (U.mono fun _ h => h.elim)).trans (b2.mono fun _ h => h.1), c4⟩⟩
 obtain ⟨ds3, T3, I3, tl3⟩ : ∃ ds3 T3, RInv ((X.setA i t ((E.learn X.window tk).keep X.window m)).takesA i ((E.learn X.window tk).keep X.window m).kept.length) us ds3 T3 ∧ ((X.setA i t ((E.learn X.window tk).keep X.window m)).takesA i ((E.learn X.window tk).keep X.window m).kept.length).texts.length = X.texts.length := by
  obtain ⟨a, b, _⟩ := RInv.takesA i ((E.learn X.window tk).keep X.window m).kept.length I2 (by simpa [IRoom.setA] using hi); exact ⟨ds, T, a, by rw [b]; simp [IRoom.setA]⟩
 obtain ⟨t3, E3, S3, q1, q2, q3⟩ := I3.get (show i < ((X.setA i t ((E.learn X.window tk).keep X.window m)).takesA i ((E.learn X.window tk).keep X.window m).kept.length).texts.length by rw [tl3]; exact hi)
 obtain ⟨_, _, vt, vf⟩ := I3.waitA q1 q2 q3
 have HKT : Hid (∀ w4, Hid (∃ own4, RoomF A own4 rid w4 b (X.setA i t ((E.learn X.window tk).keep X.window m)) ∧ Upd own own4 (inRoom rid) w w4 ∧ CellsT own4 (rid + 1, 0, 12) w4 N #[Value.int IntKind.i64 i, Value.bool false] 80) → Calls Try.prog 92 #[.pointer (some ⟨b, 0, none⟩), .agg #[.int .i64 i, .bool false]] w4 fun e w5 => e = .returned (.tuple #[]) ∧ w5.cell? ⟨eb, 4, none⟩ = some (.int .i64 E3.taken) ∧ Hid (∃ own5, RoomF A own5 rid w5 b ((X.setA i t ((E.learn X.window tk).keep X.window m)).takesA i ((E.learn X.window tk).keep X.window m).kept.length) ∧ Upd own own5 (inRoom rid) w w5)) := by
  apply hide
  rintro w4 hst
  obtain ⟨own4, z1, z2, z3⟩ := unhide hst
  refine (xTK_0 A own4 rid b (X.setA i t ((E.learn X.window tk).keep X.window m)) us ds T I2 i t ((E.learn X.window tk).keep X.window m) S w4 z1 k1 k2 k3).mono ?_
  rintro e w5 ⟨rfl, own5, b1, b2⟩
  obtain ⟨_, e5, s5, _, _, O5⟩ := RoomF.opened b1 q1 q2 q3
  obtain ⟨p1, _, _, _⟩ := O5.at_
  rw [hae] at p1
  obtain ⟨rfl, rfl⟩ : eb = e5 ∧ sb = s5 := by simpa using p1
  exact ⟨rfl, O5.hE.c4, hide ⟨own5, b1, z2.trans b2⟩⟩
 have HWD : Hid (∀ w, Calls Try.prog 70 #[.int .i64 E3.taken] w fun e w' => e = .returned (.string (ckd [2, (E3.taken : Int)])) ∧ Below w.heap.size w w') := hide fun w => word_any E3.taken w (by omega)
 have HX : Hid (X.arriveA i tk (some m) = ((X.setA i t ((E.learn X.window tk).keep X.window m)).takesA i ((E.learn X.window tk).keep X.window m).kept.length).wordA i) := by apply hide; unfold IRoom.arriveA; simp only [ht, hE]; rfl
 have HFLY : Hid (∀ w5 w6, Hid (∃ own5, RoomF A own5 rid w5 b ((X.setA i t ((E.learn X.window tk).keep X.window m)).takesA i ((E.learn X.window tk).keep X.window m).kept.length) ∧ Upd own own5 (inRoom rid) w w5) → Below w5.heap.size w5 w6 → Calls Try.prog 69 #[.pointer (some ⟨eb, 0, none⟩), .slice (some ⟨w6.heap.size, 0, none⟩) 1 1] (w6.alloc (Obj.cells #[Value.string (ckd [2, (E3.taken : Int)])] 131)) fun e w7 => e = .returned (.tuple #[]) ∧ ∃ own7, RoomF A own7 rid w7 b (X.arriveA i tk (some m)) ∧ Upd own own7 (inRoom rid) w w7) := by
  apply hide
  rintro w5 w6 hst hb6
  obtain ⟨own5, z1, z2⟩ := unhide hst
  have U := (Upd.of_below own5 (fun _ => False) hb6).alloc (Obj.cells #[Value.string (ckd [2, (E3.taken : Int)])] 131)
  obtain ⟨_, e6, s6, _, _, O6⟩ := (RoomF.upd z1 U (fun _ _ h => h)).opened q1 q2 q3
  obtain ⟨p1, _, _, _⟩ := O6.at_
  rw [hae] at p1
  obtain ⟨rfl, rfl⟩ : eb = e6 ∧ sb = s6 := by simpa using p1
  refine (xfly own5 rid (2 * i) eb _ _ w6.heap.size E3 _ _ O6.hE vf (World.cell?_alloc_new _ _ _ _)).mono ?_
  rintro e w7 ⟨rfl, own7, b1, b2⟩
  have r7 := O6.setE (b2.mono fun _ h => h.inEnd) b1
  refine ⟨rfl, own7, ?_, (z2.trans (U.mono fun _ h => h.elim)).trans (b2.mono fun _ h => h.inEnd.1)⟩
  rw [unhide HX]
  unfold IRoom.wordA
  simp only [q1, q2]
  exact r7
 clear O R2 C2 T2 I2 I3 g1 g2 g3 k1 k2 k3 q1 q2 q3 hI hmn HX tl3
 generalize ckd [2, (E3.taken : Int)] = wd at *
 go_region_held3 (fun w' => w'.cell? ⟨b, 1, none⟩ = some (.map (some mb)) ∧ w'.cell? ⟨N, 0, none⟩ = some (.int .i64 i) ∧ w'.cell? ⟨N, 1, none⟩ = some (.bool false)) (first | exact ⟨c1, a0, a1⟩) (fail)
 all_goals go_wp2_with (first | (go_at_call 88; with_reducible refine (unhide HTK _).mono ?_; rintro e w2 ⟨rfl, hw2⟩; obtain rfl := hw2.symm) | (go_at_call 87; with_reducible refine (unhide HLEARN).mono ?_; rintro e w2 ⟨rfl, hst⟩) | (go_at_call 89; with_reducible refine (unhide HISM _).mono ?_; rintro e w3 ⟨rfl, hw3⟩; obtain rfl := hw3.symm) | (go_at_call 91; with_reducible refine (unhide HMSG _).mono ?_; rintro e w3 ⟨rfl, hb3⟩) | (go_at_call 90; with_reducible refine (unhide HKEEP _ _ hst hb3).mono ?_; rintro e w4 ⟨rfl, ⟨n0, n1⟩, hst4⟩) | (go_at_call 92; with_reducible refine (unhide HKT _ hst4).mono ?_; rintro e w5 ⟨rfl, e4, hst5⟩) | (go_at_call 70; with_reducible refine (unhide HWD _).mono ?_; rintro e w6 ⟨rfl, hb6⟩) | (go_at_call 69; with_reducible refine (unhide HFLY _ _ hst5 hb6).mono ?_; rintro e w7 ⟨rfl, hF⟩))
 all_goals
  go_end0
  exact ⟨rfl, hF⟩
end Go.Proofs.Ytemkgikncmhoaaa

namespace Go.Proofs.Ytemkgikncmhoaaa
open Go.RowKit
attribute [local go_sem ↓] Go.wp_at_zero Go.wp_at_succ

set_option maxRecDepth 100000 in
set_option maxHeartbeats 1600000 in
theorem xarr_word_1 (A : RAddr) (own : Nat → Tag) (rid b : Nat) (X : IRoom) (us ds : Nat → List GMsg) (T : Nat → Nat → Nat → List UInt8) (hI : RInv X us ds T) (i : Nat) (t : List UInt8) (E S : IEnd) (d : ByteArray) (tk : Nat) (w : World) (h : RoomF A own rid w b X) (ht : X.texts[i]? = some t) (hE : X.ends[i]? = some E) (hS : X.sends[i]? = some S) (hwf : ∀ w, Calls Try.prog 86 #[.string d] w fun e w' => e = .returned (.bool true) ∧ Below w.heap.size w w') (htk : ∀ w, Calls Try.prog 88 #[.string d] w fun e w' => e = .returned (.int .i64 tk) ∧ w' = w) (hism : ∀ w, Calls Try.prog 89 #[.string d] w fun e w' => e = .returned (.bool false) ∧ w' = w) :
  Calls Try.prog 74 #[.pointer (some ⟨b, 0, none⟩), .agg #[.int .i64 i, .bool true], .string d] w fun e w' => e = .returned (.tuple #[]) ∧ ∃ own', RoomF A own' rid w' b (X.arriveB i tk none) ∧ Upd own own' (inRoom rid) w w' := by
 have V : Upd own (retag own w.heap.size (rid + 1, 0, 12)) (fun _ => False) w (w.alloc (Obj.cells #[Value.int IntKind.i64 i, Value.bool true] 80)) := Upd.retag ((Upd.refl own (fun _ => False) w).alloc _) _ _ (Nat.le_refl _)
 have CA := CellsT.new w #[Value.int IntKind.i64 i, Value.bool true] 80 own (rid + 1, 0, 12)
 have hR1 := h.upd V (fun _ _ h => h)
 have hi4 : i < 4 := by have := hI.n4; have := (List.getElem?_eq_some_iff.1 ht).1; omega
 have HWF := hide (hwf (w.alloc (Obj.cells #[Value.int IntKind.i64 i, Value.bool true] 80)))
 have HTK := hide htk
 have HISM := hide hism
 obtain ⟨wb, wm, wt, wfl⟩ := hI.waitB ht hE hS
 have hw4 := hI.w4
 go_enter Try.func74, Try.ntmps74
 go_wp2_with (first | (go_at_call 86; with_reducible refine (unhide HWF).mono ?_; rintro e w1 ⟨rfl, hb1⟩))
 have U1 := Upd.of_below (retag own w.heap.size (rid + 1, 0, 12)) (fun _ => False) hb1
 have R2 := hR1.upd U1 (fun _ _ h => h)
 have C2 := CA.upd U1 (fun h => h)
 have T2 : Upd own (retag own w.heap.size (rid + 1, 0, 12)) (inRoom rid) w w1 := (V.trans U1).mono fun _ h => h.elim
 clear V CA hR1 h hwf htk hism HWF U1 hb1
 generalize retag own w.heap.size (rid + 1, 0, 12) = own1 at *
 obtain ⟨N, HN⟩ : ∃ N, Hid (w.heap.size = N) := ⟨_, rfl⟩
 rw [unhide HN] at C2 ⊢
 obtain ⟨mb, eb, sb, tbi, tb, O⟩ := R2.opened ht hE hS
 obtain ⟨hae, _, _, _⟩ := O.at_
 have c1 := O.c1
 have lk0 := O.lk1w w1.drew rfl
 have a0 := C2.cell 0
 have a1 := C2.cell 1
 simp only [List.getElem?_toArray, List.getElem?_cons_zero, List.getElem?_cons_succ] at a0 a1
 have HLEARN : Hid (Calls Try.prog 87 #[.pointer (some ⟨sb, 0, none⟩), .int .i64 tk] w1.drew fun e w2 => e = .returned (.tuple #[]) ∧ Hid (∃ own2, RoomF A own2 rid w2 b (X.setB i (S.learn X.window tk)) ∧ Upd own own2 (inRoom rid) w w2 ∧ CellsT own2 (rid + 1, 0, 12) w2 N #[Value.int IntKind.i64 i, Value.bool true] 80)) := by
  apply hide
  have U : Upd own1 own1 (fun _ => False) w1 w1.drew := (Upd.refl own1 _ w1).drew
  refine (xlearn own1 rid (2 * i + 1) sb tb X.window tk S w1.drew (O.hS.upd U (fun _ _ _ h => h)) (by omega) hw4 wfl wb).mono ?_
  rintro e w2 ⟨rfl, own2, a1, a2⟩
  have a2' := (U.mono (may' := inEnd rid (2 * i + 1)) fun _ h => h.elim).trans a2
  exact ⟨rfl, hide ⟨own2, O.setS hi4 a2' a1, T2.trans (a2'.mono fun _ h => h.1), C2.upd a2' (fun h => absurd h.1 (by simp))⟩⟩
 have HX : Hid (X.arriveB i tk none = (X.setB i (S.learn X.window tk))) := by apply hide; unfold IRoom.arriveB; simp only [hS]; rfl
 clear O R2 C2 T2
 go_region_held3 (fun w' => w'.cell? ⟨b, 1, none⟩ = some (.map (some mb)) ∧ w'.cell? ⟨N, 0, none⟩ = some (.int .i64 i) ∧ w'.cell? ⟨N, 1, none⟩ = some (.bool true)) (first | exact ⟨c1, a0, a1⟩) (fail)
 all_goals go_wp2_with (first | (go_at_call 88; with_reducible refine (unhide HTK _).mono ?_; rintro e w2 ⟨rfl, hw2⟩; obtain rfl := hw2.symm) | (go_at_call 87; with_reducible refine (unhide HLEARN).mono ?_; rintro e w2 ⟨rfl, hst⟩) | (go_at_call 89; with_reducible refine (unhide HISM _).mono ?_; rintro e w3 ⟨rfl, hw3⟩; obtain rfl := hw3.symm))
 all_goals
  obtain ⟨own2, z1, z2, _⟩ := unhide hst
  exact bodyPost_ret (results_none rfl _ _ _) rfl ⟨rfl, own2, by rw [unhide HX]; exact z1, z2⟩

set_option maxRecDepth 100000 in
set_option maxHeartbeats 1600000 in
theorem xarr_msg_1 (A : RAddr) (own : Nat → Tag) (rid b : Nat) (X : IRoom) (us ds : Nat → List GMsg) (T : Nat → Nat → Nat → List UInt8) (hI : RInv X us ds T) (i : Nat) (t : List UInt8) (E S : IEnd) (d : ByteArray) (tk : Nat) (w : World) (h : RoomF A own rid w b X) (ht : X.texts[i]? = some t) (hE : X.ends[i]? = some E) (hS : X.sends[i]? = some S) (m : IMsg) (hwf : ∀ w, Calls Try.prog 86 #[.string d] w fun e w' => e = .returned (.bool true) ∧ Below w.heap.size w w') (htk : ∀ w, Calls Try.prog 88 #[.string d] w fun e w' => e = .returned (.int .i64 tk) ∧ w' = w) (hism : ∀ w, Calls Try.prog 89 #[.string d] w fun e w' => e = .returned (.bool true) ∧ w' = w)
  (hmsg : ∀ w, Calls Try.prog 91 #[.string d] w fun e w' => e = .returned (.agg #[Value.int IntKind.i64 m.number, Value.int IntKind.i64 m.ctx, Value.int IntKind.i64 m.op.client, Value.int IntKind.i64 m.op.verb, Value.int IntKind.i64 m.op.place, Value.int IntKind.u8 m.op.letter]) ∧ Below w.heap.size w w') (htl : tk ≤ E.taken) (hmn : ∃ n, 1 ≤ n ∧ n ≤ (us i).length ∧ m = imsg (us i) n) :
  Calls Try.prog 74 #[.pointer (some ⟨b, 0, none⟩), .agg #[.int .i64 i, .bool true], .string d] w fun e w' => e = .returned (.tuple #[]) ∧ ∃ own', RoomF A own' rid w' b (X.arriveB i tk (some m)) ∧ Upd own own' (inRoom rid) w w' := by
 have HMSG := hide hmsg
 clear hmsg
 have V : Upd own (retag own w.heap.size (rid + 1, 0, 12)) (fun _ => False) w (w.alloc (Obj.cells #[Value.int IntKind.i64 i, Value.bool true] 80)) := Upd.retag ((Upd.refl own (fun _ => False) w).alloc _) _ _ (Nat.le_refl _)
 have CA := CellsT.new w #[Value.int IntKind.i64 i, Value.bool true] 80 own (rid + 1, 0, 12)
 have hR1 := h.upd V (fun _ _ h => h)
 have hi4 : i < 4 := by have := hI.n4; have := (List.getElem?_eq_some_iff.1 ht).1; omega
 have HWF := hide (hwf (w.alloc (Obj.cells #[Value.int IntKind.i64 i, Value.bool true] 80)))
 have HTK := hide htk
 have HISM := hide hism
 obtain ⟨wb, wm, wt, wfl⟩ := hI.waitB ht hE hS
 have hw4 := hI.w4
 go_enter Try.func74, Try.ntmps74
 go_wp2_with (first | (go_at_call 86; with_reducible refine (unhide HWF).mono ?_; rintro e w1 ⟨rfl, hb1⟩))
 have U1 := Upd.of_below (retag own w.heap.size (rid + 1, 0, 12)) (fun _ => False) hb1
 have R2 := hR1.upd U1 (fun _ _ h => h)
 have C2 := CA.upd U1 (fun h => h)
 have T2 : Upd own (retag own w.heap.size (rid + 1, 0, 12)) (inRoom rid) w w1 := (V.trans U1).mono fun _ h => h.elim
 clear V CA hR1 h hwf htk hism HWF U1 hb1
 generalize retag own w.heap.size (rid + 1, 0, 12) = own1 at *
 obtain ⟨N, HN⟩ : ∃ N, Hid (w.heap.size = N) := ⟨_, rfl⟩
 rw [unhide HN] at C2 ⊢
 obtain ⟨mb, eb, sb, tbi, tb, O⟩ := R2.opened ht hE hS
 obtain ⟨hae, _, _, _⟩ := O.at_
 have c1 := O.c1
 have lk0 := O.lk1w w1.drew rfl
 have a0 := C2.cell 0
 have a1 := C2.cell 1
 simp only [List.getElem?_toArray, List.getElem?_cons_zero, List.getElem?_cons_succ] at a0 a1
 have HLEARN : Hid (Calls Try.prog 87 #[.pointer (some ⟨sb, 0, none⟩), .int .i64 tk] w1.drew fun e w2 => e = .returned (.tuple #[]) ∧ Hid (∃ own2, RoomF A own2 rid w2 b (X.setB i (S.learn X.window tk)) ∧ Upd own own2 (inRoom rid) w w2 ∧ CellsT own2 (rid + 1, 0, 12) w2 N #[Value.int IntKind.i64 i, Value.bool true] 80)) := by
  apply hide
  have U : Upd own1 own1 (fun _ => False) w1 w1.drew := (Upd.refl own1 _ w1).drew
  refine (xlearn own1 rid (2 * i + 1) sb tb X.window tk S w1.drew (O.hS.upd U (fun _ _ _ h => h)) (by omega) hw4 wfl wb).mono ?_
  rintro e w2 ⟨rfl, own2, a1, a2⟩
  have a2' := (U.mono (may' := inEnd rid (2 * i + 1)) fun _ h => h.elim).trans a2
  exact ⟨rfl, hide ⟨own2, O.setS hi4 a2' a1, T2.trans (a2'.mono fun _ h => h.1), C2.upd a2' (fun h => absurd h.1 (by simp))⟩⟩
 have I2 : RInv (X.setB i ((S.learn X.window tk).keep X.window m)) us ds T := hI.hearsB ht hE hS tk (some m) htl (fun q hq => by cases hq; exact hmn)
 have hi := (List.getElem?_eq_some_iff.1 ht).1
 have g1 : (X.setB i (S.learn X.window tk)).texts[i]? = some t := ht
 have g2 : (X.setB i (S.learn X.window tk)).ends[i]? = some E := hE
 have g3 : (X.setB i (S.learn X.window tk)).sends[i]? = some (S.learn X.window tk) := by simp [IRoom.setB, (List.getElem?_eq_some_iff.1 hS).1]
 have k1 : (X.setB i ((S.learn X.window tk).keep X.window m)).texts[i]? = some t := ht
 have k2 : (X.setB i ((S.learn X.window tk).keep X.window m)).ends[i]? = some E := hE
 have k3 : (X.setB i ((S.learn X.window tk).keep X.window m)).sends[i]? = some ((S.learn X.window tk).keep X.window m) := by simp [IRoom.setB, (List.getElem?_eq_some_iff.1 hS).1]
 have hmm : m.number ≤ 1000 := by
  obtain ⟨n, _, n2, rfl⟩ := hmn
  have := hI.ds180 hi
  obtain ⟨_, _, hu, _⟩ := hI.line i t E S ht hE hS
  show n ≤ 1000
  omega
 have ht1 : (S.learn X.window tk).taken ≤ 1000 := by rw [(Half.learn_fields S X.window tk).1]; omega
 have HKEEP : Hid (∀ w2 w3, Hid (∃ own2, RoomF A own2 rid w2 b (X.setB i (S.learn X.window tk)) ∧ Upd own own2 (inRoom rid) w w2 ∧ CellsT own2 (rid + 1, 0, 12) w2 N #[Value.int IntKind.i64 i, Value.bool true] 80) → Below w2.heap.size w2 w3 → Calls Try.prog 90 #[.pointer (some ⟨sb, 0, none⟩), .agg #[Value.int IntKind.i64 m.number, Value.int IntKind.i64 m.ctx, Value.int IntKind.i64 m.op.client, Value.int IntKind.i64 m.op.verb, Value.int IntKind.i64 m.op.place, Value.int IntKind.u8 m.op.letter]] w3 fun e w4 => e = .returned (.tuple #[]) ∧ (w4.cell? ⟨N, 0, none⟩ = some (.int .i64 i) ∧ w4.cell? ⟨N, 1, none⟩ = some (.bool true)) ∧ Hid (∃ own4, RoomF A own4 rid w4 b (X.setB i ((S.learn X.window tk).keep X.window m)) ∧ Upd own own4 (inRoom rid) w w4 ∧ CellsT own4 (rid + 1, 0, 12) w4 N #[Value.int IntKind.i64 i, Value.bool true] 80)) := by
  apply hide
  rintro w2 w3 hst hb3
  obtain ⟨own2, z1, z2, z3⟩ := unhide hst
  have U := Upd.of_below own2 (fun _ => False) hb3
  obtain ⟨_, e2, s2, _, _, O2⟩ := (RoomF.upd z1 U (fun _ _ h => h)).opened g1 g2 g3
  obtain ⟨p1, _, _, _⟩ := O2.at_
  rw [hae] at p1
  obtain ⟨rfl, rfl⟩ : eb = e2 ∧ sb = s2 := by simpa using p1
  have hh := xkeep own2 rid (2 * i + 1) sb _ X.window (S.learn X.window tk) m w3 O2.hS ht1 hmm
  unfold IMsg.cells at hh
  refine hh.mono ?_
  rintro e w4 ⟨rfl, own4, b1, b2⟩
  have c4 := (z3.upd U (fun h => h)).upd b2 (fun h => absurd h.1 (by simp))
  have r4 := O2.setS hi4 b2 b1
  exact ⟨rfl, ⟨c4.cell 0, c4.cell 1⟩, hide ⟨own4, by simpa [IRoom.setB] using r4, (z2.trans (U.mono fun _ h => h.elim)).trans (b2.mono fun _ h => h.1), c4⟩⟩
 obtain ⟨ds3, T3, I3, tl3⟩ : ∃ ds3 T3, RInv ((X.setB i ((S.learn X.window tk).keep X.window m)).takesB i ((S.learn X.window tk).keep X.window m).kept.length) us ds3 T3 ∧ ((X.setB i ((S.learn X.window tk).keep X.window m)).takesB i ((S.learn X.window tk).keep X.window m).kept.length).texts.length = X.texts.length := by
  obtain ⟨ds3, T3, a, b, _⟩ := RInv.takesB i ((S.learn X.window tk).keep X.window m).kept.length I2 hi; exact ⟨ds3, T3, a, by rw [b]; rfl⟩
 obtain ⟨t3, E3, S3, q1, q2, q3⟩ := I3.get (show i < ((X.setB i ((S.learn X.window tk).keep X.window m)).takesB i ((S.learn X.window tk).keep X.window m).kept.length).texts.length by rw [tl3]; exact hi)
 obtain ⟨_, _, vt, vf⟩ := I3.waitB q1 q2 q3
 have HKT : Hid (∀ w4, Hid (∃ own4, RoomF A own4 rid w4 b (X.setB i ((S.learn X.window tk).keep X.window m)) ∧ Upd own own4 (inRoom rid) w w4 ∧ CellsT own4 (rid + 1, 0, 12) w4 N #[Value.int IntKind.i64 i, Value.bool true] 80) → Calls Try.prog 92 #[.pointer (some ⟨b, 0, none⟩), .agg #[.int .i64 i, .bool true]] w4 fun e w5 => e = .returned (.tuple #[]) ∧ w5.cell? ⟨sb, 4, none⟩ = some (.int .i64 S3.taken) ∧ Hid (∃ own5, RoomF A own5 rid w5 b ((X.setB i ((S.learn X.window tk).keep X.window m)).takesB i ((S.learn X.window tk).keep X.window m).kept.length) ∧ Upd own own5 (inRoom rid) w w5)) := by
  apply hide
  rintro w4 hst
  obtain ⟨own4, z1, z2, z3⟩ := unhide hst
  refine (xTK_1 A own4 rid b (X.setB i ((S.learn X.window tk).keep X.window m)) us ds T I2 i t E ((S.learn X.window tk).keep X.window m) w4 z1 k1 k2 k3).mono ?_
  rintro e w5 ⟨rfl, own5, b1, b2⟩
  obtain ⟨_, e5, s5, _, _, O5⟩ := RoomF.opened b1 q1 q2 q3
  obtain ⟨p1, _, _, _⟩ := O5.at_
  rw [hae] at p1
  obtain ⟨rfl, rfl⟩ : eb = e5 ∧ sb = s5 := by simpa using p1
  exact ⟨rfl, O5.hS.c4, hide ⟨own5, b1, z2.trans b2⟩⟩
 have HWD : Hid (∀ w, Calls Try.prog 70 #[.int .i64 S3.taken] w fun e w' => e = .returned (.string (ckd [2, (S3.taken : Int)])) ∧ Below w.heap.size w w') := hide fun w => word_any S3.taken w (by omega)
 have HX : Hid (X.arriveB i tk (some m) = ((X.setB i ((S.learn X.window tk).keep X.window m)).takesB i ((S.learn X.window tk).keep X.window m).kept.length).wordB i) := by apply hide; unfold IRoom.arriveB; simp only [hS]; rfl
 have HFLY : Hid (∀ w5 w6, Hid (∃ own5, RoomF A own5 rid w5 b ((X.setB i ((S.learn X.window tk).keep X.window m)).takesB i ((S.learn X.window tk).keep X.window m).kept.length) ∧ Upd own own5 (inRoom rid) w w5) → Below w5.heap.size w5 w6 → Calls Try.prog 69 #[.pointer (some ⟨sb, 0, none⟩), .slice (some ⟨w6.heap.size, 0, none⟩) 1 1] (w6.alloc (Obj.cells #[Value.string (ckd [2, (S3.taken : Int)])] 131)) fun e w7 => e = .returned (.tuple #[]) ∧ ∃ own7, RoomF A own7 rid w7 b (X.arriveB i tk (some m)) ∧ Upd own own7 (inRoom rid) w w7) := by
  apply hide
  rintro w5 w6 hst hb6
  obtain ⟨own5, z1, z2⟩ := unhide hst
  have U := (Upd.of_below own5 (fun _ => False) hb6).alloc (Obj.cells #[Value.string (ckd [2, (S3.taken : Int)])] 131)
  obtain ⟨_, e6, s6, _, _, O6⟩ := (RoomF.upd z1 U (fun _ _ h => h)).opened q1 q2 q3
  obtain ⟨p1, _, _, _⟩ := O6.at_
  rw [hae] at p1
  obtain ⟨rfl, rfl⟩ : eb = e6 ∧ sb = s6 := by simpa using p1
  refine (xfly own5 rid (2 * i + 1) sb _ _ w6.heap.size S3 _ _ O6.hS vf (World.cell?_alloc_new _ _ _ _)).mono ?_
  rintro e w7 ⟨rfl, own7, b1, b2⟩
  have r7 := O6.setS hi4 (b2.mono fun _ h => h.inEnd) b1
  refine ⟨rfl, own7, ?_, (z2.trans (U.mono fun _ h => h.elim)).trans (b2.mono fun _ h => h.inEnd.1)⟩
  rw [unhide HX]
  unfold IRoom.wordB
  simp only [q3]
  exact r7
 clear O R2 C2 T2 I2 I3 g1 g2 g3 k1 k2 k3 q1 q2 q3 hI hmn HX tl3
 generalize ckd [2, (S3.taken : Int)] = wd at *
 go_region_held3 (fun w' => w'.cell? ⟨b, 1, none⟩ = some (.map (some mb)) ∧ w'.cell? ⟨N, 0, none⟩ = some (.int .i64 i) ∧ w'.cell? ⟨N, 1, none⟩ = some (.bool true)) (first | exact ⟨c1, a0, a1⟩) (fail)
 all_goals go_wp2_with (first | (go_at_call 88; with_reducible refine (unhide HTK _).mono ?_; rintro e w2 ⟨rfl, hw2⟩; obtain rfl := hw2.symm) | (go_at_call 87; with_reducible refine (unhide HLEARN).mono ?_; rintro e w2 ⟨rfl, hst⟩) | (go_at_call 89; with_reducible refine (unhide HISM _).mono ?_; rintro e w3 ⟨rfl, hw3⟩; obtain rfl := hw3.symm) | (go_at_call 91; with_reducible refine (unhide HMSG _).mono ?_; rintro e w3 ⟨rfl, hb3⟩) | (go_at_call 90; with_reducible refine (unhide HKEEP _ _ hst hb3).mono ?_; rintro e w4 ⟨rfl, ⟨n0, n1⟩, hst4⟩) | (go_at_call 92; with_reducible refine (unhide HKT _ hst4).mono ?_; rintro e w5 ⟨rfl, e4, hst5⟩) | (go_at_call 70; with_reducible refine (unhide HWD _).mono ?_; rintro e w6 ⟨rfl, hb6⟩) | (go_at_call 69; with_reducible refine (unhide HFLY _ _ hst5 hb6).mono ?_; rintro e w7 ⟨rfl, hF⟩))
 all_goals
  go_end0
  exact ⟨rfl, hF⟩
end Go.Proofs.Ytemkgikncmhoaaa

