import Derived.Test.YtemkgikncmhoaaaM32
import Derived.Test.YtemkgikncmhoaaaM33
/-
  weave: (*Room).Fate, of a room. Own work.
-/
namespace Go.Proofs.Ytemkgikncmhoaaa
open Go.RowKit

theorem xR_lose_0 (A : RAddr) (own : Nat → Tag) (rid b : Nat) (X : IRoom) (i n : Nat) (t : List UInt8) (E S : IEnd) (w : World) (h : RoomF A own rid w b X) (ht : X.texts[i]? = some t) (hE : X.ends[i]? = some E) (hS : X.sends[i]? = some S) (_hi4 : i < 4) (hn : n < E.flying.length) (h12 : E.flying.length ≤ 12) :
    Calls Try.prog 27 #[.pointer (some ⟨b, 0, none⟩), .int .i64 i, .bool false, .int .i64 n, .int .i64 1] w fun e w' => e = .returned (.int .i64 0) ∧ ∃ own', RoomF A own' rid w' b (X.setA i t (E.lose n)) ∧ Upd own own' (inRoom rid) w w' := by
  obtain ⟨mb, eb, sb, tbi, tb, O⟩ := h.opened ht hE hS
  obtain ⟨a, cap, c8⟩ := O.hE.c8
  refine xFate_1 b mb eb i n E.flying.length cap a false w 0 _ O.c1 O.mbl O.lk0w c8 hn (fun w1 hb => ?_)
  have U := Upd.of_below own (fun _ => False) hb
  obtain ⟨mb', eb', sb', tbi', tb', O1⟩ := (h.upd U (fun _ _ h => h)).opened ht hE hS
  refine (xlose own rid _ b mb' _ _ X.window i n _ E w1 O1.c1 O1.mbl O1.lk0w O1.hE hn h12).mono ?_
  rintro e w' ⟨rfl, a1, a2⟩
  exact ⟨rfl, own, O1.setE (a2.mono fun _ h => h.inEnd) a1, (U.mono fun _ h => h.elim).trans (a2.mono fun _ h => h.inEnd.1)⟩
theorem xR_double_0 (A : RAddr) (own : Nat → Tag) (rid b : Nat) (X : IRoom) (i n : Nat) (t : List UInt8) (E S : IEnd) (d : ByteArray) (w : World) (h : RoomF A own rid w b X) (ht : X.texts[i]? = some t) (hE : X.ends[i]? = some E) (hS : X.sends[i]? = some S) (_hi4 : i < 4) (hd : E.flying[n]? = some d) (h12 : E.flying.length ≤ 12) :
    Calls Try.prog 27 #[.pointer (some ⟨b, 0, none⟩), .int .i64 i, .bool false, .int .i64 n, .int .i64 2] w fun e w' => e = .returned (.int .i64 0) ∧ ∃ own', RoomF A own' rid w' b (X.setA i t (E.fly d)) ∧ Upd own own' (inRoom rid) w w' := by
  have hn := (List.getElem?_eq_some_iff.1 hd).1
  obtain ⟨mb, eb, sb, tbi, tb, O⟩ := h.opened ht hE hS
  obtain ⟨a, cap, c8⟩ := O.hE.c8
  refine xFate_2 b mb eb i n E.flying.length cap a false w 0 _ O.c1 O.mbl O.lk0w c8 hn (fun w1 hb => ?_)
  have U := Upd.of_below own (fun _ => False) hb
  obtain ⟨mb', eb', sb', tbi', tb', O1⟩ := (h.upd U (fun _ _ h => h)).opened ht hE hS
  refine (xdouble own rid _ b mb' _ _ X.window i n _ E w1 O1.c1 O1.mbl O1.lk0w O1.hE d hd h12).mono ?_
  rintro e w' ⟨rfl, own', a1, a2⟩
  exact ⟨rfl, own', O1.setE (a2.mono fun _ h => h.inEnd) a1, (U.mono fun _ h => h.elim).trans (a2.mono fun _ h => h.inEnd.1)⟩
theorem xR_spoil_0 (A : RAddr) (own : Nat → Tag) (rid b : Nat) (X : IRoom) (i n : Nat) (t : List UInt8) (E S : IEnd) (d d' : ByteArray) (w : World) (h : RoomF A own rid w b X) (ht : X.texts[i]? = some t) (hE : X.ends[i]? = some E) (hS : X.sends[i]? = some S) (_hi4 : i < 4) (hd : E.flying[n]? = some d) (h12 : E.flying.length ≤ 12)
    (hsp : ∀ w, Calls Try.prog 77 #[.string d] w fun e w' => e = .returned (.bool false) ∧ w' = w)
    (hsl : ∀ w, Calls Try.prog 78 #[.string d] w fun e w' => e = .returned (.string d') ∧ Below w.heap.size w w') :
    Calls Try.prog 27 #[.pointer (some ⟨b, 0, none⟩), .int .i64 i, .bool false, .int .i64 n, .int .i64 3] w fun e w' => e = .returned (.int .i64 0) ∧ ∃ own', RoomF A own' rid w' b (X.setA i t { E with flying := E.flying.set n d' }) ∧ Upd own own' (inRoom rid) w w' := by
  have hn := (List.getElem?_eq_some_iff.1 hd).1
  obtain ⟨mb, eb, sb, tbi, tb, O⟩ := h.opened ht hE hS
  obtain ⟨a, cap, c8⟩ := O.hE.c8
  refine xFate_3 b mb eb i n E.flying.length cap a false w 0 _ O.c1 O.mbl O.lk0w c8 hn (fun w1 hb => ?_)
  have U := Upd.of_below own (fun _ => False) hb
  obtain ⟨mb', eb', sb', tbi', tb', O1⟩ := (h.upd U (fun _ _ h => h)).opened ht hE hS
  refine (xspoilF_no own rid _ b mb' _ _ X.window i n _ E w1 O1.c1 O1.mbl O1.lk0w O1.hE d hd h12 d' hsp hsl).mono ?_
  rintro e w' ⟨rfl, a1, a2⟩
  exact ⟨rfl, own, O1.setE (a2.mono fun _ h => h.inEnd) a1, (U.mono fun _ h => h.elim).trans (a2.mono fun _ h => h.inEnd.1)⟩
/-- Spoilt twice: refused. -/
theorem xR_twice_0 (A : RAddr) (own : Nat → Tag) (rid b : Nat) (X : IRoom) (i n : Nat) (t : List UInt8) (E S : IEnd) (d : ByteArray) (w : World) (h : RoomF A own rid w b X) (ht : X.texts[i]? = some t) (hE : X.ends[i]? = some E) (hS : X.sends[i]? = some S) (hd : E.flying[n]? = some d) (h12 : E.flying.length ≤ 12)
    (hsp : ∀ w, Calls Try.prog 77 #[.string d] w fun e w' => e = .returned (.bool true) ∧ w' = w) :
    Calls Try.prog 27 #[.pointer (some ⟨b, 0, none⟩), .int .i64 i, .bool false, .int .i64 n, .int .i64 3] w fun e w' => e = .returned (.int .i64 8) ∧ ∃ own', RoomF A own' rid w' b X ∧ Upd own own' (inRoom rid) w w' := by
  have hn := (List.getElem?_eq_some_iff.1 hd).1
  obtain ⟨mb, eb, sb, tbi, tb, O⟩ := h.opened ht hE hS
  obtain ⟨a, cap, c8⟩ := O.hE.c8
  refine xFate_3 b mb eb i n E.flying.length cap a false w 8 _ O.c1 O.mbl O.lk0w c8 hn (fun w1 hb => ?_)
  have U := Upd.of_below own (fun _ => False) hb
  have h1 := h.upd U (fun _ _ h => h)
  obtain ⟨mb', eb', sb', tbi', tb', O1⟩ := h1.opened ht hE hS
  refine (xspoilF_yes own rid _ b mb' _ _ X.window i n _ E w1 O1.c1 O1.mbl O1.lk0w O1.hE d hd h12 hsp).mono ?_
  rintro e w' ⟨rfl, hb'⟩
  have U' := Upd.of_below own (fun _ => False) hb'
  exact ⟨rfl, own, h1.upd U' (fun _ _ h => h), (U.trans U').mono fun _ h => h.elim⟩
/-- A delivery. -/
theorem xR_deliver_0 (A : RAddr) (own : Nat → Tag) (rid b : Nat) (X X2 : IRoom) (i n : Nat) (t : List UInt8) (E S : IEnd) (d : ByteArray) (w : World) (h : RoomF A own rid w b X) (ht : X.texts[i]? = some t) (hE : X.ends[i]? = some E) (hS : X.sends[i]? = some S) (hi4 : i < 4) (hd : E.flying[n]? = some d) (h12 : E.flying.length ≤ 12)
    (harr : ∀ own1 w1, RoomF A own1 rid w1 b (X.setA i t (E.lose n)) → Calls Try.prog 74 #[.pointer (some ⟨b, 0, none⟩), .agg #[.int .i64 i, .bool true], .string d] w1 fun e w' => e = .returned (.tuple #[]) ∧ ∃ own', RoomF A own' rid w' b X2 ∧ Upd own1 own' (inRoom rid) w1 w') :
    Calls Try.prog 27 #[.pointer (some ⟨b, 0, none⟩), .int .i64 i, .bool false, .int .i64 n, .int .i64 0] w fun e w' => e = .returned (.int .i64 0) ∧ ∃ own', RoomF A own' rid w' b X2 ∧ Upd own own' (inRoom rid) w w' := by
  have hn := (List.getElem?_eq_some_iff.1 hd).1
  obtain ⟨mb, eb, sb, tbi, tb, O⟩ := h.opened ht hE hS
  obtain ⟨a, cap, c8⟩ := O.hE.c8
  refine xFate_0 b mb eb i n E.flying.length cap a false w 0 _ O.c1 O.mbl O.lk0w c8 hn (fun w1 hb => ?_)
  have U := Upd.of_below own (fun _ => False) hb
  refine (xdeliver_0 A own rid b X X2 i n t E S d w1 (h.upd U (fun _ _ h => h)) ht hE hS hi4 hd h12 harr).mono ?_
  rintro e w' ⟨rfl, own', a1, a2⟩
  exact ⟨rfl, own', a1, (U.mono fun _ h => h.elim).trans a2⟩
theorem xR_lose_1 (A : RAddr) (own : Nat → Tag) (rid b : Nat) (X : IRoom) (i n : Nat) (t : List UInt8) (E S : IEnd) (w : World) (h : RoomF A own rid w b X) (ht : X.texts[i]? = some t) (hE : X.ends[i]? = some E) (hS : X.sends[i]? = some S) (hi4 : i < 4) (hn : n < S.flying.length) (h12 : S.flying.length ≤ 12) :
    Calls Try.prog 27 #[.pointer (some ⟨b, 0, none⟩), .int .i64 i, .bool true, .int .i64 n, .int .i64 1] w fun e w' => e = .returned (.int .i64 0) ∧ ∃ own', RoomF A own' rid w' b (X.setB i (S.lose n)) ∧ Upd own own' (inRoom rid) w w' := by
  obtain ⟨mb, eb, sb, tbi, tb, O⟩ := h.opened ht hE hS
  obtain ⟨a, cap, c8⟩ := O.hS.c8
  refine xFate_1 b mb sb i n S.flying.length cap a true w 0 _ O.c1 O.mbl O.lk1w c8 hn (fun w1 hb => ?_)
  have U := Upd.of_below own (fun _ => False) hb
  obtain ⟨mb', eb', sb', tbi', tb', O1⟩ := (h.upd U (fun _ _ h => h)).opened ht hE hS
  refine (xlose own rid _ b mb' _ _ X.window i n _ S w1 O1.c1 O1.mbl O1.lk1w O1.hS hn h12).mono ?_
  rintro e w' ⟨rfl, a1, a2⟩
  exact ⟨rfl, own, O1.setS hi4 (a2.mono fun _ h => h.inEnd) a1, (U.mono fun _ h => h.elim).trans (a2.mono fun _ h => h.inEnd.1)⟩
theorem xR_double_1 (A : RAddr) (own : Nat → Tag) (rid b : Nat) (X : IRoom) (i n : Nat) (t : List UInt8) (E S : IEnd) (d : ByteArray) (w : World) (h : RoomF A own rid w b X) (ht : X.texts[i]? = some t) (hE : X.ends[i]? = some E) (hS : X.sends[i]? = some S) (hi4 : i < 4) (hd : S.flying[n]? = some d) (h12 : S.flying.length ≤ 12) :
    Calls Try.prog 27 #[.pointer (some ⟨b, 0, none⟩), .int .i64 i, .bool true, .int .i64 n, .int .i64 2] w fun e w' => e = .returned (.int .i64 0) ∧ ∃ own', RoomF A own' rid w' b (X.setB i (S.fly d)) ∧ Upd own own' (inRoom rid) w w' := by
  have hn := (List.getElem?_eq_some_iff.1 hd).1
  obtain ⟨mb, eb, sb, tbi, tb, O⟩ := h.opened ht hE hS
  obtain ⟨a, cap, c8⟩ := O.hS.c8
  refine xFate_2 b mb sb i n S.flying.length cap a true w 0 _ O.c1 O.mbl O.lk1w c8 hn (fun w1 hb => ?_)
  have U := Upd.of_below own (fun _ => False) hb
  obtain ⟨mb', eb', sb', tbi', tb', O1⟩ := (h.upd U (fun _ _ h => h)).opened ht hE hS
  refine (xdouble own rid _ b mb' _ _ X.window i n _ S w1 O1.c1 O1.mbl O1.lk1w O1.hS d hd h12).mono ?_
  rintro e w' ⟨rfl, own', a1, a2⟩
  exact ⟨rfl, own', O1.setS hi4 (a2.mono fun _ h => h.inEnd) a1, (U.mono fun _ h => h.elim).trans (a2.mono fun _ h => h.inEnd.1)⟩
theorem xR_spoil_1 (A : RAddr) (own : Nat → Tag) (rid b : Nat) (X : IRoom) (i n : Nat) (t : List UInt8) (E S : IEnd) (d d' : ByteArray) (w : World) (h : RoomF A own rid w b X) (ht : X.texts[i]? = some t) (hE : X.ends[i]? = some E) (hS : X.sends[i]? = some S) (hi4 : i < 4) (hd : S.flying[n]? = some d) (h12 : S.flying.length ≤ 12)
    (hsp : ∀ w, Calls Try.prog 77 #[.string d] w fun e w' => e = .returned (.bool false) ∧ w' = w)
    (hsl : ∀ w, Calls Try.prog 78 #[.string d] w fun e w' => e = .returned (.string d') ∧ Below w.heap.size w w') :
    Calls Try.prog 27 #[.pointer (some ⟨b, 0, none⟩), .int .i64 i, .bool true, .int .i64 n, .int .i64 3] w fun e w' => e = .returned (.int .i64 0) ∧ ∃ own', RoomF A own' rid w' b (X.setB i { S with flying := S.flying.set n d' }) ∧ Upd own own' (inRoom rid) w w' := by
  have hn := (List.getElem?_eq_some_iff.1 hd).1
  obtain ⟨mb, eb, sb, tbi, tb, O⟩ := h.opened ht hE hS
  obtain ⟨a, cap, c8⟩ := O.hS.c8
  refine xFate_3 b mb sb i n S.flying.length cap a true w 0 _ O.c1 O.mbl O.lk1w c8 hn (fun w1 hb => ?_)
  have U := Upd.of_below own (fun _ => False) hb
  obtain ⟨mb', eb', sb', tbi', tb', O1⟩ := (h.upd U (fun _ _ h => h)).opened ht hE hS
  refine (xspoilF_no own rid _ b mb' _ _ X.window i n _ S w1 O1.c1 O1.mbl O1.lk1w O1.hS d hd h12 d' hsp hsl).mono ?_
  rintro e w' ⟨rfl, a1, a2⟩
  exact ⟨rfl, own, O1.setS hi4 (a2.mono fun _ h => h.inEnd) a1, (U.mono fun _ h => h.elim).trans (a2.mono fun _ h => h.inEnd.1)⟩
/-- Spoilt twice: refused. -/
theorem xR_twice_1 (A : RAddr) (own : Nat → Tag) (rid b : Nat) (X : IRoom) (i n : Nat) (t : List UInt8) (E S : IEnd) (d : ByteArray) (w : World) (h : RoomF A own rid w b X) (ht : X.texts[i]? = some t) (hE : X.ends[i]? = some E) (hS : X.sends[i]? = some S) (hd : S.flying[n]? = some d) (h12 : S.flying.length ≤ 12)
    (hsp : ∀ w, Calls Try.prog 77 #[.string d] w fun e w' => e = .returned (.bool true) ∧ w' = w) :
    Calls Try.prog 27 #[.pointer (some ⟨b, 0, none⟩), .int .i64 i, .bool true, .int .i64 n, .int .i64 3] w fun e w' => e = .returned (.int .i64 8) ∧ ∃ own', RoomF A own' rid w' b X ∧ Upd own own' (inRoom rid) w w' := by
  have hn := (List.getElem?_eq_some_iff.1 hd).1
  obtain ⟨mb, eb, sb, tbi, tb, O⟩ := h.opened ht hE hS
  obtain ⟨a, cap, c8⟩ := O.hS.c8
  refine xFate_3 b mb sb i n S.flying.length cap a true w 8 _ O.c1 O.mbl O.lk1w c8 hn (fun w1 hb => ?_)
  have U := Upd.of_below own (fun _ => False) hb
  have h1 := h.upd U (fun _ _ h => h)
  obtain ⟨mb', eb', sb', tbi', tb', O1⟩ := h1.opened ht hE hS
  refine (xspoilF_yes own rid _ b mb' _ _ X.window i n _ S w1 O1.c1 O1.mbl O1.lk1w O1.hS d hd h12 hsp).mono ?_
  rintro e w' ⟨rfl, hb'⟩
  have U' := Upd.of_below own (fun _ => False) hb'
  exact ⟨rfl, own, h1.upd U' (fun _ _ h => h), (U.trans U').mono fun _ h => h.elim⟩
/-- A delivery. -/
theorem xR_deliver_1 (A : RAddr) (own : Nat → Tag) (rid b : Nat) (X X2 : IRoom) (i n : Nat) (t : List UInt8) (E S : IEnd) (d : ByteArray) (w : World) (h : RoomF A own rid w b X) (ht : X.texts[i]? = some t) (hE : X.ends[i]? = some E) (hS : X.sends[i]? = some S) (hi4 : i < 4) (hd : S.flying[n]? = some d) (h12 : S.flying.length ≤ 12)
    (harr : ∀ own1 w1, RoomF A own1 rid w1 b (X.setB i (S.lose n)) → Calls Try.prog 74 #[.pointer (some ⟨b, 0, none⟩), .agg #[.int .i64 i, .bool false], .string d] w1 fun e w' => e = .returned (.tuple #[]) ∧ ∃ own', RoomF A own' rid w' b X2 ∧ Upd own1 own' (inRoom rid) w1 w') :
    Calls Try.prog 27 #[.pointer (some ⟨b, 0, none⟩), .int .i64 i, .bool true, .int .i64 n, .int .i64 0] w fun e w' => e = .returned (.int .i64 0) ∧ ∃ own', RoomF A own' rid w' b X2 ∧ Upd own own' (inRoom rid) w w' := by
  have hn := (List.getElem?_eq_some_iff.1 hd).1
  obtain ⟨mb, eb, sb, tbi, tb, O⟩ := h.opened ht hE hS
  obtain ⟨a, cap, c8⟩ := O.hS.c8
  refine xFate_0 b mb sb i n S.flying.length cap a true w 0 _ O.c1 O.mbl O.lk1w c8 hn (fun w1 hb => ?_)
  have U := Upd.of_below own (fun _ => False) hb
  refine (xdeliver_1 A own rid b X X2 i n t E S d w1 (h.upd U (fun _ _ h => h)) ht hE hS hi4 hd h12 harr).mono ?_
  rintro e w' ⟨rfl, own', a1, a2⟩
  exact ⟨rfl, own', a1, (U.mono fun _ h => h.elim).trans a2⟩
end Go.Proofs.Ytemkgikncmhoaaa

/-
  weave: deliveries, as plain data and of a room. Own work.
-/
namespace Go.Proofs.Ytemkgikncmhoaaa
open Go.RowKit

/-- What a datagram says: how many were taken; a message or none. -/
def readD (d : ByteArray) : Option (Nat × Option IMsg) := match d.data.toList with
  | [b0, b1, _, _] => if b0 = 2 then some (b1.toNat, none) else none
  | [b0, b1, b2, b3, b4, b5, b6, b7, _, _] => if b0 = 1 then some (b3.toNat, some ⟨b1.toNat, b2.toNat, ⟨b4.toNat, b5.toNat, b6.toNat, b7.toNat⟩⟩) else none
  | _ => none
theorem readD_word (tk : Nat) (h : tk ≤ 255) : readD (ckd [2, (tk : Int)]) = some (tk, none) := by
  have x1 : (byteOf tk).toNat = tk := by simp [byteOf]; omega
  show (if byteOf 2 = 2 then some ((byteOf tk).toNat, none) else none) = _
  rw [if_pos (by decide), x1]
theorem readD_word_spoilt (tk : Nat) : readD (spoil (ckd [2, (tk : Int)])) = none := by
  have hs : spoil (ckd [2, (tk : Int)]) = ⟨#[255 - byteOf 2, byteOf tk, byteOf (sumTo [2, (tk : Int)] 2 % 251), byteOf (wsumTo [2, (tk : Int)] 2 % 251)]⟩ := rfl
  rw [hs]
  have hn : ¬ (255 - byteOf 2 = 2) := by decide
  generalize 255 - byteOf 2 = q at hn ⊢
  simp [readD, hn]
theorem readD_msg_spoilt (m : IMsg) (tk : Nat) : readD (spoil (ckd (m.bytes tk))) = none := by
  have hs : spoil (ckd (m.bytes tk)) = ⟨#[255 - byteOf 1, byteOf m.number, byteOf m.ctx, byteOf tk, byteOf m.op.client, byteOf m.op.verb, byteOf m.op.place, byteOf m.op.letter, byteOf (sumTo (m.bytes tk) 8 % 251), byteOf (wsumTo (m.bytes tk) 8 % 251)]⟩ := rfl
  rw [hs]
  have hn : ¬ (255 - byteOf 1 = 1) := by decide
  generalize 255 - byteOf 1 = q at hn ⊢
  simp [readD, hn]
theorem readD_msg (m : IMsg) (tk : Nat) (h : Bytes (m.bytes tk)) : readD (ckd (m.bytes tk)) = some (tk, some m) := by
  have x1 : ((byteOf m.number).toNat : Int) = m.number := bytes_int h (k := 1) rfl
  have x2 : ((byteOf m.ctx).toNat : Int) = m.ctx := bytes_int h (k := 2) rfl
  have x3 : ((byteOf tk).toNat : Int) = tk := bytes_int h (k := 3) rfl
  have x4 : ((byteOf m.op.client).toNat : Int) = m.op.client := bytes_int h (k := 4) rfl
  have x5 : ((byteOf m.op.verb).toNat : Int) = m.op.verb := bytes_int h (k := 5) rfl
  have x6 : ((byteOf m.op.place).toNat : Int) = m.op.place := bytes_int h (k := 6) rfl
  have x7 : ((byteOf m.op.letter).toNat : Int) = m.op.letter := bytes_int h (k := 7) rfl
  show (if byteOf 1 = 1 then some ((byteOf tk).toNat, some (⟨(byteOf m.number).toNat, (byteOf m.ctx).toNat, ⟨((byteOf m.op.client).toNat : Int), ((byteOf m.op.verb).toNat : Int), ((byteOf m.op.place).toNat : Int), ((byteOf m.op.letter).toNat : Int)⟩⟩ : IMsg)) else none) = _
  rw [if_pos (by decide), x4, x5, x6, x7, show (byteOf tk).toNat = tk by omega, show (byteOf m.number).toNat = m.number by omega, show (byteOf m.ctx).toNat = m.ctx by omega]

/-- What the other end makes of it. -/
def IRoom.comeA (X : IRoom) (i : Nat) (d : ByteArray) : IRoom := match readD d with
  | some (tk, m) => X.arriveA i tk m
  | none => X
def IRoom.comeB (X : IRoom) (i : Nat) (d : ByteArray) : IRoom := match readD d with
  | some (tk, m) => X.arriveB i tk m
  | none => X

set_option maxHeartbeats 800000 in
/-- A datagram comes to an end. -/
theorem xcome_0 (A : RAddr) (own : Nat → Tag) (rid b : Nat) (X : IRoom) (us ds : Nat → List GMsg) (T : Nat → Nat → Nat → List UInt8) (hI : RInv X us ds T) (i : Nat) (t : List UInt8) (E S : IEnd) (d : ByteArray) (w : World) (h : RoomF A own rid w b X) (ht : X.texts[i]? = some t) (hE : X.ends[i]? = some E) (hS : X.sends[i]? = some S) (hd : Flies (ds i) S.taken d) :
    Calls Try.prog 74 #[.pointer (some ⟨b, 0, none⟩), .agg #[.int .i64 i, .bool false], .string d] w fun e w' => e = .returned (.tuple #[]) ∧ ∃ own', RoomF A own' rid w' b (X.comeA i d) ∧ Upd own own' (inRoom rid) w w' := by
  have htk : S.taken ≤ 240 := (hI.waitB ht hE hS).2.2.1
  have bad : (∀ w, Calls Try.prog 86 #[.string d] w fun e w' => e = .returned (.bool false) ∧ w' = w) → readD d = none → Calls Try.prog 74 #[.pointer (some ⟨b, 0, none⟩), .agg #[.int .i64 i, .bool false], .string d] w fun e w' => e = .returned (.tuple #[]) ∧ ∃ own', RoomF A own' rid w' b (X.comeA i d) ∧ Upd own own' (inRoom rid) w w' := by
    intro hb hr
    refine (xarrive_bad b i _ d w (hb _)).mono ?_
    rintro e w' ⟨rfl, hb'⟩
    unfold IRoom.comeA
    rw [hr]
    exact ⟨rfl, own, h.upd (Upd.of_below own (fun _ => False) hb') (fun _ _ h => h), Upd.of_below own _ hb'⟩
  rcases hd with hd | ⟨d0, hd, rfl⟩
  · rcases hd with ⟨n, tk, h1, h2, h3⟩ | ⟨tk, h3⟩
    · have hby := hI.bytesB ht hE hS h1 h2 (show tk ≤ 255 by omega)
      obtain ⟨r1, r2, r3, r4, _⟩ := reads_msg _ _ hby
      unfold IRoom.comeA
      rw [readD_msg _ _ hby]
      exact xarr_msg_0 A own rid b X us ds T hI i t E S _ tk w h ht hE hS _ r1 r2 r3 r4 h3 ⟨n, h1, h2, rfl⟩
    · obtain ⟨r1, r2, r3, _⟩ := reads_word tk (by omega)
      unfold IRoom.comeA
      rw [readD_word tk (by omega)]
      exact xarr_word_0 A own rid b X us ds T hI i t E S _ tk w h ht hE hS r1 r2 r3
  · rcases hd with ⟨n, tk, h1, h2, h3⟩ | ⟨tk, h3⟩
    · have hby := hI.bytesB ht hE hS h1 h2 (show tk ≤ 255 by omega)
      obtain ⟨_, _, _, _, _, _, r7, _⟩ := reads_msg _ _ hby
      exact bad r7 (readD_msg_spoilt _ _)
    · obtain ⟨_, _, _, _, _, r6, _⟩ := reads_word tk (by omega)
      exact bad r6 (readD_word_spoilt _)
set_option maxHeartbeats 800000 in
/-- A datagram comes to an end. -/
theorem xcome_1 (A : RAddr) (own : Nat → Tag) (rid b : Nat) (X : IRoom) (us ds : Nat → List GMsg) (T : Nat → Nat → Nat → List UInt8) (hI : RInv X us ds T) (i : Nat) (t : List UInt8) (E S : IEnd) (d : ByteArray) (w : World) (h : RoomF A own rid w b X) (ht : X.texts[i]? = some t) (hE : X.ends[i]? = some E) (hS : X.sends[i]? = some S) (hd : Flies (us i) E.taken d) :
    Calls Try.prog 74 #[.pointer (some ⟨b, 0, none⟩), .agg #[.int .i64 i, .bool true], .string d] w fun e w' => e = .returned (.tuple #[]) ∧ ∃ own', RoomF A own' rid w' b (X.comeB i d) ∧ Upd own own' (inRoom rid) w w' := by
  have htk : E.taken ≤ 240 := (hI.waitA ht hE hS).2.2.1
  have bad : (∀ w, Calls Try.prog 86 #[.string d] w fun e w' => e = .returned (.bool false) ∧ w' = w) → readD d = none → Calls Try.prog 74 #[.pointer (some ⟨b, 0, none⟩), .agg #[.int .i64 i, .bool true], .string d] w fun e w' => e = .returned (.tuple #[]) ∧ ∃ own', RoomF A own' rid w' b (X.comeB i d) ∧ Upd own own' (inRoom rid) w w' := by
    intro hb hr
    refine (xarrive_bad b i _ d w (hb _)).mono ?_
    rintro e w' ⟨rfl, hb'⟩
    unfold IRoom.comeB
    rw [hr]
    exact ⟨rfl, own, h.upd (Upd.of_below own (fun _ => False) hb') (fun _ _ h => h), Upd.of_below own _ hb'⟩
  rcases hd with hd | ⟨d0, hd, rfl⟩
  · rcases hd with ⟨n, tk, h1, h2, h3⟩ | ⟨tk, h3⟩
    · have hby := hI.bytesA ht hE hS h1 h2 (show tk ≤ 255 by omega)
      obtain ⟨r1, r2, r3, r4, _⟩ := reads_msg _ _ hby
      unfold IRoom.comeB
      rw [readD_msg _ _ hby]
      exact xarr_msg_1 A own rid b X us ds T hI i t E S _ tk w h ht hE hS _ r1 r2 r3 r4 h3 ⟨n, h1, h2, rfl⟩
    · obtain ⟨r1, r2, r3, _⟩ := reads_word tk (by omega)
      unfold IRoom.comeB
      rw [readD_word tk (by omega)]
      exact xarr_word_1 A own rid b X us ds T hI i t E S _ tk w h ht hE hS r1 r2 r3
  · rcases hd with ⟨n, tk, h1, h2, h3⟩ | ⟨tk, h3⟩
    · have hby := hI.bytesA ht hE hS h1 h2 (show tk ≤ 255 by omega)
      obtain ⟨_, _, _, _, _, _, r7, _⟩ := reads_msg _ _ hby
      exact bad r7 (readD_msg_spoilt _ _)
    · obtain ⟨_, _, _, _, _, r6, _⟩ := reads_word tk (by omega)
      exact bad r6 (readD_word_spoilt _)

theorem setA_get {X : IRoom} {i : Nat} {t t' : List UInt8} {E E' : IEnd} (ht : X.texts[i]? = some t) (hE : X.ends[i]? = some E) : (X.setA i t' E').texts[i]? = some t' ∧ (X.setA i t' E').ends[i]? = some E' := by
  simp [IRoom.setA, (List.getElem?_eq_some_iff.1 ht).1, (List.getElem?_eq_some_iff.1 hE).1]
theorem setB_get {X : IRoom} {i : Nat} {S S' : IEnd} (hS : X.sends[i]? = some S) : (X.setB i S').sends[i]? = some S' := by
  simp [IRoom.setB, (List.getElem?_eq_some_iff.1 hS).1]

/-- A client's datagram is delivered to the server. -/
theorem xR_up (A : RAddr) (own : Nat → Tag) (rid b : Nat) (X : IRoom) (us ds : Nat → List GMsg) (T : Nat → Nat → Nat → List UInt8) (hI : RInv X us ds T) (i n : Nat) (t : List UInt8) (E S : IEnd) (d : ByteArray) (w : World) (h : RoomF A own rid w b X) (ht : X.texts[i]? = some t) (hE : X.ends[i]? = some E) (hS : X.sends[i]? = some S) (hd : E.flying[n]? = some d) :
    Calls Try.prog 27 #[.pointer (some ⟨b, 0, none⟩), .int .i64 i, .bool false, .int .i64 n, .int .i64 0] w fun e w' => e = .returned (.int .i64 0) ∧ ∃ own', RoomF A own' rid w' b ((X.setA i t (E.lose n)).comeB i d) ∧ Upd own own' (inRoom rid) w w' := by
  have hi4 : i < 4 := by have := hI.n4; have := (List.getElem?_eq_some_iff.1 ht).1; omega
  obtain ⟨g1, g2⟩ := setA_get (t' := t) (E' := E.lose n) ht hE
  obtain ⟨hl, _⟩ := hI.line i t E S ht hE hS
  have hf := hl.a.flies d (List.mem_of_getElem? hd)
  exact xR_deliver_0 A own rid b X _ i n t E S d w h ht hE hS hi4 hd hl.a.fly fun own1 w1 h1 => xcome_1 A own1 rid b _ us ds T (hI.loseA ht hE hS n) i t (E.lose n) S d w1 h1 g1 g2 hS hf
/-- A datagram of the server's is delivered to a client. -/
theorem xR_down (A : RAddr) (own : Nat → Tag) (rid b : Nat) (X : IRoom) (us ds : Nat → List GMsg) (T : Nat → Nat → Nat → List UInt8) (hI : RInv X us ds T) (i n : Nat) (t : List UInt8) (E S : IEnd) (d : ByteArray) (w : World) (h : RoomF A own rid w b X) (ht : X.texts[i]? = some t) (hE : X.ends[i]? = some E) (hS : X.sends[i]? = some S) (hd : S.flying[n]? = some d) :
    Calls Try.prog 27 #[.pointer (some ⟨b, 0, none⟩), .int .i64 i, .bool true, .int .i64 n, .int .i64 0] w fun e w' => e = .returned (.int .i64 0) ∧ ∃ own', RoomF A own' rid w' b ((X.setB i (S.lose n)).comeA i d) ∧ Upd own own' (inRoom rid) w w' := by
  have hi4 : i < 4 := by have := hI.n4; have := (List.getElem?_eq_some_iff.1 ht).1; omega
  have g3 := setB_get (S' := S.lose n) hS
  obtain ⟨hl, _⟩ := hI.line i t E S ht hE hS
  have hf := hl.b.flies d (List.mem_of_getElem? hd)
  exact xR_deliver_1 A own rid b X _ i n t E S d w h ht hE hS hi4 hd hl.b.fly fun own1 w1 h1 => xcome_0 A own1 rid b _ us ds T (hI.loseB ht hE hS n) i t E (S.lose n) d w1 h1 ht hE g3 hf
end Go.Proofs.Ytemkgikncmhoaaa

/-
  weave: what comes, as plain data: the rows of a room go on. Own work.
-/
namespace Go.Proofs.Ytemkgikncmhoaaa

section
variable {X : IRoom} {us ds : Nat → List GMsg} {T : Nat → Nat → Nat → List UInt8}
/-- What is read of what flies. -/
theorem Flies.reads {own : List GMsg} {taken : Nat} {d : ByteArray} (h : Flies own taken d) (ht : taken ≤ 255) (hb : ∀ n tk, 1 ≤ n → n ≤ own.length → tk ≤ 255 → Bytes ((imsg own n).bytes tk)) :
    readD d = none ∨ ∃ tk m, readD d = some (tk, m) ∧ tk ≤ taken ∧ ∀ q, m = some q → ∃ n, 1 ≤ n ∧ n ≤ own.length ∧ q = imsg own n := by
  rcases h with hd | ⟨d0, hd, rfl⟩
  · rcases hd with ⟨n, tk, h1, h2, h3⟩ | ⟨tk, h3⟩
    · exact .inr ⟨tk, _, readD_msg _ _ (hb n tk h1 h2 (by omega)), h3, fun q hq => by cases hq; exact ⟨n, h1, h2, rfl⟩⟩
    · exact .inr ⟨tk, none, readD_word tk (by omega), h3, fun q hq => by cases hq⟩
  · rcases hd with ⟨n, tk, h1, h2, h3⟩ | ⟨tk, h3⟩
    · exact .inl (readD_msg_spoilt _ _)
    · exact .inl (readD_word_spoilt _)
theorem RInv.comeA (h : RInv X us ds T) {i : Nat} {t : List UInt8} {E S : IEnd} (h1 : X.texts[i]? = some t) (h2 : X.ends[i]? = some E) (h3 : X.sends[i]? = some S) {d : ByteArray} (hd : Flies (ds i) S.taken d) : RInv (X.comeA i d) us ds T := by
  have ht := (h.waitB h1 h2 h3).2.2.1
  unfold IRoom.comeA
  rcases hd.reads (by omega) (fun n tk a b c => h.bytesB h1 h2 h3 a b c) with e | ⟨tk, m, e, e1, e2⟩ <;> rw [e]
  · exact h
  · exact h.arriveA h1 h2 h3 tk m e1 e2
theorem RInv.comeB (h : RInv X us ds T) {i : Nat} {t : List UInt8} {E S : IEnd} (h1 : X.texts[i]? = some t) (h2 : X.ends[i]? = some E) (h3 : X.sends[i]? = some S) {d : ByteArray} (hd : Flies (us i) E.taken d) : ∃ ds' T', RInv (X.comeB i d) us ds' T' := by
  have ht := (h.waitA h1 h2 h3).2.2.1
  unfold IRoom.comeB
  rcases hd.reads (by omega) (fun n tk a b c => h.bytesA h1 h2 h3 a b c) with e | ⟨tk, m, e, e1, e2⟩ <;> rw [e]
  · exact ⟨ds, T, h⟩
  · exact h.arriveB h1 h2 h3 tk m e1 e2
/-- A delivery to the server keeps the rows; one to a client too. -/
theorem RInv.up (h : RInv X us ds T) {i n : Nat} {t : List UInt8} {E S : IEnd} (h1 : X.texts[i]? = some t) (h2 : X.ends[i]? = some E) (h3 : X.sends[i]? = some S) {d : ByteArray} (hd : E.flying[n]? = some d) : ∃ ds' T', RInv ((X.setA i t (E.lose n)).comeB i d) us ds' T' := by
  obtain ⟨g1, g2⟩ := setA_get (t' := t) (E' := E.lose n) h1 h2
  obtain ⟨hl, _⟩ := h.line i t E S h1 h2 h3
  exact (h.loseA h1 h2 h3 n).comeB g1 g2 h3 (hl.a.flies d (List.mem_of_getElem? hd))
theorem RInv.down (h : RInv X us ds T) {i n : Nat} {t : List UInt8} {E S : IEnd} (h1 : X.texts[i]? = some t) (h2 : X.ends[i]? = some E) (h3 : X.sends[i]? = some S) {d : ByteArray} (hd : S.flying[n]? = some d) : RInv ((X.setB i (S.lose n)).comeA i d) us ds T := by
  have g3 := setB_get (S' := S.lose n) h3
  obtain ⟨hl, _⟩ := h.line i t E S h1 h2 h3
  exact (h.loseB h1 h2 h3 n).comeA h1 h2 g3 (hl.b.flies d (List.mem_of_getElem? hd))
theorem IEnd.tick_fields (E : IEnd) (window : Nat) : (E.tick window).known = E.known ∧ (E.tick window).taken = E.taken ∧ (E.tick window).waiting = E.waiting ∧ (E.tick window).kept = E.kept := by
  unfold IEnd.tick
  split
  · obtain ⟨a1, a2, a3, _, _, a6⟩ := IEnd.sends_fields (E.waiting.take window) E
    exact ⟨a1, a3, a2, a6⟩
  · split
    · obtain ⟨a1, a2, a3, _, _, a6⟩ := E.fly_fields (ckd [2, (E.taken : Int)])
      exact ⟨a1, a3, a2, a6⟩
    · exact ⟨rfl, rfl, rfl, rfl⟩
theorem RInv.tickA (h : RInv X us ds T) {i : Nat} {t : List UInt8} {E S : IEnd} (h1 : X.texts[i]? = some t) (h2 : X.ends[i]? = some E) (h3 : X.sends[i]? = some S) : RInv (X.setA i t (E.tick X.window)) us ds T :=
  h.turnA h1 h2 h3 (fun q => q.ticked) (E.tick_fields _).2.1 (E.tick_fields _).1
theorem RInv.tickB (h : RInv X us ds T) {i : Nat} {t : List UInt8} {E S : IEnd} (h1 : X.texts[i]? = some t) (h2 : X.ends[i]? = some E) (h3 : X.sends[i]? = some S) : RInv (X.setB i (S.tick X.window)) us ds T :=
  h.turnB h1 h2 h3 (fun q => q.ticked) (S.tick_fields _).2.1 (S.tick_fields _).1
end
end Go.Proofs.Ytemkgikncmhoaaa

/-
  weave: a new room, as plain data. Own work.
-/
namespace Go.Proofs.Ytemkgikncmhoaaa

theorem Half.fresh : Half [] [] IEnd.empty :=
  ⟨Nat.le_refl _, rfl, Nat.le_refl _, fun i h1 h2 => by simp at h2; omega, rfl, rfl, fun m hm => by simp [IEnd.empty] at hm, by simp [IEnd.empty], by simp [IEnd.empty], fun d hd => by simp [IEnd.empty] at hd⟩
theorem Line.fresh (c : Nat) : Line c [] [] (fun _ _ => []) IEnd.empty IEnd.empty [] [] :=
  ⟨Half.fresh, Half.fresh, Grid.empty, Nat.le_refl _, Nat.le_refl _, rfl, rfl, fun i h1 h2 => by simp at h2; omega, fun i h1 h2 => by simp at h2; omega⟩
theorem RInv.fresh {n window : Nat} (h1 : 1 ≤ n) (h2 : n ≤ 4) (h3 : 1 ≤ window) (h4 : window ≤ 4) : RInv (IRoom.fresh n window) (fun _ => []) (fun _ => []) (fun _ _ _ => []) := by
  refine ⟨by simpa [IRoom.fresh] using h1, by simpa [IRoom.fresh] using h2, by simp [IRoom.fresh], by simp [IRoom.fresh], h3, h4, ?_, ?_⟩
  · intro i t E S a1 a2 a3
    simp only [IRoom.fresh, List.getElem?_replicate] at a1 a2 a3
    split at a1
    · rename_i hi
      simp only [hi, if_true, Option.some.injEq] at a1 a2 a3
      subst a1 a2 a3
      exact ⟨Line.fresh i, by simp [IEnd.empty], by simp, fun i h1 h2 => by simp at h2; omega, fun i h1 h2 => by simp at h2; omega⟩
    · simp at a1
  · intro i hi
    have z : ∀ j, (IRoom.fresh n window).tk j = 0 := fun j => by
      unfold IRoom.tk IRoom.fresh
      simp only [List.getD_eq_getElem?_getD, List.getElem?_replicate]
      split <;> rfl
    simp [z]

/-- When on a line all that was made is taken, the client's text is the server's. -/
theorem RInv.alike {X : IRoom} {us ds : Nat → List GMsg} {T : Nat → Nat → Nat → List UInt8} (h : RInv X us ds T) {i : Nat} {t : List UInt8} {E S : IEnd} (h1 : X.texts[i]? = some t) (h2 : X.ends[i]? = some E) (h3 : X.sends[i]? = some S) (ha : E.taken = S.made) (hb : S.taken = E.made) : t = X.server := by
  obtain ⟨hl, _⟩ := h.line i t E S h1 h2 h3
  rw [hl.ta, hl.tb, hb, ha, hl.a.made, hl.b.made]
/-- Nobody waits: all that a client made the server has taken. -/
theorem RInv.known {X : IRoom} {us ds : Nat → List GMsg} {T : Nat → Nat → Nat → List UInt8} (h : RInv X us ds T) {i : Nat} {t : List UInt8} {E S : IEnd} (h1 : X.texts[i]? = some t) (h2 : X.ends[i]? = some E) (h3 : X.sends[i]? = some S) (ha : E.waiting = []) (hb : S.waiting = []) : t = X.server := by
  obtain ⟨hl, _⟩ := h.line i t E S h1 h2 h3
  have e1 : E.made = E.known := by simp [IEnd.made, ha]
  have e2 : S.made = S.known := by simp [IEnd.made, hb]
  have := hl.ka
  have := hl.kb
  have := hl.a.tk
  have := hl.b.tk
  have := hl.a.made
  have := hl.b.made
  exact h.alike h1 h2 h3 (by omega) (by omega)
end Go.Proofs.Ytemkgikncmhoaaa

