import Derived.Test.YtemkgikncmhoaaaM27
namespace Go.Proofs.Ytemkgikncmhoaaa
open Go.RowKit

theorem xR_lose_0 (A : RAddr) (own : Nat → Tag) (rid b : Nat) (X : IRoom) (i n : Nat) (t : List UInt8) (E S : IEnd) (w : World) (h : RoomF A own rid w b X) (ht : X.texts[i]? = some t) (hE : X.ends[i]? = some E) (hS : X.sends[i]? = some S) (_hi4 : i < 4) (hn : n < E.flying.length) (h12 : E.flying.length ≤ 12) :
  Calls Try.prog 27 #[.pointer (some ⟨b, 0, none⟩), .int .i64 i, .bool false, .int .i64 n, .int .i64 1] w fun e w' => e = .returned (.int .i64 0) ∧ ∃ own', RoomF A own' rid w' b (X.setA i t (E.lose n)) ∧ Upd own own' (inRoom rid) w w' := by
 obtain ⟨mb, eb, sb, tbi, tb, O⟩ := h.opened ht hE hS
 obtain ⟨a, cap, c8⟩ := O.hE.c8
 refine xFate_1 b mb eb i n E.flying.length cap a false w 0 _ O.c1 O.mbl O.lk0w c8 hn (fun w1 hb => ?_)
 have U := Upd.of_below own (fun _ => False) hb
 obtain ⟨mb', eb', sb', tbi', tb', O1⟩ := (h.upd U (fun _ _ h => h)).opened ht hE hS
 refine (xlose own rid _ b mb' _ _ X.window i n _ E w1 O1.c1 O1.mbl O1.lk0w O1.hE hn h12).mono ?_
 rintro e w' ⟨rfl, a1, a2⟩
 exact ⟨rfl, own, O1.setE (a2.mono fun _ h => h.inEnd) a1, (U.mono fun _ h => h.elim).trans (a2.mono fun _ h => h.inEnd.1)⟩
theorem xR_double_0 (A : RAddr) (own : Nat → Tag) (rid b : Nat) (X : IRoom) (i n : Nat) (t : List UInt8) (E S : IEnd) (d : ByteArray) (w : World) (h : RoomF A own rid w b X) (ht : X.texts[i]? = some t) (hE : X.ends[i]? = some E) (hS : X.sends[i]? = some S) (_hi4 : i < 4) (hd : E.flying[n]? = some d) (h12 : E.flying.length ≤ 12) :
  Calls Try.prog 27 #[.pointer (some ⟨b, 0, none⟩), .int .i64 i, .bool false, .int .i64 n, .int .i64 2] w fun e w' => e = .returned (.int .i64 0) ∧ ∃ own', RoomF A own' rid w' b (X.setA i t (E.fly d)) ∧ Upd own own' (inRoom rid) w w' := by
 have hn := (List.getElem?_eq_some_iff.1 hd).1
 obtain ⟨mb, eb, sb, tbi, tb, O⟩ := h.opened ht hE hS
 obtain ⟨a, cap, c8⟩ := O.hE.c8
 refine xFate_2 b mb eb i n E.flying.length cap a false w 0 _ O.c1 O.mbl O.lk0w c8 hn (fun w1 hb => ?_)
 have U := Upd.of_below own (fun _ => False) hb
 obtain ⟨mb', eb', sb', tbi', tb', O1⟩ := (h.upd U (fun _ _ h => h)).opened ht hE hS
 refine (xdouble own rid _ b mb' _ _ X.window i n _ E w1 O1.c1 O1.mbl O1.lk0w O1.hE d hd h12).mono ?_
 rintro e w' ⟨rfl, own', a1, a2⟩
 exact ⟨rfl, own', O1.setE (a2.mono fun _ h => h.inEnd) a1, (U.mono fun _ h => h.elim).trans (a2.mono fun _ h => h.inEnd.1)⟩
theorem xR_spoil_0 (A : RAddr) (own : Nat → Tag) (rid b : Nat) (X : IRoom) (i n : Nat) (t : List UInt8) (E S : IEnd) (d d' : ByteArray) (w : World) (h : RoomF A own rid w b X) (ht : X.texts[i]? = some t) (hE : X.ends[i]? = some E) (hS : X.sends[i]? = some S) (_hi4 : i < 4) (hd : E.flying[n]? = some d) (h12 : E.flying.length ≤ 12)
  (hsp : ∀ w, Calls Try.prog 77 #[.string d] w fun e w' => e = .returned (.bool false) ∧ w' = w)
  (hsl : ∀ w, Calls Try.prog 78 #[.string d] w fun e w' => e = .returned (.string d') ∧ Below w.heap.size w w') :
  Calls Try.prog 27 #[.pointer (some ⟨b, 0, none⟩), .int .i64 i, .bool false, .int .i64 n, .int .i64 3] w fun e w' => e = .returned (.int .i64 0) ∧ ∃ own', RoomF A own' rid w' b (X.setA i t { E with flying := E.flying.set n d' }) ∧ Upd own own' (inRoom rid) w w' := by
 have hn := (List.getElem?_eq_some_iff.1 hd).1
 obtain ⟨mb, eb, sb, tbi, tb, O⟩ := h.opened ht hE hS
 obtain ⟨a, cap, c8⟩ := O.hE.c8
 refine xFate_3 b mb eb i n E.flying.length cap a false w 0 _ O.c1 O.mbl O.lk0w c8 hn (fun w1 hb => ?_)
 have U := Upd.of_below own (fun _ => False) hb
 obtain ⟨mb', eb', sb', tbi', tb', O1⟩ := (h.upd U (fun _ _ h => h)).opened ht hE hS
 refine (xspoilF_no own rid _ b mb' _ _ X.window i n _ E w1 O1.c1 O1.mbl O1.lk0w O1.hE d hd h12 d' hsp hsl).mono ?_
 rintro e w' ⟨rfl, a1, a2⟩
 exact ⟨rfl, own, O1.setE (a2.mono fun _ h => h.inEnd) a1, (U.mono fun _ h => h.elim).trans (a2.mono fun _ h => h.inEnd.1)⟩
/-- Spoilt twice: refused. -/
theorem xR_twice_0 (A : RAddr) (own : Nat → Tag) (rid b : Nat) (X : IRoom) (i n : Nat) (t : List UInt8) (E S : IEnd) (d : ByteArray) (w : World) (h : RoomF A own rid w b X) (ht : X.texts[i]? = some t) (hE : X.ends[i]? = some E) (hS : X.sends[i]? = some S) (hd : E.flying[n]? = some d) (h12 : E.flying.length ≤ 12)
  (hsp : ∀ w, Calls Try.prog 77 #[.string d] w fun e w' => e = .returned (.bool true) ∧ w' = w) :
  Calls Try.prog 27 #[.pointer (some ⟨b, 0, none⟩), .int .i64 i, .bool false, .int .i64 n, .int .i64 3] w fun e w' => e = .returned (.int .i64 8) ∧ ∃ own', RoomF A own' rid w' b X ∧ Upd own own' (inRoom rid) w w' := by
 have hn := (List.getElem?_eq_some_iff.1 hd).1
 obtain ⟨mb, eb, sb, tbi, tb, O⟩ := h.opened ht hE hS
 obtain ⟨a, cap, c8⟩ := O.hE.c8
 refine xFate_3 b mb eb i n E.flying.length cap a false w 8 _ O.c1 O.mbl O.lk0w c8 hn (fun w1 hb => ?_)
 have U := Upd.of_below own (fun _ => False) hb
 have h1 := h.upd U (fun _ _ h => h)
 obtain ⟨mb', eb', sb', tbi', tb', O1⟩ := h1.opened ht hE hS
 refine (xspoilF_yes own rid _ b mb' _ _ X.window i n _ E w1 O1.c1 O1.mbl O1.lk0w O1.hE d hd h12 hsp).mono ?_
 rintro e w' ⟨rfl, hb'⟩
 have U' := Upd.of_below own (fun _ => False) hb'
 exact ⟨rfl, own, h1.upd U' (fun _ _ h => h), (U.trans U').mono fun _ h => h.elim⟩
/-- A delivery. -/
theorem xR_deliver_0 (A : RAddr) (own : Nat → Tag) (rid b : Nat) (X X2 : IRoom) (i n : Nat) (t : List UInt8) (E S : IEnd) (d : ByteArray) (w : World) (h : RoomF A own rid w b X) (ht : X.texts[i]? = some t) (hE : X.ends[i]? = some E) (hS : X.sends[i]? = some S) (hi4 : i < 4) (hd : E.flying[n]? = some d) (h12 : E.flying.length ≤ 12)
  (harr : ∀ own1 w1, RoomF A own1 rid w1 b (X.setA i t (E.lose n)) → Calls Try.prog 74 #[.pointer (some ⟨b, 0, none⟩), .agg #[.int .i64 i, .bool true], .string d] w1 fun e w' => e = .returned (.tuple #[]) ∧ ∃ own', RoomF A own' rid w' b X2 ∧ Upd own1 own' (inRoom rid) w1 w') :
  Calls Try.prog 27 #[.pointer (some ⟨b, 0, none⟩), .int .i64 i, .bool false, .int .i64 n, .int .i64 0] w fun e w' => e = .returned (.int .i64 0) ∧ ∃ own', RoomF A own' rid w' b X2 ∧ Upd own own' (inRoom rid) w w' := by
 have hn := (List.getElem?_eq_some_iff.1 hd).1
 obtain ⟨mb, eb, sb, tbi, tb, O⟩ := h.opened ht hE hS
 obtain ⟨a, cap, c8⟩ := O.hE.c8
 refine xFate_0 b mb eb i n E.flying.length cap a false w 0 _ O.c1 O.mbl O.lk0w c8 hn (fun w1 hb => ?_)
 have U := Upd.of_below own (fun _ => False) hb
 refine (xdeliver_0 A own rid b X X2 i n t E S d w1 (h.upd U (fun _ _ h => h)) ht hE hS hi4 hd h12 harr).mono ?_
 rintro e w' ⟨rfl, own', a1, a2⟩
 exact ⟨rfl, own', a1, (U.mono fun _ h => h.elim).trans a2⟩
theorem xR_lose_1 (A : RAddr) (own : Nat → Tag) (rid b : Nat) (X : IRoom) (i n : Nat) (t : List UInt8) (E S : IEnd) (w : World) (h : RoomF A own rid w b X) (ht : X.texts[i]? = some t) (hE : X.ends[i]? = some E) (hS : X.sends[i]? = some S) (hi4 : i < 4) (hn : n < S.flying.length) (h12 : S.flying.length ≤ 12) :
  Calls Try.prog 27 #[.pointer (some ⟨b, 0, none⟩), .int .i64 i, .bool true, .int .i64 n, .int .i64 1] w fun e w' => e = .returned (.int .i64 0) ∧ ∃ own', RoomF A own' rid w' b (X.setB i (S.lose n)) ∧ Upd own own' (inRoom rid) w w' := by
 obtain ⟨mb, eb, sb, tbi, tb, O⟩ := h.opened ht hE hS
 obtain ⟨a, cap, c8⟩ := O.hS.c8
 refine xFate_1 b mb sb i n S.flying.length cap a true w 0 _ O.c1 O.mbl O.lk1w c8 hn (fun w1 hb => ?_)
 have U := Upd.of_below own (fun _ => False) hb
 obtain ⟨mb', eb', sb', tbi', tb', O1⟩ := (h.upd U (fun _ _ h => h)).opened ht hE hS
 refine (xlose own rid _ b mb' _ _ X.window i n _ S w1 O1.c1 O1.mbl O1.lk1w O1.hS hn h12).mono ?_
 rintro e w' ⟨rfl, a1, a2⟩
 exact ⟨rfl, own, O1.setS hi4 (a2.mono fun _ h => h.inEnd) a1, (U.mono fun _ h => h.elim).trans (a2.mono fun _ h => h.inEnd.1)⟩
theorem xR_double_1 (A : RAddr) (own : Nat → Tag) (rid b : Nat) (X : IRoom) (i n : Nat) (t : List UInt8) (E S : IEnd) (d : ByteArray) (w : World) (h : RoomF A own rid w b X) (ht : X.texts[i]? = some t) (hE : X.ends[i]? = some E) (hS : X.sends[i]? = some S) (hi4 : i < 4) (hd : S.flying[n]? = some d) (h12 : S.flying.length ≤ 12) :
  Calls Try.prog 27 #[.pointer (some ⟨b, 0, none⟩), .int .i64 i, .bool true, .int .i64 n, .int .i64 2] w fun e w' => e = .returned (.int .i64 0) ∧ ∃ own', RoomF A own' rid w' b (X.setB i (S.fly d)) ∧ Upd own own' (inRoom rid) w w' := by
 have hn := (List.getElem?_eq_some_iff.1 hd).1
 obtain ⟨mb, eb, sb, tbi, tb, O⟩ := h.opened ht hE hS
 obtain ⟨a, cap, c8⟩ := O.hS.c8
 refine xFate_2 b mb sb i n S.flying.length cap a true w 0 _ O.c1 O.mbl O.lk1w c8 hn (fun w1 hb => ?_)
 have U := Upd.of_below own (fun _ => False) hb
 obtain ⟨mb', eb', sb', tbi', tb', O1⟩ := (h.upd U (fun _ _ h => h)).opened ht hE hS
 refine (xdouble own rid _ b mb' _ _ X.window i n _ S w1 O1.c1 O1.mbl O1.lk1w O1.hS d hd h12).mono ?_
 rintro e w' ⟨rfl, own', a1, a2⟩
 exact ⟨rfl, own', O1.setS hi4 (a2.mono fun _ h => h.inEnd) a1, (U.mono fun _ h => h.elim).trans (a2.mono fun _ h => h.inEnd.1)⟩
theorem xR_spoil_1 (A : RAddr) (own : Nat → Tag) (rid b : Nat) (X : IRoom) (i n : Nat) (t : List UInt8) (E S : IEnd) (d d' : ByteArray) (w : World) (h : RoomF A own rid w b X) (ht : X.texts[i]? = some t) (hE : X.ends[i]? = some E) (hS : X.sends[i]? = some S) (hi4 : i < 4) (hd : S.flying[n]? = some d) (h12 : S.flying.length ≤ 12)
  (hsp : ∀ w, Calls Try.prog 77 #[.string d] w fun e w' => e = .returned (.bool false) ∧ w' = w)
  (hsl : ∀ w, Calls Try.prog 78 #[.string d] w fun e w' => e = .returned (.string d') ∧ Below w.heap.size w w') :
  Calls Try.prog 27 #[.pointer (some ⟨b, 0, none⟩), .int .i64 i, .bool true, .int .i64 n, .int .i64 3] w fun e w' => e = .returned (.int .i64 0) ∧ ∃ own', RoomF A own' rid w' b (X.setB i { S with flying := S.flying.set n d' }) ∧ Upd own own' (inRoom rid) w w' := by
 have hn := (List.getElem?_eq_some_iff.1 hd).1
 obtain ⟨mb, eb, sb, tbi, tb, O⟩ := h.opened ht hE hS
 obtain ⟨a, cap, c8⟩ := O.hS.c8
 refine xFate_3 b mb sb i n S.flying.length cap a true w 0 _ O.c1 O.mbl O.lk1w c8 hn (fun w1 hb => ?_)
 have U := Upd.of_below own (fun _ => False) hb
 obtain ⟨mb', eb', sb', tbi', tb', O1⟩ := (h.upd U (fun _ _ h => h)).opened ht hE hS
 refine (xspoilF_no own rid _ b mb' _ _ X.window i n _ S w1 O1.c1 O1.mbl O1.lk1w O1.hS d hd h12 d' hsp hsl).mono ?_
 rintro e w' ⟨rfl, a1, a2⟩
 exact ⟨rfl, own, O1.setS hi4 (a2.mono fun _ h => h.inEnd) a1, (U.mono fun _ h => h.elim).trans (a2.mono fun _ h => h.inEnd.1)⟩
/-- Spoilt twice: refused. -/
theorem xR_twice_1 (A : RAddr) (own : Nat → Tag) (rid b : Nat) (X : IRoom) (i n : Nat) (t : List UInt8) (E S : IEnd) (d : ByteArray) (w : World) (h : RoomF A own rid w b X) (ht : X.texts[i]? = some t) (hE : X.ends[i]? = some E) (hS : X.sends[i]? = some S) (hd : S.flying[n]? = some d) (h12 : S.flying.length ≤ 12)
  (hsp : ∀ w, Calls Try.prog 77 #[.string d] w fun e w' => e = .returned (.bool true) ∧ w' = w) :
  Calls Try.prog 27 #[.pointer (some ⟨b, 0, none⟩), .int .i64 i, .bool true, .int .i64 n, .int .i64 3] w fun e w' => e = .returned (.int .i64 8) ∧ ∃ own', RoomF A own' rid w' b X ∧ Upd own own' (inRoom rid) w w' := by
 have hn := (List.getElem?_eq_some_iff.1 hd).1
 obtain ⟨mb, eb, sb, tbi, tb, O⟩ := h.opened ht hE hS
 obtain ⟨a, cap, c8⟩ := O.hS.c8
 refine xFate_3 b mb sb i n S.flying.length cap a true w 8 _ O.c1 O.mbl O.lk1w c8 hn (fun w1 hb => ?_)
 have U := Upd.of_below own (fun _ => False) hb
 have h1 := h.upd U (fun _ _ h => h)
 obtain ⟨mb', eb', sb', tbi', tb', O1⟩ := h1.opened ht hE hS
 refine (xspoilF_yes own rid _ b mb' _ _ X.window i n _ S w1 O1.c1 O1.mbl O1.lk1w O1.hS d hd h12 hsp).mono ?_
 rintro e w' ⟨rfl, hb'⟩
 have U' := Upd.of_below own (fun _ => False) hb'
 exact ⟨rfl, own, h1.upd U' (fun _ _ h => h), (U.trans U').mono fun _ h => h.elim⟩
/-- A delivery. -/
theorem xR_deliver_1 (A : RAddr) (own : Nat → Tag) (rid b : Nat) (X X2 : IRoom) (i n : Nat) (t : List UInt8) (E S : IEnd) (d : ByteArray) (w : World) (h : RoomF A own rid w b X) (ht : X.texts[i]? = some t) (hE : X.ends[i]? = some E) (hS : X.sends[i]? = some S) (hi4 : i < 4) (hd : S.flying[n]? = some d) (h12 : S.flying.length ≤ 12)
  (harr : ∀ own1 w1, RoomF A own1 rid w1 b (X.setB i (S.lose n)) → Calls Try.prog 74 #[.pointer (some ⟨b, 0, none⟩), .agg #[.int .i64 i, .bool false], .string d] w1 fun e w' => e = .returned (.tuple #[]) ∧ ∃ own', RoomF A own' rid w' b X2 ∧ Upd own1 own' (inRoom rid) w1 w') :
  Calls Try.prog 27 #[.pointer (some ⟨b, 0, none⟩), .int .i64 i, .bool true, .int .i64 n, .int .i64 0] w fun e w' => e = .returned (.int .i64 0) ∧ ∃ own', RoomF A own' rid w' b X2 ∧ Upd own own' (inRoom rid) w w' := by
 have hn := (List.getElem?_eq_some_iff.1 hd).1
 obtain ⟨mb, eb, sb, tbi, tb, O⟩ := h.opened ht hE hS
 obtain ⟨a, cap, c8⟩ := O.hS.c8
 refine xFate_0 b mb sb i n S.flying.length cap a true w 0 _ O.c1 O.mbl O.lk1w c8 hn (fun w1 hb => ?_)
 have U := Upd.of_below own (fun _ => False) hb
 refine (xdeliver_1 A own rid b X X2 i n t E S d w1 (h.upd U (fun _ _ h => h)) ht hE hS hi4 hd h12 harr).mono ?_
 rintro e w' ⟨rfl, own', a1, a2⟩
 exact ⟨rfl, own', a1, (U.mono fun _ h => h.elim).trans a2⟩
end Go.Proofs.Ytemkgikncmhoaaa

namespace Go.Proofs.Ytemkgikncmhoaaa
open Go.RowKit

/-- What a datagram says: how many were taken; a message or none. -/
def readD (d : ByteArray) : Option (Nat × Option IMsg) := match d.data.toList with
 | [b0, b1, _, _] => if b0 = 2 then some (b1.toNat, none) else none
 | [b0, b1, b2, b3, b4, b5, b6, b7, _, _] => if b0 = 1 then some (b3.toNat, some ⟨b1.toNat, b2.toNat, ⟨b4.toNat, b5.toNat, b6.toNat, b7.toNat⟩⟩) else none
 | _ => none
theorem readD_word (tk : Nat) (h : tk ≤ 255) : readD (ckd [2, (tk : Int)]) = some (tk, none) := by
 have x1 : (byteOf tk).toNat = tk := by simp [byteOf]; omega
 show (if byteOf 2 = 2 then some ((byteOf tk).toNat, none) else none) = _
 rw [if_pos (by decide), x1]
theorem readD_word_spoilt (tk : Nat) : readD (spoil (ckd [2, (tk : Int)])) = none := by
 have hs : spoil (ckd [2, (tk : Int)]) = ⟨#[255 - byteOf 2, byteOf tk, byteOf (sumTo [2, (tk : Int)] 2 % 251), byteOf (wsumTo [2, (tk : Int)] 2 % 251)]⟩ := rfl
 rw [hs]
 have hn : ¬ (255 - byteOf 2 = 2) := by decide
 generalize 255 - byteOf 2 = q at hn ⊢
 simp [readD, hn]
theorem readD_msg_spoilt (m : IMsg) (tk : Nat) : readD (spoil (ckd (m.bytes tk))) = none := by
 have hs : spoil (ckd (m.bytes tk)) = ⟨#[255 - byteOf 1, byteOf m.number, byteOf m.ctx, byteOf tk, byteOf m.op.client, byteOf m.op.verb, byteOf m.op.place, byteOf m.op.letter, byteOf (sumTo (m.bytes tk) 8 % 251), byteOf (wsumTo (m.bytes tk) 8 % 251)]⟩ := rfl
 rw [hs]
 have hn : ¬ (255 - byteOf 1 = 1) := by decide
 generalize 255 - byteOf 1 = q at hn ⊢
 simp [readD, hn]
theorem readD_msg (m : IMsg) (tk : Nat) (h : Bytes (m.bytes tk)) : readD (ckd (m.bytes tk)) = some (tk, some m) := by
 have x1 : ((byteOf m.number).toNat : Int) = m.number := bytes_int h (k := 1) rfl
 have x2 : ((byteOf m.ctx).toNat : Int) = m.ctx := bytes_int h (k := 2) rfl
 have x3 : ((byteOf tk).toNat : Int) = tk := bytes_int h (k := 3) rfl
 have x4 : ((byteOf m.op.client).toNat : Int) = m.op.client := bytes_int h (k := 4) rfl
 have x5 : ((byteOf m.op.verb).toNat : Int) = m.op.verb := bytes_int h (k := 5) rfl
 have x6 : ((byteOf m.op.place).toNat : Int) = m.op.place := bytes_int h (k := 6) rfl
 have x7 : ((byteOf m.op.letter).toNat : Int) = m.op.letter := bytes_int h (k := 7) rfl
 show (if byteOf 1 = 1 then some ((byteOf tk).toNat, some (⟨(byteOf m.number).toNat, (byteOf m.ctx).toNat, ⟨((byteOf m.op.client).toNat : Int), ((byteOf m.op.verb).toNat : Int), ((byteOf m.op.place).toNat : Int), ((byteOf m.op.letter).toNat : Int)⟩⟩ : IMsg)) else none) = _
 rw [if_pos (by decide), x4, x5, x6, x7, show (byteOf tk).toNat = tk by omega, show (byteOf m.number).toNat = m.number by omega, show (byteOf m.ctx).toNat = m.ctx by omega]

/-- What the other end makes of it. -/
def IRoom.comeA (X : IRoom) (i : Nat) (d : ByteArray) : IRoom := match readD d with
 | some (tk, m) => X.arriveA i tk m
 | none => X
def IRoom.comeB (X : IRoom) (i : Nat) (d : ByteArray) : IRoom := match readD d with
 | some (tk, m) => X.arriveB i tk m
 | none => X

set_option maxHeartbeats 800000 in
/-- A datagram comes to an end. -/
theorem xcome_0 (A : RAddr) (own : Nat → Tag) (rid b : Nat) (X : IRoom) (us ds : Nat → List GMsg) (T : Nat → Nat → Nat → List UInt8) (hI : RInv X us ds T) (i : Nat) (t : List UInt8) (E S : IEnd) (d : ByteArray) (w : World) (h : RoomF A own rid w b X) (ht : X.texts[i]? = some t) (hE : X.ends[i]? = some E) (hS : X.sends[i]? = some S) (hd : Flies (ds i) S.taken d) :
  Calls Try.prog 74 #[.pointer (some ⟨b, 0, none⟩), .agg #[.int .i64 i, .bool false], .string d] w fun e w' => e = .returned (.tuple #[]) ∧ ∃ own', RoomF A own' rid w' b (X.comeA i d) ∧ Upd own own' (inRoom rid) w w' := by
 have htk : S.taken ≤ 240 := (hI.waitB ht hE hS).2.2.1
 have bad : (∀ w, Calls Try.prog 86 #[.string d] w fun e w' => e = .returned (.bool false) ∧ w' = w) → readD d = none → Calls Try.prog 74 #[.pointer (some ⟨b, 0, none⟩), .agg #[.int .i64 i, .bool false], .string d] w fun e w' => e = .returned (.tuple #[]) ∧ ∃ own', RoomF A own' rid w' b (X.comeA i d) ∧ Upd own own' (inRoom rid) w w' := by
  intro hb hr
  refine (xarrive_bad b i _ d w (hb _)).mono ?_
  rintro e w' ⟨rfl, hb'⟩
  unfold IRoom.comeA
  rw [hr]
  exact ⟨rfl, own, h.upd (Upd.of_below own (fun _ => False) hb') (fun _ _ h => h), Upd.of_below own _ hb'⟩
 rcases hd with hd | ⟨d0, hd, rfl⟩
 ·rcases hd with ⟨n, tk, h1, h2, h3⟩ | ⟨tk, h3⟩
  ·have hby := hI.bytesB ht hE hS h1 h2 (show tk ≤ 255 by omega)
   obtain ⟨r1, r2, r3, r4, _⟩ := reads_msg _ _ hby
   unfold IRoom.comeA
   rw [readD_msg _ _ hby]
   exact xarr_msg_0 A own rid b X us ds T hI i t E S _ tk w h ht hE hS _ r1 r2 r3 r4 h3 ⟨n, h1, h2, rfl⟩
  ·obtain ⟨r1, r2, r3, _⟩ := reads_word tk (by omega)
   unfold IRoom.comeA
   rw [readD_word tk (by omega)]
   exact xarr_word_0 A own rid b X us ds T hI i t E S _ tk w h ht hE hS r1 r2 r3
 ·rcases hd with ⟨n, tk, h1, h2, h3⟩ | ⟨tk, h3⟩
  ·have hby := hI.bytesB ht hE hS h1 h2 (show tk ≤ 255 by omega)
   obtain ⟨_, _, _, _, _, _, r7, _⟩ := reads_msg _ _ hby
   exact bad r7 (readD_msg_spoilt _ _)
  ·obtain ⟨_, _, _, _, _, r6, _⟩ := reads_word tk (by omega)
   exact bad r6 (readD_word_spoilt _)
set_option maxHeartbeats 800000 in
/-- A datagram comes to an end. -/
theorem xcome_1 (A : RAddr) (own : Nat → Tag) (rid b : Nat) (X : IRoom) (us ds : Nat → List GMsg) (T : Nat → Nat → Nat → List UInt8) (hI : RInv X us ds T) (i : Nat) (t : List UInt8) (E S : IEnd) (d : ByteArray) (w : World) (h : RoomF A own rid w b X) (ht : X.texts[i]? = some t) (hE : X.ends[i]? = some E) (hS : X.sends[i]? = some S) (hd : Flies (us i) E.taken d) :
  Calls Try.prog 74 #[.pointer (some ⟨b, 0, none⟩), .agg #[.int .i64 i, .bool true], .string d] w fun e w' => e = .returned (.tuple #[]) ∧ ∃ own', RoomF A own' rid w' b (X.comeB i d) ∧ Upd own own' (inRoom rid) w w' := by
 have htk : E.taken ≤ 240 := (hI.waitA ht hE hS).2.2.1
 have bad : (∀ w, Calls Try.prog 86 #[.string d] w fun e w' => e = .returned (.bool false) ∧ w' = w) → readD d = none → Calls Try.prog 74 #[.pointer (some ⟨b, 0, none⟩), .agg #[.int .i64 i, .bool true], .string d] w fun e w' => e = .returned (.tuple #[]) ∧ ∃ own', RoomF A own' rid w' b (X.comeB i d) ∧ Upd own own' (inRoom rid) w w' := by
  intro hb hr
  refine (xarrive_bad b i _ d w (hb _)).mono ?_
  rintro e w' ⟨rfl, hb'⟩
  unfold IRoom.comeB
  rw [hr]
  exact ⟨rfl, own, h.upd (Upd.of_below own (fun _ => False) hb') (fun _ _ h => h), Upd.of_below own _ hb'⟩
 rcases hd with hd | ⟨d0, hd, rfl⟩
 ·rcases hd with ⟨n, tk, h1, h2, h3⟩ | ⟨tk, h3⟩
  ·have hby := hI.bytesA ht hE hS h1 h2 (show tk ≤ 255 by omega)
   obtain ⟨r1, r2, r3, r4, _⟩ := reads_msg _ _ hby
   unfold IRoom.comeB
   rw [readD_msg _ _ hby]
   exact xarr_msg_1 A own rid b X us ds T hI i t E S _ tk w h ht hE hS _ r1 r2 r3 r4 h3 ⟨n, h1, h2, rfl⟩
  ·obtain ⟨r1, r2, r3, _⟩ := reads_word tk (by omega)
   unfold IRoom.comeB
   rw [readD_word tk (by omega)]
   exact xarr_word_1 A own rid b X us ds T hI i t E S _ tk w h ht hE hS r1 r2 r3
 ·rcases hd with ⟨n, tk, h1, h2, h3⟩ | ⟨tk, h3⟩
  ·have hby := hI.bytesA ht hE hS h1 h2 (show tk ≤ 255 by omega)
   obtain ⟨_, _, _, _, _, _, r7, _⟩ := reads_msg _ _ hby
   exact bad r7 (readD_msg_spoilt _ _)
  ·obtain ⟨_, _, _, _, _, r6, _⟩ := reads_word tk (by omega)
   exact bad r6 (readD_word_spoilt _)

theorem setA_get {X : IRoom} {i : Nat} {t t' : List UInt8} {E E' : IEnd} (ht : X.texts[i]? = some t) (hE : X.ends[i]? = some E) : (X.setA i t' E').texts[i]? = some t' ∧ (X.setA i t' E').ends[i]? = some E' := by
 simp [IRoom.setA, (List.getElem?_eq_some_iff.1 ht).1, (List.getElem?_eq_some_iff.1 hE).1]
theorem setB_get {X : IRoom} {i : Nat} {S S' : IEnd} (hS : X.sends[i]? = some S) : (X.setB i S').sends[i]? = some S' := by
 simp [IRoom.setB, (List.getElem?_eq_some_iff.1 hS).1]

/-- A client's datagram is delivered to the server. -/
theorem xR_up (A : RAddr) (own : Nat → Tag) (rid b : Nat) (X : IRoom) (us ds : Nat → List GMsg) (T : Nat → Nat → Nat → List UInt8) (hI : RInv X us ds T) (i n : Nat) (t : List UInt8) (E S : IEnd) (d : ByteArray) (w : World) (h : RoomF A own rid w b X) (ht : X.texts[i]? = some t) (hE : X.ends[i]? = some E) (hS : X.sends[i]? = some S) (hd : E.flying[n]? = some d) :
  Calls Try.prog 27 #[.pointer (some ⟨b, 0, none⟩), .int .i64 i, .bool false, .int .i64 n, .int .i64 0] w fun e w' => e = .returned (.int .i64 0) ∧ ∃ own', RoomF A own' rid w' b ((X.setA i t (E.lose n)).comeB i d) ∧ Upd own own' (inRoom rid) w w' := by
 have hi4 : i < 4 := by have := hI.n4; have := (List.getElem?_eq_some_iff.1 ht).1; omega
 obtain ⟨g1, g2⟩ := setA_get (t' := t) (E' := E.lose n) ht hE
 obtain ⟨hl, _⟩ := hI.line i t E S ht hE hS
 have hf := hl.a.flies d (List.mem_of_getElem? hd)
 exact xR_deliver_0 A own rid b X _ i n t E S d w h ht hE hS hi4 hd hl.a.fly fun own1 w1 h1 => xcome_1 A own1 rid b _ us ds T (hI.loseA ht hE hS n) i t (E.lose n) S d w1 h1 g1 g2 hS hf
/-- A datagram of the server's is delivered to a client. -/
theorem xR_down (A : RAddr) (own : Nat → Tag) (rid b : Nat) (X : IRoom) (us ds : Nat → List GMsg) (T : Nat → Nat → Nat → List UInt8) (hI : RInv X us ds T) (i n : Nat) (t : List UInt8) (E S : IEnd) (d : ByteArray) (w : World) (h : RoomF A own rid w b X) (ht : X.texts[i]? = some t) (hE : X.ends[i]? = some E) (hS : X.sends[i]? = some S) (hd : S.flying[n]? = some d) :
  Calls Try.prog 27 #[.pointer (some ⟨b, 0, none⟩), .int .i64 i, .bool true, .int .i64 n, .int .i64 0] w fun e w' => e = .returned (.int .i64 0) ∧ ∃ own', RoomF A own' rid w' b ((X.setB i (S.lose n)).comeA i d) ∧ Upd own own' (inRoom rid) w w' := by
 have hi4 : i < 4 := by have := hI.n4; have := (List.getElem?_eq_some_iff.1 ht).1; omega
 have g3 := setB_get (S' := S.lose n) hS
 obtain ⟨hl, _⟩ := hI.line i t E S ht hE hS
 have hf := hl.b.flies d (List.mem_of_getElem? hd)
 exact xR_deliver_1 A own rid b X _ i n t E S d w h ht hE hS hi4 hd hl.b.fly fun own1 w1 h1 => xcome_0 A own1 rid b _ us ds T (hI.loseB ht hE hS n) i t E (S.lose n) d w1 h1 ht hE g3 hf
end Go.Proofs.Ytemkgikncmhoaaa

namespace Go.Proofs.Ytemkgikncmhoaaa

section
variable {X : IRoom} {us ds : Nat → List GMsg} {T : Nat → Nat → Nat → List UInt8}
/-- What is read of what flies. -/
theorem Flies.reads {own : List GMsg} {taken : Nat} {d : ByteArray} (h : Flies own taken d) (ht : taken ≤ 255) (hb : ∀ n tk, 1 ≤ n → n ≤ own.length → tk ≤ 255 → Bytes ((imsg own n).bytes tk)) :
  readD d = none ∨ ∃ tk m, readD d = some (tk, m) ∧ tk ≤ taken ∧ ∀ q, m = some q → ∃ n, 1 ≤ n ∧ n ≤ own.length ∧ q = imsg own n := by
 rcases h with hd | ⟨d0, hd, rfl⟩
 ·rcases hd with ⟨n, tk, h1, h2, h3⟩ | ⟨tk, h3⟩
  ·exact .inr ⟨tk, _, readD_msg _ _ (hb n tk h1 h2 (by omega)), h3, fun q hq => by cases hq; exact ⟨n, h1, h2, rfl⟩⟩
  ·exact .inr ⟨tk, none, readD_word tk (by omega), h3, fun q hq => by cases hq⟩
 ·rcases hd with ⟨n, tk, h1, h2, h3⟩ | ⟨tk, h3⟩
  ·exact .inl (readD_msg_spoilt _ _)
  ·exact .inl (readD_word_spoilt _)
theorem RInv.comeA (h : RInv X us ds T) {i : Nat} {t : List UInt8} {E S : IEnd} (h1 : X.texts[i]? = some t) (h2 : X.ends[i]? = some E) (h3 : X.sends[i]? = some S) {d : ByteArray} (hd : Flies (ds i) S.taken d) : RInv (X.comeA i d) us ds T := by
 have ht := (h.waitB h1 h2 h3).2.2.1
 unfold IRoom.comeA
 rcases hd.reads (by omega) (fun n tk a b c => h.bytesB h1 h2 h3 a b c) with e | ⟨tk, m, e, e1, e2⟩ <;> rw [e]
 ·exact h
 ·exact h.arriveA h1 h2 h3 tk m e1 e2
theorem RInv.comeB (h : RInv X us ds T) {i : Nat} {t : List UInt8} {E S : IEnd} (h1 : X.texts[i]? = some t) (h2 : X.ends[i]? = some E) (h3 : X.sends[i]? = some S) {d : ByteArray} (hd : Flies (us i) E.taken d) : ∃ ds' T', RInv (X.comeB i d) us ds' T' := by
 have ht := (h.waitA h1 h2 h3).2.2.1
 unfold IRoom.comeB
 rcases hd.reads (by omega) (fun n tk a b c => h.bytesA h1 h2 h3 a b c) with e | ⟨tk, m, e, e1, e2⟩ <;> rw [e]
 ·exact ⟨ds, T, h⟩
 ·exact h.arriveB h1 h2 h3 tk m e1 e2
/-- A delivery to the server keeps the rows; one to a client too. -/
theorem RInv.up (h : RInv X us ds T) {i n : Nat} {t : List UInt8} {E S : IEnd} (h1 : X.texts[i]? = some t) (h2 : X.ends[i]? = some E) (h3 : X.sends[i]? = some S) {d : ByteArray} (hd : E.flying[n]? = some d) : ∃ ds' T', RInv ((X.setA i t (E.lose n)).comeB i d) us ds' T' := by
 obtain ⟨g1, g2⟩ := setA_get (t' := t) (E' := E.lose n) h1 h2
 obtain ⟨hl, _⟩ := h.line i t E S h1 h2 h3
 exact (h.loseA h1 h2 h3 n).comeB g1 g2 h3 (hl.a.flies d (List.mem_of_getElem? hd))
theorem RInv.down (h : RInv X us ds T) {i n : Nat} {t : List UInt8} {E S : IEnd} (h1 : X.texts[i]? = some t) (h2 : X.ends[i]? = some E) (h3 : X.sends[i]? = some S) {d : ByteArray} (hd : S.flying[n]? = some d) : RInv ((X.setB i (S.lose n)).comeA i d) us ds T := by
 have g3 := setB_get (S' := S.lose n) h3
 obtain ⟨hl, _⟩ := h.line i t E S h1 h2 h3
 exact (h.loseB h1 h2 h3 n).comeA h1 h2 g3 (hl.b.flies d (List.mem_of_getElem? hd))
theorem IEnd.tick_fields (E : IEnd) (window : Nat) : (E.tick window).known = E.known ∧ (E.tick window).taken = E.taken ∧ (E.tick window).waiting = E.waiting ∧ (E.tick window).kept = E.kept := by
 unfold IEnd.tick
 split
 ·obtain ⟨a1, a2, a3, _, _, a6⟩ := IEnd.sends_fields (E.waiting.take window) E
  exact ⟨a1, a3, a2, a6⟩
 ·split
  ·obtain ⟨a1, a2, a3, _, _, a6⟩ := E.fly_fields (ckd [2, (E.taken : Int)])
   exact ⟨a1, a3, a2, a6⟩
  ·exact ⟨rfl, rfl, rfl, rfl⟩
theorem RInv.tickA (h : RInv X us ds T) {i : Nat} {t : List UInt8} {E S : IEnd} (h1 : X.texts[i]? = some t) (h2 : X.ends[i]? = some E) (h3 : X.sends[i]? = some S) : RInv (X.setA i t (E.tick X.window)) us ds T :=
 h.turnA h1 h2 h3 (fun q => q.ticked) (E.tick_fields _).2.1 (E.tick_fields _).1
theorem RInv.tickB (h : RInv X us ds T) {i : Nat} {t : List UInt8} {E S : IEnd} (h1 : X.texts[i]? = some t) (h2 : X.ends[i]? = some E) (h3 : X.sends[i]? = some S) : RInv (X.setB i (S.tick X.window)) us ds T :=
 h.turnB h1 h2 h3 (fun q => q.ticked) (S.tick_fields _).2.1 (S.tick_fields _).1
end
end Go.Proofs.Ytemkgikncmhoaaa

namespace Go.Proofs.Ytemkgikncmhoaaa

theorem Half.fresh : Half [] [] IEnd.empty :=
 ⟨Nat.le_refl _, rfl, Nat.le_refl _, fun i h1 h2 => by simp at h2; omega, rfl, rfl, fun m hm => by simp [IEnd.empty] at hm, by simp [IEnd.empty], by simp [IEnd.empty], fun d hd => by simp [IEnd.empty] at hd⟩
theorem Line.fresh (c : Nat) : Line c [] [] (fun _ _ => []) IEnd.empty IEnd.empty [] [] :=
 ⟨Half.fresh, Half.fresh, Grid.empty, Nat.le_refl _, Nat.le_refl _, rfl, rfl, fun i h1 h2 => by simp at h2; omega, fun i h1 h2 => by simp at h2; omega⟩
theorem RInv.fresh {n window : Nat} (h1 : 1 ≤ n) (h2 : n ≤ 4) (h3 : 1 ≤ window) (h4 : window ≤ 4) : RInv (IRoom.fresh n window) (fun _ => []) (fun _ => []) (fun _ _ _ => []) := by
 refine ⟨by simpa [IRoom.fresh] using h1, by simpa [IRoom.fresh] using h2, by simp [IRoom.fresh], by simp [IRoom.fresh], h3, h4, ?_, ?_⟩
 ·intro i t E S a1 a2 a3
  simp only [IRoom.fresh, List.getElem?_replicate] at a1 a2 a3
  split at a1
  ·rename_i hi
   simp only [hi, if_true, Option.some.injEq] at a1 a2 a3
   subst a1 a2 a3
   exact ⟨Line.fresh i, by simp [IEnd.empty], by simp, fun i h1 h2 => by simp at h2; omega, fun i h1 h2 => by simp at h2; omega⟩
  ·simp at a1
 ·intro i hi
  have z : ∀ j, (IRoom.fresh n window).tk j = 0 := fun j => by
   unfold IRoom.tk IRoom.fresh
   simp only [List.getD_eq_getElem?_getD, List.getElem?_replicate]
   split <;> rfl
  simp [z]

end Go.Proofs.Ytemkgikncmhoaaa

namespace Go.Proofs.Ytemkgikncmhoaaa

/-- k of what was kept are taken. -/
structure Took (E E2 : IEnd) (k : Nat) : Prop where
 known : E2.known = E.known
 waiting : E2.waiting = E.waiting
 flying : E2.flying = E.flying
 taken : E2.taken = E.taken + k
 kept : ∀ m, m ∈ E2.kept ↔ m ∈ E.kept ∧ E.taken + k < m.number
 were : ∀ n, E.taken < n → n ≤ E.taken + k → n ∈ E.kept.map IMsg.number
theorem Took.zero {E : IEnd} (h : ∀ m ∈ E.kept, E.taken < m.number) : Took E E 0 :=
 ⟨rfl, rfl, rfl, rfl, fun m => ⟨fun hm => ⟨hm, by have := h m hm; omega⟩, fun hm => hm.1⟩, fun n h1 h2 => by omega⟩
theorem Took.step {E E2 : IEnd} {m : IMsg} {k : Nat} (hm : m ∈ E.kept) (hn : m.number = E.taken + 1) (h : Took ((E.drop m.number).take m) E2 k) : Took E E2 (k + 1) := by
 have e1 : ((E.drop m.number).take m).taken = E.taken + 1 := hn
 refine ⟨h.known, h.waiting, h.flying, by rw [h.taken, e1]; omega, fun q => ?_, fun n h1 h2 => ?_⟩
 ·rw [h.kept q, e1]
  show (q ∈ E.kept.filter _ ∧ _) ↔ _
  rw [List.mem_filter]
  constructor
  ·rintro ⟨⟨a, _⟩, b⟩; exact ⟨a, by omega⟩
  ·rintro ⟨a, b⟩; exact ⟨⟨a, by simp; omega⟩, by omega⟩
 ·by_cases hq : n = E.taken + 1
  ·exact List.mem_map.2 ⟨m, hm, by omega⟩
  ·have := h.were n (by rw [e1]; omega) (by rw [e1]; omega)
   obtain ⟨q, a, b⟩ := List.mem_map.1 this
   exact List.mem_map.2 ⟨q, (List.mem_filter.1 a).1, b⟩
theorem drop_above {E : IEnd} {m : IMsg} (hn : m.number = E.taken + 1) (h : ∀ q ∈ E.kept, E.taken < q.number) : ∀ q ∈ ((E.drop m.number).take m).kept, ((E.drop m.number).take m).taken < q.number := by
 intro q hq
 obtain ⟨a, b⟩ := List.mem_filter.1 hq
 have := h q a
 have b' : q.number ≠ m.number := by simpa using b
 show m.number < q.number
 omega
theorem drop_shorter {E : IEnd} {m : IMsg} (hm : m ∈ E.kept) : ((E.drop m.number).take m).kept.length + 1 ≤ E.kept.length := by
 show (E.kept.filter _).length + 1 ≤ _
 have : (E.kept.filter fun q => decide (q.number ≠ m.number)).length < E.kept.length := by
  rw [List.length_filter_lt_length_iff_exists]
  exact ⟨m, hm, by simp⟩
 omega
theorem nextKept_short {E : IEnd} (h : E.kept.length ≤ 0) : E.nextKept = none := by
 have : E.kept = [] := List.eq_nil_of_length_eq_zero (by omega)
 unfold IEnd.nextKept; rw [this]; rfl
theorem list_set_self {α : Type} {l : List α} {i : Nat} {a : α} (h : l[i]? = some a) : l.set i a = l := by
 apply List.ext_getElem?
 intro j
 by_cases hj : i = j
 ·subst hj; rw [List.getElem?_set_self (List.getElem?_eq_some_iff.1 h).1, h]
 ·rw [List.getElem?_set_ne hj]
theorem setA_self {X : IRoom} {i : Nat} {t : List UInt8} {E : IEnd} (h1 : X.texts[i]? = some t) (h2 : X.ends[i]? = some E) : X.setA i t E = X := by
 unfold IRoom.setA; rw [list_set_self h1, list_set_self h2]
theorem setB_self {X : IRoom} {i : Nat} {S : IEnd} (h : X.sends[i]? = some S) : X.setB i S = X := by
 unfold IRoom.setB; rw [list_set_self h]

theorem takesA_took (i : Nat) : ∀ (f : Nat) (X : IRoom) (t : List UInt8) (E : IEnd), X.texts[i]? = some t → X.ends[i]? = some E → (∀ m ∈ E.kept, E.taken < m.number) →
  ∃ k t2 E2, X.takesA i f = X.setA i t2 E2 ∧ Took E E2 k ∧ (E.kept.length ≤ f → E2.nextKept = none) ∧ (k = 0 → t2 = t)
 | 0, X, t, E, h1, h2, hk => ⟨0, t, E, (setA_self h1 h2).symm, .zero hk, nextKept_short, fun _ => rfl⟩
 | f + 1, X, t, E, h1, h2, hk => by
  cases hn : E.nextKept with
  | none => exact ⟨0, t, E, by rw [IRoom.takesA_none h1 h2 hn, setA_self h1 h2], .zero hk, fun _ => hn, fun _ => rfl⟩
  | some m =>
   obtain ⟨m1, m2⟩ := IEnd.nextKept_some hn
   rw [IRoom.takesA_some h1 h2 hn]
   unfold IRoom.stepA
   obtain ⟨g1, g2⟩ := setA_get (t' := (E.taking m).1.does t) (E' := (E.drop m.number).take m) h1 h2
   obtain ⟨k, t2, E2, a1, a2, a3, _⟩ := takesA_took i f _ _ _ g1 g2 (drop_above m2 hk)
   refine ⟨k + 1, t2, E2, by rw [a1, setA_setA], a2.step m1 m2, fun hl => a3 ?_, fun h => by omega⟩
   have := drop_shorter m1
   omega

/-- What the server took, it told the others. -/
def IRoom.tells (X : IRoom) (i : Nat) (S : IEnd) (os : List ROp) : IRoom := { X with server := os.foldl (fun s o => o.does s) X.server, sends := X.sends.mapIdx fun j Z => if j = i then S else os.foldl (fun Z o => Z.make o X.window) Z }
theorem tells_nil {X : IRoom} {i : Nat} (S : IEnd) : X.tells i S [] = X.setB i S := by
 unfold IRoom.tells IRoom.setB
 congr 1
 apply List.ext_getElem?
 intro j
 rw [List.getElem?_mapIdx]
 by_cases hj : i = j
 ·subst hj
  by_cases hl : i < X.sends.length
  ·rw [List.getElem?_set_self hl]; simp [hl]
  ·simp [hl]
 ·rw [List.getElem?_set_ne hj]
  have hj' : ¬ j = i := fun h => hj h.symm
  cases X.sends[j]? <;> simp [hj']
theorem tell_tells (X : IRoom) (i : Nat) (S S2 : IEnd) (o : ROp) (os : List ROp) : (X.tell i S o).tells i S2 os = X.tells i S2 (o :: os) := by
 unfold IRoom.tells IRoom.tell
 simp only [List.foldl_cons]
 congr 1
 apply List.ext_getElem?
 intro j
 simp only [List.getElem?_mapIdx]
 cases X.sends[j]? with
 | none => rfl
 | some Z => by_cases hj : j = i <;> simp [hj]
theorem setB_tells (X : IRoom) (i : Nat) (S S2 : IEnd) (os : List ROp) : (X.setB i S).tells i S2 os = X.tells i S2 os := by
 unfold IRoom.tells IRoom.setB
 simp only
 congr 1
 apply List.ext_getElem?
 intro j
 simp only [List.getElem?_mapIdx]
 by_cases hj : i = j
 ·subst hj
  by_cases hl : i < X.sends.length
  ·rw [List.getElem?_set_self hl]; simp [hl]
  ·simp [hl]
 ·rw [List.getElem?_set_ne hj]
theorem tells_setB (X : IRoom) (i : Nat) (S S2 : IEnd) (os : List ROp) : (X.tells i S os).setB i S2 = X.tells i S2 os := by
 unfold IRoom.tells IRoom.setB
 simp only
 congr 1
 apply List.ext_getElem?
 intro j
 by_cases hj : i = j
 ·subst hj
  by_cases hl : i < X.sends.length
  ·rw [List.getElem?_set_self (by simpa using hl)]; simp [hl]
  ·simp [hl]
 ·rw [List.getElem?_set_ne hj]
  simp only [List.getElem?_mapIdx]
  have hj' : ¬ j = i := fun h => hj h.symm
  cases X.sends[j]? <;> simp [hj']
theorem tells_get {X : IRoom} {i : Nat} {Z : IEnd} (S2 : IEnd) (os : List ROp) (h : X.sends[i]? = some Z) : (X.tells i S2 os).sends[i]? = some S2 := by
 simp [IRoom.tells, List.getElem?_mapIdx, h]
theorem takesB_took (i : Nat) : ∀ (f : Nat) (X : IRoom) (S : IEnd), X.sends[i]? = some S → (∀ m ∈ S.kept, S.taken < m.number) →
  ∃ os S2, X.takesB i f = X.tells i S2 os ∧ Took S S2 os.length ∧ (S.kept.length ≤ f → S2.nextKept = none)
 | 0, X, S, h, hk => ⟨[], S, by rw [tells_nil, setB_self h]; rfl, .zero hk, nextKept_short⟩
 | f + 1, X, S, h, hk => by
  cases hn : S.nextKept with
  | none => exact ⟨[], S, by rw [IRoom.takesB_none h hn, tells_nil, setB_self h], .zero hk, fun _ => hn⟩
  | some m =>
   obtain ⟨m1, m2⟩ := IEnd.nextKept_some hn
   rw [IRoom.takesB_some h hn]
   unfold IRoom.stepB
   have g : (X.tell i ((S.drop m.number).take m) (S.taking m).1).sends[i]? = some ((S.drop m.number).take m) := by simp [IRoom.tell, List.getElem?_mapIdx, h]
   obtain ⟨os, S2, a1, a2, a3⟩ := takesB_took i f _ _ g (drop_above m2 hk)
   refine ⟨(S.taking m).1 :: os, S2, by rw [a1, tell_tells], a2.step m1 m2, fun hl => a3 ?_⟩
   have := drop_shorter m1
   omega

/-- A datagram comes to an end: the end behind it, and how many it took. -/
inductive Came (window : Nat) (E : IEnd) (d : ByteArray) : IEnd → Nat → Prop
 | none (h : readD d = none) : Came window E d E 0
 | word (tk : Nat) (h : readD d = some (tk, none)) : Came window E d (E.learn window tk) 0
 | msg (tk : Nat) (m : IMsg) (E2 : IEnd) (k : Nat) (h : readD d = some (tk, some m)) (ht : Took ((E.learn window tk).keep window m) E2 k) (hs : E2.nextKept = none) : Came window E d E2.word k

/-! ### The pieces of a room by their numbers -/
def IRoom.e (X : IRoom) (i : Nat) : IEnd := X.ends.getD i .zero
def IRoom.s (X : IRoom) (i : Nat) : IEnd := X.sends.getD i .zero
def IRoom.tx (X : IRoom) (i : Nat) : List UInt8 := X.texts.getD i []
section
variable {X : IRoom} {us ds : Nat → List GMsg} {T : Nat → Nat → Nat → List UInt8}
theorem getD_some {α : Type} {l : List α} {i : Nat} {a z : α} (h : l[i]? = some a) : l.getD i z = a := by rw [List.getD_eq_getElem?_getD, h]; rfl
theorem RInv.at' (h : RInv X us ds T) {i : Nat} (hi : i < X.texts.length) : X.texts[i]? = some (X.tx i) ∧ X.ends[i]? = some (X.e i) ∧ X.sends[i]? = some (X.s i) := by
 obtain ⟨t, E, S, a, b, c⟩ := h.get hi
 unfold IRoom.tx IRoom.e IRoom.s
 rw [getD_some a, getD_some b, getD_some c]
 exact ⟨a, b, c⟩
theorem e_setA {i : Nat} {t : List UInt8} {E : IEnd} (h : i < X.ends.length) (j : Nat) : (X.setA i t E).e j = if j = i then E else X.e j := by
 unfold IRoom.e IRoom.setA
 simp only [List.getD_eq_getElem?_getD]
 by_cases hj : j = i
 ·subst hj; simp [h]
 ·rw [if_neg hj, List.getElem?_set_ne (fun h => hj h.symm)]
theorem tx_setA {i : Nat} {t : List UInt8} {E : IEnd} (h : i < X.texts.length) (j : Nat) : (X.setA i t E).tx j = if j = i then t else X.tx j := by
 unfold IRoom.tx IRoom.setA
 simp only [List.getD_eq_getElem?_getD]
 by_cases hj : j = i
 ·subst hj; simp [h]
 ·rw [if_neg hj, List.getElem?_set_ne (fun h => hj h.symm)]
theorem s_setB {i : Nat} {S : IEnd} (h : i < X.sends.length) (j : Nat) : (X.setB i S).s j = if j = i then S else X.s j := by
 unfold IRoom.s IRoom.setB
 simp only [List.getD_eq_getElem?_getD]
 by_cases hj : j = i
 ·subst hj; simp [h]
 ·rw [if_neg hj, List.getElem?_set_ne (fun h => hj h.symm)]
theorem s_tells {i : Nat} {S : IEnd} {os : List ROp} (h : i < X.sends.length) (j : Nat) : (X.tells i S os).s j = if j = i then S else if j < X.sends.length then os.foldl (fun Z o => Z.make o X.window) (X.s j) else X.s j := by
 unfold IRoom.s IRoom.tells
 simp only [List.getD_eq_getElem?_getD, List.getElem?_mapIdx]
 by_cases hj : j = i
 ·subst hj; simp [h]
 ·by_cases hl : j < X.sends.length
  ·simp [hj, hl]
  ·simp [hj, hl]

theorem RInv.cameA (h : RInv X us ds T) {i : Nat} (hi : i < X.texts.length) {d : ByteArray} (hd : Flies (ds i) (X.s i).taken d) : ∃ t2 E2 k, X.comeA i d = X.setA i t2 E2 ∧ Came X.window (X.e i) d E2 k ∧ (k = 0 → t2 = X.tx i) := by
 obtain ⟨h1, h2, h3⟩ := h.at' hi
 obtain ⟨hl, _⟩ := h.line i _ _ _ h1 h2 h3
 have ht := (h.waitB h1 h2 h3).2.2.1
 unfold IRoom.comeA
 rcases hd.reads (by omega) (fun n tk a b c => h.bytesB h1 h2 h3 a b c) with e | ⟨tk, m, e, e1, e2⟩ <;> rw [e]
 ·exact ⟨X.tx i, X.e i, 0, (setA_self h1 h2).symm, .none e, fun _ => rfl⟩
 ·unfold IRoom.arriveA
  simp only [h1, h2]
  cases m with
  | none => exact ⟨_, _, 0, rfl, .word tk e, fun _ => rfl⟩
  | some m =>
   have hh := hl.a.heard X.window tk (some m) e2
   have hk : ∀ q ∈ ((X.e i).hears X.window tk (some m)).kept, ((X.e i).hears X.window tk (some m)).taken < q.number := fun q hq => by
    obtain ⟨n, b1, _, rfl⟩ := hh.kept q hq
    exact b1
   obtain ⟨g1, g2⟩ := setA_get (t' := X.tx i) (E' := (X.e i).hears X.window tk (some m)) h1 h2
   obtain ⟨k, t2, E2, a1, a2, a3, a4⟩ := takesA_took i ((X.e i).hears X.window tk (some m)).kept.length _ _ _ g1 g2 hk
   obtain ⟨g3, g4⟩ := setA_get (t' := t2) (E' := E2) h1 h2
   refine ⟨t2, E2.word, k, ?_, .msg tk m E2 k e a2 (a3 (Nat.le_refl _)), a4⟩
   simp only [a1, setA_setA]
   unfold IRoom.wordA
   rw [g3, g4]
   simp only [setA_setA]
theorem RInv.cameB (h : RInv X us ds T) {i : Nat} (hi : i < X.texts.length) {d : ByteArray} (hd : Flies (us i) (X.e i).taken d) : ∃ os S2, X.comeB i d = X.tells i S2 os ∧ Came X.window (X.s i) d S2 os.length := by
 obtain ⟨h1, h2, h3⟩ := h.at' hi
 obtain ⟨hl, _⟩ := h.line i _ _ _ h1 h2 h3
 have ht := (h.waitA h1 h2 h3).2.2.1
 unfold IRoom.comeB
 rcases hd.reads (by omega) (fun n tk a b c => h.bytesA h1 h2 h3 a b c) with e | ⟨tk, m, e, e1, e2⟩ <;> rw [e]
 ·exact ⟨[], X.s i, by rw [tells_nil, setB_self h3], .none e⟩
 ·unfold IRoom.arriveB
  simp only [h3]
  cases m with
  | none => exact ⟨[], (X.s i).learn X.window tk, by rw [tells_nil]; rfl, .word tk e⟩
  | some m =>
   have hh := hl.b.heard X.window tk (some m) e2
   have hk : ∀ q ∈ ((X.s i).hears X.window tk (some m)).kept, ((X.s i).hears X.window tk (some m)).taken < q.number := fun q hq => by
    obtain ⟨n, b1, _, rfl⟩ := hh.kept q hq
    exact b1
   have g := setB_get (S' := (X.s i).hears X.window tk (some m)) h3
   obtain ⟨os, S2, a1, a2, a3⟩ := takesB_took i ((X.s i).hears X.window tk (some m)).kept.length _ _ g hk
   refine ⟨os, S2.word, ?_, .msg tk m S2 os.length e a2 (a3 (Nat.le_refl _))⟩
   simp only [a1, setB_tells]
   unfold IRoom.wordB
   rw [tells_get S2 os h3]
   simp only [tells_setB]
end
end Go.Proofs.Ytemkgikncmhoaaa

