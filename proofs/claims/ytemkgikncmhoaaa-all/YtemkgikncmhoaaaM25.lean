import Derived.Test.YtemkgikncmhoaaaM14
import Derived.Test.YtemkgikncmhoaaaM20
import Derived.Test.YtemkgikncmhoaaaM22
import Derived.Test.YtemkgikncmhoaaaM23
import Derived.Test.YtemkgikncmhoaaaM24
namespace Go.Proofs.Ytemkgikncmhoaaa
open Go.RowKit
attribute [local go_sem ↓] Go.wp_at_zero Go.wp_at_succ

set_option maxRecDepth 100000 in
set_option maxHeartbeats 400000 in
theorem xbad4 (b0 b1 b2 b3 : UInt8) (w : World) (h : (b0.toNat : Int) ≠ 2) :
  Calls Try.prog 86 #[.string ⟨#[b0, b1, b2, b3]⟩] w fun e w' => e = .returned (.bool false) ∧ w' = w := by
 have h1 : ¬ ((({ data := #[b0, b1, b2, b3] } : ByteArray)[0]'(by simp [ByteArray.size])).toNat : Int) = 2 := h
 have h2 : ((((({ data := #[b0, b1, b2, b3] } : ByteArray)[0]'(by simp [ByteArray.size])).toNat : Int)) == 2) = false := by rw [beq_eq_false_iff_ne]; exact h1
 go_enter Try.func86, Try.ntmps86
 go_wp2
 go_ret
 exact ⟨rfl, rfl⟩
set_option maxRecDepth 100000 in
set_option maxHeartbeats 400000 in
theorem xspoil4 (b0 b1 b2 b3 : UInt8) (w : World) :
  Calls Try.prog 78 #[.string ⟨#[b0, b1, b2, b3]⟩] w fun e w' => e = .returned (.string ⟨#[(255 - b0), b1, b2, b3]⟩) ∧ Below w.heap.size w w' := by
 have hb : 0 ≤ (b0.toNat : Int) ∧ (b0.toNat : Int) ≤ 255 := by have := b0.toNat_lt; omega
 have hi : ((({ data := #[b0, b1, b2, b3] } : ByteArray)[0]'(by simp [ByteArray.size])).toNat : Int) = (b0.toNat : Int) := rfl
 go_enter Try.func78, Try.ntmps78
 have hcv := run_string_at (w.alloc (Obj.cells #[Value.int IntKind.u8 (255 - (b0.toNat : Int))] 5)).drew 131 Try.underlying131 ⟨w.heap.size, 0, none⟩ 1 1 [255 - (b0.toNat : Int)] rfl (by
  intro j u hu
  rw [Addr.add_lit, Nat.zero_add]
  exact (World.cell?_alloc_new _ _ _ _).trans (by simpa using hu))
 have hby : byteOf (255 - (b0.toNat : Int)) = 255 - b0 := by
  unfold byteOf
  apply UInt8.toNat.inj
  have := b0.toNat_lt
  rw [UInt8.toNat_ofNat', UInt8.toNat_sub]
  simp
  omega
 simp only [strOf, List.map_cons, List.map_nil, hby] at hcv
 go_wp2_with fail
 go_region
 all_goals
  go_wp2
  go_ret
  exact ⟨rfl, ((Below.refl _ _).alloc (Nat.le_refl _) _).drew⟩
set_option maxRecDepth 100000 in
set_option maxHeartbeats 400000 in
theorem xbad10 (b0 b1 b2 b3 b4 b5 b6 b7 b8 b9 : UInt8) (w : World) (h : (b0.toNat : Int) ≠ 1) :
  Calls Try.prog 86 #[.string ⟨#[b0, b1, b2, b3, b4, b5, b6, b7, b8, b9]⟩] w fun e w' => e = .returned (.bool false) ∧ w' = w := by
 have h1 : ¬ ((({ data := #[b0, b1, b2, b3, b4, b5, b6, b7, b8, b9] } : ByteArray)[0]'(by simp [ByteArray.size])).toNat : Int) = 1 := h
 have h2 : ((((({ data := #[b0, b1, b2, b3, b4, b5, b6, b7, b8, b9] } : ByteArray)[0]'(by simp [ByteArray.size])).toNat : Int)) == 1) = false := by rw [beq_eq_false_iff_ne]; exact h1
 go_enter Try.func86, Try.ntmps86
 go_wp2
 go_ret
 exact ⟨rfl, rfl⟩
set_option maxRecDepth 100000 in
set_option maxHeartbeats 400000 in
theorem xspoil10 (b0 b1 b2 b3 b4 b5 b6 b7 b8 b9 : UInt8) (w : World) :
  Calls Try.prog 78 #[.string ⟨#[b0, b1, b2, b3, b4, b5, b6, b7, b8, b9]⟩] w fun e w' => e = .returned (.string ⟨#[(255 - b0), b1, b2, b3, b4, b5, b6, b7, b8, b9]⟩) ∧ Below w.heap.size w w' := by
 have hb : 0 ≤ (b0.toNat : Int) ∧ (b0.toNat : Int) ≤ 255 := by have := b0.toNat_lt; omega
 have hi : ((({ data := #[b0, b1, b2, b3, b4, b5, b6, b7, b8, b9] } : ByteArray)[0]'(by simp [ByteArray.size])).toNat : Int) = (b0.toNat : Int) := rfl
 go_enter Try.func78, Try.ntmps78
 have hcv := run_string_at (w.alloc (Obj.cells #[Value.int IntKind.u8 (255 - (b0.toNat : Int))] 5)).drew 131 Try.underlying131 ⟨w.heap.size, 0, none⟩ 1 1 [255 - (b0.toNat : Int)] rfl (by
  intro j u hu
  rw [Addr.add_lit, Nat.zero_add]
  exact (World.cell?_alloc_new _ _ _ _).trans (by simpa using hu))
 have hby : byteOf (255 - (b0.toNat : Int)) = 255 - b0 := by
  unfold byteOf
  apply UInt8.toNat.inj
  have := b0.toNat_lt
  rw [UInt8.toNat_ofNat', UInt8.toNat_sub]
  simp
  omega
 simp only [strOf, List.map_cons, List.map_nil, hby] at hcv
 go_wp2_with fail
 go_region
 all_goals
  go_wp2
  go_ret
  exact ⟨rfl, ((Below.refl _ _).alloc (Nat.le_refl _) _).drew⟩
end Go.Proofs.Ytemkgikncmhoaaa

namespace Go.Proofs.Ytemkgikncmhoaaa
open Go.RowKit

def IEnd.word (E : IEnd) : IEnd := E.fly (ckd [2, (E.taken : Int)])
def IRoom.wordA (X : IRoom) (i : Nat) : IRoom := match X.texts[i]?, X.ends[i]? with
 | some t, some E => X.setA i t E.word
 | _, _ => X
def IRoom.wordB (X : IRoom) (i : Nat) : IRoom := match X.sends[i]? with
 | some S => X.setB i S.word
 | _ => X
def IEnd.hears (E : IEnd) (window tk : Nat) (m : Option IMsg) : IEnd := match m with
 | none => E.learn window tk
 | some m => (E.learn window tk).keep window m
/-- A datagram that tells tk, and maybe has a message, comes to the client's end. -/
def IRoom.arriveA (X : IRoom) (i tk : Nat) (m : Option IMsg) : IRoom := match X.texts[i]?, X.ends[i]? with
 | some t, some E => (match m with
  | none => X.setA i t (E.hears X.window tk m)
  | some _ => (((X.setA i t (E.hears X.window tk m)).takesA i (E.hears X.window tk m).kept.length)).wordA i)
 | _, _ => X
def IRoom.arriveB (X : IRoom) (i tk : Nat) (m : Option IMsg) : IRoom := match X.sends[i]? with
 | some S => (match m with
  | none => X.setB i (S.hears X.window tk m)
  | some _ => (((X.setB i (S.hears X.window tk m)).takesB i (S.hears X.window tk m).kept.length)).wordB i)
 | _ => X

theorem IEnd.keep_fields (E : IEnd) (window : Nat) (m : IMsg) : (E.keep window m).taken = E.taken ∧ (E.keep window m).known = E.known ∧ (E.keep window m).waiting = E.waiting ∧ (E.keep window m).flying = E.flying := by
 unfold IEnd.keep; split <;> exact ⟨rfl, rfl, rfl, rfl⟩
section
variable {X : IRoom} {us ds : Nat → List GMsg} {T : Nat → Nat → Nat → List UInt8}
theorem RInv.takesA (i : Nat) : ∀ (f : Nat) {X : IRoom}, RInv X us ds T → i < X.texts.length → RInv (X.takesA i f) us ds T ∧ (X.takesA i f).texts.length = X.texts.length ∧ (X.takesA i f).window = X.window ∧ (X.takesA i f).sends = X.sends ∧ (X.takesA i f).server = X.server
 | 0, X, h, _ => ⟨h, rfl, rfl, rfl, rfl⟩
 | f + 1, X, h, hi => by
  obtain ⟨t, E, S, h1, h2, h3⟩ := h.get hi
  cases hn : E.nextKept with
  | none => rw [IRoom.takesA_none h1 h2 hn]; exact ⟨h, rfl, rfl, rfl, rfl⟩
  | some m =>
   rw [IRoom.takesA_some h1 h2 hn]
   obtain ⟨m1, m2⟩ := IEnd.nextKept_some hn
   obtain ⟨j1, j2, j3⟩ := h.keptA h1 h2 h3 m1
   have RI := h.takeA h1 h2 h3 m2 j2
   rw [← j3] at RI
   have := RInv.takesA i f (X := X.stepA i t E m) RI (by simpa [IRoom.stepA, IRoom.setA] using hi)
   obtain ⟨a, b, c, d, e⟩ := this
   exact ⟨a, by rw [b]; simp [IRoom.stepA, IRoom.setA], c.trans rfl, d.trans rfl, e.trans rfl⟩
theorem RInv.takesB (i : Nat) : ∀ (f : Nat) {X : IRoom} {ds : Nat → List GMsg} {T : Nat → Nat → Nat → List UInt8}, RInv X us ds T → i < X.texts.length → ∃ ds' T', RInv (X.takesB i f) us ds' T' ∧ (X.takesB i f).texts = X.texts ∧ (X.takesB i f).window = X.window ∧ (X.takesB i f).ends = X.ends
 | 0, X, ds, T, h, _ => ⟨ds, T, h, rfl, rfl, rfl⟩
 | f + 1, X, ds, T, h, hi => by
  obtain ⟨t, E, S, h1, h2, h3⟩ := h.get hi
  cases hn : S.nextKept with
  | none => rw [IRoom.takesB_none h3 hn]; exact ⟨ds, T, h, rfl, rfl, rfl⟩
  | some m =>
   rw [IRoom.takesB_some h3 hn]
   obtain ⟨m1, m2⟩ := IEnd.nextKept_some hn
   obtain ⟨j1, j2, j3⟩ := h.keptB h1 h2 h3 m1
   obtain ⟨T2, RI⟩ := h.takeB h1 h2 h3 m2 j2
   rw [← j3] at RI
   obtain ⟨ds', T', a, b, c, d⟩ := RInv.takesB i f (X := X.stepB i S m) RI hi
   exact ⟨ds', T', a, b.trans rfl, c.trans rfl, d.trans rfl⟩
theorem RInv.wordA (h : RInv X us ds T) {i : Nat} (hi : i < X.texts.length) : RInv (X.wordA i) us ds T := by
 obtain ⟨t, E, S, h1, h2, h3⟩ := h.get hi
 obtain ⟨hl, _⟩ := h.line i t E S h1 h2 h3
 obtain ⟨f1, _, f3, _⟩ := E.fly_fields (ckd [2, (E.taken : Int)])
 unfold IRoom.wordA
 simp only [h1, h2]
 exact h.setE h1 h2 h3 (hl.a.flew _ (.word _ (Nat.le_refl _))) f3 (by unfold IEnd.word; rw [f1]; exact hl.ka) (by unfold IEnd.word; rw [f1]; exact Nat.le_refl _)
theorem RInv.wordB (h : RInv X us ds T) {i : Nat} (hi : i < X.texts.length) : RInv (X.wordB i) us ds T := by
 obtain ⟨t, E, S, h1, h2, h3⟩ := h.get hi
 obtain ⟨hl, _⟩ := h.line i t E S h1 h2 h3
 obtain ⟨f1, _, f3, _⟩ := S.fly_fields (ckd [2, (S.taken : Int)])
 unfold IRoom.wordB
 simp only [h3]
 exact h.setS h1 h2 h3 (hl.b.flew _ (.word _ (Nat.le_refl _))) f3 (by unfold IEnd.word; rw [f1]; exact hl.kb)
theorem hears_known (E : IEnd) (window tk : Nat) (m : Option IMsg) : (E.hears window tk m).taken = E.taken ∧ ((E.hears window tk m).known = E.known ∨ (E.hears window tk m).known = tk) ∧ E.known ≤ (E.hears window tk m).known := by
 obtain ⟨a1, _, _, _, a5⟩ := Half.learn_fields E window tk
 have hk : ((E.learn window tk).known = E.known ∨ (E.learn window tk).known = tk) ∧ E.known ≤ (E.learn window tk).known := by
  rw [a5]; split
  ·exact ⟨.inl rfl, Nat.le_refl _⟩
  ·exact ⟨.inr rfl, by omega⟩
 cases m with
 | none => exact ⟨a1, hk.1, hk.2⟩
 | some m =>
  obtain ⟨b1, b2, _⟩ := (E.learn window tk).keep_fields window m
  show ((E.learn window tk).keep window m).taken = E.taken ∧ (((E.learn window tk).keep window m).known = E.known ∨ ((E.learn window tk).keep window m).known = tk) ∧ E.known ≤ ((E.learn window tk).keep window m).known
  rw [b1, b2]
  exact ⟨a1, hk.1, hk.2⟩
theorem Half.heard {own oth : List GMsg} {E : IEnd} (h : Half own oth E) (window tk : Nat) (m : Option IMsg) (hm : ∀ q, m = some q → ∃ n, 1 ≤ n ∧ n ≤ oth.length ∧ q = imsg oth n) : Half own oth (E.hears window tk m) := by
 cases m with
 | none => exact h.learnt tk
 | some q =>
  obtain ⟨n, h1, h2, rfl⟩ := hm q rfl
  exact (h.learnt tk).keeps h1 h2
theorem RInv.hearsA (h : RInv X us ds T) {i : Nat} {t : List UInt8} {E S : IEnd} (h1 : X.texts[i]? = some t) (h2 : X.ends[i]? = some E) (h3 : X.sends[i]? = some S) (tk : Nat) (m : Option IMsg) (htk : tk ≤ S.taken) (hm : ∀ q, m = some q → ∃ n, 1 ≤ n ∧ n ≤ (ds i).length ∧ q = imsg (ds i) n) : RInv (X.setA i t (E.hears X.window tk m)) us ds T := by
 obtain ⟨hl, _⟩ := h.line i t E S h1 h2 h3
 obtain ⟨k1, k2, k3⟩ := hears_known E X.window tk m
 refine h.setE h1 h2 h3 (hl.a.heard X.window tk m hm) k1 ?_ k3
 rcases k2 with k2 | k2 <;> rw [k2]
 ·exact hl.ka
 ·exact htk
theorem RInv.hearsB (h : RInv X us ds T) {i : Nat} {t : List UInt8} {E S : IEnd} (h1 : X.texts[i]? = some t) (h2 : X.ends[i]? = some E) (h3 : X.sends[i]? = some S) (tk : Nat) (m : Option IMsg) (htk : tk ≤ E.taken) (hm : ∀ q, m = some q → ∃ n, 1 ≤ n ∧ n ≤ (us i).length ∧ q = imsg (us i) n) : RInv (X.setB i (S.hears X.window tk m)) us ds T := by
 obtain ⟨hl, _⟩ := h.line i t E S h1 h2 h3
 obtain ⟨k1, k2, k3⟩ := hears_known S X.window tk m
 refine h.setS h1 h2 h3 (hl.b.heard X.window tk m hm) k1 ?_
 rcases k2 with k2 | k2 <;> rw [k2]
 ·exact hl.kb
 ·exact htk
theorem RInv.arriveA (h : RInv X us ds T) {i : Nat} {t : List UInt8} {E S : IEnd} (h1 : X.texts[i]? = some t) (h2 : X.ends[i]? = some E) (h3 : X.sends[i]? = some S) (tk : Nat) (m : Option IMsg) (htk : tk ≤ S.taken) (hm : ∀ q, m = some q → ∃ n, 1 ≤ n ∧ n ≤ (ds i).length ∧ q = imsg (ds i) n) : RInv (X.arriveA i tk m) us ds T := by
 have hi := (List.getElem?_eq_some_iff.1 h1).1
 have hh := h.hearsA h1 h2 h3 tk m htk hm
 unfold IRoom.arriveA
 simp only [h1, h2]
 cases m with
 | none => exact hh
 | some q =>
  obtain ⟨a, b, _⟩ := RInv.takesA i (E.hears X.window tk (some q)).kept.length hh (by simpa [IRoom.setA] using hi)
  exact a.wordA (by rw [b]; simpa [IRoom.setA] using hi)
theorem RInv.arriveB (h : RInv X us ds T) {i : Nat} {t : List UInt8} {E S : IEnd} (h1 : X.texts[i]? = some t) (h2 : X.ends[i]? = some E) (h3 : X.sends[i]? = some S) (tk : Nat) (m : Option IMsg) (htk : tk ≤ E.taken) (hm : ∀ q, m = some q → ∃ n, 1 ≤ n ∧ n ≤ (us i).length ∧ q = imsg (us i) n) : ∃ ds' T', RInv (X.arriveB i tk m) us ds' T' := by
 have hi := (List.getElem?_eq_some_iff.1 h1).1
 have hh := h.hearsB h1 h2 h3 tk m htk hm
 unfold IRoom.arriveB
 simp only [h3]
 cases m with
 | none => exact ⟨ds, T, hh⟩
 | some q =>
  obtain ⟨ds', T', a, b, _⟩ := RInv.takesB i (S.hears X.window tk (some q)).kept.length hh hi
  exact ⟨ds', T', a.wordB (by rw [b]; exact hi)⟩

/-! ### The bytes of what flies -/
theorem Norms.bytes {own : List GMsg} (h : Norms own) (hl : own.length ≤ 255) {n : Nat} (h1 : 1 ≤ n) (h2 : n ≤ own.length) (hc : (gmsg own n).ctx ≤ 255) {tk : Nat} (ht : tk ≤ 255) : Bytes ((imsg own n).bytes tk) := by
 obtain ⟨⟨⟨c1, c2⟩, hv⟩, hp⟩ := h n h1 h2
 intro q
 match q with
 | 0 | 1 | 2 | 3 | 4 | 5 | 6 | 7 => refine ⟨?_, ?_⟩ <;> simp [IMsg.bytes, imsg] <;> omega
 | q + 8 => simp [IMsg.bytes]
theorem RInv.bytesA (h : RInv X us ds T) {i : Nat} {t : List UInt8} {E S : IEnd} (h1 : X.texts[i]? = some t) (h2 : X.ends[i]? = some E) (h3 : X.sends[i]? = some S) {n tk : Nat} (hn : 1 ≤ n) (hn2 : n ≤ (us i).length) (ht : tk ≤ 255) : Bytes ((imsg (us i) n).bytes tk) := by
 obtain ⟨hl, _, g2, g3, _⟩ := h.line i t E S h1 h2 h3
 have := hl.g.hist.bu n hn hn2
 have := h.ds180 (List.getElem?_eq_some_iff.1 h1).1
 exact g3.bytes (by omega) hn hn2 (by omega) ht
theorem RInv.bytesB (h : RInv X us ds T) {i : Nat} {t : List UInt8} {E S : IEnd} (h1 : X.texts[i]? = some t) (h2 : X.ends[i]? = some E) (h3 : X.sends[i]? = some S) {n tk : Nat} (hn : 1 ≤ n) (hn2 : n ≤ (ds i).length) (ht : tk ≤ 255) : Bytes ((imsg (ds i) n).bytes tk) := by
 obtain ⟨hl, _, g2, _, g4⟩ := h.line i t E S h1 h2 h3
 have := hl.g.hist.bd n hn hn2
 have := h.ds180 (List.getElem?_eq_some_iff.1 h1).1
 exact g4.bytes (by omega) hn hn2 (by omega) ht
theorem RInv.waitA (h : RInv X us ds T) {i : Nat} {t : List UInt8} {E S : IEnd} (h1 : X.texts[i]? = some t) (h2 : X.ends[i]? = some E) (h3 : X.sends[i]? = some S) : (∀ m ∈ E.waiting, Bytes (m.bytes E.taken)) ∧ E.made ≤ 240 ∧ E.taken ≤ 240 ∧ E.flying.length ≤ 12 := by
 obtain ⟨hl, _, g2, _⟩ := h.line i t E S h1 h2 h3
 have hd := h.ds180 (List.getElem?_eq_some_iff.1 h1).1
 have := hl.a.tk
 refine ⟨fun m hm => ?_, by rw [hl.a.made]; omega, by omega, hl.a.fly⟩
 rw [hl.a.wait] at hm
 obtain ⟨n, a1, a2, rfl⟩ := imsg_mem_tail hm
 exact h.bytesA h1 h2 h3 (by omega) a2 (by omega)
theorem RInv.waitB (h : RInv X us ds T) {i : Nat} {t : List UInt8} {E S : IEnd} (h1 : X.texts[i]? = some t) (h2 : X.ends[i]? = some E) (h3 : X.sends[i]? = some S) : (∀ m ∈ S.waiting, Bytes (m.bytes S.taken)) ∧ S.made ≤ 240 ∧ S.taken ≤ 240 ∧ S.flying.length ≤ 12 := by
 obtain ⟨hl, _, g2, _⟩ := h.line i t E S h1 h2 h3
 have hd := h.ds180 (List.getElem?_eq_some_iff.1 h1).1
 have := hl.b.tk
 refine ⟨fun m hm => ?_, by rw [hl.b.made]; omega, by omega, hl.b.fly⟩
 rw [hl.b.wait] at hm
 obtain ⟨n, a1, a2, rfl⟩ := imsg_mem_tail hm
 exact h.bytesB h1 h2 h3 (by omega) a2 (by omega)
end
end Go.Proofs.Ytemkgikncmhoaaa

namespace Go.Proofs.Ytemkgikncmhoaaa
open Go.RowKit
attribute [local go_sem ↓] Go.wp_at_zero Go.wp_at_succ

theorem xlearn (own : Nat → Tag) (rid k b tb window n : Nat) (E : IEnd) (w : World) (h : EndX own rid k w b tb window E) (hm : E.made ≤ 1000) (hw : window ≤ 4) (hf : E.flying.length ≤ 12) (hx : ∀ m ∈ E.waiting, Bytes (m.bytes E.taken)) :
  Calls Try.prog 87 #[.pointer (some ⟨b, 0, none⟩), .int .i64 n] w fun e w' => e = .returned (.tuple #[]) ∧ ∃ own', EndX own' rid k w' b tb window (E.learn window n) ∧ Upd own own' (inEnd rid k) w w' := by
 by_cases hn : n ≤ E.known ∨ E.made < n
 ·refine (xlearn_no own rid k b tb window n E w h hm hn).mono ?_
  rintro e w' ⟨rfl, hb⟩
  have : E.learn window n = E := by unfold IEnd.learn; rw [if_pos hn]
  rw [this]
  exact ⟨rfl, own, h.upd (Upd.of_below own (fun _ => False) hb) (fun _ _ _ h => h), Upd.of_below own _ hb⟩
 ·exact xlearn_yes own rid k b tb window n E w h hm hw (by omega) (by omega) hf hx

set_option maxRecDepth 100000 in
set_option maxHeartbeats 1600000 in
theorem xarrive_bad (b i : Nat) (s : Bool) (d : ByteArray) (w : World) (hb : Calls Try.prog 86 #[.string d] (w.alloc (Obj.cells #[Value.int IntKind.i64 i, Value.bool s] 80)) fun e w' => e = .returned (.bool false) ∧ w' = (w.alloc (Obj.cells #[Value.int IntKind.i64 i, Value.bool s] 80))) :
  Calls Try.prog 74 #[.pointer (some ⟨b, 0, none⟩), .agg #[.int .i64 i, .bool s], .string d] w fun e w' => e = .returned (.tuple #[]) ∧ Below w.heap.size w w' := by
 have HB := hide hb
 clear hb
 go_enter Try.func74, Try.ntmps74
 go_wp2_with (first | (go_at_call 86; with_reducible refine (unhide HB).mono ?_; rintro e w1 ⟨rfl, hw1⟩; obtain rfl := hw1.symm))
 exact bodyPost_ret (results_none rfl _ _ _) rfl ⟨rfl, (Below.refl _ _).alloc (Nat.le_refl _) _⟩

end Go.Proofs.Ytemkgikncmhoaaa

namespace Go.Proofs.Ytemkgikncmhoaaa
open Go.RowKit
attribute [local go_sem ↓] Go.wp_at_zero Go.wp_at_succ

set_option maxRecDepth 100000 in
set_option maxHeartbeats 400000 in
theorem xsender (b mb eb i n : Nat) (s : Bool) (w : World) (c1 : w.cell? ⟨b, 1, none⟩ = some (.map (some mb))) (hmb : mb < w.heap.size)
  (lk : ∀ w' : World, w'.heap[mb]? = w.heap[mb]? → (Instr.lookup 74 (.map (some mb)) (.agg #[.int .i64 i, .bool s]) false).run Try.prog w' = .ok (.pointer (some ⟨eb, 0, none⟩)) w') :
  Calls Try.prog 73 #[.agg #[.pointer (some ⟨b, 0, none⟩), .int .i64 i, .bool s, .int .i64 n]] w fun e w' => e = .returned (.pointer (some ⟨eb, 0, none⟩)) ∧ w' = (w.alloc (Obj.cells #[.pointer (some ⟨b, 0, none⟩), .int .i64 i, .bool s, .int .i64 n] 99)).drew := by
 obtain ⟨W, HW⟩ : ∃ W, Hid (w.alloc (Obj.cells #[.pointer (some ⟨b, 0, none⟩), .int .i64 i, .bool s, .int .i64 n] 99) = W) := ⟨_, rfl⟩
 have hh := heap_alloc_new w (Obj.cells #[.pointer (some ⟨b, 0, none⟩), .int .i64 i, .bool s, .int .i64 n] 99)
 have k : Hid ((Instr.lookup 74 (.map (some mb)) (.agg #[.int .i64 i, .bool s]) false).run Try.prog W.drew = .ok (.pointer (some ⟨eb, 0, none⟩)) W.drew) := hide (lk W.drew (by rw [← unhide HW]; exact Below.heap_alloc _ _ _ hmb))
 have d1 : W.cell? ⟨b, 1, none⟩ = some (.map (some mb)) := by rw [← unhide HW, World.cell?_alloc_lt _ _ _ (World.block_lt_of_cell? _ _ c1)]; exact c1
 go_enter Try.func73, Try.ntmps73
 go_wp2_with fail
 obtain ⟨N, HN⟩ : ∃ N, Hid (w.heap.size = N) := ⟨_, rfl⟩
 rw [unhide HN] at hh
 rw [unhide HW] at hh ⊢
 rw [unhide HN]
 have x0 : W.cell? ⟨N, 0, none⟩ = some (.pointer (some ⟨b, 0, none⟩)) := by simp [World.cell?, hh]
 have x1 : W.cell? ⟨N, 1, none⟩ = some (.int .i64 i) := by simp [World.cell?, hh]
 have x2 : W.cell? ⟨N, 2, none⟩ = some (.bool s) := by simp [World.cell?, hh]
 clear lk c1 hmb hh
 have lk := unhide k
 go_region_held3 (fun w' => w'.cell? ⟨b, 1, none⟩ = some (.map (some mb)) ∧ w'.cell? ⟨N, 0, none⟩ = some (.pointer (some ⟨b, 0, none⟩)) ∧ w'.cell? ⟨N, 1, none⟩ = some (.int .i64 i) ∧ w'.cell? ⟨N, 2, none⟩ = some (.bool s)) (first | exact ⟨d1, x0, x1, x2⟩) (fail)
 all_goals go_wp2_with fail
 all_goals
  go_ret
  exact ⟨rfl, by rw [unhide HW]⟩

set_option maxRecDepth 100000 in
set_option maxHeartbeats 400000 in
theorem xacross (i : Nat) (s : Bool) (w : World) :
  Calls Try.prog 75 #[.agg #[.int .i64 i, .bool s]] w fun e w' => e = .returned (.agg #[.int .i64 i, .bool (!s)]) ∧ Below w.heap.size w w' := by
 go_enter Try.func75, Try.ntmps75
 go_wp2_with fail
 go_returns
 exact ⟨rfl, ((Below.refl _ _).alloc (Nat.le_refl _) _).alloc (by simp) _⟩

def IEnd.lose (E : IEnd) (n : Nat) : IEnd := { E with flying := E.flying.take n ++ E.flying.drop (n + 1) }

set_option maxRecDepth 100000 in
set_option maxHeartbeats 800000 in
theorem xlose (own : Nat → Tag) (rid k b mb eb tb window i n : Nat) (s : Bool) (E : IEnd) (w : World) (c1 : w.cell? ⟨b, 1, none⟩ = some (.map (some mb))) (hmb : mb < w.heap.size)
  (lk : ∀ w' : World, w'.heap[mb]? = w.heap[mb]? → (Instr.lookup 74 (.map (some mb)) (.agg #[.int .i64 i, .bool s]) false).run Try.prog w' = .ok (.pointer (some ⟨eb, 0, none⟩)) w')
  (h : EndX own rid k w eb tb window E) (hn : n < E.flying.length) (h12 : E.flying.length ≤ 12) :
  Calls Try.prog 55 #[.agg #[.pointer (some ⟨b, 0, none⟩), .int .i64 i, .bool s, .int .i64 n]] w fun e w' => e = .returned (.int .i64 0) ∧ EndX own rid k w' eb tb window (E.lose n) ∧ Upd own own (inFly rid k) w w' := by
 have SND := xsender b mb eb i n s (w.alloc (Obj.cells #[.pointer (some ⟨b, 0, none⟩), .int .i64 i, .bool s, .int .i64 n] 99)) (by rw [World.cell?_alloc_lt _ _ _ (World.block_lt_of_cell? _ _ c1)]; exact c1) (by simp; omega) (fun w' hw' => lk w' (hw'.trans (Below.heap_alloc _ _ _ hmb)))
 have hB : Below w.heap.size w ((w.alloc (Obj.cells #[.pointer (some ⟨b, 0, none⟩), .int .i64 i, .bool s, .int .i64 n] 99)).alloc (Obj.cells #[.pointer (some ⟨b, 0, none⟩), .int .i64 i, .bool s, .int .i64 n] 99)).drew := (((Below.refl _ _).alloc (Nat.le_refl _) _).alloc (by simp) _).drew
 have hh : ((w.alloc (Obj.cells #[.pointer (some ⟨b, 0, none⟩), .int .i64 i, .bool s, .int .i64 n] 99)).alloc (Obj.cells #[.pointer (some ⟨b, 0, none⟩), .int .i64 i, .bool s, .int .i64 n] 99)).drew.heap[w.heap.size]? = some (Obj.cells #[.pointer (some ⟨b, 0, none⟩), .int .i64 i, .bool s, .int .i64 n] 99) := (Below.heap_alloc (w.alloc _) _ w.heap.size (by simp)).trans (heap_alloc_new w _)
 obtain ⟨W1, HW1⟩ : ∃ W1, Hid (((w.alloc (Obj.cells #[.pointer (some ⟨b, 0, none⟩), .int .i64 i, .bool s, .int .i64 n] 99)).alloc (Obj.cells #[.pointer (some ⟨b, 0, none⟩), .int .i64 i, .bool s, .int .i64 n] 99)).drew = W1) := ⟨_, rfl⟩
 rw [unhide HW1] at SND hB hh
 have HS := hide SND
 have U := Upd.of_below own (inFly rid k) hB
 have f3 : W1.cell? ⟨w.heap.size, 3, none⟩ = some (.int .i64 n) := by simp [World.cell?, hh]
 obtain ⟨N, HN⟩ : ∃ N, Hid (w.heap.size = N) := ⟨_, rfl⟩
 rw [unhide HN] at f3
 obtain ⟨wv, ov, kb, fv, hc, h3, h5, h6, h4⟩ := h.upd (Upd.of_below own (fun _ => False) hB) (fun _ _ _ h => h)
 clear SND hB hh
 obtain ⟨m, hm⟩ : ∃ m, E.flying.length = m + 1 := ⟨E.flying.length - 1, by omega⟩
 rw [hm] at h4
 obtain ⟨g, cap, rfl, hmc, hcm⟩ : ∃ g cap, fv = .slice (some ⟨g, 0, none⟩) (m + 1) cap ∧ m + 1 ≤ cap ∧ cap ≤ maxLen := by
  rcases h4.1.2 with ⟨_, h0⟩ | ⟨g, cap, cur, hv, hb, hg, q3, q4, q5, q6⟩
  ·omega
  ·exact ⟨g, cap, hv, q3, q4⟩
 have e8 := hc.cell 8
 have f8 := hc.frozen 8
 simp only [List.getElem?_toArray, List.getElem?_cons_zero, List.getElem?_cons_succ] at e8
 have hwp : IntKind.i64.wrap ((n : Int) + 1) = (n : Int) + 1 := by rw [IntKind.wrap_i64]; omega
 have HI := hide (deld own (rid, k, 4) g m cap n (E.flying.map Value.string) W1.drew h4.drew (by omega) (by omega) hmc (by intro v hv; simp at hv; obtain ⟨q, _, rfl⟩ := hv; rfl))
 have FIN : Hid (∀ w', OwnsT own (rid, k, 4) w' 131 1 (.slice (some ⟨g, 0, none⟩) m cap) m ((E.flying.map Value.string).take n ++ (E.flying.map Value.string).drop (n + 1)) → Upd own own (fun t => t = (rid, k, 4)) W1.drew w' →
   (w'.cell? ⟨eb, 8, none⟩ = some (.slice (some ⟨g, 0, none⟩) (m + 1) cap) ∧ w'.frozen? ⟨eb, 8, none⟩ = false) ∧ EndX own rid k (w'.setCell ⟨eb, 8, none⟩ (.slice (some ⟨g, 0, none⟩) m cap)) eb tb window (E.lose n) ∧ Upd own own (inFly rid k) w (w'.setCell ⟨eb, 8, none⟩ (.slice (some ⟨g, 0, none⟩) m cap))) := by
  apply hide
  intro w' h1 h2
  have hc3 := hc.drew.upd h2 (by simp)
  refine ⟨⟨by rw [hc3.cell]; rfl, hc3.frozen 8⟩, ?_⟩
  obtain ⟨C, O, V⟩ := app_store0 (k := 8) hc.drew h2 (by simp) h1
  refine ⟨⟨_, _, _, _, C, h3.drew.upd V (by simp), h5.drew.upd V (by simp), KeptX.upd (w := W1.drew) h6 V (by simp), ?_⟩, U.drew.trans (V.mono (by rintro q (rfl | rfl) <;> simp [inFly]))⟩
  have e : (E.lose n).flying.map Value.string = (E.flying.map Value.string).take n ++ (E.flying.map Value.string).drop (n + 1) := by
   simp [IEnd.lose, List.map_take, List.map_drop]
  rw [e, show (E.lose n).flying.length = m from by simp [IEnd.lose]; omega]
  exact O
 clear hc h3 h5 h6 h4 U h lk c1 hm hmc hcm hmb
 go_enter Try.func55, Try.ntmps55
 go_wp2_with (first | (go_at_call 73; with_reducible refine (unhide HS).mono ?_; rintro e w1 ⟨rfl, hw1⟩; obtain rfl := hw1.symm))
 rw [unhide HN]
 clear HS HN HW1
 go_region_with (first | (go_at_call 76; with_reducible refine (unhide HI).mono ?_; rintro e w' ⟨rfl, h1, h2⟩; obtain ⟨⟨k0, g0⟩, hF⟩ := unhide FIN _ h1 h2))
 all_goals go_wp2_with fail
 all_goals
  go_ret
  exact ⟨rfl, hF⟩

set_option maxRecDepth 100000 in
set_option maxHeartbeats 800000 in
theorem xdouble (own : Nat → Tag) (rid k b mb eb tb window i n : Nat) (s : Bool) (E : IEnd) (w : World) (c1 : w.cell? ⟨b, 1, none⟩ = some (.map (some mb))) (hmb : mb < w.heap.size)
  (lk : ∀ w' : World, w'.heap[mb]? = w.heap[mb]? → (Instr.lookup 74 (.map (some mb)) (.agg #[.int .i64 i, .bool s]) false).run Try.prog w' = .ok (.pointer (some ⟨eb, 0, none⟩)) w')
  (h : EndX own rid k w eb tb window E) (d : ByteArray) (hd : E.flying[n]? = some d) (h12 : E.flying.length ≤ 12) :
  Calls Try.prog 56 #[.agg #[.pointer (some ⟨b, 0, none⟩), .int .i64 i, .bool s, .int .i64 n]] w fun e w' => e = .returned (.int .i64 0) ∧ ∃ own', EndX own' rid k w' eb tb window (E.fly d) ∧ Upd own own' (inFly rid k) w w' := by
 have hn := (List.getElem?_eq_some_iff.1 hd).1
 have SND := xsender b mb eb i n s (w.alloc (Obj.cells #[.pointer (some ⟨b, 0, none⟩), .int .i64 i, .bool s, .int .i64 n] 99)) (by rw [World.cell?_alloc_lt _ _ _ (World.block_lt_of_cell? _ _ c1)]; exact c1) (by simp; omega) (fun w' hw' => lk w' (hw'.trans (Below.heap_alloc _ _ _ hmb)))
 have hB : Below w.heap.size w ((w.alloc (Obj.cells #[.pointer (some ⟨b, 0, none⟩), .int .i64 i, .bool s, .int .i64 n] 99)).alloc (Obj.cells #[.pointer (some ⟨b, 0, none⟩), .int .i64 i, .bool s, .int .i64 n] 99)).drew := (((Below.refl _ _).alloc (Nat.le_refl _) _).alloc (by simp) _).drew
 have hh : ((w.alloc (Obj.cells #[.pointer (some ⟨b, 0, none⟩), .int .i64 i, .bool s, .int .i64 n] 99)).alloc (Obj.cells #[.pointer (some ⟨b, 0, none⟩), .int .i64 i, .bool s, .int .i64 n] 99)).drew.heap[w.heap.size]? = some (Obj.cells #[.pointer (some ⟨b, 0, none⟩), .int .i64 i, .bool s, .int .i64 n] 99) := (Below.heap_alloc (w.alloc _) _ w.heap.size (by simp)).trans (heap_alloc_new w _)
 obtain ⟨W1, HW1⟩ : ∃ W1, Hid (((w.alloc (Obj.cells #[.pointer (some ⟨b, 0, none⟩), .int .i64 i, .bool s, .int .i64 n] 99)).alloc (Obj.cells #[.pointer (some ⟨b, 0, none⟩), .int .i64 i, .bool s, .int .i64 n] 99)).drew = W1) := ⟨_, rfl⟩
 rw [unhide HW1] at SND hB hh
 have HS := hide SND
 have U := Upd.of_below own (inFly rid k) hB
 have f3 : W1.cell? ⟨w.heap.size, 3, none⟩ = some (.int .i64 n) := by simp [World.cell?, hh]
 obtain ⟨N, HN⟩ : ∃ N, Hid (w.heap.size = N) := ⟨_, rfl⟩
 rw [unhide HN] at f3
 have hE := h.upd (Upd.of_below own (fun _ => False) hB) (fun _ _ _ h => h)
 have HF : Hid (Calls Try.prog 69 #[.pointer (some ⟨eb, 0, none⟩), .slice (some ⟨W1.heap.size, 0, none⟩) 1 1] (W1.alloc (Obj.cells #[Value.string d] 131)).drew fun e w' => e = .returned (.tuple #[]) ∧ ∃ own', EndX own' rid k w' eb tb window (E.fly d) ∧ Upd own own' (inFly rid k) w w') := by
  apply hide
  have V := ((Upd.refl own (fun _ => False) W1).alloc (Obj.cells #[Value.string d] 131)).drew
  refine (xfly own rid k eb tb window W1.heap.size E d _ (hE.upd V (fun _ _ _ h => h)) h12 (World.cell?_alloc_new W1 _ _ _)).mono ?_
  rintro e w' ⟨rfl, own', a1, a2⟩
  exact ⟨rfl, own', a1, (U.trans (V.mono fun _ h => h.elim)).trans a2⟩
 obtain ⟨wv, ov, kb, fv, hc, h3, h5, h6, h4⟩ := hE
 obtain ⟨m, hm⟩ : ∃ m, E.flying.length = m + 1 := ⟨E.flying.length - 1, by omega⟩
 rw [hm] at h4
 obtain ⟨g, cap, rfl, hmc, hcm, hcell⟩ : ∃ g cap, fv = .slice (some ⟨g, 0, none⟩) (m + 1) cap ∧ m + 1 ≤ cap ∧ cap ≤ maxLen ∧ ∀ j u, (E.flying.map Value.string)[j]? = some u → W1.cell? ⟨g, j, none⟩ = some u := by
  obtain ⟨g, off, cap, e, q1, q2, _, _, q3⟩ := (RowO.of_owns h4).cells (by omega)
  rcases h4.1.2 with ⟨_, h0⟩ | ⟨g', cap', cur, hv, hb, hg, _⟩
  ·omega
  ·rw [hv] at e
   simp only [Value.slice.injEq, Option.some.injEq, Addr.mk.injEq, true_and, and_true] at e
   obtain ⟨⟨rfl, rfl⟩, rfl⟩ := e
   exact ⟨g', cap', hv, q1, q2, fun j u hu => by have := q3 j u hu; rwa [Nat.zero_add] at this⟩
 have e8 := hc.cell 8
 simp only [List.getElem?_toArray, List.getElem?_cons_zero, List.getElem?_cons_succ] at e8
 have gn := hcell n (.string d) (by simp [hd])
 have n1 : (n : Int) < (m : Int) + 1 := by omega
 clear hc h3 h5 h6 h4 U h lk c1 hm hmc hcm hmb hcell hd hn h12 SND hB hh
 go_enter Try.func56, Try.ntmps56
 go_wp2_with (first | (go_at_call 73; with_reducible refine (unhide HS).mono ?_; rintro e w1 ⟨rfl, hw1⟩; obtain rfl := hw1.symm))
 rw [unhide HN]
 clear HS HN HW1
 go_region_with (first | (go_at_call 69; with_reducible refine (unhide HF).mono ?_; rintro e w' ⟨rfl, hF⟩))
 all_goals go_wp2_with fail
 all_goals
  go_ret
  exact ⟨rfl, hF⟩
end Go.Proofs.Ytemkgikncmhoaaa

namespace Go.Proofs.Ytemkgikncmhoaaa
open Go.RowKit
attribute [local go_sem ↓] Go.wp_at_zero Go.wp_at_succ

set_option maxRecDepth 100000 in
set_option maxHeartbeats 800000 in
theorem xspoilF_yes (own : Nat → Tag) (rid k b mb eb tb window i n : Nat) (s : Bool) (E : IEnd) (w : World) (c1 : w.cell? ⟨b, 1, none⟩ = some (.map (some mb))) (hmb : mb < w.heap.size)
  (lk : ∀ w' : World, w'.heap[mb]? = w.heap[mb]? → (Instr.lookup 74 (.map (some mb)) (.agg #[.int .i64 i, .bool s]) false).run Try.prog w' = .ok (.pointer (some ⟨eb, 0, none⟩)) w')
  (h : EndX own rid k w eb tb window E) (d : ByteArray) (hd : E.flying[n]? = some d) (h12 : E.flying.length ≤ 12)
  (hsp : ∀ w, Calls Try.prog 77 #[.string d] w fun e w' => e = .returned (.bool true) ∧ w' = w) :
  Calls Try.prog 57 #[.agg #[.pointer (some ⟨b, 0, none⟩), .int .i64 i, .bool s, .int .i64 n]] w fun e w' => e = .returned (.int .i64 8) ∧ Below w.heap.size w w' := by
 have hn := (List.getElem?_eq_some_iff.1 hd).1
 have SND := xsender b mb eb i n s (w.alloc (Obj.cells #[.pointer (some ⟨b, 0, none⟩), .int .i64 i, .bool s, .int .i64 n] 99)) (by rw [World.cell?_alloc_lt _ _ _ (World.block_lt_of_cell? _ _ c1)]; exact c1) (by simp; omega) (fun w' hw' => lk w' (hw'.trans (Below.heap_alloc _ _ _ hmb)))
 have hB : Below w.heap.size w ((w.alloc (Obj.cells #[.pointer (some ⟨b, 0, none⟩), .int .i64 i, .bool s, .int .i64 n] 99)).alloc (Obj.cells #[.pointer (some ⟨b, 0, none⟩), .int .i64 i, .bool s, .int .i64 n] 99)).drew := (((Below.refl _ _).alloc (Nat.le_refl _) _).alloc (by simp) _).drew
 have hh : ((w.alloc (Obj.cells #[.pointer (some ⟨b, 0, none⟩), .int .i64 i, .bool s, .int .i64 n] 99)).alloc (Obj.cells #[.pointer (some ⟨b, 0, none⟩), .int .i64 i, .bool s, .int .i64 n] 99)).drew.heap[w.heap.size]? = some (Obj.cells #[.pointer (some ⟨b, 0, none⟩), .int .i64 i, .bool s, .int .i64 n] 99) := (Below.heap_alloc (w.alloc _) _ w.heap.size (by simp)).trans (heap_alloc_new w _)
 obtain ⟨W1, HW1⟩ : ∃ W1, Hid (((w.alloc (Obj.cells #[.pointer (some ⟨b, 0, none⟩), .int .i64 i, .bool s, .int .i64 n] 99)).alloc (Obj.cells #[.pointer (some ⟨b, 0, none⟩), .int .i64 i, .bool s, .int .i64 n] 99)).drew = W1) := ⟨_, rfl⟩
 rw [unhide HW1] at SND hB hh
 have HS := hide SND
 have U := Upd.of_below own (inFly rid k) hB
 have f3 : W1.cell? ⟨w.heap.size, 3, none⟩ = some (.int .i64 n) := by simp [World.cell?, hh]
 obtain ⟨N, HN⟩ : ∃ N, Hid (w.heap.size = N) := ⟨_, rfl⟩
 rw [unhide HN] at f3
 have hE := h.upd (Upd.of_below own (fun _ => False) hB) (fun _ _ _ h => h)
 have HSP := hide hsp
 have HB := hide hB.drew
 clear hsp
 obtain ⟨wv, ov, kb, fv, hc, h3, h5, h6, h4⟩ := hE
 obtain ⟨m, hm⟩ : ∃ m, E.flying.length = m + 1 := ⟨E.flying.length - 1, by omega⟩
 rw [hm] at h4
 obtain ⟨g, cap, rfl, hmc, hcm, hcell⟩ : ∃ g cap, fv = .slice (some ⟨g, 0, none⟩) (m + 1) cap ∧ m + 1 ≤ cap ∧ cap ≤ maxLen ∧ ∀ j u, (E.flying.map Value.string)[j]? = some u → W1.cell? ⟨g, j, none⟩ = some u := by
  obtain ⟨g, off, cap, e, q1, q2, _, _, q3⟩ := (RowO.of_owns h4).cells (by omega)
  rcases h4.1.2 with ⟨_, h0⟩ | ⟨g', cap', cur, hv, hb, hg, _⟩
  ·omega
  ·rw [hv] at e
   simp only [Value.slice.injEq, Option.some.injEq, Addr.mk.injEq, true_and, and_true] at e
   obtain ⟨⟨rfl, rfl⟩, rfl⟩ := e
   exact ⟨g', cap', hv, q1, q2, fun j u hu => by have := q3 j u hu; rwa [Nat.zero_add] at this⟩
 have e8 := hc.cell 8
 simp only [List.getElem?_toArray, List.getElem?_cons_zero, List.getElem?_cons_succ] at e8
 have gn := hcell n (.string d) (by simp [hd])
 have n1 : (n : Int) < (m : Int) + 1 := by omega
 clear hc h3 h5 h6 h4 U h lk c1 hm hmc hcm hmb hcell hd hn h12 SND hB hh
 go_enter Try.func57, Try.ntmps57
 go_wp2_with (first | (go_at_call 73; with_reducible refine (unhide HS).mono ?_; rintro e w1 ⟨rfl, hw1⟩; obtain rfl := hw1.symm))
 rw [unhide HN]
 clear HS HN HW1
 go_region_held3 (fun w' => w'.cell? ⟨eb, 8, none⟩ = some (.slice (some ⟨g, 0, none⟩) (m + 1) cap) ∧ w'.cell? ⟨N, 3, none⟩ = some (.int .i64 n) ∧ w'.cell? ⟨g, n, none⟩ = some (.string d)) (first | exact ⟨e8, f3, gn⟩) (fail)
 all_goals go_wp2_with (first | (go_at_call 77; with_reducible refine (unhide HSP _).mono ?_; rintro e w1 ⟨rfl, hw1⟩; obtain rfl := hw1.symm))
 all_goals
  go_ret
  exact ⟨rfl, unhide HB⟩

set_option maxRecDepth 100000 in
set_option maxHeartbeats 1600000 in
theorem xspoilF_no (own : Nat → Tag) (rid k b mb eb tb window i n : Nat) (s : Bool) (E : IEnd) (w : World) (c1 : w.cell? ⟨b, 1, none⟩ = some (.map (some mb))) (hmb : mb < w.heap.size)
  (lk : ∀ w' : World, w'.heap[mb]? = w.heap[mb]? → (Instr.lookup 74 (.map (some mb)) (.agg #[.int .i64 i, .bool s]) false).run Try.prog w' = .ok (.pointer (some ⟨eb, 0, none⟩)) w')
  (h : EndX own rid k w eb tb window E) (d : ByteArray) (hd : E.flying[n]? = some d) (h12 : E.flying.length ≤ 12)
  (d' : ByteArray) (hsp : ∀ w, Calls Try.prog 77 #[.string d] w fun e w' => e = .returned (.bool false) ∧ w' = w)
  (hsl : ∀ w, Calls Try.prog 78 #[.string d] w fun e w' => e = .returned (.string d') ∧ Below w.heap.size w w') :
  Calls Try.prog 57 #[.agg #[.pointer (some ⟨b, 0, none⟩), .int .i64 i, .bool s, .int .i64 n]] w fun e w' => e = .returned (.int .i64 0) ∧ EndX own rid k w' eb tb window { E with flying := E.flying.set n d' } ∧ Upd own own (inFly rid k) w w' := by
 have hn := (List.getElem?_eq_some_iff.1 hd).1
 have SND := xsender b mb eb i n s (w.alloc (Obj.cells #[.pointer (some ⟨b, 0, none⟩), .int .i64 i, .bool s, .int .i64 n] 99)) (by rw [World.cell?_alloc_lt _ _ _ (World.block_lt_of_cell? _ _ c1)]; exact c1) (by simp; omega) (fun w' hw' => lk w' (hw'.trans (Below.heap_alloc _ _ _ hmb)))
 have hB : Below w.heap.size w ((w.alloc (Obj.cells #[.pointer (some ⟨b, 0, none⟩), .int .i64 i, .bool s, .int .i64 n] 99)).alloc (Obj.cells #[.pointer (some ⟨b, 0, none⟩), .int .i64 i, .bool s, .int .i64 n] 99)).drew := (((Below.refl _ _).alloc (Nat.le_refl _) _).alloc (by simp) _).drew
 have hh : ((w.alloc (Obj.cells #[.pointer (some ⟨b, 0, none⟩), .int .i64 i, .bool s, .int .i64 n] 99)).alloc (Obj.cells #[.pointer (some ⟨b, 0, none⟩), .int .i64 i, .bool s, .int .i64 n] 99)).drew.heap[w.heap.size]? = some (Obj.cells #[.pointer (some ⟨b, 0, none⟩), .int .i64 i, .bool s, .int .i64 n] 99) := (Below.heap_alloc (w.alloc _) _ w.heap.size (by simp)).trans (heap_alloc_new w _)
 obtain ⟨W1, HW1⟩ : ∃ W1, Hid (((w.alloc (Obj.cells #[.pointer (some ⟨b, 0, none⟩), .int .i64 i, .bool s, .int .i64 n] 99)).alloc (Obj.cells #[.pointer (some ⟨b, 0, none⟩), .int .i64 i, .bool s, .int .i64 n] 99)).drew = W1) := ⟨_, rfl⟩
 rw [unhide HW1] at SND hB hh
 have HS := hide SND
 have U := Upd.of_below own (inFly rid k) hB
 have f3 : W1.cell? ⟨w.heap.size, 3, none⟩ = some (.int .i64 n) := by simp [World.cell?, hh]
 obtain ⟨N, HN⟩ : ∃ N, Hid (w.heap.size = N) := ⟨_, rfl⟩
 rw [unhide HN] at f3
 have hE := h.upd (Upd.of_below own (fun _ => False) hB) (fun _ _ _ h => h)
 have HSP := hide hsp
 have hNl : N < W1.heap.size := World.block_lt_of_cell? _ _ f3
 have hNw : w.heap.size ≤ N := by rw [unhide HN]; exact Nat.le_refl _
 clear hsp
 obtain ⟨wv, ov, kb, fv, hc, h3, h5, h6, h4⟩ := hE
 obtain ⟨m, hm⟩ : ∃ m, E.flying.length = m + 1 := ⟨E.flying.length - 1, by omega⟩
 rw [hm] at h4
 obtain ⟨g, cap, rfl, hmc, hcm, hcell⟩ : ∃ g cap, fv = .slice (some ⟨g, 0, none⟩) (m + 1) cap ∧ m + 1 ≤ cap ∧ cap ≤ maxLen ∧ ∀ j u, (E.flying.map Value.string)[j]? = some u → W1.cell? ⟨g, j, none⟩ = some u := by
  obtain ⟨g, off, cap, e, q1, q2, _, _, q3⟩ := (RowO.of_owns h4).cells (by omega)
  rcases h4.1.2 with ⟨_, h0⟩ | ⟨g', cap', cur, hv, hb, hg, _⟩
  ·omega
  ·rw [hv] at e
   simp only [Value.slice.injEq, Option.some.injEq, Addr.mk.injEq, true_and, and_true] at e
   obtain ⟨⟨rfl, rfl⟩, rfl⟩ := e
   exact ⟨g', cap', hv, q1, q2, fun j u hu => by have := q3 j u hu; rwa [Nat.zero_add] at this⟩
 have e8 := hc.cell 8
 simp only [List.getElem?_toArray, List.getElem?_cons_zero, List.getElem?_cons_succ] at e8
 have gn := hcell n (.string d) (by simp [hd])
 have n1 : (n : Int) < (m : Int) + 1 := by omega
 have hgw : g ≠ N := by
  intro e
  have hg : g < w.heap.size := by
   obtain ⟨_, _, _, fv', hc0, _, _, _, q⟩ := h
   obtain ⟨g', c', hv, _, _, _, _, _, hl⟩ := q.get (i := n) (u := .string d) (by simp [hd])
   have k8 := hc0.cell 8
   rw [← hB.cell (p := ⟨eb, 8, none⟩) hc0.lt, e8] at k8
   simp only [List.getElem?_toArray, List.getElem?_cons_zero, List.getElem?_cons_succ, Option.some.injEq] at k8
   rw [hv] at k8
   simp only [Value.slice.injEq, Option.some.injEq, Addr.mk.injEq, and_true] at k8
   obtain ⟨rfl, _⟩ := k8
   exact hl
  omega
 have HSL : Hid (Calls Try.prog 78 #[.string d] W1.drew.drew fun e w' => e = .returned (.string d') ∧ (w'.frozen? ⟨g, n, none⟩ = false ∧ w'.cell? ⟨g, n, none⟩ = some (.string d)) ∧ (w'.cell? ⟨eb, 8, none⟩ = some (.slice (some ⟨g, 0, none⟩) (m + 1) cap) ∧ w'.cell? ⟨N, 3, none⟩ = some (.int .i64 n)) ∧ ((w'.setCell ⟨g, n, none⟩ (.string d')).cell? ⟨eb, 8, none⟩ = some (.slice (some ⟨g, 0, none⟩) (m + 1) cap) ∧ (w'.setCell ⟨g, n, none⟩ (.string d')).cell? ⟨N, 3, none⟩ = some (.int .i64 n)) ∧ Hid (EndX own rid k (w'.setCell ⟨g, n, none⟩ (.string d')) eb tb window { E with flying := E.flying.set n d' } ∧ Upd own own (inFly rid k) w (w'.setCell ⟨g, n, none⟩ (.string d')))) := by
  apply hide
  refine (hsl _).mono ?_
  rintro e w' ⟨rfl, hb⟩
  have hb : Below W1.heap.size W1 w' := (((Below.refl _ _).drew).drew).trans hb
  have V := Upd.of_below own (fun _ => False) hb
  have c' := hc.upd V (fun h => h)
  have o' := h4.upd V (fun h => h)
  obtain ⟨g', cap', hv, _, _, x1, x2, x3, x4⟩ := o'.get (i := n) (u := .string d) (by simp [hd])
  simp only [Value.slice.injEq, Option.some.injEq, Addr.mk.injEq, true_and, and_true] at hv
  obtain ⟨rfl, rfl⟩ := hv
  have n1 : w'.cell? ⟨N, 3, none⟩ = some (.int .i64 n) := (hb.cell (p := ⟨N, 3, none⟩) hNl).trans f3
  have co := c'.other (p := ⟨g, n, none⟩) (by rintro rfl; rw [c'.2] at x3; simp at x3) (.string d')
  have os := o'.set (i := n) (.string d')
  have U' : Upd own own (inFly rid k) w (w'.setCell ⟨g, n, none⟩ (.string d')) := Upd.setCell (p := ⟨g, n, none⟩) (U.trans (V.mono fun _ h => h.elim)) (.inl x3) _
  have U'' : Upd own own (fun x => x = (rid, k, 4)) W1 (w'.setCell ⟨g, n, none⟩ (.string d')) := Upd.setCell (p := ⟨g, n, none⟩) (V.mono fun _ h => h.elim) x3 _
  refine ⟨rfl, ⟨x2, x1⟩, ⟨by rw [c'.cell]; rfl, n1⟩, ⟨by rw [co.cell]; rfl, (World.cell?_of_block (a := ⟨N, 3, none⟩) (Below.heap_setCell _ _ _ _ (fun h => hgw h.symm))).trans n1⟩, hide ⟨⟨_, _, _, _, co, h3.upd U'' (by simp), h5.upd U'' (by simp), h6.upd U'' (by simp), ?_⟩, U'⟩⟩
  have e : ({ E with flying := E.flying.set n d' } : IEnd).flying.map Value.string = (E.flying.map Value.string).set n (.string d') := by simp [List.map_set]
  rw [e, show ({ E with flying := E.flying.set n d' } : IEnd).flying.length = m + 1 from by simp [hm]]
  exact os
 clear hc h3 h5 h6 h4 U h lk c1 hm hmc hcm hmb hcell hd hn h12 SND hB hh hsl hNl hNw hgw
 go_enter Try.func57, Try.ntmps57
 go_wp2_with (first | (go_at_call 73; with_reducible refine (unhide HS).mono ?_; rintro e w1 ⟨rfl, hw1⟩; obtain rfl := hw1.symm))
 rw [unhide HN]
 clear HS HN HW1
 go_region_held3 (fun w' => w'.cell? ⟨eb, 8, none⟩ = some (.slice (some ⟨g, 0, none⟩) (m + 1) cap) ∧ w'.cell? ⟨N, 3, none⟩ = some (.int .i64 n) ∧ w'.cell? ⟨g, n, none⟩ = some (.string d)) (first | exact ⟨e8, f3, gn⟩) (fail)
 all_goals go_wp2_with (first | (go_at_call 77; with_reducible refine (unhide HSP _).mono ?_; rintro e w1 ⟨rfl, hw1⟩; obtain rfl := hw1.symm))
 go_region_held3 (fun w' => w'.cell? ⟨eb, 8, none⟩ = some (.slice (some ⟨g, 0, none⟩) (m + 1) cap) ∧ w'.cell? ⟨N, 3, none⟩ = some (.int .i64 n)) (first | exact ⟨e8, f3⟩ | exact s1 | exact s2) (first | (go_at_call 78; with_reducible refine (unhide HSL).mono ?_; rintro e w2 ⟨rfl, ⟨z1, z2⟩, s1, s2, hF⟩))
 all_goals go_wp2_with fail
 all_goals
  go_ret
  exact ⟨rfl, unhide hF⟩
end Go.Proofs.Ytemkgikncmhoaaa

