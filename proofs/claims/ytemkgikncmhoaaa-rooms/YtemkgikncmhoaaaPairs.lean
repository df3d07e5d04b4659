/-
  The two rooms side by side: each call answers alike. Own work.
-/
import Derived.Test.YtemkgikncmhoaaaImpCut
import Derived.Test.YtemkgikncmhoaaaImpRead
import Derived.Test.YtemkgikncmhoaaaImpNew
import Derived.Test.YtemkgikncmhoaaaRefRead
import Derived.Test.YtemkgikncmhoaaaRefNew
namespace Go.Proofs.Ytemkgikncmhoaaa
open Go.RowKit

structure EndSim (window : Nat) (E : IEnd) (L : REnd) : Prop where
  made : E.made = L.rows.length
  opn : E.opn.length ≤ E.made
  known : E.known = L.known
  taken : E.taken = L.taken
  flying : E.flying = L.out
  ok : L.Ok
  rows : L.rows.length ≤ 60
  le : L.known ≤ L.rows.length
  sent : L.sent = min (L.known + window) L.rows.length

structure Inv (X : IRoom) (R : RRoom) : Prop where
  win : X.window = R.window
  win1 : 1 ≤ R.window
  win4 : R.window ≤ 4
  server : X.server = R.server
  texts : X.texts = R.texts
  lenL : R.lines.length = R.texts.length
  lenE : X.ends.length = R.texts.length
  lenS : X.sends.length = R.texts.length
  le4 : R.texts.length ≤ 4
  text : ∀ (i : Nat) (t : List UInt8), R.texts[i]? = some t → t.length ≤ 60
  ends : ∀ (i : Nat) (E : IEnd) (L : RLine), X.ends[i]? = some E → R.lines[i]? = some L → EndSim R.window E L.a
  sends : ∀ (i : Nat) (S : IEnd) (L : RLine), X.sends[i]? = some S → R.lines[i]? = some L → S.flying = L.b.out ∧ L.b.out.length ≤ 12

theorem IEnd.make_fields (E : IEnd) (o : ROp) (window : Nat) : (E.make o window).made = E.made + 1 ∧ (E.make o window).opn = E.opn ++ [o] ∧ (E.make o window).known = E.known ∧ (E.make o window).taken = E.taken ∧ (E.make o window).seen = E.seen ∧ (E.make o window).kept = E.kept ∧ (E.make o window).waiting = E.waiting ++ [E.next o] := by
  unfold IEnd.make
  split
  · obtain ⟨a1, a2, a3, a4, a5, a6⟩ := IEnd.sends_fields [E.next o] (E.grow o)
    refine ⟨?_, a5.trans rfl, a1.trans rfl, a3.trans rfl, a4.trans rfl, a6.trans rfl, a2.trans rfl⟩
    unfold IEnd.made; rw [a1, a2]; simp [IEnd.grow]; omega
  · refine ⟨?_, rfl, rfl, rfl, rfl, rfl, rfl⟩
    simp [IEnd.grow, IEnd.made]; omega
theorem EndSim.make {window : Nat} {E : IEnd} {L : REnd} (h : EndSim window E L) (o : ROp) (hs : o.Small) (hl : L.rows.length < 60) : EndSim window (E.make o window) (L.make o window) := by
  have hok' := h.ok.more o (by omega) hs.1 hs.2.1 hs.2.2.1 hs.2.2.2
  have hm : ({ L with rows := L.rows ++ [(⟨L.taken, [o]⟩ : RMsg)] } : REnd).may window = min (L.known + window) (L.rows.length + 1) := by simp [REnd.may]
  have hsent := h.sent
  obtain ⟨f1, f2, f3, f4, _, _, _⟩ := E.make_fields o window
  have hop : (E.make o window).opn.length ≤ (E.make o window).made := by rw [f1, f2]; simp; exact h.opn
  have hwl : E.waiting.length + 1 ≤ window ↔ L.rows.length + 1 ≤ L.known + window := by
    have := h.made; have := h.known; unfold IEnd.made at *; omega
  by_cases hlt : L.rows.length + 1 ≤ L.known + window
  · have e1 : L.make o window = ({ L with rows := L.rows ++ [(⟨L.taken, [o]⟩ : RMsg)] } : REnd).send1 (L.rows.length + 1) := by
      unfold REnd.make
      simp only [hm]
      rw [show L.sent = L.rows.length by omega, show min (L.known + window) (L.rows.length + 1) - L.rows.length = 1 by omega]
      rfl
    have eb : msgBytes (L.rows.length + 1) (({ L with rows := L.rows ++ [(⟨L.taken, [o]⟩ : RMsg)] } : REnd).rows.getD (L.rows.length + 1 - 1) ⟨0, []⟩) L.taken = (E.next o).bytes E.taken := by
      simp [msgBytes, IMsg.bytes, IEnd.next, RMsg.first, h.made, h.taken]
    have e2 : E.make o window = (E.grow o).fly (ckd ((E.next o).bytes E.taken)) := by
      unfold IEnd.make
      rw [if_pos (hwl.2 hlt)]
      rfl
    have e3 : ({ L with rows := L.rows ++ [(⟨L.taken, [o]⟩ : RMsg)] } : REnd).send1 (L.rows.length + 1) = { (({ L with rows := L.rows ++ [(⟨L.taken, [o]⟩ : RMsg)] } : REnd).fly (ckd ((E.next o).bytes E.taken))) with sent := L.rows.length + 1 } := by
      unfold REnd.send1
      simp only
      rw [eb]
      have hf := (({ L with rows := L.rows ++ [(⟨L.taken, [o]⟩ : RMsg)] } : REnd)).fly_rows (ckd ((E.next o).bytes E.taken))
      rw [if_pos (by rw [hf.2.2.2.1]; show L.sent < _; omega)]
    have hok2 := (hok'.fly (ckd ((E.next o).bytes E.taken)))
    have hfl : (E.make o window).flying = (({ L with rows := L.rows ++ [(⟨L.taken, [o]⟩ : RMsg)] } : REnd).fly (ckd ((E.next o).bytes E.taken))).out := by
      rw [e2]
      unfold IEnd.fly REnd.fly
      have : (E.grow o).flying = L.out := h.flying
      simp only [this]
      split <;> simp_all
    rw [e1, e3]
    generalize ckd ((E.next o).bytes E.taken) = s at *
    have hf := (({ L with rows := L.rows ++ [(⟨L.taken, [o]⟩ : RMsg)] } : REnd)).fly_rows s
    have k1 : (({ L with rows := L.rows ++ [(⟨L.taken, [o]⟩ : RMsg)] } : REnd).fly s).rows.length = L.rows.length + 1 := by rw [hf.1]; simp
    have k2 : (({ L with rows := L.rows ++ [(⟨L.taken, [o]⟩ : RMsg)] } : REnd).fly s).known = L.known := hf.2.2.1
    refine ⟨?_, hop, ?_, ?_, hfl, ⟨hok2.rows, hok2.taken, hok2.known, by show L.rows.length + 1 ≤ 240; omega, hok2.out, hok2.spoilt, hok2.msgs⟩, by show (_ : List RMsg).length ≤ 60; rw [k1]; omega, by show _ ≤ (_ : List RMsg).length; rw [k1, k2]; have := h.le; omega, ?_⟩
    · show _ = (_ : List RMsg).length
      rw [k1, f1, h.made]
    · show _ = (({ L with rows := L.rows ++ [(⟨L.taken, [o]⟩ : RMsg)] } : REnd).fly s).known
      rw [k2, f3, h.known]
    · show _ = (({ L with rows := L.rows ++ [(⟨L.taken, [o]⟩ : RMsg)] } : REnd).fly s).taken
      rw [hf.2.1, f4, h.taken]
    · show L.rows.length + 1 = min ((({ L with rows := L.rows ++ [(⟨L.taken, [o]⟩ : RMsg)] } : REnd).fly s).known + window) (({ L with rows := L.rows ++ [(⟨L.taken, [o]⟩ : RMsg)] } : REnd).fly s).rows.length
      rw [k1, k2]; omega
  · have e1 : L.make o window = { L with rows := L.rows ++ [(⟨L.taken, [o]⟩ : RMsg)] } := by
      unfold REnd.make
      simp only [hm]
      rw [show min (L.known + window) (L.rows.length + 1) - L.sent = 0 by omega]
      rfl
    have e2 : E.make o window = E.grow o := by
      unfold IEnd.make
      rw [if_neg (fun h => hlt (hwl.1 h))]
    have hfl : (E.make o window).flying = L.out := by rw [e2]; exact h.flying
    rw [e1]
    refine ⟨by rw [f1, h.made]; simp, hop, by rw [f3, h.known], by rw [f4, h.taken], hfl, hok', by simp; omega, by simp; have := h.le; omega, ?_⟩
    simp only [List.length_append, List.length_cons, List.length_nil]
    omega

theorem EndSim.refusal {window : Nat} {E : IEnd} {L : REnd} (h : EndSim window E L) : E.refusal window = if (window : Int) ≤ (L.rows.length : Int) - L.known then 5 else if 60 ≤ L.rows.length then 6 else 0 := by
  have h1 := h.made
  have h2 := h.known
  have h3 := h.le
  unfold IEnd.refusal
  rw [h1]
  unfold IEnd.made at h1
  by_cases g : window ≤ E.waiting.length
  · rw [if_pos g, if_pos (by omega)]
  · rw [if_neg g, if_neg (show ¬ ((window : Int) ≤ (L.rows.length : Int) - L.known) by omega)]

/-- A client's text and end, turned on both sides. -/
theorem Inv.set {X : IRoom} {R : RRoom} (h : Inv X R) {i : Nat} {E : IEnd} {L : RLine} (_hE : X.ends[i]? = some E) (hL : R.lines[i]? = some L) (t' : List UInt8) (E' : IEnd) (a' : REnd) (ht : t'.length ≤ 60) (hs : EndSim R.window E' a') :
    Inv { X with texts := X.texts.set i t', ends := X.ends.set i E' } (R.put i t' { L with a := a' }) := by
  refine ⟨h.win, h.win1, h.win4, h.server, by simp [RRoom.put, h.texts], by simp [RRoom.put, h.lenL], by simp [RRoom.put, h.lenE], by simp [RRoom.put, h.lenS], by simpa [RRoom.put] using h.le4, fun j t hj => ?_, fun j F M hF hM => ?_, fun j S M hS hM => ?_⟩
  · simp only [RRoom.put, List.getElem?_set] at hj
    split at hj
    · split at hj
      · obtain rfl : t' = t := by simpa using hj
        exact ht
      · cases hj
    · exact h.text j t hj
  · simp only [RRoom.put, List.getElem?_set] at hF hM
    by_cases hji : i = j
    · rw [if_pos hji] at hF hM
      split at hF
      · split at hM
        · obtain rfl : E' = F := by simpa using hF
          obtain rfl : ({ L with a := a' } : RLine) = M := by simpa using hM
          exact hs
        · cases hM
      · cases hF
    · rw [if_neg hji] at hF hM
      exact h.ends j F M hF hM
  · simp only [RRoom.put, List.getElem?_set] at hM
    by_cases hji : i = j
    · rw [if_pos hji] at hM
      split at hM
      · obtain rfl : ({ L with a := a' } : RLine) = M := by simpa using hM
        subst hji
        exact h.sends i S L hS hL
      · cases hM
    · rw [if_neg hji] at hM
      exact h.sends j S M hS hM

/-- A call on both: the same answer, and the two still go together. -/
def Two (own : Nat → Tag) (w : World) (rx ry xb yb : Nat) (X : IRoom) (R : RRoom) (fx fy : FuncId) (args : List Value) (V : Value → Prop) : Prop :=
  ∃ v X' R', V v ∧ Inv X' R' ∧ X'.texts.length = X.texts.length ∧ (Calls Try.prog fx (.pointer (some ⟨xb, 0, none⟩) :: args).toArray w fun e w' => e = .returned v ∧ ∃ own', RoomX own' rx w' xb X' ∧ Upd own own' (inRoom rx) w w') ∧
    ∀ own1 w1, RoomY own1 ry w1 yb R → Calls Try.prog fy (.pointer (some ⟨yb, 0, none⟩) :: args).toArray w1 fun e w' => e = .returned v ∧ ∃ own', RoomY own' ry w' yb R' ∧ Upd own1 own' (inRoom ry) w1 w'

theorem both_same {P : Program} {f : FuncId} {args : Array Value} {w : World} {v : Value} (h : Calls P f args w fun e w' => e = .returned v ∧ w' = w) (own : Nat → Tag) (rid b : Nat) (X : IRoom) (hX : RoomX own rid w b X) :
    Calls P f args w fun e w' => e = .returned v ∧ ∃ own', RoomX own' rid w' b X ∧ Upd own own' (inRoom rid) w w' := h.mono (by rintro e w' ⟨rfl, rfl⟩; exact ⟨rfl, own, hX, Upd.refl _ _ _⟩)
theorem both_below {P : Program} {f : FuncId} {args : Array Value} {w : World} {v : Value} (h : Calls P f args w fun e w' => e = .returned v ∧ Below w.heap.size w w') (own : Nat → Tag) (rid b : Nat) (X : IRoom) (hX : RoomX own rid w b X) :
    Calls P f args w fun e w' => e = .returned v ∧ ∃ own', RoomX own' rid w' b X ∧ Upd own own' (inRoom rid) w w' := h.mono (by rintro e w' ⟨rfl, hb⟩; exact ⟨rfl, own, hX.upd (Upd.of_below own (fun _ => False) hb) (fun _ _ h => h), Upd.of_below _ _ hb⟩)
theorem ref_same {P : Program} {f : FuncId} {args : Array Value} {w : World} {v : Value} (h : Calls P f args w fun e w' => e = .returned v ∧ w' = w) (own : Nat → Tag) (rid b : Nat) (X : RRoom) (hX : RoomY own rid w b X) :
    Calls P f args w fun e w' => e = .returned v ∧ ∃ own', RoomY own' rid w' b X ∧ Upd own own' (inRoom rid) w w' := h.mono (by rintro e w' ⟨rfl, rfl⟩; exact ⟨rfl, own, hX, Upd.refl _ _ _⟩)
theorem ref_below {P : Program} {f : FuncId} {args : Array Value} {w : World} {v : Value} (h : Calls P f args w fun e w' => e = .returned v ∧ Below w.heap.size w w') (own : Nat → Tag) (rid b : Nat) (X : RRoom) (hX : RoomY own rid w b X) :
    Calls P f args w fun e w' => e = .returned v ∧ ∃ own', RoomY own' rid w' b X ∧ Upd own own' (inRoom rid) w w' := h.mono (by rintro e w' ⟨rfl, hb⟩; exact ⟨rfl, own, hX.upd (Upd.of_below own (fun _ => False) hb) (fun _ _ h => h), Upd.of_below _ _ hb⟩)

def IsInt (v : Value) : Prop := ∃ n : Int, v = .int .i64 n
def IsInts (v : Value) : Prop := ∃ n m : Int, v = .tuple #[.int .i64 n, .int .i64 m]
def IsStr (v : Value) : Prop := ∃ (s : ByteArray) (m : Int), v = .tuple #[.string s, .int .i64 m]

/-- A client's number, its text, its ends. -/
theorem Inv.client {X : IRoom} {R : RRoom} (h : Inv X R) {c : Int} (hc : 0 ≤ c ∧ c < R.texts.length) : ∃ (i : Nat) (t : List UInt8) (E S : IEnd) (L : RLine), c = i ∧ i < 4 ∧ X.texts[i]? = some t ∧ R.texts[i]? = some t ∧ X.ends[i]? = some E ∧ X.sends[i]? = some S ∧ R.lines[i]? = some L := by
  obtain ⟨i, rfl⟩ := Int.eq_ofNat_of_zero_le hc.1
  have hi : i < R.texts.length := by omega
  have h4 := h.le4
  refine ⟨i, R.texts[i], X.ends[i]'(by rw [h.lenE]; exact hi), X.sends[i]'(by rw [h.lenS]; exact hi), R.lines[i]'(by rw [h.lenL]; exact hi), rfl, by omega, by simp [h.texts, hi], by simp [hi], by simp [h.lenE, hi], by simp [h.lenS, hi], by simp [h.lenL, hi]⟩

theorem IEnd.Ok.of {window : Nat} {E : IEnd} {L : REnd} (h : EndSim window E L) : E.Ok :=
  ⟨by rw [h.made]; have := h.rows; omega, by rw [h.taken]; exact h.ok.taken, by rw [h.flying]; exact h.ok.out, by have := h.opn; have := h.made; have := h.rows; omega⟩

theorem two_put (own : Nat → Tag) (w : World) (rx ry xb yb : Nat) (X : IRoom) (R : RRoom) (hX : RoomX own rx w xb X) (hI : Inv X R) (c p l : Int) (hc : I64 c) (hl : 0 ≤ l ∧ l ≤ 255) :
    Two own w rx ry xb yb X R 25 61 [.int .i64 c, .int .i64 p, .int .u8 l] IsInt := by
  have el : (X.texts.length : Int) = R.texts.length := by rw [hI.texts]
  by_cases h1 : 0 ≤ c ∧ c < R.texts.length
  · obtain ⟨i, t, E, S, L, rfl, hi4, hxt, hrt, hE, hS, hL⟩ := hI.client h1
    have hsim := hI.ends i E L hE hL
    have htl := hI.text i t hrt
    by_cases h2 : p < 0 ∨ p > t.length
    · exact ⟨_, X, R, ⟨3, rfl⟩, hI, rfl, both_same (xput_place own rx xb X i p l t E S w hX hxt hE hS h2) own rx xb X hX, fun own1 w1 hR => ref_same (rput_place own1 ry yb R i p l t L w1 hR hrt hL h2) own1 ry yb R hR⟩
    obtain ⟨q, rfl⟩ := Int.eq_ofNat_of_zero_le (show 0 ≤ p by omega)
    have hq : q ≤ t.length := by omega
    by_cases h3 : l < 33 ∨ l > 126
    · exact ⟨_, X, R, ⟨4, rfl⟩, hI, rfl, both_same (xput_letter own rx xb X i q l t E S w hX hxt hE hS hq h3) own rx xb X hX, fun own1 w1 hR => ref_same (rput_letter own1 ry yb R i q l t L w1 hR hrt hL hq h3) own1 ry yb R hR⟩
    obtain ⟨u, rfl⟩ := Int.eq_ofNat_of_zero_le hl.1
    have hu : 33 ≤ u ∧ u ≤ 126 := by omega
    have hEok := IEnd.Ok.of hsim
    have hw4 : X.window ≤ 4 := by rw [hI.win]; exact hI.win4
    have hle := hsim.le
    have eo : (⟨(i : Int), 1, (q : Int), (u : Int)⟩ : ROp) = ⟨i, 1, q, u⟩ := rfl
    by_cases h4 : E.refusal X.window ≠ 0
    · refine ⟨_, X, R, ⟨_, rfl⟩, hI, rfl, both_below (xput_refused own rx xb X i q u t E S w hX hxt hE hS hq hu hEok hw4 h4) own rx xb X hX, fun own1 w1 hR => ?_⟩
      have hcond : L.a.rows.length - L.a.known ≥ R.window ∨ L.a.rows.length ≥ 60 ∨ (t.length : Int) ≥ 60 := by
        rw [hI.win, hsim.refusal] at h4
        by_cases g1 : (R.window : Int) ≤ (L.a.rows.length : Int) - L.a.known
        · exact .inl (by omega)
        · rw [if_neg g1] at h4
          by_cases g2 : 60 ≤ L.a.rows.length
          · exact .inr (.inl g2)
          · rw [if_neg g2] at h4; exact absurd rfl h4
      have he := edit_refused own1 ry yb R i ⟨i, 1, q, u⟩ t.length t L w1 hR hrt hL hsim.ok hI.win4 hle hcond
      have hv : (if L.a.rows.length - L.a.known ≥ R.window then (5 : Int) else 6) = E.refusal X.window := by
        rw [hI.win, hsim.refusal] at h4 ⊢
        by_cases g1 : (R.window : Int) ≤ (L.a.rows.length : Int) - L.a.known
        · rw [if_pos g1, if_pos (by omega)]
        · rw [if_neg g1] at h4 ⊢
          rw [if_neg (by omega)]
          by_cases g2 : 60 ≤ L.a.rows.length
          · rw [if_pos g2]
          · rw [if_neg g2] at h4; exact absurd rfl h4
      rw [hv] at he
      have hp := rput_edit own1 ry yb R i q u t L w1 hR hrt hL hq hu (fun v w' => v = .int .i64 (E.refusal X.window) ∧ Below w1.heap.size w1 w') (he.mono (by rintro e w' ⟨rfl, hb⟩; exact ⟨_, rfl, rfl, hb⟩))
      refine ref_below (hp.mono ?_) own1 ry yb R hR
      rintro e w' ⟨n, rfl, hn, hb⟩
      rw [hn]; exact ⟨rfl, hb⟩
    · have h4' : E.refusal X.window = 0 := by simpa using h4
      have hcond : L.a.rows.length - L.a.known < R.window ∧ L.a.rows.length < 60 := by
        rw [hI.win, hsim.refusal] at h4'
        by_cases g1 : (R.window : Int) ≤ (L.a.rows.length : Int) - L.a.known
        · rw [if_pos g1] at h4'; simp at h4'
        · rw [if_neg g1] at h4'
          by_cases g2 : 60 ≤ L.a.rows.length
          · rw [if_pos g2] at h4'; simp at h4'
          · exact ⟨by omega, by omega⟩
      by_cases h5 : 60 ≤ t.length
      · refine ⟨_, X, R, ⟨6, rfl⟩, hI, rfl, both_below (xput_many own rx xb X i q u t E S w hX hxt hE hS hq hu hEok hw4 h4' h5) own rx xb X hX, fun own1 w1 hR => ?_⟩
        have he := edit_refused own1 ry yb R i ⟨i, 1, q, u⟩ t.length t L w1 hR hrt hL hsim.ok hI.win4 hle (.inr (.inr (by omega)))
        rw [if_neg (by omega)] at he
        have hp := rput_edit own1 ry yb R i q u t L w1 hR hrt hL hq hu (fun v w' => v = .int .i64 6 ∧ Below w1.heap.size w1 w') (he.mono (by rintro e w' ⟨rfl, hb⟩; exact ⟨_, rfl, rfl, hb⟩))
        refine ref_below (hp.mono ?_) own1 ry yb R hR
        rintro e w' ⟨n, rfl, hn, hb⟩
        rw [hn]; exact ⟨rfl, hb⟩
      · have hsmall : ROp.Small ⟨i, 1, q, u⟩ := ⟨⟨by simp, by simp; omega⟩, ⟨by simp, by simp⟩, ⟨by simp, by simp; omega⟩, ⟨by simp, by simp; omega⟩⟩
        have hmk := hsim.make ⟨i, 1, q, u⟩ hsmall hcond.2
        refine ⟨_, _, R.put i (insB t q u) { L with a := L.a.make ⟨i, 1, q, u⟩ R.window }, ⟨0, rfl⟩, ?_, ?_, xput_ok own rx xb X i q u t E S w hX hxt hE hS hq hu hEok hw4 h4' (by omega) hi4, fun own1 w1 hR => ?_⟩
        · exact hI.set hE hL _ _ _ (by simp [insB]; omega) (by rw [hI.win]; exact hmk)
        · simp
        have he := edit_ok own1 ry yb R i ⟨i, 1, q, u⟩ t.length t (insB t q u) L w1 hR hrt hL hI.win4 hle hcond.1 hcond.2 (by omega) (hsim.ok.more _ (by omega) hsmall.1 hsmall.2.1 hsmall.2.2.1 hsmall.2.2.2) (by have := hsim.sent; omega) (fun w2 => do_put t i q u w2 (by omega) hq (by omega))
        have hp := rput_edit own1 ry yb R i q u t L w1 hR hrt hL hq hu (fun v w' => v = .int .i64 0 ∧ ∃ own', RoomY own' ry w' yb (R.put i (insB t q u) { L with a := L.a.make ⟨i, 1, q, u⟩ R.window }) ∧ Upd own1 own' (inRoom ry) w1 w') (he.mono (by rintro e w' ⟨rfl, hb⟩; exact ⟨_, rfl, rfl, hb⟩))
        refine hp.mono ?_
        rintro e w' ⟨n, rfl, hn, hb⟩
        rw [hn]; exact ⟨rfl, hb⟩
  · exact ⟨_, X, R, ⟨2, rfl⟩, hI, rfl, both_same (xput_client own rx xb X c p l w hX hc (by rw [el]; exact h1)) own rx xb X hX, fun own1 w1 hR => ref_same (rput_client own1 ry yb R c p l w1 hR h1) own1 ry yb R hR⟩
end Go.Proofs.Ytemkgikncmhoaaa
