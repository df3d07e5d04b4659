import Derived.Test.YtemkgikncmhoaaaM36
/-
  weave: a room behind deliveries and ticks: it comes to rest, and at rest all is taken. Plain mathematics. Own work.
-/
namespace Go.Proofs.Ytemkgikncmhoaaa

section
variable {us ds : List GMsg} {E S E' S' : IEnd} {window k n : Nat} {d : ByteArray}
theorem tick_sentTo (E : IEnd) (window : Nat) : (E.tick window).sentTo window = E.sentTo window ∧ (E.tick window).made = E.made := by
  obtain ⟨a1, _, a3, _⟩ := E.tick_fields window
  unfold IEnd.sentTo IEnd.made; rw [a1, a3]; exact ⟨rfl, rfl⟩
theorem tick_nums (hr : Reads S) {v : Nat} (h : v ∈ nums (S.tick window).flying) : v ∈ nums S.flying ∨ v ∈ (S.waiting.take window).map IMsg.number := by
  unfold IEnd.tick at h
  split at h
  · rw [IEnd.sends_flying, nums_append, List.mem_append] at h
    rcases h with h | h
    · exact .inl h
    · have h := nums_take h
      rw [nums_sent (E := S) S.taken _ (fun m hm => hr m (List.mem_of_mem_take hm))] at h
      exact .inr h
  · split at h
    · have := word_nums S
      unfold IEnd.word at this
      rw [this] at h
      exact .inl h
    · exact .inl h
theorem take_sent (hb : Half ds us S) (v : Nat) : v ∈ (S.waiting.take window).map IMsg.number ↔ S.known < v ∧ v ≤ S.sentTo window := by
  rw [hb.sentTo_eq, hb.wait, tailOf_take, List.map_map, List.mem_map]
  constructor
  · rintro ⟨j, a, rfl⟩
    have := List.mem_range.1 a
    simp only [Function.comp, imsg]
    omega
  · rintro ⟨a, b⟩
    exact ⟨v - S.known - 1, List.mem_range.2 (by omega), by simp only [Function.comp, imsg]; omega⟩
theorem Sane.tickB (h : Sane window E S) (hb : Half ds us S) (hr : Reads S) : Sane window E (S.tick window) := by
  obtain ⟨_, a2, _, a4⟩ := S.tick_fields window
  obtain ⟨e, _⟩ := tick_sentTo S window
  refine h.setS (fun v hv => ?_) (by omega) a2 a4
  rw [e]
  rcases tick_nums hr hv with g | g
  · exact h.fly v g
  · exact ((take_sent hb v).1 g).2
/-- Behind a tick of both ends, on a line on which nothing flew. -/
theorem Flow.ticked (h : Sane window E S) (p : Pair us ds window E S) (hE : E.flying = []) (hS : S.flying = []) (t1 : E.taken ≤ 255) (t2 : S.taken ≤ 255) : Flow (S.sentTo window) 4 window (E.tick window) (S.tick window) := by
  obtain ⟨a1, a2, a3, a4⟩ := E.tick_fields window
  obtain ⟨b1, b2, b3, b4⟩ := S.tick_fields window
  obtain ⟨e1, e2⟩ := tick_sentTo E window
  obtain ⟨g1, g2⟩ := tick_sentTo S window
  have w1 := p.w1
  have w4 := p.w4
  have wa := p.wa
  -- what an end's tick makes fly
  have key : ∀ {own oth : List GMsg} {P : IEnd}, Half own oth P → Reads P → P.flying = [] → P.taken ≤ 255 → (P.tick window).flying.length ≤ 4 ∧ (nums (P.tick window).flying).length ≤ 4 ∧ (∀ v, P.known < v → v ≤ P.sentTo window → v ∈ nums (P.tick window).flying) ∧ (0 < P.taken → ∃ d ∈ (P.tick window).flying, tellD d = some P.taken) := fun {own oth P} hb hr hP ht => by
    have hl : (nums (P.tick window).flying).length ≤ (P.tick window).flying.length := List.length_filterMap_le _ _
    unfold IEnd.tick at hl ⊢
    by_cases hw : 0 < P.waiting.length
    · rw [if_pos hw] at hl ⊢
      have ef : (P.sends (P.waiting.take window)).flying = (P.waiting.take window).map fun m => ckd (m.bytes P.taken) := by
        rw [IEnd.sends_flying, hP, List.nil_append, List.take_of_length_le (by simp; omega)]
      have en := nums_sent (E := P) P.taken (P.waiting.take window) (fun m hm => hr m (List.mem_of_mem_take hm))
      rw [ef] at hl ⊢
      have hlen : ((P.waiting.take window).map fun m => ckd (m.bytes P.taken)).length ≤ 4 := by simp; omega
      refine ⟨hlen, by omega, fun v x y => by rw [en]; exact (take_sent hb v).2 ⟨x, y⟩, fun _ => ?_⟩
      cases hz : P.waiting with
      | nil => rw [hz] at hw; simp at hw
      | cons m l =>
        refine ⟨ckd (m.bytes P.taken), List.mem_map.2 ⟨m, ?_, rfl⟩, tell_of (hr m (by rw [hz]; simp))⟩
        obtain ⟨w, rfl⟩ : ∃ w, window = w + 1 := ⟨window - 1, by omega⟩
        simp
    · rw [if_neg hw] at hl ⊢
      have hv : ∀ v, P.known < v → v ≤ P.sentTo window → False := fun v x y => by unfold IEnd.sentTo at y; omega
      by_cases h0 : 0 < P.taken
      · rw [if_pos h0] at hl ⊢
        have ef : (P.fly (ckd [2, (P.taken : Int)])).flying = [ckd [2, (P.taken : Int)]] := by
          unfold IEnd.fly; rw [if_pos (by rw [hP]; simp)]; show P.flying ++ _ = _; rw [hP]; rfl
        rw [ef] at hl ⊢
        exact ⟨by simp, by simp only [List.length_cons, List.length_nil] at hl; omega, fun v x y => (hv v x y).elim, fun _ => ⟨_, by simp, tellD_word _ ht⟩⟩
      · rw [if_neg h0] at hl ⊢
        rw [hP] at hl ⊢
        exact ⟨by simp, by simp [nums], fun v x y => (hv v x y).elim, fun h => absurd h h0⟩
  obtain ⟨kE1, kE2, kE3, kE4⟩ := key p.a p.ra hE t1
  obtain ⟨kS1, kS2, kS3, kS4⟩ := key p.b p.rb hS t2
  have hs : Sane window (E.tick window) (S.tick window) := (h.tickB p.b p.rb).setE a2 a4
  have hno : newer (S.sentTo window) (S.tick window).flying = [] := by
    unfold newer
    rw [List.filter_eq_nil_iff]
    intro v hv
    have := hs.fly v hv
    rw [g1] at this
    simp; omega
  have hE' : E.sentTo window = E.made := by unfold IEnd.sentTo IEnd.made; omega
  refine ⟨hs, kE1, ?_, by rw [hno]; simp, by rw [hno]; simp, by rw [g1]; exact Nat.le_refl _, fun v x y => ?_, fun v x y => ?_, fun hh => ?_, fun hh => ?_⟩
  · have : (S.tick window).flying.countP (isOld (S.sentTo window)) ≤ (S.tick window).flying.length := List.countP_le_length
    omega
  · rw [b2] at x; rw [e2] at y
    exact .inl (kE3 v (by have := p.ka; omega) (by omega))
  · rw [a2] at x; rw [g1] at y
    exact .inl (kS3 v (by have := p.kb; omega) y)
  · rw [a1, b2] at hh; rw [b2]
    exact kS4 (by omega)
  · rw [b1, a2] at hh; rw [a2]
    exact kE4 (by omega)
theorem Came.known_le (c : Came window E d E' k) : E.known ≤ E'.known := by
  cases c with
  | none _ => exact Nat.le_refl _
  | word tk _ => exact (hears_known E window tk Option.none).2.2
  | msg tk m E2 k hr ht hs =>
    rw [(word_fields E2).1, ht.known]
    exact (hears_known E window tk (some m)).2.2
end

/-! ### Rooms -/
def IRoom.Sane (X : IRoom) : Prop := ∀ i, i < X.texts.length → Go.Proofs.Ytemkgikncmhoaaa.Sane X.window (X.e i) (X.s i)
def IRoom.Flow (X : IRoom) (L q : Nat → Nat) : Prop := ∀ i, i < X.texts.length → Go.Proofs.Ytemkgikncmhoaaa.Flow (L i) (q i) X.window (X.e i) (X.s i)
structure Fit (X : IRoom) : Prop where
  rows : ∃ us ds T, RInv X us ds T
  sane : X.Sane
def IRoom.up (X : IRoom) (i n : Nat) : IRoom := match (X.e i).flying[n]? with
  | some d => (X.setA i (X.tx i) ((X.e i).lose n)).comeB i d
  | none => X
def IRoom.down (X : IRoom) (i n : Nat) : IRoom := match (X.s i).flying[n]? with
  | some d => (X.setB i ((X.s i).lose n)).comeA i d
  | none => X
/-- What a delivery to the server comes to, line by line. -/
structure Upped (X X' : IRoom) (i n : Nat) (d : ByteArray) (os : List ROp) : Prop where
  window : X'.window = X.window
  texts : X'.texts = X.texts
  server : X'.server = os.foldl (fun s o => o.does s) X.server
  e : ∀ j, X'.e j = if j = i then (X.e i).lose n else X.e j
  s : ∀ j, j ≠ i → X'.s j = if j < X.texts.length then os.foldl (fun Z o => Z.make o X.window) (X.s j) else X.s j
  came : Came X.window (X.s i) d (X'.s i) os.length
structure Downed (X X' : IRoom) (i n : Nat) (d : ByteArray) (k : Nat) : Prop where
  window : X'.window = X.window
  len : X'.texts.length = X.texts.length
  server : X'.server = X.server
  tx : ∀ j, j ≠ i ∨ k = 0 → X'.tx j = X.tx j
  e : ∀ j, j ≠ i → X'.e j = X.e j
  s : ∀ j, X'.s j = if j = i then (X.s i).lose n else X.s j
  came : Came X.window (X.e i) d (X'.e i) k
section
variable {X Y : IRoom} {us ds : Nat → List GMsg} {T : Nat → Nat → Nat → List UInt8} {i n : Nat} {d : ByteArray}
theorem RInv.upped' (h : RInv X us ds T) (hi : i < X.texts.length) (hd : (X.e i).flying[n]? = some d) : ∃ os, Upped X (X.up i n) i n d os ∧ (∃ ds' T', RInv (X.up i n) us ds' T') ∧ (X.up i n).total + 1 ≤ X.total := by
  obtain ⟨h1, h2, h3⟩ := h.at' hi
  obtain ⟨os, S2, e, c⟩ := h.upped hi hd
  have eu : X.up i n = (X.setA i (X.tx i) ((X.e i).lose n)).comeB i d := by unfold IRoom.up; rw [hd]
  have hf := h.up_falls hi hd
  have hr := h.up h1 h2 h3 hd
  have hs : i < (X.setA i (X.tx i) ((X.e i).lose n)).sends.length := by have := h.ls; show i < X.sends.length; omega
  refine ⟨os, ?_, by rw [eu]; exact hr, by rw [eu]; exact hf⟩
  rw [eu, e]
  refine ⟨rfl, list_set_self h1, rfl, fun j => ?_, fun j hj => ?_, ?_⟩
  · show (X.setA i (X.tx i) ((X.e i).lose n)).e j = _
    exact e_setA (by have := h.le; omega) j
  · rw [s_tells hs, if_neg hj]
    show (if j < X.sends.length then _ else _) = _
    rw [h.ls]; rfl
  · rw [s_tells hs, if_pos rfl]; exact c
theorem RInv.downed' (h : RInv X us ds T) (hi : i < X.texts.length) (hd : (X.s i).flying[n]? = some d) : ∃ k, Downed X (X.down i n) i n d k ∧ RInv (X.down i n) us ds T ∧ (X.down i n).total + 1 ≤ X.total := by
  obtain ⟨h1, h2, h3⟩ := h.at' hi
  obtain ⟨t2, E2, k, e, c, hk⟩ := h.downed hi hd
  have eu : X.down i n = (X.setB i ((X.s i).lose n)).comeA i d := by unfold IRoom.down; rw [hd]
  have hf := h.down_falls hi hd
  have hr := h.down h1 h2 h3 hd
  have he : i < (X.setB i ((X.s i).lose n)).ends.length := by have := h.le; show i < X.ends.length; omega
  refine ⟨k, ?_, by rw [eu]; exact hr, by rw [eu]; exact hf⟩
  rw [eu, e]
  refine ⟨rfl, by simp [IRoom.setA, IRoom.setB], rfl, fun j hj => ?_, fun j hj => ?_, fun j => ?_, ?_⟩
  · rw [tx_setA (X := X.setB i ((X.s i).lose n)) hi]
    split
    · rename_i hji
      rcases hj with hj | hj
      · exact absurd hji hj
      · rw [hji]; exact hk hj
    · rfl
  · rw [e_setA he, if_neg hj]; rfl
  · show (X.setB i ((X.s i).lose n)).s j = _
    exact s_setB (by have := h.ls; omega) j
  · rw [e_setA he, if_pos rfl]; exact c
theorem up_none (h : (X.e i).flying[n]? = none) : X.up i n = X := by unfold IRoom.up; rw [h]
theorem down_none (h : (X.s i).flying[n]? = none) : X.down i n = X := by unfold IRoom.down; rw [h]
/-- The ends' fitness, behind a delivery to the server. -/
theorem makes_mem (window : Nat) : ∀ (os : List ROp) (Z : IEnd) (m : IMsg), m ∈ Z.waiting → m ∈ (os.foldl (fun Z o => Z.make o window) Z).waiting
  | [], _, _, h => h
  | o :: os, Z, m, h => makes_mem window os _ m (by rw [(make_fields Z o window).2.2.2]; simp [h])
theorem Sane.makes {window : Nat} {E : IEnd} : ∀ (os : List ROp) {S : IEnd}, Go.Proofs.Ytemkgikncmhoaaa.Sane window E S → (∀ m ∈ (os.foldl (fun Z o => Z.make o window) S).waiting, readD (ckd (m.bytes S.taken)) = some (S.taken, some m)) → Go.Proofs.Ytemkgikncmhoaaa.Sane window E (os.foldl (fun Z o => Z.make o window) S)
  | [], _, f, _ => f
  | o :: os, S, f, hr => by
    obtain ⟨a1, a2, _, a4⟩ := make_fields S o window
    simp only [List.foldl_cons] at hr ⊢
    exact Sane.makes os (f.make o (hr _ (makes_mem window os _ _ (by rw [a4]; simp)))) (by rw [a1]; exact hr)
theorem RInv.tells_flies (h : RInv X us ds T) (hi : i < X.texts.length) (hd : (X.e i).flying[n]? = some d) : ∀ tk m, readD d = some (tk, m) → tk ≤ (X.e i).taken := by
  obtain ⟨h1, h2, h3⟩ := h.at' hi
  obtain ⟨hl, _⟩ := h.line i _ _ _ h1 h2 h3
  have ht := (h.waitA h1 h2 h3).2.2.1
  intro tk m e
  rcases (hl.a.flies d (List.mem_of_getElem? hd)).reads (by omega) (fun n tk a b c => h.bytesA h1 h2 h3 a b c) with g | ⟨tk', m', g, g1, _⟩
  · rw [g] at e; simp at e
  · rw [g] at e
    simp only [Option.some.injEq, Prod.mk.injEq] at e
    omega
theorem RInv.tells_flies' (h : RInv X us ds T) (hi : i < X.texts.length) (hd : (X.s i).flying[n]? = some d) : ∀ tk m, readD d = some (tk, m) → tk ≤ (X.s i).taken := by
  obtain ⟨h1, h2, h3⟩ := h.at' hi
  obtain ⟨hl, _⟩ := h.line i _ _ _ h1 h2 h3
  have ht := (h.waitB h1 h2 h3).2.2.1
  intro tk m e
  rcases (hl.b.flies d (List.mem_of_getElem? hd)).reads (by omega) (fun n tk a b c => h.bytesB h1 h2 h3 a b c) with g | ⟨tk', m', g, g1, _⟩
  · rw [g] at e; simp at e
  · rw [g] at e
    simp only [Option.some.injEq, Prod.mk.injEq] at e
    omega
theorem RInv.taken255 (h : RInv X us ds T) (hi : i < X.texts.length) : (X.e i).taken ≤ 255 ∧ (X.s i).taken ≤ 255 := by
  obtain ⟨h1, h2, h3⟩ := h.at' hi
  have := (h.waitA h1 h2 h3).2.2.1
  have := (h.waitB h1 h2 h3).2.2.1
  exact ⟨by omega, by omega⟩
theorem Fit.up (h : Fit X) (hi : i < X.texts.length) (n : Nat) : Fit (X.up i n) := by
  cases hd : (X.e i).flying[n]? with
  | none => rw [up_none hd]; exact h
  | some d =>
    obtain ⟨us, ds, T, hr⟩ := h.rows
    obtain ⟨os, u, ⟨ds', T', hr'⟩, _⟩ := hr.upped' hi hd
    refine ⟨⟨us, ds', T', hr'⟩, fun j hj => ?_⟩
    rw [u.texts] at hj
    have p := hr.pair hj
    have p' := hr'.pair (i := j) (by rw [u.texts]; exact hj)
    rw [u.window, u.e]
    by_cases hji : j = i
    · subst hji
      rw [if_pos rfl]
      exact ((h.sane j hj).up p.b p.rb u.came).setE rfl rfl
    · rw [if_neg hji, u.s j hji, if_pos hj]
      refine Sane.makes os (h.sane j hj) ?_
      have := p'.rb
      unfold Reads at this
      rw [u.s j hji, if_pos hj, (makes_fields X.window os (X.s j)).1] at this
      exact this
theorem Fit.down (h : Fit X) (hi : i < X.texts.length) (n : Nat) : Fit (X.down i n) := by
  cases hd : (X.s i).flying[n]? with
  | none => rw [down_none hd]; exact h
  | some d =>
    obtain ⟨us, ds, T, hr⟩ := h.rows
    obtain ⟨k, u, hr', _⟩ := hr.downed' hi hd
    refine ⟨⟨us, ds, T, hr'⟩, fun j hj => ?_⟩
    rw [u.len] at hj
    rw [u.window, u.s]
    by_cases hji : j = i
    · subst hji
      rw [if_pos rfl]
      have hs := (h.sane j hj).down (List.mem_of_getElem? hd) u.came
      exact hs.setS (fun v hv => hs.fly v ((nums_lose_sub _ n).subset hv)) (Nat.le_refl _) rfl rfl
    · rw [if_neg hji, u.e j hji]
      exact h.sane j hj
theorem up_len (h : Fit X) (hi : i < X.texts.length) (n : Nat) : (X.up i n).texts = X.texts ∧ (X.up i n).window = X.window := by
  cases hd : (X.e i).flying[n]? with
  | none => rw [up_none hd]; exact ⟨rfl, rfl⟩
  | some d =>
    obtain ⟨us, ds, T, hr⟩ := h.rows
    obtain ⟨os, u, _⟩ := hr.upped' hi hd
    exact ⟨u.texts, u.window⟩
theorem down_len (h : Fit X) (hi : i < X.texts.length) (n : Nat) : (X.down i n).texts.length = X.texts.length ∧ (X.down i n).window = X.window := by
  cases hd : (X.s i).flying[n]? with
  | none => rw [down_none hd]; exact ⟨rfl, rfl⟩
  | some d =>
    obtain ⟨us, ds, T, hr⟩ := h.rows
    obtain ⟨os, u, _⟩ := hr.downed' hi hd
    exact ⟨u.len, u.window⟩
/-- A turn of a line: the first one up, the first one down. -/
def IRoom.turn (X : IRoom) (i : Nat) : IRoom := (X.up i 0).down i 0
theorem Fit.turn (h : Fit X) (hi : i < X.texts.length) : Fit (X.turn i) ∧ (X.turn i).texts.length = X.texts.length ∧ (X.turn i).window = X.window := by
  have h1 := h.up hi 0
  obtain ⟨e1, e2⟩ := up_len h hi 0
  have hi' : i < (X.up i 0).texts.length := by rw [e1]; exact hi
  obtain ⟨e3, e4⟩ := down_len h1 hi' 0
  exact ⟨h1.down hi' 0, by show ((X.up i 0).down i 0).texts.length = _; rw [e3, e1], e4.trans e2⟩
theorem flying_nil {l : List ByteArray} (h : l[0]? = none) : l = [] := by
  cases l with
  | nil => rfl
  | cons a l => simp at h
theorem Fit.flow (h : Fit X) (hi : i < X.texts.length) {L : Nat → Nat} (hf : X.Flow L fun _ => 4) : (X.turn i).Flow L fun _ => 4 := by
  have h1 : (X.up i 0).Flow L fun j => if j = i then 3 else 4 := by
    cases hd : (X.e i).flying[0]? with
    | none =>
      rw [up_none hd]
      intro j hj
      dsimp only
      by_cases hji : j = i
      · subst hji; rw [if_pos rfl]; exact (hf j hj).mono (by rw [flying_nil hd]; simp)
      · rw [if_neg hji]; exact hf j hj
    | some d =>
      obtain ⟨us, ds, T, hr⟩ := h.rows
      obtain ⟨os, u, ⟨ds', T', hr'⟩, _⟩ := hr.upped' hi hd
      intro j hj
      have hj' := hj
      rw [u.texts] at hj
      have p := hr.pair hj
      have p' := hr'.pair hj'
      dsimp only
      rw [u.window, u.e]
      by_cases hji : j = i
      · subst hji
        rw [if_pos rfl, if_pos rfl]
        exact (hf j hj).up p (Nat.le_refl _) hd (hr.tells_flies hj hd) (hr'.taken255 hj').2 u.came
      · rw [if_neg hji, if_neg hji, u.s j hji, if_pos hj]
        refine Flow.makes p.w4 os (hf j hj) p.kb ?_
        have := p'.rb
        unfold Reads at this
        rw [u.s j hji, if_pos hj, (makes_fields X.window os (X.s j)).1] at this
        exact this
  have hF := h.up hi 0
  have hi' : i < (X.up i 0).texts.length := by rw [(up_len h hi 0).1]; exact hi
  show ((X.up i 0).down i 0).Flow L fun _ => 4
  generalize X.up i 0 = Y at *
  cases hd : (Y.s i).flying[0]? with
  | none =>
    rw [down_none hd]
    intro j hj
    have := h1 j hj
    dsimp only at this ⊢
    refine this.mono (Nat.le_trans this.few ?_)
    split <;> omega
  | some d =>
    obtain ⟨us, ds, T, hr⟩ := hF.rows
    obtain ⟨k, u, hr', _⟩ := hr.downed' hi' hd
    intro j hj
    have hj' := hj
    rw [u.len] at hj
    rw [u.window, u.s]
    by_cases hji : j = i
    · subst hji
      rw [if_pos rfl]
      have := h1 j hj
      dsimp only at this ⊢
      rw [if_pos rfl] at this
      exact this.down (hr.pair hj) (by omega) hd (hr.tells_flies' hj hd) (hr'.taken255 hj').1 u.came
    · rw [if_neg hji, u.e j hji]
      have := h1 j hj
      dsimp only at this ⊢
      rwa [if_neg hji] at this
inductive Turns : IRoom → IRoom → Prop
  | refl (X : IRoom) : Turns X X
  | step {X Y : IRoom} (i : Nat) (h : Turns X Y) (hi : i < Y.texts.length) : Turns X (Y.turn i)
theorem Turns.fit (t : Turns X Y) (h : Fit X) : Fit Y ∧ Y.texts.length = X.texts.length ∧ Y.window = X.window := by
  induction t with
  | refl => exact ⟨h, rfl, rfl⟩
  | step i t hi ih =>
    obtain ⟨a, b, c⟩ := ih
    obtain ⟨a', b', c'⟩ := a.turn hi
    exact ⟨a', b'.trans b, c'.trans c⟩
theorem Turns.trans {Z : IRoom} (t : Turns X Y) (u : Turns Y Z) : Turns X Z := by
  induction u with
  | refl => exact t
  | step i u hi ih => exact .step i ih hi
theorem Turns.flow (t : Turns X Y) (h : Fit X) {L : Nat → Nat} (hf : X.Flow L fun _ => 4) : Y.Flow L fun _ => 4 := by
  induction t with
  | refl => exact hf
  | step i t hi ih => exact (t.fit h).1.flow hi ih
def IRoom.Still (X : IRoom) : Prop := ∀ i, i < X.texts.length → (X.e i).flying = [] ∧ (X.s i).flying = []
def IRoom.Quiet (X : IRoom) : Prop := ∀ i, i < X.texts.length → (X.e i).waiting = [] ∧ (X.s i).waiting = []
theorem Fit.rest (h : Fit X) {L q : Nat → Nat} (hf : X.Flow L q) (hs : X.Still) : X.Quiet := by
  intro i hi
  obtain ⟨us, ds, T, hr⟩ := h.rows
  have p := hr.pair hi
  exact (hf i hi).rest p.w1 p.ka p.kb (hs i hi).1 (hs i hi).2
/-- The clients ahead of c have ticked, both ends. -/
def IRoom.tickA (X : IRoom) (i : Nat) : IRoom := X.setA i (X.tx i) ((X.e i).tick X.window)
def IRoom.tickB (X : IRoom) (i : Nat) : IRoom := X.setB i ((X.s i).tick X.window)
def IRoom.ticked (X : IRoom) : Nat → IRoom
  | 0 => X
  | c + 1 => ((X.ticked c).tickA c).tickB c
theorem Fit.tickA (h : Fit X) (hi : i < X.texts.length) : Fit (X.tickA i) := by
  obtain ⟨us, ds, T, hr⟩ := h.rows
  obtain ⟨h1, h2, h3⟩ := hr.at' hi
  refine ⟨⟨us, ds, T, hr.tickA h1 h2 h3⟩, fun j hj => ?_⟩
  have hj2 : j < X.texts.length := by simpa [IRoom.tickA, IRoom.setA] using hj
  clear hj
  show Go.Proofs.Ytemkgikncmhoaaa.Sane X.window ((X.setA i (X.tx i) ((X.e i).tick X.window)).e j) (X.s j)
  rw [e_setA (by have := hr.le; omega)]
  split
  · rename_i hji; subst hji
    obtain ⟨_, a2, _, a4⟩ := (X.e j).tick_fields X.window
    exact (h.sane j hj2).setE a2 a4
  · exact h.sane j hj2
theorem Fit.tickB (h : Fit X) (hi : i < X.texts.length) : Fit (X.tickB i) := by
  obtain ⟨us, ds, T, hr⟩ := h.rows
  obtain ⟨h1, h2, h3⟩ := hr.at' hi
  refine ⟨⟨us, ds, T, hr.tickB h1 h2 h3⟩, fun j hj => ?_⟩
  have hj : j < X.texts.length := hj
  show Go.Proofs.Ytemkgikncmhoaaa.Sane X.window (X.e j) ((X.setB i ((X.s i).tick X.window)).s j)
  rw [s_setB (by have := hr.ls; omega)]
  split
  · rename_i hji; subst hji
    exact (h.sane j hj).tickB (hr.pair hj).b (hr.pair hj).rb
  · exact h.sane j hj
structure TickedTo (X Y : IRoom) (c : Nat) : Prop where
  fit : Fit Y
  texts : Y.texts = X.texts
  server : Y.server = X.server
  window : Y.window = X.window
  e : ∀ j, j < X.texts.length → Y.e j = if j < c then (X.e j).tick X.window else X.e j
  s : ∀ j, j < X.texts.length → Y.s j = if j < c then (X.s j).tick X.window else X.s j
theorem Fit.ticked (h : Fit X) : ∀ c, c ≤ X.texts.length → TickedTo X (X.ticked c) c
  | 0, _ => ⟨h, rfl, rfl, rfl, fun j _ => by rw [if_neg (by omega)]; rfl, fun j _ => by rw [if_neg (by omega)]; rfl⟩
  | c + 1, hc => by
    have ih := h.ticked c (by omega)
    have hc1 : c < (X.ticked c).texts.length := by rw [ih.texts]; omega
    have f1 := ih.fit.tickA hc1
    obtain ⟨us, ds, T, hr⟩ := ih.fit.rows
    obtain ⟨h1, h2, h3⟩ := hr.at' hc1
    have t1 : ((X.ticked c).tickA c).texts = X.texts := (list_set_self h1).trans ih.texts
    have hc2 : c < ((X.ticked c).tickA c).texts.length := by rw [t1]; omega
    have f2 := f1.tickB hc2
    have el : c < (X.ticked c).ends.length := by have := hr.le; omega
    have sl : c < ((X.ticked c).tickA c).sends.length := by have := hr.ls; show c < (X.ticked c).sends.length; omega
    refine ⟨f2, t1, ih.server, ih.window, fun j hj => ?_, fun j hj => ?_⟩
    · show ((X.ticked c).setA c ((X.ticked c).tx c) (((X.ticked c).e c).tick (X.ticked c).window)).e j = _
      rw [e_setA el]
      by_cases hjc : j = c
      · subst hjc
        rw [if_pos rfl, if_pos (by omega), ih.e j hj, if_neg (by omega), ih.window]
      · rw [if_neg hjc, ih.e j hj]
        by_cases hlt : j < c
        · rw [if_pos hlt, if_pos (by omega)]
        · rw [if_neg hlt, if_neg (by omega)]
    · show (((X.ticked c).tickA c).setB c ((((X.ticked c).tickA c).s c).tick ((X.ticked c).tickA c).window)).s j = _
      rw [s_setB sl]
      have e1 : ∀ j, ((X.ticked c).tickA c).s j = (X.ticked c).s j := fun j => rfl
      have e2 : ((X.ticked c).tickA c).window = X.window := ih.window
      by_cases hjc : j = c
      · subst hjc
        rw [if_pos rfl, if_pos (by omega), e1, e2, ih.s j hj, if_neg (by omega)]
      · rw [if_neg hjc, e1, ih.s j hj]
        by_cases hlt : j < c
        · rw [if_pos hlt, if_pos (by omega)]
        · rw [if_neg hlt, if_neg (by omega)]
/-- From a room in which nothing flies, behind a tick of all ends: nothing more is lost. -/
theorem Fit.ticked_flow (h : Fit X) (hs : X.Still) : (X.ticked X.texts.length).Flow (fun j => (X.s j).sentTo X.window) fun _ => 4 := by
  have t := h.ticked X.texts.length (Nat.le_refl _)
  obtain ⟨us, ds, T, hr⟩ := h.rows
  intro j hj
  rw [t.texts] at hj
  rw [t.window, t.e j hj, t.s j hj, if_pos hj, if_pos hj]
  exact Flow.ticked (h.sane j hj) (hr.pair hj) (hs j hj).1 (hs j hj).2 (hr.taken255 hj).1 (hr.taken255 hj).2
/-- A round of ticks, and all delivered: nobody waits. -/
theorem Fit.round (h : Fit X) (hs : X.Still) (t : Turns (X.ticked X.texts.length) Y) (hY : Y.Still) : Y.Quiet :=
  (t.fit (h.ticked _ (Nat.le_refl _)).fit).1.rest (t.flow (h.ticked _ (Nat.le_refl _)).fit (h.ticked_flow hs)) hY
end
end Go.Proofs.Ytemkgikncmhoaaa

/-
  weave: what the calls do to a room, and that it stays fit. Plain mathematics. Own work.
-/
namespace Go.Proofs.Ytemkgikncmhoaaa

/-- What flies alone is turned. -/
structure Air (X X' : IRoom) : Prop where
  rows : ∀ us ds T, RInv X us ds T → RInv X' us ds T
  sane : Fit X → X'.Sane
  texts : X'.texts = X.texts
  server : X'.server = X.server
  window : X'.window = X.window
  eknown : ∀ j, (X'.e j).known = (X.e j).known
  sknown : ∀ j, (X'.s j).known = (X.s j).known
  ewait : ∀ j, (X'.e j).waiting = (X.e j).waiting
  swait : ∀ j, (X'.s j).waiting = (X.s j).waiting
  etaken : ∀ j, (X'.e j).taken = (X.e j).taken
  staken : ∀ j, (X'.s j).taken = (X.s j).taken
section
variable {X : IRoom} {us ds : Nat → List GMsg} {T : Nat → Nat → Nat → List UInt8} {i n : Nat} {d : ByteArray}
theorem Air.fit {X' : IRoom} (a : Air X X') (h : Fit X) : Fit X' := by
  obtain ⟨us, ds, T, hr⟩ := h.rows
  exact ⟨⟨us, ds, T, a.rows us ds T hr⟩, a.sane h⟩
theorem Air.refl (X : IRoom) : Air X X := ⟨fun _ _ _ h => h, fun h => h.sane, rfl, rfl, rfl, fun _ => rfl, fun _ => rfl, fun _ => rfl, fun _ => rfl, fun _ => rfl, fun _ => rfl⟩
theorem Fit.get (h : Fit X) (hi : i < X.texts.length) : X.texts[i]? = some (X.tx i) ∧ X.ends[i]? = some (X.e i) ∧ X.sends[i]? = some (X.s i) := by
  obtain ⟨us, ds, T, hr⟩ := h.rows
  exact hr.at' hi
theorem Fit.setA (h : Fit X) (hi : i < X.texts.length) {E' : IEnd} (hH : ∀ own oth, Half own oth (X.e i) → Half own oth E') (h1 : E'.taken = (X.e i).taken) (h2 : E'.kept = (X.e i).kept) (h3 : E'.known = (X.e i).known) (h4 : E'.waiting = (X.e i).waiting) : Air X (X.setA i (X.tx i) E') := by
  have gg := h.get hi
  obtain ⟨g1, g2, g3⟩ := gg
  have he : i < X.ends.length := (List.getElem?_eq_some_iff.1 g2).1
  have hj : ∀ {α : Type} (f : IEnd → α), f E' = f (X.e i) → ∀ j, f ((X.setA i (X.tx i) E').e j) = f (X.e j) := fun f hf j => by
    rw [e_setA he]
    split
    · rename_i hji; rw [hji]; exact hf
    · rfl
  refine ⟨fun us ds T hr => hr.turnA g1 g2 g3 (hH _ _) h1 h3, fun _ j hj => ?_, list_set_self g1, rfl, rfl, hj IEnd.known h3, fun _ => rfl, hj IEnd.waiting h4, fun _ => rfl, hj IEnd.taken h1, fun _ => rfl⟩
  have hj2 : j < X.texts.length := by simpa [IRoom.setA] using hj
  clear hj
  show Go.Proofs.Ytemkgikncmhoaaa.Sane X.window ((X.setA i (X.tx i) E').e j) (X.s j)
  rw [e_setA he]
  split
  · rename_i hji; subst hji; exact (h.sane j hj2).setE h1 h2
  · exact h.sane j hj2
theorem Fit.setB (h : Fit X) (hi : i < X.texts.length) {S' : IEnd} (hH : ∀ own oth, Half own oth (X.s i) → Half own oth S') (h1 : S'.taken = (X.s i).taken) (h2 : S'.kept = (X.s i).kept) (h3 : S'.known = (X.s i).known) (h4 : S'.waiting = (X.s i).waiting) (h5 : ∀ v ∈ nums S'.flying, v ≤ (X.s i).sentTo X.window) : Air X (X.setB i S') := by
  have gg := h.get hi
  obtain ⟨g1, g2, g3⟩ := gg
  have hs : i < X.sends.length := (List.getElem?_eq_some_iff.1 g3).1
  have hj : ∀ {α : Type} (f : IEnd → α), f S' = f (X.s i) → ∀ j, f ((X.setB i S').s j) = f (X.s j) := fun f hf j => by
    rw [s_setB hs]
    split
    · rename_i hji; rw [hji]; exact hf
    · rfl
  have e : S'.sentTo X.window = (X.s i).sentTo X.window := by unfold IEnd.sentTo; rw [h3, h4]
  refine ⟨fun us ds T hr => hr.turnB g1 g2 g3 (hH _ _) h1 h3, fun _ j hj => ?_, rfl, rfl, rfl, fun _ => rfl, hj IEnd.known h3, fun _ => rfl, hj IEnd.waiting h4, fun _ => rfl, hj IEnd.taken h1⟩
  have hj2 : j < X.texts.length := hj
  clear hj
  show Go.Proofs.Ytemkgikncmhoaaa.Sane X.window (X.e j) ((X.setB i S').s j)
  rw [s_setB hs]
  split
  · rename_i hji; subst hji
    exact (h.sane j hj2).setS (fun v hv => by rw [e]; exact h5 v hv) (by omega) h1 h2
  · exact h.sane j hj2
theorem Fit.loseA (h : Fit X) (hi : i < X.texts.length) (n : Nat) : Air X (X.setA i (X.tx i) ((X.e i).lose n)) := h.setA hi (fun _ _ q => q.lose n) rfl rfl rfl rfl
theorem Fit.loseB (h : Fit X) (hi : i < X.texts.length) (n : Nat) : Air X (X.setB i ((X.s i).lose n)) :=
  h.setB hi (fun _ _ q => q.lose n) rfl rfl rfl rfl (fun v hv => (h.sane i hi).fly v ((nums_lose_sub _ n).subset hv))
theorem Fit.doubleA (h : Fit X) (hi : i < X.texts.length) (hd : d ∈ (X.e i).flying) : Air X (X.setA i (X.tx i) ((X.e i).fly d)) := by
  obtain ⟨a1, a2, a3, _, _, a6⟩ := (X.e i).fly_fields d
  exact h.setA hi (fun _ _ q => q.double hd) a3 a6 a1 a2
theorem Fit.doubleB (h : Fit X) (hi : i < X.texts.length) (hd : d ∈ (X.s i).flying) : Air X (X.setB i ((X.s i).fly d)) := by
  obtain ⟨a1, a2, a3, _, _, a6⟩ := (X.s i).fly_fields d
  refine h.setB hi (fun _ _ q => q.double hd) a3 a6 a1 a2 (fun v hv => ?_)
  obtain ⟨x, x1, x2⟩ := mem_nums.1 hv
  refine (h.sane i hi).fly v (mem_nums.2 ⟨x, ?_, x2⟩)
  rcases IEnd.fly_flying _ _ x x1 with g | rfl
  · exact g
  · exact hd
theorem spoil_num {own : List GMsg} {taken : Nat} (h : Dgm own taken d) : numD (spoil d) = none := by
  rcases h with ⟨n, tk, h1, h2, h3⟩ | ⟨tk, h3⟩
  · unfold numD; rw [readD_msg_spoilt]
  · unfold numD; rw [readD_word_spoilt]
theorem Flies.good {own : List GMsg} {taken : Nat} (h : Flies own taken d) (hr : readD d ≠ none) : Dgm own taken d := by
  rcases h with h | ⟨d0, h, rfl⟩
  · exact h
  · exfalso
    rcases h with ⟨n, tk, h1, h2, h3⟩ | ⟨tk, h3⟩
    · exact hr (readD_msg_spoilt _ _)
    · exact hr (readD_word_spoilt _)
theorem Fit.spoilA (h : Fit X) (hi : i < X.texts.length) (hd : (X.e i).flying[n]? = some d) (hr : readD d ≠ none) : Air X (X.setA i (X.tx i) { X.e i with flying := (X.e i).flying.set n (spoil d) }) :=
  h.setA hi (fun _ _ q => q.spoil n ((q.flies d (List.mem_of_getElem? hd)).good hr)) rfl rfl rfl rfl
theorem Fit.spoilB (h : Fit X) (hi : i < X.texts.length) (hd : (X.s i).flying[n]? = some d) (hr : readD d ≠ none) : Air X (X.setB i { X.s i with flying := (X.s i).flying.set n (spoil d) }) := by
  refine h.setB hi (fun _ _ q => q.spoil n ((q.flies d (List.mem_of_getElem? hd)).good hr)) rfl rfl rfl rfl (fun v hv => ?_)
  obtain ⟨us, ds, T, hR⟩ := h.rows
  obtain ⟨x, x1, x2⟩ := mem_nums.1 hv
  rcases List.mem_or_eq_of_mem_set x1 with g | rfl
  · exact (h.sane i hi).fly v (mem_nums.2 ⟨x, g, x2⟩)
  · rw [spoil_num (((hR.pair hi).b.flies d (List.mem_of_getElem? hd)).good hr)] at x2; simp at x2
theorem Fit.tickA' (h : Fit X) (hi : i < X.texts.length) : Air X (X.tickA i) := by
  obtain ⟨a1, a2, a3, a4⟩ := (X.e i).tick_fields X.window
  exact h.setA hi (fun _ _ q => q.ticked) a2 a4 a1 a3
theorem Fit.tickB' (h : Fit X) (hi : i < X.texts.length) : Air X (X.tickB i) := by
  obtain ⟨a1, a2, a3, a4⟩ := (X.s i).tick_fields X.window
  obtain ⟨us, ds, T, hr⟩ := h.rows
  refine h.setB hi (fun _ _ q => q.ticked) a2 a4 a1 a3 (fun v hv => ?_)
  have p := hr.pair hi
  have := ((h.sane i hi).tickB p.b p.rb).fly v hv
  rwa [(tick_sentTo (X.s i) X.window).1] at this
/-- A client makes one. -/
def IRoom.made (X : IRoom) (i : Nat) (o : ROp) : IRoom := X.setA i (o.does (X.tx i)) ((X.e i).make o X.window)
theorem Fit.make (h : Fit X) (hi : i < X.texts.length) (o : ROp) (hc : o.client = i) (hn : o.Norm) (hf : o.fits (X.tx i).length) (hw : (X.e i).waiting.length < X.window) (hu : (X.e i).made < 60) : Fit (X.made i o) := by
  obtain ⟨us, ds, T, hr⟩ := h.rows
  obtain ⟨g1, g2, g3⟩ := hr.at' hi
  have he : i < X.ends.length := (List.getElem?_eq_some_iff.1 g2).1
  obtain ⟨T', hr'⟩ := hr.make g1 g2 g3 o hc hn hf hw hu
  refine ⟨⟨_, _, _, hr'⟩, fun j hj => ?_⟩
  have hj2 : j < X.texts.length := by simpa [IRoom.made, IRoom.setA] using hj
  clear hj
  show Go.Proofs.Ytemkgikncmhoaaa.Sane X.window ((X.setA i (o.does (X.tx i)) ((X.e i).make o X.window)).e j) (X.s j)
  rw [e_setA he]
  split
  · rename_i hji; subst hji
    obtain ⟨a1, _, a3, _⟩ := make_fields (X.e j) o X.window
    exact (h.sane j hj2).setE a1 a3
  · exact h.sane j hj2
theorem fresh_e (n window i : Nat) : (IRoom.fresh n window).e i = if i < n then IEnd.empty else .zero := by
  simp only [IRoom.fresh, IRoom.e, List.getD_eq_getElem?_getD, List.getElem?_replicate]
  split <;> rfl
theorem fresh_s (n window i : Nat) : (IRoom.fresh n window).s i = if i < n then IEnd.empty else .zero := by
  simp only [IRoom.fresh, IRoom.s, List.getD_eq_getElem?_getD, List.getElem?_replicate]
  split <;> rfl
theorem fresh_tx (n window i : Nat) : (IRoom.fresh n window).tx i = [] := by
  simp only [IRoom.fresh, IRoom.tx, List.getD_eq_getElem?_getD, List.getElem?_replicate]
  split <;> rfl
theorem Fit.fresh {n window : Nat} (h1 : 1 ≤ n) (h2 : n ≤ 4) (h3 : 1 ≤ window) (h4 : window ≤ 4) : Fit (IRoom.fresh n window) := by
  refine ⟨⟨_, _, _, RInv.fresh h1 h2 h3 h4⟩, fun i hi => ?_⟩
  have hi : i < n := by simpa [IRoom.fresh] using hi
  rw [fresh_e, fresh_s, if_pos hi]
  exact ⟨fun v hv => by simp [IEnd.empty, nums] at hv, fun m hm => by simp [IEnd.empty] at hm, Nat.zero_le _, rfl, rfl⟩
theorem Fit.still_fresh {n window : Nat} : (IRoom.fresh n window).Still ∧ (IRoom.fresh n window).Quiet := by
  refine ⟨fun i hi => ?_, fun i hi => ?_⟩ <;>
  · have hi : i < n := by simpa [IRoom.fresh] using hi
    rw [fresh_e, fresh_s, if_pos hi]
    exact ⟨rfl, rfl⟩

/-! ### Where nobody waits -/
theorem Fit.same (h : Fit X) (hq : X.Quiet) (hi : i < X.texts.length) : X.tx i = X.server := by
  obtain ⟨us, ds, T, hr⟩ := h.rows
  obtain ⟨g1, g2, g3⟩ := hr.at' hi
  exact hr.known g1 g2 g3 (hq i hi).1 (hq i hi).2
theorem Fit.up_quiet (h : Fit X) (hq : X.Quiet) (hi : i < X.texts.length) (n : Nat) : (X.up i n).Quiet ∧ (X.up i n).server = X.server ∧ (X.up i n).texts = X.texts := by
  cases hd : (X.e i).flying[n]? with
  | none => rw [up_none hd]; exact ⟨hq, rfl, rfl⟩
  | some d =>
    obtain ⟨us, ds, T, hr⟩ := h.rows
    obtain ⟨os, u, ⟨ds', T', hr'⟩, _⟩ := hr.upped' hi hd
    have hi' : i < (X.up i n).texts.length := by rw [u.texts]; exact hi
    have p := hr.pair hi
    have p' := hr'.pair hi'
    obtain ⟨_, c2, c3⟩ := u.came.load p.b
    have ck := u.came.known_le
    have e1 : (X.e i).made = (X.e i).known := by unfold IEnd.made; rw [(hq i hi).1]; rfl
    have m1 := p.a.made
    have t1 := p'.b.tk
    have k1 := p.ka
    have hos : os = [] := List.eq_nil_of_length_eq_zero (by omega)
    subst hos
    refine ⟨fun j hj => ?_, u.server, u.texts⟩
    rw [u.texts] at hj
    rw [u.e]
    by_cases hji : j = i
    · subst hji
      rw [if_pos rfl]
      refine ⟨(hq j hj).1, List.eq_nil_of_length_eq_zero ?_⟩
      have e2 : (X.s j).made = (X.s j).known := by unfold IEnd.made; rw [(hq j hj).2]; rfl
      have e3 : ((X.up j n).s j).made = ((X.up j n).s j).known + ((X.up j n).s j).waiting.length := rfl
      omega
    · rw [if_neg hji, u.s j hji, if_pos hj]
      exact hq j hj
theorem Fit.down_quiet (h : Fit X) (hq : X.Quiet) (hi : i < X.texts.length) (n : Nat) : (X.down i n).Quiet ∧ (X.down i n).server = X.server ∧ ∀ j, (X.down i n).tx j = X.tx j := by
  cases hd : (X.s i).flying[n]? with
  | none => rw [down_none hd]; exact ⟨hq, rfl, fun _ => rfl⟩
  | some d =>
    obtain ⟨us, ds, T, hr⟩ := h.rows
    obtain ⟨k, u, hr', _⟩ := hr.downed' hi hd
    have hi' : i < (X.down i n).texts.length := by rw [u.len]; exact hi
    have p := hr.pair hi
    have p' := hr'.pair hi'
    obtain ⟨_, c2, c3⟩ := u.came.load p.a
    have ck := u.came.known_le
    have e1 : (X.s i).made = (X.s i).known := by unfold IEnd.made; rw [(hq i hi).2]; rfl
    have m1 := p.b.made
    have t1 := p'.a.tk
    have k1 := p.kb
    have hk : k = 0 := by omega
    refine ⟨fun j hj => ?_, u.server, fun j => u.tx j (.inr hk)⟩
    rw [u.len] at hj
    rw [u.s]
    by_cases hji : j = i
    · subst hji
      rw [if_pos rfl]
      refine ⟨List.eq_nil_of_length_eq_zero ?_, (hq j hj).2⟩
      have e2 : (X.e j).made = (X.e j).known := by unfold IEnd.made; rw [(hq j hj).1]; rfl
      have e3 : ((X.down j n).e j).made = ((X.down j n).e j).known + ((X.down j n).e j).waiting.length := rfl
      omega
    · rw [if_neg hji, u.e j hji]
      exact hq j hj
theorem Turns.quiet {Y : IRoom} (t : Turns X Y) (h : Fit X) (hq : X.Quiet) : Y.Quiet ∧ Y.server = X.server := by
  induction t with
  | refl => exact ⟨hq, rfl⟩
  | step i t hi ih =>
    have hF := (t.fit h).1
    obtain ⟨a1, a2, a3⟩ := hF.up_quiet ih.1 hi 0
    obtain ⟨b1, b2, _⟩ := (hF.up hi 0).down_quiet a1 (by rw [a3]; exact hi) 0
    exact ⟨b1, b2.trans (a2.trans ih.2)⟩
theorem Fit.ticked_quiet (h : Fit X) (hq : X.Quiet) {c : Nat} (hc : c ≤ X.texts.length) : (X.ticked c).Quiet ∧ (X.ticked c).server = X.server := by
  have t := h.ticked c hc
  refine ⟨fun j hj => ?_, t.server⟩
  rw [t.texts] at hj
  rw [t.e j hj, t.s j hj]
  split
  · rw [((X.e j).tick_fields X.window).2.2.1, ((X.s j).tick_fields X.window).2.2.1]; exact hq j hj
  · exact hq j hj
end

/-! ### Settling -/
inductive Settles : IRoom → Nat → IRoom → Prop
  | start {X Y : IRoom} (t : Turns X Y) (h : Y.Still) : Settles X 0 Y
  | round {X Y Z : IRoom} {k : Nat} (s : Settles X k Y) (t : Turns (Y.ticked Y.texts.length) Z) (h : Z.Still) : Settles X (k + 1) Z
theorem Settles.fit {X Y : IRoom} {k : Nat} (s : Settles X k Y) (h : Fit X) : Fit Y ∧ Y.Still ∧ Y.texts.length = X.texts.length ∧ Y.window = X.window := by
  induction s with
  | start t hs => obtain ⟨a, b, c⟩ := t.fit h; exact ⟨a, hs, b, c⟩
  | round s t hs ih =>
    obtain ⟨a, b, c, d⟩ := ih
    have tk := a.ticked _ (Nat.le_refl _)
    obtain ⟨a', c', d'⟩ := t.fit tk.fit
    exact ⟨a', hs, by rw [c', tk.texts, c], by rw [d', tk.window, d]⟩
theorem Settles.quiet {X Y : IRoom} {k : Nat} (s : Settles X k Y) (h : Fit X) (hk : 1 ≤ k) : Y.Quiet := by
  cases s with
  | start t hs => omega
  | round s t hs =>
    obtain ⟨a, b, _⟩ := s.fit h
    exact a.round b t hs
theorem Settles.same {X Y : IRoom} {k : Nat} (s : Settles X k Y) (h : Fit X) (hq : X.Quiet) : Y.Quiet ∧ Y.server = X.server := by
  induction s with
  | start t hs => exact t.quiet h hq
  | round s t hs ih =>
    obtain ⟨a, b⟩ := ih
    have hF := (s.fit h).1
    obtain ⟨c, d⟩ := hF.ticked_quiet a (Nat.le_refl _)
    obtain ⟨e, f⟩ := t.quiet (hF.ticked _ (Nat.le_refl _)).fit c
    exact ⟨e, f.trans (d.trans b)⟩
end Go.Proofs.Ytemkgikncmhoaaa

