import Derived.Test.YtemkgikncmhoaaaM04
/-
  weaveref: (*Line).may, send. Own work.
-/
namespace Go.Proofs.Ytemkgikncmhoaaa
open Go.RowKit
attribute [local go_sem ↓] Go.wp_at_zero Go.wp_at_succ

/-- What is asked of an end's numbers: all fit into a byte. -/
structure REnd.Ok (E : REnd) : Prop where
  rows : E.rows.length ≤ 240
  taken : E.taken ≤ 240
  known : E.known ≤ 240
  sent : E.sent ≤ 240
  out : E.out.length ≤ 12
  spoilt : E.spoilt.length = E.out.length
  msgs : ∀ m ∈ E.rows, m.ctx ≤ 240 ∧ m.forms ≠ [] ∧ 0 ≤ m.first.client ∧ m.first.client ≤ 255 ∧ 0 ≤ m.first.verb ∧ m.first.verb ≤ 255 ∧ 0 ≤ m.first.place ∧ m.first.place ≤ 255 ∧ 0 ≤ m.first.letter ∧ m.first.letter ≤ 255

theorem heap_alloc_new' (w : World) (o : Obj) {n : Nat} (h : n = w.heap.size) : ((w.alloc o).drew).heap[n]? = some o := by subst h; exact heap_alloc_new w o

theorem ret_int {k : IntKind} {a b : Int} (h : a = b) : Ending.returned (.int k a) = .returned (.int k b) := by rw [h]

theorem REnd.fly_rows (E : REnd) (s : ByteArray) : (E.fly s).rows = E.rows ∧ (E.fly s).taken = E.taken ∧ (E.fly s).known = E.known ∧ (E.fly s).sent = E.sent ∧ (E.fly s).kept = E.kept := by
  unfold REnd.fly; split <;> simp
theorem REnd.Ok.fly {E : REnd} (h : E.Ok) (s : ByteArray) : (E.fly s).Ok := by
  obtain ⟨e1, e2, e3, e4, e5⟩ := E.fly_rows s
  refine ⟨by rw [e1]; exact h.rows, by rw [e2]; exact h.taken, by rw [e3]; exact h.known, by rw [e4]; exact h.sent, ?_, ?_, by rw [e1]; exact h.msgs⟩
  · unfold REnd.fly; split
    · rw [List.length_append]; simp; omega
    · exact h.out
  · unfold REnd.fly; split
    · simp [h.spoilt]
    · exact h.spoilt
theorem REnd.send1_rows (E : REnd) (n : Nat) : (E.send1 n).rows = E.rows ∧ (E.send1 n).taken = E.taken ∧ (E.send1 n).known = E.known ∧ (E.send1 n).kept = E.kept := by
  unfold REnd.send1
  have h1 := E.fly_rows (ckd (msgBytes n (E.rows.getD (n - 1) ⟨0, []⟩) E.taken))
  simp only
  generalize E.fly (ckd (msgBytes n (E.rows.getD (n - 1) ⟨0, []⟩) E.taken)) = F at *
  obtain ⟨e1, e2, e3, e4, e5⟩ := h1
  split
  · exact ⟨e1, e2, e3, e5⟩
  · exact ⟨e1, e2, e3, e5⟩
theorem REnd.Ok.send1 {E : REnd} (h : E.Ok) (n : Nat) (hn : n ≤ 240) : (E.send1 n).Ok := by
  unfold REnd.send1
  have h1 := h.fly (ckd (msgBytes n (E.rows.getD (n - 1) ⟨0, []⟩) E.taken))
  simp only
  split
  · exact ⟨h1.rows, h1.taken, h1.known, hn, h1.out, h1.spoilt, h1.msgs⟩
  · exact h1
theorem REnd.sendN_rows (E : REnd) (m : Nat) : ∀ k, (E.sendN m k).rows = E.rows ∧ (E.sendN m k).taken = E.taken ∧ (E.sendN m k).known = E.known ∧ (E.sendN m k).kept = E.kept
  | 0 => by simp [REnd.sendN]
  | k + 1 => by
    have h1 := (E.sendN m k).send1_rows (m + k)
    have h2 := E.sendN_rows m k
    simp only [REnd.sendN]
    rw [h1.1, h1.2.1, h1.2.2.1, h1.2.2.2]; exact h2
theorem REnd.Ok.sendN {E : REnd} (h : E.Ok) (m : Nat) : ∀ k, m + k ≤ 241 → (E.sendN m k).Ok
  | 0, _ => h
  | k + 1, hk => (h.sendN m k (by omega)).send1 (m + k) (by omega)

/-- Message i of a row, in memory. -/
theorem RowsAt.get {own : Nat → Tag} {rid c s : Nat} {w : World} {r : Value} {ms : List RMsg} (h : RowsAt own rid c s w r ms) {i : Nat} {m : RMsg} (hm : ms[i]? = some m) (hne : m.forms ≠ []) :
    ∃ g cap hb hcap, r = .slice (some ⟨g, 0, none⟩) ms.length cap ∧ w.cell? ⟨g, i * 2, none⟩ = some (.int .i64 m.ctx) ∧ w.cell? ⟨g, i * 2 + 1, none⟩ = some (.slice (some ⟨hb, 0, none⟩) m.forms.length hcap) ∧ m.forms.length ≤ hcap ∧
      w.cell? ⟨hb, 0, none⟩ = some (.int .i64 m.first.client) ∧ w.cell? ⟨hb, 1, none⟩ = some (.int .i64 m.first.verb) ∧ w.cell? ⟨hb, 2, none⟩ = some (.int .i64 m.first.place) ∧ w.cell? ⟨hb, 3, none⟩ = some (.int .u8 m.first.letter) ∧
      own g = (rid, c, 1 + s) ∧ own hb = (rid, c, 20 + 2 * i + s) := by
  obtain ⟨fs, hl, ho, hf⟩ := h
  have hi : i < ms.length := (List.getElem?_eq_some_iff.1 hm).1
  obtain ⟨f, hff⟩ : ∃ f, fs[i]? = some f := ⟨fs[i]'(by omega), by simp [hl, hi]⟩
  have hfo := hf i m f hm hff
  obtain ⟨o, os, hos⟩ : ∃ o os, m.forms = o :: os := by
    cases h : m.forms with
    | nil => exact absurd h hne
    | cons o os => exact ⟨o, os, rfl⟩
  rcases ho.1.2 with ⟨_, h0⟩ | ⟨g, cap, cur, rfl, _, hg, _, _, hcs, htake⟩
  · omega
  rcases hfo.1.2 with ⟨_, h0⟩ | ⟨hb, hcap, hcur, rfl, _, hhb, hle, _, hhcs, hhtake⟩
  · rw [hos] at h0; simp at h0
  have e1 := ho.1.cells (g := g) rfl
  have e2 := hfo.1.cells (g := hb) rfl
  have hz : ∀ (ms : List RMsg) (fs : List Value) (i : Nat) (m : RMsg) (f : Value), ms[i]? = some m → fs[i]? = some f →
      ((List.zipWith (fun m f => [Value.int .i64 (m.ctx : Int), f]) ms fs).flatten)[i * 2]? = some (.int .i64 m.ctx) ∧ ((List.zipWith (fun m f => [Value.int .i64 (m.ctx : Int), f]) ms fs).flatten)[i * 2 + 1]? = some f := by
    intro ms
    induction ms with
    | nil => intro fs i m f h; simp at h
    | cons m0 ms ih =>
      intro fs i m f h h'
      cases fs with
      | nil => simp at h'
      | cons f0 fs =>
        cases i with
        | zero => simp at h h'; subst h h'; simp
        | succ i =>
          have := ih fs i m f (by simpa using h) (by simpa using h')
          simp only [List.zipWith_cons_cons, List.flatten_cons]
          rw [show (i + 1) * 2 = i * 2 + 1 + 1 by omega]
          simpa using this
  obtain ⟨z1, z2⟩ := hz ms fs i m _ hm hff
  have q1 := e1 _ _ z1
  have q2 := e1 _ _ z2
  rw [Addr.add_lit, Nat.zero_add] at q1 q2
  have hfc : (m.forms.flatMap ROp.cells) = [.int .i64 m.first.client, .int .i64 m.first.verb, .int .i64 m.first.place, .int .u8 m.first.letter] ++ os.flatMap ROp.cells := by
    simp [RMsg.first, hos, ROp.cells]
  have p0 := e2 0 (.int .i64 m.first.client) (by rw [hfc]; rfl)
  have p1 := e2 1 (.int .i64 m.first.verb) (by rw [hfc]; rfl)
  have p2 := e2 2 (.int .i64 m.first.place) (by rw [hfc]; rfl)
  have p3 := e2 3 (.int .u8 m.first.letter) (by rw [hfc]; rfl)
  rw [Addr.add_lit] at p0 p1 p2 p3
  exact ⟨g, cap, hb, hcap, rfl, q1, q2, hle, p0, p1, p2, p3, ho.2 g rfl, hfo.2 hb rfl⟩

set_option maxRecDepth 100000 in
set_option maxHeartbeats 400000 in
theorem may_0 (own : Nat → Tag) (rid c b : Nat) (L : RLine) (window : Nat) (w : World) (h : LineAt own rid c w b L) (hok : L.a.Ok) (hw : window ≤ 4) :
    Calls Try.prog 94 #[.pointer (some ⟨b, 0, none⟩), .int .i64 0, .int .i64 window] w fun e w' => e = .returned (.int .i64 (L.a.may window : Nat)) ∧ w' = w := by
  obtain ⟨r0, r1, k0, k1, o0, o1, s0, s1, hc, ⟨⟨f0, _, x0, _⟩, _⟩, ⟨⟨f1, _, x1, _⟩, _⟩⟩ := h
  obtain ⟨ra, rc, rfl, _, _⟩ := x0.shape
  have h4 : w.cell? ⟨b, 4, none⟩ = some (.int .i64 L.a.known) := by rw [hc.cell]; rfl
  have h0 : w.cell? ⟨b, 0, none⟩ = some (.slice ra L.a.rows.length rc) := by rw [hc.cell]; rfl
  have hk := hok.known
  have hr := hok.rows
  have HM : Hid (L.a.may window = min (L.a.known + window) L.a.rows.length) := rfl
  generalize L.a.known = kn at *
  generalize L.a.rows.length = rl at *
  clear hc
  by_cases hlt : rl < kn + window
  all_goals
    go_enter Try.func94, Try.ntmps94
    go_wp2
    go_ret
    refine ⟨?_, rfl⟩
    rw [HM.out]
    exact ret_int (by omega)
set_option maxRecDepth 100000 in
set_option maxHeartbeats 400000 in
theorem may_1 (own : Nat → Tag) (rid c b : Nat) (L : RLine) (window : Nat) (w : World) (h : LineAt own rid c w b L) (hok : L.b.Ok) (hw : window ≤ 4) :
    Calls Try.prog 94 #[.pointer (some ⟨b, 0, none⟩), .int .i64 1, .int .i64 window] w fun e w' => e = .returned (.int .i64 (L.b.may window : Nat)) ∧ w' = w := by
  obtain ⟨r0, r1, k0, k1, o0, o1, s0, s1, hc, ⟨⟨f0, _, x0, _⟩, _⟩, ⟨⟨f1, _, x1, _⟩, _⟩⟩ := h
  obtain ⟨ra, rc, rfl, _, _⟩ := x1.shape
  have h4 : w.cell? ⟨b, 5, none⟩ = some (.int .i64 L.b.known) := by rw [hc.cell]; rfl
  have h0 : w.cell? ⟨b, 1, none⟩ = some (.slice ra L.b.rows.length rc) := by rw [hc.cell]; rfl
  have hk := hok.known
  have hr := hok.rows
  have HM : Hid (L.b.may window = min (L.b.known + window) L.b.rows.length) := rfl
  generalize L.b.known = kn at *
  generalize L.b.rows.length = rl at *
  clear hc
  by_cases hlt : rl < kn + window
  all_goals
    go_enter Try.func94, Try.ntmps94
    go_wp2
    go_ret
    refine ⟨?_, rfl⟩
    rw [HM.out]
    exact ret_int (by omega)

set_option maxRecDepth 100000 in
set_option maxHeartbeats 400000 in
theorem send_0 (own : Nat → Tag) (rid c b : Nat) (L : RLine) (m k : Nat) (w : World) (h : LineAt own rid c w b L) (hok : L.a.Ok) (hm : 1 ≤ m) (hk : m + k ≤ L.a.rows.length + 1) :
    Calls Try.prog 93 #[.pointer (some ⟨b, 0, none⟩), .int .i64 0, .int .i64 m, .int .i64 ((m : Int) + k - 1)] w fun e w' => e = .returned (.tuple #[]) ∧ ∃ own', LineAt own' rid c w' b { L with a := L.a.sendN m k } ∧ Upd own own' (inLine rid c) w w' := by
  have hr := hok.rows
  go_enter Try.func93, Try.ntmps93
  go_wp2
  go_loopw [8] (fun v8 wr => ∃ j : Nat, j ≤ k ∧ v8 = .int .i64 ((m + j : Nat) : Int) ∧ ∃ own1, LineAt own1 rid c wr b { L with a := L.a.sendN m j } ∧ Upd own own1 (inLine rid c) w wr) (fun v8 _ => m + k - (intOf v8).toNat)
  case atStart => exact ⟨0, Nat.zero_le _, by simp, own, h, Upd.refl _ _ _⟩
  case round =>
    obtain ⟨j, hj, rfl, own1, hL, hU⟩ := hrel
    by_cases hlt : j < k
    · obtain ⟨i, hi⟩ : ∃ i, m + j = i + 1 := ⟨m + j - 1, by omega⟩
      have hok1 := hok.sendN m j (by omega)
      obtain ⟨er, et, ek, eq⟩ := L.a.sendN_rows m j
      have HS : Hid (L.a.sendN m (j + 1) = (L.a.sendN m j).send1 (i + 1)) := by show (L.a.sendN m j).send1 (m + j) = _; rw [hi]
      have hil : i < (L.a.sendN m j).rows.length := by rw [er]; omega
      have hil' : (L.a.sendN m j).rows.length ≤ 240 := by rw [er]; omega
      have hkm : m + k - (i + 1) ≥ 1 := by omega
      rw [hi]
      generalize L.a.sendN m j = E at *
      clear er et ek eq hok h
      have hL0 := hL
      obtain ⟨r0, r1, k0, k1, o0, o1, s0, s1, hc, ⟨a1, a2, a3, a4⟩, hb⟩ := hL
      simp only at hc a1 a2 a3 a4
      have hmi : E.rows[i]? = some E.rows[i] := by simp [hil]
      have hM : ∀ M, M = E.rows[i] → E.rows.getD i ⟨0, []⟩ = M := fun M hM => by subst hM; simp [hil]
      have hmm := hok1.msgs E.rows[i] (List.getElem_mem hil)
      generalize E.rows[i] = M at *
      obtain ⟨g, rc, hb1, hcp, rfl, q1, q2, qle, p0, p1, p2, p3, tg, th⟩ := a1.get hmi hmm.2.1
      have hge : 1 ≤ M.forms.length := by
        cases h : M.forms with
        | nil => exact absurd h hmm.2.1
        | cons => simp
      have h0 : wr.cell? ⟨b, 0, none⟩ = some (.slice (some ⟨g, 0, none⟩) E.rows.length rc) := by rw [hc.cell]; rfl
      have h2 : wr.cell? ⟨b, 2, none⟩ = some (.int .i64 E.taken) := by rw [hc.cell]; rfl
      have HB : Hid (msgBytes (i + 1) M E.taken = [1, (i : Int) + 1, M.ctx, E.taken, M.first.client, M.first.verb, M.first.place, M.first.letter]) := rfl
      have hil2 : (i : Int) < (E.rows.length : Int) := by omega
      have hi0 : (0 : Int) ≤ (i : Int) := by omega
      have hge2 : (1 : Int) ≤ (M.forms.length : Int) := by omega
      generalize M.forms.length = fl at *
      generalize M.first.client = cl at *
      generalize M.first.verb = vb at *
      generalize M.first.place = pl at *
      generalize M.first.letter = lt at *
      generalize E.rows.length = rl at *
      have hgl := World.block_lt_of_cell? _ _ q1
      have hhl := World.block_lt_of_cell? _ _ p0
      have hbl := World.block_lt_of_cell? _ _ h0
      have htk := hok1.taken
      have hwl : IntKind.i64.wrap lt = lt := by rw [IntKind.wrap_i64]; omega
      have hby : Bytes [1, (i : Int) + 1, M.ctx, E.taken, cl, vb, pl, lt] := by
        intro q
        match q with
        | 0 | 1 | 2 | 3 | 4 | 5 | 6 | 7 => refine ⟨?_, ?_⟩ <;> simp <;> omega
        | q + 8 => simp
      have hsp1 : E.spoilt.length < 13 := by have := hok1.out; have := hok1.spoilt; omega
      obtain ⟨_, ef1, _, ef4, _⟩ := E.fly_rows (ckd [1, (i : Int) + 1, M.ctx, E.taken, cl, vb, pl, lt])
      go_wp2_with fail
      have hL2 : LineAt (retag own1 wr.heap.size (rid + 1, 0, 0)) rid c ((wr.alloc (Obj.cells #[Value.int IntKind.i64 ↑M.ctx, Value.slice (some { block := hb1, off := 0 }) fl hcp] 167)).alloc
          (Obj.cells #[Value.int IntKind.i64 cl, Value.int IntKind.i64 vb, Value.int IntKind.i64 pl, Value.int IntKind.u8 lt] 149)) b { a := E, b := L.b } :=
        hL0.upd (Upd.retag (((Upd.refl own1 (fun _ => False) wr).alloc _).alloc _) wr.heap.size (rid + 1, 0, 0) (Nat.le_refl _)) (fun _ h => h)
      have hU2 : Upd own (retag own1 wr.heap.size (rid + 1, 0, 0)) (inLine rid c) w ((wr.alloc (Obj.cells #[Value.int IntKind.i64 ↑M.ctx, Value.slice (some { block := hb1, off := 0 }) fl hcp] 167)).alloc
          (Obj.cells #[Value.int IntKind.i64 cl, Value.int IntKind.i64 vb, Value.int IntKind.i64 pl, Value.int IntKind.u8 lt] 149)) :=
        hU.trans (Upd.retag (((Upd.refl own1 (inLine rid c) wr).alloc _).alloc _) wr.heap.size (rid + 1, 0, 0) (Nat.le_refl _))
      have CM : CellsT (retag own1 wr.heap.size (rid + 1, 0, 0)) (rid + 1, 0, 0) ((wr.alloc (Obj.cells #[Value.int IntKind.i64 ↑M.ctx, Value.slice (some { block := hb1, off := 0 }) fl hcp] 167)).alloc
          (Obj.cells #[Value.int IntKind.i64 cl, Value.int IntKind.i64 vb, Value.int IntKind.i64 pl, Value.int IntKind.u8 lt] 149)) wr.heap.size _ _ := (CellsT.new wr _ _ own1 _).alloc _
      have CO : CellsT (retag own1 wr.heap.size (rid + 1, 0, 0)) (rid + 1, 0, 0) ((wr.alloc (Obj.cells #[Value.int IntKind.i64 ↑M.ctx, Value.slice (some { block := hb1, off := 0 }) fl hcp] 167)).alloc
          (Obj.cells #[Value.int IntKind.i64 cl, Value.int IntKind.i64 vb, Value.int IntKind.i64 pl, Value.int IntKind.u8 lt] 149)) (wr.heap.size + 1) _ _ := ⟨by simpa using heap_alloc_new (wr.alloc _) _, retag_ge (by omega)⟩
      have hsz2 : ((wr.alloc (Obj.cells #[Value.int IntKind.i64 ↑M.ctx, Value.slice (some { block := hb1, off := 0 }) fl hcp] 167)).alloc
          (Obj.cells #[Value.int IntKind.i64 cl, Value.int IntKind.i64 vb, Value.int IntKind.i64 pl, Value.int IntKind.u8 lt] 149)).heap.size = wr.heap.size + 1 + 1 := by simp
      clear hL0 hU q1 q2 p0 p1 p2 p3 h0 h2 hc a1 a2 a3 a4 hb hhl hgl
      generalize (wr.alloc (Obj.cells #[Value.int IntKind.i64 ↑M.ctx, Value.slice (some { block := hb1, off := 0 }) fl hcp] 167)).alloc
          (Obj.cells #[Value.int IntKind.i64 cl, Value.int IntKind.i64 vb, Value.int IntKind.i64 pl, Value.int IntKind.u8 lt] 149) = W2 at *
      generalize retag own1 wr.heap.size (rid + 1, 0, 0) = own2 at *
      generalize wr.heap.size = N at *
      have SK : ∀ w' own' L', Upd own2 own' (inLine rid c) W2 w' → LineAt own' rid c w' b L' → L'.a.taken = E.taken → w'.cell? ⟨N, 0, none⟩ = some (.int .i64 M.ctx) ∧ w'.cell? ⟨b, 2, none⟩ = some (.int .i64 E.taken) ∧ w'.cell? ⟨N + 1, 0, none⟩ = some (.int .i64 cl) ∧
          w'.cell? ⟨N + 1, 1, none⟩ = some (.int .i64 vb) ∧ w'.cell? ⟨N + 1, 2, none⟩ = some (.int .i64 pl) ∧ w'.cell? ⟨N + 1, 3, none⟩ = some (.int .u8 lt) := by
        intro w' own' L' hu hl ht
        have d1 := CM.upd hu (by simp [inLine])
        have d2 := CO.upd hu (by simp [inLine])
        refine ⟨by rw [d1.cell]; rfl, by rw [hl.cells.1, ht], ?_, ?_, ?_, ?_⟩ <;> (rw [d2.cell]; rfl)
      have SK' := hide SK
      obtain ⟨z1, z2, z3, z4, z5, z6⟩ := SK W2 own2 _ (Upd.refl _ _ _) hL2 rfl
      clear SK
      go_region_held3 (fun w' => w'.cell? ⟨N, 0, none⟩ = some (.int .i64 M.ctx) ∧ w'.cell? ⟨b, 2, none⟩ = some (.int .i64 E.taken) ∧ w'.cell? ⟨N + 1, 0, none⟩ = some (.int .i64 cl) ∧
          w'.cell? ⟨N + 1, 1, none⟩ = some (.int .i64 vb) ∧ w'.cell? ⟨N + 1, 2, none⟩ = some (.int .i64 pl) ∧ w'.cell? ⟨N + 1, 3, none⟩ = some (.int .u8 lt))
        (first
          | (exact ⟨z1, z2, z3, z4, z5, z6⟩)
          | (exact unhide SK' _ _ _ (((Upd.refl own2 (inLine rid c) W2).alloc _).drew.trans ((Upd.of_below own2 (inLine rid c) hb3).trans hu4)) hL4 ef1)
          | (exact unhide SK' _ _ _ (((Upd.refl own2 (inLine rid c) W2).alloc _).drew.trans (Upd.of_below own2 (inLine rid c) hb3)) (hL2.upd (((Upd.refl own2 (fun _ => False) W2).alloc _).drew.trans (Upd.of_below own2 (fun _ => False) hb3)) (fun _ h => h)) rfl)
          | (exact unhide SK' _ _ _ (((Upd.refl own2 (inLine rid c) W2).alloc _).drew) (hL2.upd (((Upd.refl own2 (fun _ => False) W2).alloc _).drew) (fun _ h => h)) rfl))
        (first
          | (go_at_call 103; go_must (refine (checked_lit [1, (i : Int) + 1, M.ctx, E.taken, cl, vb, pl, lt] 8 _ _ _ rfl hby (by decide) ?_).mono ?_; (exact heap_alloc_new' _ _ (by simp [hsz2])); rintro e w3 ⟨rfl, hb3⟩))
          | (go_at_call 102; refine (fly_0 own2 rid c b { a := E, b := L.b } _ _ ?_ hsp1).mono ?_; (exact hL2.upd (((Upd.refl _ (fun _ => False) _).alloc _).drew.trans (Upd.of_below _ _ hb3)) (fun _ h => h)); rintro e w4 ⟨rfl, own4, hL4, hu4⟩))
      have hUF : Upd own own4 (inLine rid c) w w4 := hU2.trans ((((Upd.refl _ (inLine rid c) _).alloc _).drew.trans (Upd.of_below _ _ hb3)).trans hu4)
      obtain ⟨_, _, _, _, c6, _, cf⟩ := hL4.cells
      simp only [ef4] at c6
      have cf6 := cf 6
      have HE : Hid (E.send1 (i + 1) = if E.sent < i + 1 then { (E.fly (ckd [1, (i : Int) + 1, M.ctx, E.taken, cl, vb, pl, lt])) with sent := i + 1 } else E.fly (ckd [1, (i : Int) + 1, M.ctx, E.taken, cl, vb, pl, lt])) := by
        unfold REnd.send1
        simp only [Nat.add_sub_cancel]
        rw [hM M rfl, HB.out, ef4]
        exact hide rfl
      clear hb3 hu4 hU2 hL2 cf ef1 ef4 hsp1 hby hwl SK' z1 z2 z3 z4 z5 z6 CM CO hsz2
      generalize E.fly (ckd [1, (i : Int) + 1, M.ctx, E.taken, cl, vb, pl, lt]) = F at *
      by_cases hst : E.sent < i + 1
      · have hst' : (E.sent : Int) < (i : Int) + 1 := by omega
        go_wp2
        go_roundw
        case rel =>
          obtain ⟨x1, x2⟩ := hL4.set6 (i + 1)
          refine ⟨j + 1, by omega, by rw [show ((m + (j + 1) : Nat) : Int) = (i : Int) + 1 + 1 by omega], own4, ?_, hUF.trans x2⟩
          rw [HS.out, HE.out, if_pos hst]
          simpa using x1
        case measure => simp [intOf]; omega
      · have hst' : ¬ (E.sent : Int) < (i : Int) + 1 := by omega
        go_wp2
        go_roundw
        case rel =>
          refine ⟨j + 1, by omega, by rw [show ((m + (j + 1) : Nat) : Int) = (i : Int) + 1 + 1 by omega], own4, ?_, hUF⟩
          rw [HS.out, HE.out, if_neg hst]
          exact hL4
        case measure => simp [intOf]; omega
    · go_wp2
      go_end0
      refine ⟨rfl, own1, ?_, hU⟩
      rw [show k = j by omega]
      exact hL
set_option maxRecDepth 100000 in
set_option maxHeartbeats 400000 in
theorem send_1 (own : Nat → Tag) (rid c b : Nat) (L : RLine) (m k : Nat) (w : World) (h : LineAt own rid c w b L) (hok : L.b.Ok) (hm : 1 ≤ m) (hk : m + k ≤ L.b.rows.length + 1) :
    Calls Try.prog 93 #[.pointer (some ⟨b, 0, none⟩), .int .i64 1, .int .i64 m, .int .i64 ((m : Int) + k - 1)] w fun e w' => e = .returned (.tuple #[]) ∧ ∃ own', LineAt own' rid c w' b { L with b := L.b.sendN m k } ∧ Upd own own' (inLine rid c) w w' := by
  have hr := hok.rows
  go_enter Try.func93, Try.ntmps93
  go_wp2
  go_loopw [8] (fun v8 wr => ∃ j : Nat, j ≤ k ∧ v8 = .int .i64 ((m + j : Nat) : Int) ∧ ∃ own1, LineAt own1 rid c wr b { L with b := L.b.sendN m j } ∧ Upd own own1 (inLine rid c) w wr) (fun v8 _ => m + k - (intOf v8).toNat)
  case atStart => exact ⟨0, Nat.zero_le _, by simp, own, h, Upd.refl _ _ _⟩
  case round =>
    obtain ⟨j, hj, rfl, own1, hL, hU⟩ := hrel
    by_cases hlt : j < k
    · obtain ⟨i, hi⟩ : ∃ i, m + j = i + 1 := ⟨m + j - 1, by omega⟩
      have hok1 := hok.sendN m j (by omega)
      obtain ⟨er, et, ek, eq⟩ := L.b.sendN_rows m j
      have HS : Hid (L.b.sendN m (j + 1) = (L.b.sendN m j).send1 (i + 1)) := by show (L.b.sendN m j).send1 (m + j) = _; rw [hi]
      have hil : i < (L.b.sendN m j).rows.length := by rw [er]; omega
      have hil' : (L.b.sendN m j).rows.length ≤ 240 := by rw [er]; omega
      have hkm : m + k - (i + 1) ≥ 1 := by omega
      rw [hi]
      generalize L.b.sendN m j = E at *
      clear er et ek eq hok h
      have hL0 := hL
      obtain ⟨r0, r1, k0, k1, o0, o1, s0, s1, hc, hb, ⟨a1, a2, a3, a4⟩⟩ := hL
      simp only at hc a1 a2 a3 a4
      have hmi : E.rows[i]? = some E.rows[i] := by simp [hil]
      have hM : ∀ M, M = E.rows[i] → E.rows.getD i ⟨0, []⟩ = M := fun M hM => by subst hM; simp [hil]
      have hmm := hok1.msgs E.rows[i] (List.getElem_mem hil)
      generalize E.rows[i] = M at *
      obtain ⟨g, rc, hb1, hcp, rfl, q1, q2, qle, p0, p1, p2, p3, tg, th⟩ := a1.get hmi hmm.2.1
      have hge : 1 ≤ M.forms.length := by
        cases h : M.forms with
        | nil => exact absurd h hmm.2.1
        | cons => simp
      have h0 : wr.cell? ⟨b, 1, none⟩ = some (.slice (some ⟨g, 0, none⟩) E.rows.length rc) := by rw [hc.cell]; rfl
      have h2 : wr.cell? ⟨b, 3, none⟩ = some (.int .i64 E.taken) := by rw [hc.cell]; rfl
      have HB : Hid (msgBytes (i + 1) M E.taken = [1, (i : Int) + 1, M.ctx, E.taken, M.first.client, M.first.verb, M.first.place, M.first.letter]) := rfl
      have hil2 : (i : Int) < (E.rows.length : Int) := by omega
      have hi0 : (0 : Int) ≤ (i : Int) := by omega
      have hge2 : (1 : Int) ≤ (M.forms.length : Int) := by omega
      generalize M.forms.length = fl at *
      generalize M.first.client = cl at *
      generalize M.first.verb = vb at *
      generalize M.first.place = pl at *
      generalize M.first.letter = lt at *
      generalize E.rows.length = rl at *
      have hgl := World.block_lt_of_cell? _ _ q1
      have hhl := World.block_lt_of_cell? _ _ p0
      have hbl := World.block_lt_of_cell? _ _ h0
      have htk := hok1.taken
      have hwl : IntKind.i64.wrap lt = lt := by rw [IntKind.wrap_i64]; omega
      have hby : Bytes [1, (i : Int) + 1, M.ctx, E.taken, cl, vb, pl, lt] := by
        intro q
        match q with
        | 0 | 1 | 2 | 3 | 4 | 5 | 6 | 7 => refine ⟨?_, ?_⟩ <;> simp <;> omega
        | q + 8 => simp
      have hsp1 : E.spoilt.length < 13 := by have := hok1.out; have := hok1.spoilt; omega
      obtain ⟨_, ef1, _, ef4, _⟩ := E.fly_rows (ckd [1, (i : Int) + 1, M.ctx, E.taken, cl, vb, pl, lt])
      go_wp2_with fail
      have hL2 : LineAt (retag own1 wr.heap.size (rid + 1, 0, 0)) rid c ((wr.alloc (Obj.cells #[Value.int IntKind.i64 ↑M.ctx, Value.slice (some { block := hb1, off := 0 }) fl hcp] 167)).alloc
          (Obj.cells #[Value.int IntKind.i64 cl, Value.int IntKind.i64 vb, Value.int IntKind.i64 pl, Value.int IntKind.u8 lt] 149)) b { a := L.a, b := E } :=
        hL0.upd (Upd.retag (((Upd.refl own1 (fun _ => False) wr).alloc _).alloc _) wr.heap.size (rid + 1, 0, 0) (Nat.le_refl _)) (fun _ h => h)
      have hU2 : Upd own (retag own1 wr.heap.size (rid + 1, 0, 0)) (inLine rid c) w ((wr.alloc (Obj.cells #[Value.int IntKind.i64 ↑M.ctx, Value.slice (some { block := hb1, off := 0 }) fl hcp] 167)).alloc
          (Obj.cells #[Value.int IntKind.i64 cl, Value.int IntKind.i64 vb, Value.int IntKind.i64 pl, Value.int IntKind.u8 lt] 149)) :=
        hU.trans (Upd.retag (((Upd.refl own1 (inLine rid c) wr).alloc _).alloc _) wr.heap.size (rid + 1, 0, 0) (Nat.le_refl _))
      have CM : CellsT (retag own1 wr.heap.size (rid + 1, 0, 0)) (rid + 1, 0, 0) ((wr.alloc (Obj.cells #[Value.int IntKind.i64 ↑M.ctx, Value.slice (some { block := hb1, off := 0 }) fl hcp] 167)).alloc
          (Obj.cells #[Value.int IntKind.i64 cl, Value.int IntKind.i64 vb, Value.int IntKind.i64 pl, Value.int IntKind.u8 lt] 149)) wr.heap.size _ _ := (CellsT.new wr _ _ own1 _).alloc _
      have CO : CellsT (retag own1 wr.heap.size (rid + 1, 0, 0)) (rid + 1, 0, 0) ((wr.alloc (Obj.cells #[Value.int IntKind.i64 ↑M.ctx, Value.slice (some { block := hb1, off := 0 }) fl hcp] 167)).alloc
          (Obj.cells #[Value.int IntKind.i64 cl, Value.int IntKind.i64 vb, Value.int IntKind.i64 pl, Value.int IntKind.u8 lt] 149)) (wr.heap.size + 1) _ _ := ⟨by simpa using heap_alloc_new (wr.alloc _) _, retag_ge (by omega)⟩
      have hsz2 : ((wr.alloc (Obj.cells #[Value.int IntKind.i64 ↑M.ctx, Value.slice (some { block := hb1, off := 0 }) fl hcp] 167)).alloc
          (Obj.cells #[Value.int IntKind.i64 cl, Value.int IntKind.i64 vb, Value.int IntKind.i64 pl, Value.int IntKind.u8 lt] 149)).heap.size = wr.heap.size + 1 + 1 := by simp
      clear hL0 hU q1 q2 p0 p1 p2 p3 h0 h2 hc a1 a2 a3 a4 hb hhl hgl
      generalize (wr.alloc (Obj.cells #[Value.int IntKind.i64 ↑M.ctx, Value.slice (some { block := hb1, off := 0 }) fl hcp] 167)).alloc
          (Obj.cells #[Value.int IntKind.i64 cl, Value.int IntKind.i64 vb, Value.int IntKind.i64 pl, Value.int IntKind.u8 lt] 149) = W2 at *
      generalize retag own1 wr.heap.size (rid + 1, 0, 0) = own2 at *
      generalize wr.heap.size = N at *
      have SK : ∀ w' own' L', Upd own2 own' (inLine rid c) W2 w' → LineAt own' rid c w' b L' → L'.b.taken = E.taken → w'.cell? ⟨N, 0, none⟩ = some (.int .i64 M.ctx) ∧ w'.cell? ⟨b, 3, none⟩ = some (.int .i64 E.taken) ∧ w'.cell? ⟨N + 1, 0, none⟩ = some (.int .i64 cl) ∧
          w'.cell? ⟨N + 1, 1, none⟩ = some (.int .i64 vb) ∧ w'.cell? ⟨N + 1, 2, none⟩ = some (.int .i64 pl) ∧ w'.cell? ⟨N + 1, 3, none⟩ = some (.int .u8 lt) := by
        intro w' own' L' hu hl ht
        have d1 := CM.upd hu (by simp [inLine])
        have d2 := CO.upd hu (by simp [inLine])
        refine ⟨by rw [d1.cell]; rfl, by rw [hl.cells.2.1, ht], ?_, ?_, ?_, ?_⟩ <;> (rw [d2.cell]; rfl)
      have SK' := hide SK
      obtain ⟨z1, z2, z3, z4, z5, z6⟩ := SK W2 own2 _ (Upd.refl _ _ _) hL2 rfl
      clear SK
      go_region_held3 (fun w' => w'.cell? ⟨N, 0, none⟩ = some (.int .i64 M.ctx) ∧ w'.cell? ⟨b, 3, none⟩ = some (.int .i64 E.taken) ∧ w'.cell? ⟨N + 1, 0, none⟩ = some (.int .i64 cl) ∧
          w'.cell? ⟨N + 1, 1, none⟩ = some (.int .i64 vb) ∧ w'.cell? ⟨N + 1, 2, none⟩ = some (.int .i64 pl) ∧ w'.cell? ⟨N + 1, 3, none⟩ = some (.int .u8 lt))
        (first
          | (exact ⟨z1, z2, z3, z4, z5, z6⟩)
          | (exact unhide SK' _ _ _ (((Upd.refl own2 (inLine rid c) W2).alloc _).drew.trans ((Upd.of_below own2 (inLine rid c) hb3).trans hu4)) hL4 ef1)
          | (exact unhide SK' _ _ _ (((Upd.refl own2 (inLine rid c) W2).alloc _).drew.trans (Upd.of_below own2 (inLine rid c) hb3)) (hL2.upd (((Upd.refl own2 (fun _ => False) W2).alloc _).drew.trans (Upd.of_below own2 (fun _ => False) hb3)) (fun _ h => h)) rfl)
          | (exact unhide SK' _ _ _ (((Upd.refl own2 (inLine rid c) W2).alloc _).drew) (hL2.upd (((Upd.refl own2 (fun _ => False) W2).alloc _).drew) (fun _ h => h)) rfl))
        (first
          | (go_at_call 103; go_must (refine (checked_lit [1, (i : Int) + 1, M.ctx, E.taken, cl, vb, pl, lt] 8 _ _ _ rfl hby (by decide) ?_).mono ?_; (exact heap_alloc_new' _ _ (by simp [hsz2])); rintro e w3 ⟨rfl, hb3⟩))
          | (go_at_call 102; refine (fly_1 own2 rid c b { a := L.a, b := E } _ _ ?_ hsp1).mono ?_; (exact hL2.upd (((Upd.refl _ (fun _ => False) _).alloc _).drew.trans (Upd.of_below _ _ hb3)) (fun _ h => h)); rintro e w4 ⟨rfl, own4, hL4, hu4⟩))
      have hUF : Upd own own4 (inLine rid c) w w4 := hU2.trans ((((Upd.refl _ (inLine rid c) _).alloc _).drew.trans (Upd.of_below _ _ hb3)).trans hu4)
      obtain ⟨_, _, _, _, _, c6, cf⟩ := hL4.cells
      simp only [ef4] at c6
      have cf6 := cf 7
      have HE : Hid (E.send1 (i + 1) = if E.sent < i + 1 then { (E.fly (ckd [1, (i : Int) + 1, M.ctx, E.taken, cl, vb, pl, lt])) with sent := i + 1 } else E.fly (ckd [1, (i : Int) + 1, M.ctx, E.taken, cl, vb, pl, lt])) := by
        unfold REnd.send1
        simp only [Nat.add_sub_cancel]
        rw [hM M rfl, HB.out, ef4]
        exact hide rfl
      clear hb3 hu4 hU2 hL2 cf ef1 ef4 hsp1 hby hwl SK' z1 z2 z3 z4 z5 z6 CM CO hsz2
      generalize E.fly (ckd [1, (i : Int) + 1, M.ctx, E.taken, cl, vb, pl, lt]) = F at *
      by_cases hst : E.sent < i + 1
      · have hst' : (E.sent : Int) < (i : Int) + 1 := by omega
        go_wp2
        go_roundw
        case rel =>
          obtain ⟨x1, x2⟩ := hL4.set7 (i + 1)
          refine ⟨j + 1, by omega, by rw [show ((m + (j + 1) : Nat) : Int) = (i : Int) + 1 + 1 by omega], own4, ?_, hUF.trans x2⟩
          rw [HS.out, HE.out, if_pos hst]
          simpa using x1
        case measure => simp [intOf]; omega
      · have hst' : ¬ (E.sent : Int) < (i : Int) + 1 := by omega
        go_wp2
        go_roundw
        case rel =>
          refine ⟨j + 1, by omega, by rw [show ((m + (j + 1) : Nat) : Int) = (i : Int) + 1 + 1 by omega], own4, ?_, hUF⟩
          rw [HS.out, HE.out, if_neg hst]
          exact hL4
        case measure => simp [intOf]; omega
    · go_wp2
      go_end0
      refine ⟨rfl, own1, ?_, hU⟩
      rw [show k = j by omega]
      exact hL
end Go.Proofs.Ytemkgikncmhoaaa

