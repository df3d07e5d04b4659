/-
  weaveref: (*Line).Make. Own work.
-/
import Derived.Test.YtemkgikncmhoaaaRefSend
import Derived.Deep.DeepCutAuto
namespace Go.Proofs.Ytemkgikncmhoaaa
open Go.RowKit
attribute [local go_sem ↓] Go.wp_at_zero Go.wp_at_succ

theorem Try.info167 : (Try.prog.info? 167).map (fun i => (i.zero, i.size, i.bytes)) = some (some (.agg #[.int .i64 0, .slice none 0 0]), 2, 32) := by kernel_rfl

theorem RowsAt.push {own own' : Nat → Tag} {may : Tag → Prop} {rid c s : Nat} {w w' : World} {r' : Value} {ms : List RMsg} {fs : List Value} {ctx : Nat} {o : ROp} {f : Value} (hl : fs.length = ms.length)
    (hf : ∀ i m f, ms[i]? = some m → fs[i]? = some f → OwnsT own (rid, c, 20 + 2 * i + s) w 149 4 f m.forms.length (m.forms.flatMap ROp.cells)) (hu : Upd own own' may w w') (hm : ∀ i, ¬ may (rid, c, 20 + 2 * i + s))
    (ho : OwnsT own' (rid, c, 1 + s) w' 167 2 r' (ms.length + 1) ((List.zipWith (fun m f => [Value.int .i64 (m.ctx : Int), f]) ms fs).flatten ++ [.int .i64 ctx, f]))
    (hn : OwnsT own' (rid, c, 20 + 2 * ms.length + s) w' 149 4 f 1 o.cells) : RowsAt own' rid c s w' r' (ms ++ [⟨ctx, [o]⟩]) := by
  refine ⟨fs ++ [f], by simp [hl], ?_, fun i m f' hi hi' => ?_⟩
  · rw [List.zipWith_append hl.symm]
    simpa using ho
  · by_cases hlt : i < ms.length
    · rw [List.getElem?_append_left hlt] at hi
      rw [List.getElem?_append_left (by omega)] at hi'
      exact (hf i m f' hi hi').upd hu (hm i)
    · have hi2 : i = ms.length := by
        have := (List.getElem?_eq_some_iff.1 hi).1
        simp at this; omega
      subst hi2
      simp at hi
      rw [← hl] at hi'
      simp at hi'
      subst hi hi'
      simpa [ROp.cells] using hn

theorem heap_alloc_new2 (w : World) (o o' : Obj) : ((w.alloc o).alloc o').drew.heap[w.heap.size + 1]? = some o' := by
  have h := heap_alloc_new (w.alloc o) o'
  rw [World.size_alloc] at h
  exact h

set_option maxRecDepth 100000 in
set_option maxHeartbeats 1600000 in
theorem make_0 (own : Nat → Tag) (rid c b : Nat) (L : RLine) (o : ROp) (window : Nat) (w : World) (h : LineAt own rid c w b L) (hok : ({ L.a with rows := L.a.rows ++ [(⟨L.a.taken, [o]⟩ : RMsg)] } : REnd).Ok) (hw : window ≤ 4)
    (hs : L.a.sent ≤ min (L.a.known + window) (L.a.rows.length + 1)) :
    Calls Try.prog 98 #[.pointer (some ⟨b, 0, none⟩), .int .i64 0, .agg #[.int .i64 o.client, .int .i64 o.verb, .int .i64 o.place, .int .u8 o.letter], .int .i64 window] w fun e w' => e = .returned (.tuple #[]) ∧
      ∃ own', LineAt own' rid c w' b { L with a := L.a.make o window } ∧ Upd own own' (inLine rid c) w w' := by
  obtain ⟨i1, hi, hz0, hz1, hz2⟩ := info_parts Try.info167
  have hb0 := h.lt
  have hrl := hok.rows
  simp only [List.length_append, List.length_cons, List.length_nil] at hrl
  have hL0 := h
  obtain ⟨r0, r1, k0, k1, o0, o1, s0, s1, hc, ⟨⟨fs, hfl, hro, hfs⟩, a2, a3, a4⟩, ⟨b1, b2, b3, b4⟩⟩ := h
  obtain ⟨ra, rc, rfl, _, _⟩ := hro.shape
  have h0 : w.cell? ⟨b, 0, none⟩ = some (.slice ra L.a.rows.length rc) := by rw [hc.cell]; rfl
  have h2 : w.cell? ⟨b, 2, none⟩ = some (.int .i64 L.a.taken) := by rw [hc.cell]; rfl
  have hf0 := hc.frozen 0
  have hblt := hc.lt
  have hb1 := hc.2
  go_enter Try.func98, Try.ntmps98
  go_wp2_with fail
  go_cut [] (fun wc => ∃ own', LineAt own' rid c wc b { L with a := { L.a with rows := L.a.rows ++ [(⟨L.a.taken, [o]⟩ : RMsg)] } } ∧ Upd own own' (inLine rid c) w wc)
  case first =>
    have U0 : Upd own own (inLine rid c) w (w.alloc (Obj.cells #[Value.int IntKind.i64 o.client, Value.int IntKind.i64 o.verb, Value.int IntKind.i64 o.place, Value.int IntKind.u8 o.letter] 149)) := (Upd.refl own _ w).alloc _
    have V0 : Upd own own (fun _ => False) w (w.alloc (Obj.cells #[Value.int IntKind.i64 o.client, Value.int IntKind.i64 o.verb, Value.int IntKind.i64 o.place, Value.int IntKind.u8 o.letter] 149)) := (Upd.refl own _ w).alloc _
    have q : ∀ k, (w.alloc (Obj.cells #[Value.int IntKind.i64 o.client, Value.int IntKind.i64 o.verb, Value.int IntKind.i64 o.place, Value.int IntKind.u8 o.letter] 149)).cell? ⟨w.heap.size, k, none⟩ = #[Value.int IntKind.i64 o.client, Value.int IntKind.i64 o.verb, Value.int IntKind.i64 o.place, Value.int IntKind.u8 o.letter][k]? := fun k => World.cell?_alloc_new _ _ _ _
    have q0 := q 0
    have q1 := q 1
    have q2 := q 2
    have q3 := q 3
    simp only [List.getElem?_toArray, List.getElem?_cons_zero, List.getElem?_cons_succ] at q0 q1 q2 q3
    have hsz1 : (w.alloc (Obj.cells #[Value.int IntKind.i64 o.client, Value.int IntKind.i64 o.verb, Value.int IntKind.i64 o.place, Value.int IntKind.u8 o.letter] 149)).heap.size > w.heap.size := by simp
    have hL1 := hL0.upd V0 (fun _ h => h)
    have hc1 := hc.upd V0 (fun h => h)
    have hro1 := hro.upd V0 (fun h => h)
    have HF : Hid (o.cells = [Value.int IntKind.i64 o.client, Value.int IntKind.i64 o.verb, Value.int IntKind.i64 o.place, Value.int IntKind.u8 o.letter]) := rfl
    clear h0 h2 hf0 q
    generalize w.alloc (Obj.cells #[Value.int IntKind.i64 o.client, Value.int IntKind.i64 o.verb, Value.int IntKind.i64 o.place, Value.int IntKind.u8 o.letter] 149) = W1 at *
    generalize o.client = cl at *
    generalize o.verb = vb at *
    generalize o.place = pl at *
    generalize o.letter = lt at *
    generalize w.heap.size = N at *
    have h0 : W1.cell? ⟨b, 0, none⟩ = some (.slice ra L.a.rows.length rc) := by rw [hc1.cell]; rfl
    have h2 : W1.cell? ⟨b, 2, none⟩ = some (.int .i64 L.a.taken) := by rw [hc1.cell]; rfl
    have n1 : ¬ (b = W1.heap.size) := by omega
    have n2 : ¬ (b = W1.heap.size + 1) := by omega
    have n3 : ¬ (N = W1.heap.size) := by omega
    have n4 : ¬ (N = W1.heap.size + 1) := by omega
    have h0a : ∀ o, (W1.alloc o).cell? ⟨b, 0, none⟩ = some (.slice ra L.a.rows.length rc) := fun o => by rw [(hc1.alloc o).cell]; rfl
    have h2a : ∀ o, (W1.alloc o).cell? ⟨b, 2, none⟩ = some (.int .i64 L.a.taken) := fun o => by rw [(hc1.alloc o).cell]; rfl
    have h0b : ∀ o o', ((W1.alloc o).alloc o').cell? ⟨b, 0, none⟩ = some (.slice ra L.a.rows.length rc) := fun o o' => by rw [((hc1.alloc o).alloc o').cell]; rfl
    have X : ∀ F G, Upd own (retag own W1.heap.size (rid, c, 20 + 2 * L.a.rows.length + 0)) (fun _ => False) W1 (((W1.alloc F).alloc G).drew) := fun F G => Upd.retag (((Upd.refl own (fun _ => False) W1).alloc F).alloc G).drew W1.heap.size _ (Nat.le_refl _)
    have HR := fun F G => hro1.upd (X F G) (fun h => h)
    have HC := fun F G => hc1.upd (X F G) (fun h => h)
    have HR' := hide HR
    have HC' := hide HC
    have HX := hide X
    clear HR HC
    have hb2 : (retag own W1.heap.size (rid, c, 20 + 2 * L.a.rows.length + 0)) b = (rid, c, 0) := by rw [retag_lt (by omega)]; exact hb1
    have FIN : Hid (∀ na nc w1, OwnsT (retag (retag own W1.heap.size (rid, c, 20 + 2 * L.a.rows.length + 0)) (W1.heap.size + 1 + 1) (rid, c, 1 + 0)) (rid, c, 1 + 0) w1 167 2 (.slice na (L.a.rows.length + 1) nc) (L.a.rows.length + 1)
          ((List.zipWith (fun m f => [Value.int .i64 (m.ctx : Int), f]) L.a.rows fs).flatten ++ [.int .i64 L.a.taken, .slice (some ⟨W1.heap.size, 0, none⟩) 1 1]) →
        Upd (retag own W1.heap.size (rid, c, 20 + 2 * L.a.rows.length + 0)) (retag (retag own W1.heap.size (rid, c, 20 + 2 * L.a.rows.length + 0)) (W1.heap.size + 1 + 1) (rid, c, 1 + 0)) (fun x => x = (rid, c, 1 + 0)) ((W1.alloc (Obj.cells #[.int .i64 cl, .int .i64 vb, .int .i64 pl, .int .u8 lt] 149)).alloc (Obj.cells #[.int .i64 L.a.taken, .slice (some ⟨W1.heap.size, 0, none⟩) 1 1] 167)).drew w1 →
        ∃ own', LineAt own' rid c (w1.setCell ⟨b, 0, none⟩ (.slice na (L.a.rows.length + 1) nc)) b { L with a := { L.a with rows := L.a.rows ++ [(⟨L.a.taken, [o]⟩ : RMsg)] } } ∧ Upd own own' (inLine rid c) w (w1.setCell ⟨b, 0, none⟩ (.slice na (L.a.rows.length + 1) nc))) := by
      apply hide
      intro na nc w1 ho hu
      have V : Upd own (retag (retag own W1.heap.size (rid, c, 20 + 2 * L.a.rows.length + 0)) (W1.heap.size + 1 + 1) (rid, c, 1 + 0)) (fun x => x = (rid, c, 0) ∨ x = (rid, c, 1 + 0)) w (w1.setCell ⟨b, 0, none⟩ (.slice na (L.a.rows.length + 1) nc)) :=
        Upd.setCell (p := ⟨b, 0, none⟩) ((V0.mono (fun _ h => h.elim)).trans (((X _ _).mono (fun _ h => h.elim)).trans (hu.mono (fun _ h => .inr h)))) (.inl (by rw [retag_lt (show b < _ from by omega)]; exact hb2)) _
      refine ⟨_, ?_, V.mono (by rintro t (rfl | rfl) <;> exact ⟨rfl, rfl⟩)⟩
      have C := ((hc1.upd (X _ _) (fun h => h)).upd hu (by simp)).set 0 (.slice na (L.a.rows.length + 1) nc)
      have O := ho.other (p := ⟨b, 0, none⟩) (by rw [C.2]; simp) (.slice na (L.a.rows.length + 1) nc)
      have G : OwnsT (retag (retag own W1.heap.size (rid, c, 20 + 2 * L.a.rows.length + 0)) (W1.heap.size + 1 + 1) (rid, c, 1 + 0)) (rid, c, 20 + 2 * L.a.rows.length + 0) (w1.setCell ⟨b, 0, none⟩ (.slice na (L.a.rows.length + 1) nc)) 149 4 (.slice (some ⟨W1.heap.size, 0, none⟩) 1 1) 1 o.cells := by
        refine OwnsT.other (p := ⟨b, 0, none⟩) (OwnsT.upd (own := (retag own W1.heap.size (rid, c, 20 + 2 * L.a.rows.length + 0))) (w := ((W1.alloc (Obj.cells #[.int .i64 cl, .int .i64 vb, .int .i64 pl, .int .u8 lt] 149)).alloc (Obj.cells #[.int .i64 L.a.taken, .slice (some ⟨W1.heap.size, 0, none⟩) 1 1] 167)).drew) ?_ hu (by simp <;> omega)) (by rw [C.2]; simp <;> omega) _
        refine ⟨⟨by rw [HF.out]; rfl, .inr ⟨W1.heap.size, 1, #[.int .i64 cl, .int .i64 vb, .int .i64 pl, .int .u8 lt], rfl, Nat.zero_le _, ?_, Nat.le_refl _, by simp [maxLen], rfl, by rw [HF.out]; rfl⟩⟩, fun g hg => ?_⟩
        · have := (Below.heap_alloc (W1.alloc (Obj.cells #[.int .i64 cl, .int .i64 vb, .int .i64 pl, .int .u8 lt] 149)) (Obj.cells #[.int .i64 L.a.taken, .slice (some ⟨W1.heap.size, 0, none⟩) 1 1] 167) W1.heap.size (by simp)).trans (heap_alloc_new W1 _)
          exact this
        · simp [Value.ownBlock] at hg
          subst hg
          exact retag_ge (Nat.le_refl _)
      have XE : EndAt _ rid c 0 _ _ _ _ _ { L.a with rows := L.a.rows ++ [(⟨L.a.taken, [o]⟩ : RMsg)] } := ⟨RowsAt.push hfl hfs V (by intro i; simp <;> omega) O G, a2.upd V (by simp), a3.upd V (by simp), a4.upd V (by simp)⟩
      have YE : EndAt _ rid c 1 _ _ _ _ _ L.b := ⟨b1.upd V (by simp) (by intro i; simp <;> omega), b2.upd V (by simp), b3.upd V (by simp), b4.upd V (by simp)⟩
      exact ⟨_, _, _, _, _, _, _, _, C, XE, YE⟩
    clear X
    have hfit1 : L.a.rows.length + 1 ≤ maxLen := by simp [maxLen]; omega
    have hfit2 : (L.a.rows.length + 1) * 32 ≤ 140737488355328 := by omega
    go_region_law ((refine step_append_T _ (by rfl) _ _ _ (by rfl) 167 i1 _ 2 32 Try.underlying114 hi hz0 hz1 hz2 rfl (by omega) _ _ _ (retag own W1.heap.size (rid, c, 20 + 2 * L.a.rows.length + 0)) (rid, c, 1 + 0) (by rfl) (unhide HR' _ _) ⟨W1.heap.size + 1, 0, none⟩ 1 1 [.int .i64 L.a.taken, .slice (some ⟨W1.heap.size, 0, none⟩) 1 1] (by rfl) (by rfl) (World.news_of_block (cs := #[.int .i64 L.a.taken, .slice (some ⟨W1.heap.size, 0, none⟩) 1 1]) (t := 167) (fr := (0, 0)) (heap_alloc_new2 W1 _ _)) (by simp [Value.oneCell']) hfit1 hfit2 (W1.heap.size + 1 + 1) (by simp) ?_; intro na nc w1 hown1 hu1; have k0 := hu1.cell ((unhide HC' _ _).cell 0) (fun h => by rw [hb2] at h; simp at h); have e0 := hu1.frozen (by simp; omega) (fun h => by rw [hb2] at h; simp at h) ((unhide HC' _ _).frozen 0)))
    all_goals
      go_wp2
      go_meet
      case rel => exact unhide FIN _ _ _ hown1 hu1
  case rest =>
    obtain ⟨own1, hL1, hU1⟩ := hcut
    clear hL0 hfs hro hc a2 a3 a4 b1 b2 b3 b4 h0 h2 hf0
    have HM : Hid (L.a.make o window = ({ L.a with rows := L.a.rows ++ [(⟨L.a.taken, [o]⟩ : RMsg)] } : REnd).sendN (L.a.sent + 1) (({ L.a with rows := L.a.rows ++ [(⟨L.a.taken, [o]⟩ : RMsg)] } : REnd).may window - L.a.sent)) := rfl
    have hmay : ({ L.a with rows := L.a.rows ++ [(⟨L.a.taken, [o]⟩ : RMsg)] } : REnd).may window = min (L.a.known + window) (L.a.rows.length + 1) := by simp [REnd.may]
    have hsl := hok.sent
    have c6 : wc.cell? ⟨b, 6, none⟩ = some (.int .i64 L.a.sent) := hL1.cells.2.2.2.2.1
    have hle : L.a.sent ≤ ({ L.a with rows := L.a.rows ++ [(⟨L.a.taken, [o]⟩ : RMsg)] } : REnd).may window := by rw [hmay]; exact hs
    have hle2 : ({ L.a with rows := L.a.rows ++ [(⟨L.a.taken, [o]⟩ : RMsg)] } : REnd).may window ≤ L.a.rows.length + 1 := by rw [hmay]; exact Nat.min_le_right _ _
    have hrl2 : ({ L.a with rows := L.a.rows ++ [(⟨L.a.taken, [o]⟩ : RMsg)] } : REnd).rows.length = L.a.rows.length + 1 := by simp
    clear hmay
    have hms : ∀ w, LineAt own1 rid c w b { L with a := { L.a with rows := L.a.rows ++ [(⟨L.a.taken, [o]⟩ : RMsg)] } } → Calls Try.prog 94 #[.pointer (some ⟨b, 0, none⟩), .int .i64 0, .int .i64 window] w fun e w' => e = .returned (.int .i64 (({ L.a with rows := L.a.rows ++ [(⟨L.a.taken, [o]⟩ : RMsg)] } : REnd).may window : Nat)) ∧ w' = w :=
      fun w hw' => may_0 own1 rid c b _ window w hw' hok hw
    have HMS := hide hms
    clear hms
    have hse : ∀ (a t : Int) w, a = ((L.a.sent + 1 : Nat) : Int) → t = ((({ L.a with rows := L.a.rows ++ [(⟨L.a.taken, [o]⟩ : RMsg)] } : REnd).may window : Nat) : Int) → LineAt own1 rid c w b { L with a := { L.a with rows := L.a.rows ++ [(⟨L.a.taken, [o]⟩ : RMsg)] } } →
        Calls Try.prog 93 #[.pointer (some ⟨b, 0, none⟩), .int .i64 0, .int .i64 a, .int .i64 t] w fun e w' => e = .returned (.tuple #[]) ∧ ∃ own', LineAt own' rid c w' b { L with a := L.a.make o window } ∧ Upd own1 own' (inLine rid c) w w' := by
      intro a t w ha ht hw'
      rw [HM.out]
      obtain rfl : t = ((L.a.sent + 1 : Nat) : Int) + ((({ L.a with rows := L.a.rows ++ [(⟨L.a.taken, [o]⟩ : RMsg)] } : REnd).may window - L.a.sent : Nat) : Int) - 1 := by omega
      subst ha
      exact send_0 own1 rid c b _ (L.a.sent + 1) (({ L.a with rows := L.a.rows ++ [(⟨L.a.taken, [o]⟩ : RMsg)] } : REnd).may window - L.a.sent) w hw' hok (by omega) (by rw [hrl2]; omega)
    have HSE := hide hse
    clear hse hok HM
    generalize ({ L.a with rows := L.a.rows ++ [(⟨L.a.taken, [o]⟩ : RMsg)] } : REnd) = E' at *
    generalize E'.may window = mw at *
    have hwr : IntKind.i64.wrap ((L.a.sent : Int) + 1) = (L.a.sent : Int) + 1 := by rw [IntKind.wrap_i64]; omega
    go_wp2_with fail
    go_region_with (first
      | (go_at_call 94; refine (unhide HMS _ (by exact hL1)).mono ?_; rintro e w1 ⟨rfl, rfl⟩)
      | (go_at_call 93; refine (unhide HSE _ _ _ (by omega) rfl (by exact hL1)).mono ?_; rintro e w1 ⟨rfl, own2, hL2, hU2⟩))
    all_goals
      go_wp2
      go_end0
      exact ⟨rfl, own2, hL2, hU1.trans (((Upd.refl _ _ _).drew).trans hU2)⟩
end Go.Proofs.Ytemkgikncmhoaaa
