import Derived.Test.YtemkgikncmhoaaaM03
import Derived.Test.YtemkgikncmhoaaaM07
import Derived.Deep.DeepCutAuto
namespace Go.Proofs.Ytemkgikncmhoaaa
open Go.RowKit
attribute [local go_sem ↓] Go.wp_at_zero Go.wp_at_succ

theorem Try.info167 : (Try.prog.info? 167).map (fun i => (i.zero, i.size, i.bytes)) = some (some (.agg #[.int .i64 0, .slice none 0 0]), 2, 32) := by kernel_rfl

theorem RowsAt.push {own own' : Nat → Tag} {may : Tag → Prop} {rid c s : Nat} {w w' : World} {r' : Value} {ms : List RMsg} {fs : List Value} {ctx : Nat} {o : ROp} {f : Value} (hl : fs.length = ms.length)
  (hf : ∀ i m f, ms[i]? = some m → fs[i]? = some f → OwnsT own (rid, c, 20 + 2 * i + s) w 149 4 f m.forms.length (m.forms.flatMap ROp.cells)) (hu : Upd own own' may w w') (hm : ∀ i, ¬ may (rid, c, 20 + 2 * i + s))
  (ho : OwnsT own' (rid, c, 1 + s) w' 167 2 r' (ms.length + 1) ((List.zipWith (fun m f => [Value.int .i64 (m.ctx : Int), f]) ms fs).flatten ++ [.int .i64 ctx, f]))
  (hn : OwnsT own' (rid, c, 20 + 2 * ms.length + s) w' 149 4 f 1 o.cells) : RowsAt own' rid c s w' r' (ms ++ [⟨ctx, [o]⟩]) := by
 refine ⟨fs ++ [f], by simp [hl], ?_, fun i m f' hi hi' => ?_⟩
 ·rw [List.zipWith_append hl.symm]
  simpa using ho
 ·by_cases hlt : i < ms.length
  ·rw [List.getElem?_append_left hlt] at hi
   rw [List.getElem?_append_left (by omega)] at hi'
   exact (hf i m f' hi hi').upd hu (hm i)
  ·have hi2 : i = ms.length := by
    have := (List.getElem?_eq_some_iff.1 hi).1
    simp at this; omega
   subst hi2
   simp at hi
   rw [← hl] at hi'
   simp at hi'
   subst hi hi'
   simpa [ROp.cells] using hn

theorem heap_alloc_new2 (w : World) (o o' : Obj) : ((w.alloc o).alloc o').drew.heap[w.heap.size + 1]? = some o' := by
 have h := heap_alloc_new (w.alloc o) o'
 rw [World.size_alloc] at h
 exact h

set_option maxRecDepth 100000 in
set_option maxHeartbeats 1600000 in
theorem make_0 (own : Nat → Tag) (rid c b : Nat) (L : RLine) (o : ROp) (window : Nat) (w : World) (h : LineAt own rid c w b L) (hok : ({ L.a with rows := L.a.rows ++ [(⟨L.a.taken, [o]⟩ : RMsg)] } : REnd).Ok) (hw : window ≤ 4)
  (hs : L.a.sent ≤ min (L.a.known + window) (L.a.rows.length + 1)) :
  Calls Try.prog 98 #[.pointer (some ⟨b, 0, none⟩), .int .i64 0, .agg #[.int .i64 o.client, .int .i64 o.verb, .int .i64 o.place, .int .u8 o.letter], .int .i64 window] w fun e w' => e = .returned (.tuple #[]) ∧
   ∃ own', LineAt own' rid c w' b { L with a := L.a.make o window } ∧ Upd own own' (inLine rid c) w w' := by
 obtain ⟨i1, hi, hz0, hz1, hz2⟩ := info_parts Try.info167
 have hb0 := h.lt
 have hrl := hok.rows
 simp only [List.length_append, List.length_cons, List.length_nil] at hrl
 have hL0 := h
 obtain ⟨r0, r1, k0, k1, o0, o1, s0, s1, hc, ⟨⟨fs, hfl, hro, hfs⟩, a2, a3, a4⟩, ⟨b1, b2, b3, b4⟩⟩ := h
 obtain ⟨ra, rc, rfl, _, _⟩ := hro.shape
 have h0 : w.cell? ⟨b, 0, none⟩ = some (.slice ra L.a.rows.length rc) := by rw [hc.cell]; rfl
 have h2 : w.cell? ⟨b, 2, none⟩ = some (.int .i64 L.a.taken) := by rw [hc.cell]; rfl
 have hf0 := hc.frozen 0
 have hblt := hc.lt
 have hb1 := hc.2
 go_enter Try.func98, Try.ntmps98
 go_wp2_with fail
 go_cut [] (fun wc => ∃ own', LineAt own' rid c wc b { L with a := { L.a with rows := L.a.rows ++ [(⟨L.a.taken, [o]⟩ : RMsg)] } } ∧ Upd own own' (inLine rid c) w wc)
 case first =>
  have U0 : Upd own own (inLine rid c) w (w.alloc (Obj.cells #[Value.int IntKind.i64 o.client, Value.int IntKind.i64 o.verb, Value.int IntKind.i64 o.place, Value.int IntKind.u8 o.letter] 149)) := (Upd.refl own _ w).alloc _
  have V0 : Upd own own (fun _ => False) w (w.alloc (Obj.cells #[Value.int IntKind.i64 o.client, Value.int IntKind.i64 o.verb, Value.int IntKind.i64 o.place, Value.int IntKind.u8 o.letter] 149)) := (Upd.refl own _ w).alloc _
  have q : ∀ k, (w.alloc (Obj.cells #[Value.int IntKind.i64 o.client, Value.int IntKind.i64 o.verb, Value.int IntKind.i64 o.place, Value.int IntKind.u8 o.letter] 149)).cell? ⟨w.heap.size, k, none⟩ = #[Value.int IntKind.i64 o.client, Value.int IntKind.i64 o.verb, Value.int IntKind.i64 o.place, Value.int IntKind.u8 o.letter][k]? := fun k => World.cell?_alloc_new _ _ _ _
  have q0 := q 0
  have q1 := q 1
  have q2 := q 2
  have q3 := q 3
  simp only [List.getElem?_toArray, List.getElem?_cons_zero, List.getElem?_cons_succ] at q0 q1 q2 q3
  have hsz1 : (w.alloc (Obj.cells #[Value.int IntKind.i64 o.client, Value.int IntKind.i64 o.verb, Value.int IntKind.i64 o.place, Value.int IntKind.u8 o.letter] 149)).heap.size > w.heap.size := by simp
  have hL1 := hL0.upd V0 (fun _ h => h)
  have hc1 := hc.upd V0 (fun h => h)
  have hro1 := hro.upd V0 (fun h => h)
  have HF : Hid (o.cells = [Value.int IntKind.i64 o.client, Value.int IntKind.i64 o.verb, Value.int IntKind.i64 o.place, Value.int IntKind.u8 o.letter]) := rfl
  clear h0 h2 hf0 q
  generalize w.alloc (Obj.cells #[Value.int IntKind.i64 o.client, Value.int IntKind.i64 o.verb, Value.int IntKind.i64 o.place, Value.int IntKind.u8 o.letter] 149) = W1 at *
  generalize o.client = cl at *
  generalize o.verb = vb at *
  generalize o.place = pl at *
  generalize o.letter = lt at *
  generalize w.heap.size = N at *
  have h0 : W1.cell? ⟨b, 0, none⟩ = some (.slice ra L.a.rows.length rc) := by rw [hc1.cell]; rfl
  have h2 : W1.cell? ⟨b, 2, none⟩ = some (.int .i64 L.a.taken) := by rw [hc1.cell]; rfl
  have n1 : ¬ (b = W1.heap.size) := by omega
  have n2 : ¬ (b = W1.heap.size + 1) := by omega
  have n3 : ¬ (N = W1.heap.size) := by omega
  have n4 : ¬ (N = W1.heap.size + 1) := by omega
  have h0a : ∀ o, (W1.alloc o).cell? ⟨b, 0, none⟩ = some (.slice ra L.a.rows.length rc) := fun o => by rw [(hc1.alloc o).cell]; rfl
  have h2a : ∀ o, (W1.alloc o).cell? ⟨b, 2, none⟩ = some (.int .i64 L.a.taken) := fun o => by rw [(hc1.alloc o).cell]; rfl
  have h0b : ∀ o o', ((W1.alloc o).alloc o').cell? ⟨b, 0, none⟩ = some (.slice ra L.a.rows.length rc) := fun o o' => by rw [((hc1.alloc o).alloc o').cell]; rfl
  have X : ∀ F G, Upd own (retag own W1.heap.size (rid, c, 20 + 2 * L.a.rows.length + 0)) (fun _ => False) W1 (((W1.alloc F).alloc G).drew) := fun F G => Upd.retag (((Upd.refl own (fun _ => False) W1).alloc F).alloc G).drew W1.heap.size _ (Nat.le_refl _)
  have HR := fun F G => hro1.upd (X F G) (fun h => h)
  have HC := fun F G => hc1.upd (X F G) (fun h => h)
  have HR' := hide HR
  have HC' := hide HC
  have HX := hide X
  clear HR HC
  have hb2 : (retag own W1.heap.size (rid, c, 20 + 2 * L.a.rows.length + 0)) b = (rid, c, 0) := by rw [retag_lt (by omega)]; exact hb1
  have FIN : Hid (∀ na nc w1, OwnsT (retag (retag own W1.heap.size (rid, c, 20 + 2 * L.a.rows.length + 0)) (W1.heap.size + 1 + 1) (rid, c, 1 + 0)) (rid, c, 1 + 0) w1 167 2 (.slice na (L.a.rows.length + 1) nc) (L.a.rows.length + 1)
     ((List.zipWith (fun m f => [Value.int .i64 (m.ctx : Int), f]) L.a.rows fs).flatten ++ [.int .i64 L.a.taken, .slice (some ⟨W1.heap.size, 0, none⟩) 1 1]) →
    Upd (retag own W1.heap.size (rid, c, 20 + 2 * L.a.rows.length + 0)) (retag (retag own W1.heap.size (rid, c, 20 + 2 * L.a.rows.length + 0)) (W1.heap.size + 1 + 1) (rid, c, 1 + 0)) (fun x => x = (rid, c, 1 + 0)) ((W1.alloc (Obj.cells #[.int .i64 cl, .int .i64 vb, .int .i64 pl, .int .u8 lt] 149)).alloc (Obj.cells #[.int .i64 L.a.taken, .slice (some ⟨W1.heap.size, 0, none⟩) 1 1] 167)).drew w1 →
    ∃ own', LineAt own' rid c (w1.setCell ⟨b, 0, none⟩ (.slice na (L.a.rows.length + 1) nc)) b { L with a := { L.a with rows := L.a.rows ++ [(⟨L.a.taken, [o]⟩ : RMsg)] } } ∧ Upd own own' (inLine rid c) w (w1.setCell ⟨b, 0, none⟩ (.slice na (L.a.rows.length + 1) nc))) := by
   apply hide
   intro na nc w1 ho hu
   have V : Upd own (retag (retag own W1.heap.size (rid, c, 20 + 2 * L.a.rows.length + 0)) (W1.heap.size + 1 + 1) (rid, c, 1 + 0)) (fun x => x = (rid, c, 0) ∨ x = (rid, c, 1 + 0)) w (w1.setCell ⟨b, 0, none⟩ (.slice na (L.a.rows.length + 1) nc)) :=
    Upd.setCell (p := ⟨b, 0, none⟩) ((V0.mono (fun _ h => h.elim)).trans (((X _ _).mono (fun _ h => h.elim)).trans (hu.mono (fun _ h => .inr h)))) (.inl (by rw [retag_lt (show b < _ from by omega)]; exact hb2)) _
   refine ⟨_, ?_, V.mono (by rintro t (rfl | rfl) <;> exact ⟨rfl, rfl⟩)⟩
   have C := ((hc1.upd (X _ _) (fun h => h)).upd hu (by simp)).set 0 (.slice na (L.a.rows.length + 1) nc)
   have O := ho.other (p := ⟨b, 0, none⟩) (by rw [C.2]; simp) (.slice na (L.a.rows.length + 1) nc)
   have G : OwnsT (retag (retag own W1.heap.size (rid, c, 20 + 2 * L.a.rows.length + 0)) (W1.heap.size + 1 + 1) (rid, c, 1 + 0)) (rid, c, 20 + 2 * L.a.rows.length + 0) (w1.setCell ⟨b, 0, none⟩ (.slice na (L.a.rows.length + 1) nc)) 149 4 (.slice (some ⟨W1.heap.size, 0, none⟩) 1 1) 1 o.cells := by
    refine OwnsT.other (p := ⟨b, 0, none⟩) (OwnsT.upd (own := (retag own W1.heap.size (rid, c, 20 + 2 * L.a.rows.length + 0))) (w := ((W1.alloc (Obj.cells #[.int .i64 cl, .int .i64 vb, .int .i64 pl, .int .u8 lt] 149)).alloc (Obj.cells #[.int .i64 L.a.taken, .slice (some ⟨W1.heap.size, 0, none⟩) 1 1] 167)).drew) ?_ hu (by simp <;> omega)) (by rw [C.2]; simp <;> omega) _
    refine ⟨⟨by rw [HF.out]; rfl, .inr ⟨W1.heap.size, 1, #[.int .i64 cl, .int .i64 vb, .int .i64 pl, .int .u8 lt], rfl, Nat.zero_le _, ?_, Nat.le_refl _, by simp [maxLen], rfl, by rw [HF.out]; rfl⟩⟩, fun g hg => ?_⟩
    ·have := (Below.heap_alloc (W1.alloc (Obj.cells #[.int .i64 cl, .int .i64 vb, .int .i64 pl, .int .u8 lt] 149)) (Obj.cells #[.int .i64 L.a.taken, .slice (some ⟨W1.heap.size, 0, none⟩) 1 1] 167) W1.heap.size (by simp)).trans (heap_alloc_new W1 _)
     exact this
    ·simp [Value.ownBlock] at hg
     subst hg
     exact retag_ge (Nat.le_refl _)
   have XE : EndAt _ rid c 0 _ _ _ _ _ { L.a with rows := L.a.rows ++ [(⟨L.a.taken, [o]⟩ : RMsg)] } := ⟨RowsAt.push hfl hfs V (by intro i; simp <;> omega) O G, a2.upd V (by simp), a3.upd V (by simp), a4.upd V (by simp)⟩
   have YE : EndAt _ rid c 1 _ _ _ _ _ L.b := ⟨b1.upd V (by simp) (by intro i; simp <;> omega), b2.upd V (by simp), b3.upd V (by simp), b4.upd V (by simp)⟩
   exact ⟨_, _, _, _, _, _, _, _, C, XE, YE⟩
  clear X
  have hfit1 : L.a.rows.length + 1 ≤ maxLen := by simp [maxLen]; omega
  have hfit2 : (L.a.rows.length + 1) * 32 ≤ 140737488355328 := by omega
  go_region_law ((refine step_append_T _ (by rfl) _ _ _ (by rfl) 167 i1 _ 2 32 Try.underlying114 hi hz0 hz1 hz2 rfl (by omega) _ _ _ (retag own W1.heap.size (rid, c, 20 + 2 * L.a.rows.length + 0)) (rid, c, 1 + 0) (by rfl) (unhide HR' _ _) ⟨W1.heap.size + 1, 0, none⟩ 1 1 [.int .i64 L.a.taken, .slice (some ⟨W1.heap.size, 0, none⟩) 1 1] (by rfl) (by rfl) (World.news_of_block (cs := #[.int .i64 L.a.taken, .slice (some ⟨W1.heap.size, 0, none⟩) 1 1]) (t := 167) (fr := (0, 0)) (heap_alloc_new2 W1 _ _)) (by simp [Value.oneCell']) hfit1 hfit2 (W1.heap.size + 1 + 1) (by simp) ?_; intro na nc w1 hown1 hu1; have k0 := hu1.cell ((unhide HC' _ _).cell 0) (fun h => by rw [hb2] at h; simp at h); have e0 := hu1.frozen (by simp; omega) (fun h => by rw [hb2] at h; simp at h) ((unhide HC' _ _).frozen 0)))
  all_goals
   go_wp2
   go_meet
   case rel => exact unhide FIN _ _ _ hown1 hu1
 case rest =>
  obtain ⟨own1, hL1, hU1⟩ := hcut
  clear hL0 hfs hro hc a2 a3 a4 b1 b2 b3 b4 h0 h2 hf0
  have HM : Hid (L.a.make o window = ({ L.a with rows := L.a.rows ++ [(⟨L.a.taken, [o]⟩ : RMsg)] } : REnd).sendN (L.a.sent + 1) (({ L.a with rows := L.a.rows ++ [(⟨L.a.taken, [o]⟩ : RMsg)] } : REnd).may window - L.a.sent)) := rfl
  have hmay : ({ L.a with rows := L.a.rows ++ [(⟨L.a.taken, [o]⟩ : RMsg)] } : REnd).may window = min (L.a.known + window) (L.a.rows.length + 1) := by simp [REnd.may]
  have hsl := hok.sent
  have c6 : wc.cell? ⟨b, 6, none⟩ = some (.int .i64 L.a.sent) := hL1.cells.2.2.2.2.1
  have hle : L.a.sent ≤ ({ L.a with rows := L.a.rows ++ [(⟨L.a.taken, [o]⟩ : RMsg)] } : REnd).may window := by rw [hmay]; exact hs
  have hle2 : ({ L.a with rows := L.a.rows ++ [(⟨L.a.taken, [o]⟩ : RMsg)] } : REnd).may window ≤ L.a.rows.length + 1 := by rw [hmay]; exact Nat.min_le_right _ _
  have hrl2 : ({ L.a with rows := L.a.rows ++ [(⟨L.a.taken, [o]⟩ : RMsg)] } : REnd).rows.length = L.a.rows.length + 1 := by simp
  clear hmay
  have hms : ∀ w, LineAt own1 rid c w b { L with a := { L.a with rows := L.a.rows ++ [(⟨L.a.taken, [o]⟩ : RMsg)] } } → Calls Try.prog 94 #[.pointer (some ⟨b, 0, none⟩), .int .i64 0, .int .i64 window] w fun e w' => e = .returned (.int .i64 (({ L.a with rows := L.a.rows ++ [(⟨L.a.taken, [o]⟩ : RMsg)] } : REnd).may window : Nat)) ∧ w' = w :=
   fun w hw' => may_0 own1 rid c b _ window w hw' hok hw
  have HMS := hide hms
  clear hms
  have hse : ∀ (a t : Int) w, a = ((L.a.sent + 1 : Nat) : Int) → t = ((({ L.a with rows := L.a.rows ++ [(⟨L.a.taken, [o]⟩ : RMsg)] } : REnd).may window : Nat) : Int) → LineAt own1 rid c w b { L with a := { L.a with rows := L.a.rows ++ [(⟨L.a.taken, [o]⟩ : RMsg)] } } →
    Calls Try.prog 93 #[.pointer (some ⟨b, 0, none⟩), .int .i64 0, .int .i64 a, .int .i64 t] w fun e w' => e = .returned (.tuple #[]) ∧ ∃ own', LineAt own' rid c w' b { L with a := L.a.make o window } ∧ Upd own1 own' (inLine rid c) w w' := by
   intro a t w ha ht hw'
   rw [HM.out]
   obtain rfl : t = ((L.a.sent + 1 : Nat) : Int) + ((({ L.a with rows := L.a.rows ++ [(⟨L.a.taken, [o]⟩ : RMsg)] } : REnd).may window - L.a.sent : Nat) : Int) - 1 := by omega
   subst ha
   exact send_0 own1 rid c b _ (L.a.sent + 1) (({ L.a with rows := L.a.rows ++ [(⟨L.a.taken, [o]⟩ : RMsg)] } : REnd).may window - L.a.sent) w hw' hok (by omega) (by rw [hrl2]; omega)
  have HSE := hide hse
  clear hse hok HM
  generalize ({ L.a with rows := L.a.rows ++ [(⟨L.a.taken, [o]⟩ : RMsg)] } : REnd) = E' at *
  generalize E'.may window = mw at *
  have hwr : IntKind.i64.wrap ((L.a.sent : Int) + 1) = (L.a.sent : Int) + 1 := by rw [IntKind.wrap_i64]; omega
  go_wp2_with fail
  go_region_with (first
   | (go_at_call 94; refine (unhide HMS _ (by exact hL1)).mono ?_; rintro e w1 ⟨rfl, rfl⟩)
   | (go_at_call 93; refine (unhide HSE _ _ _ (by omega) rfl (by exact hL1)).mono ?_; rintro e w1 ⟨rfl, own2, hL2, hU2⟩))
  all_goals
   go_wp2
   go_end0
   exact ⟨rfl, own2, hL2, hU1.trans (((Upd.refl _ _ _).drew).trans hU2)⟩
set_option maxRecDepth 100000 in
set_option maxHeartbeats 1600000 in
theorem make_1 (own : Nat → Tag) (rid c b : Nat) (L : RLine) (o : ROp) (window : Nat) (w : World) (h : LineAt own rid c w b L) (hok : ({ L.b with rows := L.b.rows ++ [(⟨L.b.taken, [o]⟩ : RMsg)] } : REnd).Ok) (hw : window ≤ 4)
  (hs : L.b.sent ≤ min (L.b.known + window) (L.b.rows.length + 1)) :
  Calls Try.prog 98 #[.pointer (some ⟨b, 0, none⟩), .int .i64 1, .agg #[.int .i64 o.client, .int .i64 o.verb, .int .i64 o.place, .int .u8 o.letter], .int .i64 window] w fun e w' => e = .returned (.tuple #[]) ∧
   ∃ own', LineAt own' rid c w' b { L with b := L.b.make o window } ∧ Upd own own' (inLine rid c) w w' := by
 obtain ⟨i1, hi, hz0, hz1, hz2⟩ := info_parts Try.info167
 have hb0 := h.lt
 have hrl := hok.rows
 simp only [List.length_append, List.length_cons, List.length_nil] at hrl
 have hL0 := h
 obtain ⟨r0, r1, k0, k1, o0, o1, s0, s1, hc, ⟨b1, b2, b3, b4⟩, ⟨⟨fs, hfl, hro, hfs⟩, a2, a3, a4⟩⟩ := h
 obtain ⟨ra, rc, rfl, _, _⟩ := hro.shape
 have h0 : w.cell? ⟨b, 1, none⟩ = some (.slice ra L.b.rows.length rc) := by rw [hc.cell]; rfl
 have h2 : w.cell? ⟨b, 3, none⟩ = some (.int .i64 L.b.taken) := by rw [hc.cell]; rfl
 have hf0 := hc.frozen 1
 have hblt := hc.lt
 have hb1 := hc.2
 go_enter Try.func98, Try.ntmps98
 go_wp2_with fail
 go_cut [] (fun wc => ∃ own', LineAt own' rid c wc b { L with b := { L.b with rows := L.b.rows ++ [(⟨L.b.taken, [o]⟩ : RMsg)] } } ∧ Upd own own' (inLine rid c) w wc)
 case first =>
  have U0 : Upd own own (inLine rid c) w (w.alloc (Obj.cells #[Value.int IntKind.i64 o.client, Value.int IntKind.i64 o.verb, Value.int IntKind.i64 o.place, Value.int IntKind.u8 o.letter] 149)) := (Upd.refl own _ w).alloc _
  have V0 : Upd own own (fun _ => False) w (w.alloc (Obj.cells #[Value.int IntKind.i64 o.client, Value.int IntKind.i64 o.verb, Value.int IntKind.i64 o.place, Value.int IntKind.u8 o.letter] 149)) := (Upd.refl own _ w).alloc _
  have q : ∀ k, (w.alloc (Obj.cells #[Value.int IntKind.i64 o.client, Value.int IntKind.i64 o.verb, Value.int IntKind.i64 o.place, Value.int IntKind.u8 o.letter] 149)).cell? ⟨w.heap.size, k, none⟩ = #[Value.int IntKind.i64 o.client, Value.int IntKind.i64 o.verb, Value.int IntKind.i64 o.place, Value.int IntKind.u8 o.letter][k]? := fun k => World.cell?_alloc_new _ _ _ _
  have q0 := q 0
  have q1 := q 1
  have q2 := q 2
  have q3 := q 3
  simp only [List.getElem?_toArray, List.getElem?_cons_zero, List.getElem?_cons_succ] at q0 q1 q2 q3
  have hsz1 : (w.alloc (Obj.cells #[Value.int IntKind.i64 o.client, Value.int IntKind.i64 o.verb, Value.int IntKind.i64 o.place, Value.int IntKind.u8 o.letter] 149)).heap.size > w.heap.size := by simp
  have hL1 := hL0.upd V0 (fun _ h => h)
  have hc1 := hc.upd V0 (fun h => h)
  have hro1 := hro.upd V0 (fun h => h)
  have HF : Hid (o.cells = [Value.int IntKind.i64 o.client, Value.int IntKind.i64 o.verb, Value.int IntKind.i64 o.place, Value.int IntKind.u8 o.letter]) := rfl
  clear h0 h2 hf0 q
  generalize w.alloc (Obj.cells #[Value.int IntKind.i64 o.client, Value.int IntKind.i64 o.verb, Value.int IntKind.i64 o.place, Value.int IntKind.u8 o.letter] 149) = W1 at *
  generalize o.client = cl at *
  generalize o.verb = vb at *
  generalize o.place = pl at *
  generalize o.letter = lt at *
  generalize w.heap.size = N at *
  have h0 : W1.cell? ⟨b, 1, none⟩ = some (.slice ra L.b.rows.length rc) := by rw [hc1.cell]; rfl
  have h2 : W1.cell? ⟨b, 3, none⟩ = some (.int .i64 L.b.taken) := by rw [hc1.cell]; rfl
  have n1 : ¬ (b = W1.heap.size) := by omega
  have n2 : ¬ (b = W1.heap.size + 1) := by omega
  have n3 : ¬ (N = W1.heap.size) := by omega
  have n4 : ¬ (N = W1.heap.size + 1) := by omega
  have h0a : ∀ o, (W1.alloc o).cell? ⟨b, 1, none⟩ = some (.slice ra L.b.rows.length rc) := fun o => by rw [(hc1.alloc o).cell]; rfl
  have h2a : ∀ o, (W1.alloc o).cell? ⟨b, 3, none⟩ = some (.int .i64 L.b.taken) := fun o => by rw [(hc1.alloc o).cell]; rfl
  have h0b : ∀ o o', ((W1.alloc o).alloc o').cell? ⟨b, 1, none⟩ = some (.slice ra L.b.rows.length rc) := fun o o' => by rw [((hc1.alloc o).alloc o').cell]; rfl
  have X : ∀ F G, Upd own (retag own W1.heap.size (rid, c, 20 + 2 * L.b.rows.length + 1)) (fun _ => False) W1 (((W1.alloc F).alloc G).drew) := fun F G => Upd.retag (((Upd.refl own (fun _ => False) W1).alloc F).alloc G).drew W1.heap.size _ (Nat.le_refl _)
  have HR := fun F G => hro1.upd (X F G) (fun h => h)
  have HC := fun F G => hc1.upd (X F G) (fun h => h)
  have HR' := hide HR
  have HC' := hide HC
  have HX := hide X
  clear HR HC
  have hb2 : (retag own W1.heap.size (rid, c, 20 + 2 * L.b.rows.length + 1)) b = (rid, c, 0) := by rw [retag_lt (by omega)]; exact hb1
  have FIN : Hid (∀ na nc w1, OwnsT (retag (retag own W1.heap.size (rid, c, 20 + 2 * L.b.rows.length + 1)) (W1.heap.size + 1 + 1) (rid, c, 1 + 1)) (rid, c, 1 + 1) w1 167 2 (.slice na (L.b.rows.length + 1) nc) (L.b.rows.length + 1)
     ((List.zipWith (fun m f => [Value.int .i64 (m.ctx : Int), f]) L.b.rows fs).flatten ++ [.int .i64 L.b.taken, .slice (some ⟨W1.heap.size, 0, none⟩) 1 1]) →
    Upd (retag own W1.heap.size (rid, c, 20 + 2 * L.b.rows.length + 1)) (retag (retag own W1.heap.size (rid, c, 20 + 2 * L.b.rows.length + 1)) (W1.heap.size + 1 + 1) (rid, c, 1 + 1)) (fun x => x = (rid, c, 1 + 1)) ((W1.alloc (Obj.cells #[.int .i64 cl, .int .i64 vb, .int .i64 pl, .int .u8 lt] 149)).alloc (Obj.cells #[.int .i64 L.b.taken, .slice (some ⟨W1.heap.size, 0, none⟩) 1 1] 167)).drew w1 →
    ∃ own', LineAt own' rid c (w1.setCell ⟨b, 1, none⟩ (.slice na (L.b.rows.length + 1) nc)) b { L with b := { L.b with rows := L.b.rows ++ [(⟨L.b.taken, [o]⟩ : RMsg)] } } ∧ Upd own own' (inLine rid c) w (w1.setCell ⟨b, 1, none⟩ (.slice na (L.b.rows.length + 1) nc))) := by
   apply hide
   intro na nc w1 ho hu
   have V : Upd own (retag (retag own W1.heap.size (rid, c, 20 + 2 * L.b.rows.length + 1)) (W1.heap.size + 1 + 1) (rid, c, 1 + 1)) (fun x => x = (rid, c, 0) ∨ x = (rid, c, 1 + 1)) w (w1.setCell ⟨b, 1, none⟩ (.slice na (L.b.rows.length + 1) nc)) :=
    Upd.setCell (p := ⟨b, 1, none⟩) ((V0.mono (fun _ h => h.elim)).trans (((X _ _).mono (fun _ h => h.elim)).trans (hu.mono (fun _ h => .inr h)))) (.inl (by rw [retag_lt (show b < _ from by omega)]; exact hb2)) _
   refine ⟨_, ?_, V.mono (by rintro t (rfl | rfl) <;> exact ⟨rfl, rfl⟩)⟩
   have C := ((hc1.upd (X _ _) (fun h => h)).upd hu (by simp)).set 1 (.slice na (L.b.rows.length + 1) nc)
   have O := ho.other (p := ⟨b, 1, none⟩) (by rw [C.2]; simp) (.slice na (L.b.rows.length + 1) nc)
   have G : OwnsT (retag (retag own W1.heap.size (rid, c, 20 + 2 * L.b.rows.length + 1)) (W1.heap.size + 1 + 1) (rid, c, 1 + 1)) (rid, c, 20 + 2 * L.b.rows.length + 1) (w1.setCell ⟨b, 1, none⟩ (.slice na (L.b.rows.length + 1) nc)) 149 4 (.slice (some ⟨W1.heap.size, 0, none⟩) 1 1) 1 o.cells := by
    refine OwnsT.other (p := ⟨b, 1, none⟩) (OwnsT.upd (own := (retag own W1.heap.size (rid, c, 20 + 2 * L.b.rows.length + 1))) (w := ((W1.alloc (Obj.cells #[.int .i64 cl, .int .i64 vb, .int .i64 pl, .int .u8 lt] 149)).alloc (Obj.cells #[.int .i64 L.b.taken, .slice (some ⟨W1.heap.size, 0, none⟩) 1 1] 167)).drew) ?_ hu (by simp <;> omega)) (by rw [C.2]; simp <;> omega) _
    refine ⟨⟨by rw [HF.out]; rfl, .inr ⟨W1.heap.size, 1, #[.int .i64 cl, .int .i64 vb, .int .i64 pl, .int .u8 lt], rfl, Nat.zero_le _, ?_, Nat.le_refl _, by simp [maxLen], rfl, by rw [HF.out]; rfl⟩⟩, fun g hg => ?_⟩
    ·have := (Below.heap_alloc (W1.alloc (Obj.cells #[.int .i64 cl, .int .i64 vb, .int .i64 pl, .int .u8 lt] 149)) (Obj.cells #[.int .i64 L.b.taken, .slice (some ⟨W1.heap.size, 0, none⟩) 1 1] 167) W1.heap.size (by simp)).trans (heap_alloc_new W1 _)
     exact this
    ·simp [Value.ownBlock] at hg
     subst hg
     exact retag_ge (Nat.le_refl _)
   have XE : EndAt _ rid c 1 _ _ _ _ _ { L.b with rows := L.b.rows ++ [(⟨L.b.taken, [o]⟩ : RMsg)] } := ⟨RowsAt.push hfl hfs V (by intro i; simp <;> omega) O G, a2.upd V (by simp), a3.upd V (by simp), a4.upd V (by simp)⟩
   have YE : EndAt _ rid c 0 _ _ _ _ _ L.a := ⟨b1.upd V (by simp) (by intro i; simp <;> omega), b2.upd V (by simp), b3.upd V (by simp), b4.upd V (by simp)⟩
   exact ⟨_, _, _, _, _, _, _, _, C, YE, XE⟩
  clear X
  have hfit1 : L.b.rows.length + 1 ≤ maxLen := by simp [maxLen]; omega
  have hfit2 : (L.b.rows.length + 1) * 32 ≤ 140737488355328 := by omega
  go_region_law ((refine step_append_T _ (by rfl) _ _ _ (by rfl) 167 i1 _ 2 32 Try.underlying114 hi hz0 hz1 hz2 rfl (by omega) _ _ _ (retag own W1.heap.size (rid, c, 20 + 2 * L.b.rows.length + 1)) (rid, c, 1 + 1) (by rfl) (unhide HR' _ _) ⟨W1.heap.size + 1, 0, none⟩ 1 1 [.int .i64 L.b.taken, .slice (some ⟨W1.heap.size, 0, none⟩) 1 1] (by rfl) (by rfl) (World.news_of_block (cs := #[.int .i64 L.b.taken, .slice (some ⟨W1.heap.size, 0, none⟩) 1 1]) (t := 167) (fr := (0, 0)) (heap_alloc_new2 W1 _ _)) (by simp [Value.oneCell']) hfit1 hfit2 (W1.heap.size + 1 + 1) (by simp) ?_; intro na nc w1 hown1 hu1; have k0 := hu1.cell ((unhide HC' _ _).cell 1) (fun h => by rw [hb2] at h; simp at h); have e0 := hu1.frozen (by simp; omega) (fun h => by rw [hb2] at h; simp at h) ((unhide HC' _ _).frozen 1)))
  all_goals
   go_wp2
   go_meet
   case rel => exact unhide FIN _ _ _ hown1 hu1
 case rest =>
  obtain ⟨own1, hL1, hU1⟩ := hcut
  clear hL0 hfs hro hc a2 a3 a4 b1 b2 b3 b4 h0 h2 hf0
  have HM : Hid (L.b.make o window = ({ L.b with rows := L.b.rows ++ [(⟨L.b.taken, [o]⟩ : RMsg)] } : REnd).sendN (L.b.sent + 1) (({ L.b with rows := L.b.rows ++ [(⟨L.b.taken, [o]⟩ : RMsg)] } : REnd).may window - L.b.sent)) := rfl
  have hmay : ({ L.b with rows := L.b.rows ++ [(⟨L.b.taken, [o]⟩ : RMsg)] } : REnd).may window = min (L.b.known + window) (L.b.rows.length + 1) := by simp [REnd.may]
  have hsl := hok.sent
  have c6 : wc.cell? ⟨b, 7, none⟩ = some (.int .i64 L.b.sent) := hL1.cells.2.2.2.2.2.1
  have hle : L.b.sent ≤ ({ L.b with rows := L.b.rows ++ [(⟨L.b.taken, [o]⟩ : RMsg)] } : REnd).may window := by rw [hmay]; exact hs
  have hle2 : ({ L.b with rows := L.b.rows ++ [(⟨L.b.taken, [o]⟩ : RMsg)] } : REnd).may window ≤ L.b.rows.length + 1 := by rw [hmay]; exact Nat.min_le_right _ _
  have hrl2 : ({ L.b with rows := L.b.rows ++ [(⟨L.b.taken, [o]⟩ : RMsg)] } : REnd).rows.length = L.b.rows.length + 1 := by simp
  clear hmay
  have hms : ∀ w, LineAt own1 rid c w b { L with b := { L.b with rows := L.b.rows ++ [(⟨L.b.taken, [o]⟩ : RMsg)] } } → Calls Try.prog 94 #[.pointer (some ⟨b, 0, none⟩), .int .i64 1, .int .i64 window] w fun e w' => e = .returned (.int .i64 (({ L.b with rows := L.b.rows ++ [(⟨L.b.taken, [o]⟩ : RMsg)] } : REnd).may window : Nat)) ∧ w' = w :=
   fun w hw' => may_1 own1 rid c b _ window w hw' hok hw
  have HMS := hide hms
  clear hms
  have hse : ∀ (a t : Int) w, a = ((L.b.sent + 1 : Nat) : Int) → t = ((({ L.b with rows := L.b.rows ++ [(⟨L.b.taken, [o]⟩ : RMsg)] } : REnd).may window : Nat) : Int) → LineAt own1 rid c w b { L with b := { L.b with rows := L.b.rows ++ [(⟨L.b.taken, [o]⟩ : RMsg)] } } →
    Calls Try.prog 93 #[.pointer (some ⟨b, 0, none⟩), .int .i64 1, .int .i64 a, .int .i64 t] w fun e w' => e = .returned (.tuple #[]) ∧ ∃ own', LineAt own' rid c w' b { L with b := L.b.make o window } ∧ Upd own1 own' (inLine rid c) w w' := by
   intro a t w ha ht hw'
   rw [HM.out]
   obtain rfl : t = ((L.b.sent + 1 : Nat) : Int) + ((({ L.b with rows := L.b.rows ++ [(⟨L.b.taken, [o]⟩ : RMsg)] } : REnd).may window - L.b.sent : Nat) : Int) - 1 := by omega
   subst ha
   exact send_1 own1 rid c b _ (L.b.sent + 1) (({ L.b with rows := L.b.rows ++ [(⟨L.b.taken, [o]⟩ : RMsg)] } : REnd).may window - L.b.sent) w hw' hok (by omega) (by rw [hrl2]; omega)
  have HSE := hide hse
  clear hse hok HM
  generalize ({ L.b with rows := L.b.rows ++ [(⟨L.b.taken, [o]⟩ : RMsg)] } : REnd) = E' at *
  generalize E'.may window = mw at *
  have hwr : IntKind.i64.wrap ((L.b.sent : Int) + 1) = (L.b.sent : Int) + 1 := by rw [IntKind.wrap_i64]; omega
  go_wp2_with fail
  go_region_with (first
   | (go_at_call 94; refine (unhide HMS _ (by exact hL1)).mono ?_; rintro e w1 ⟨rfl, rfl⟩)
   | (go_at_call 93; refine (unhide HSE _ _ _ (by omega) rfl (by exact hL1)).mono ?_; rintro e w1 ⟨rfl, own2, hL2, hU2⟩))
  all_goals
   go_wp2
   go_end0
   exact ⟨rfl, own2, hL2, hU1.trans (((Upd.refl _ _ _).drew).trans hU2)⟩
end Go.Proofs.Ytemkgikncmhoaaa

namespace Go.Proofs.Ytemkgikncmhoaaa
open Go.RowKit
attribute [local go_sem ↓] Go.wp_at_zero Go.wp_at_succ

theorem bytes_put (t : List UInt8) (p : Nat) (x : UInt8) (_hp : p ≤ t.length) : (⟨t.toArray⟩ : ByteArray).extract 0 p ++ ⟨#[x]⟩ ++ (⟨t.toArray⟩ : ByteArray).extract p t.length = ⟨(t.take p ++ [x] ++ t.drop p).toArray⟩ := by
 apply ByteArray.ext
 apply Array.ext'
 simp [List.take_of_length_le]
theorem bytes_cut (t : List UInt8) (p : Nat) (_hp : p < t.length) : (⟨t.toArray⟩ : ByteArray).extract 0 p ++ (⟨t.toArray⟩ : ByteArray).extract (p + 1) t.length = ⟨(t.take p ++ t.drop (p + 1)).toArray⟩ := by
 apply ByteArray.ext
 apply Array.ext'
 simp [List.take_of_length_le]

set_option maxRecDepth 100000 in
set_option maxHeartbeats 800000 in
theorem do_put (t : List UInt8) (cl : Int) (p l : Nat) (w : World) (ht : t.length ≤ 1000) (hp : p ≤ t.length) (_hl : l ≤ 255) :
  Calls Try.prog 97 #[.string ⟨t.toArray⟩, .agg #[.int .i64 cl, .int .i64 1, .int .i64 p, .int .u8 l]] w fun e w' => e = .returned (.string ⟨(t.take p ++ [UInt8.ofNat l] ++ t.drop p).toArray⟩) ∧ Below w.heap.size w w' := by
 have hp0 : (0 : Int) ≤ (p : Int) := by omega
 have hp1 : (p : Int) ≤ (t.length : Int) := by omega
 go_enter Try.func97, Try.ntmps97
 go_wp2_with fail
 have U0 : Below w.heap.size w (w.alloc (Obj.cells #[Value.int IntKind.i64 cl, Value.int IntKind.i64 1, Value.int IntKind.i64 p, Value.int IntKind.u8 l] 149)) := (Below.refl _ _).alloc (Nat.le_refl _) _
 have q2 : (w.alloc (Obj.cells #[Value.int IntKind.i64 cl, Value.int IntKind.i64 1, Value.int IntKind.i64 p, Value.int IntKind.u8 l] 149)).cell? ⟨w.heap.size, 2, none⟩ = some (.int .i64 p) := World.cell?_alloc_new _ _ _ _
 have q3 : (w.alloc (Obj.cells #[Value.int IntKind.i64 cl, Value.int IntKind.i64 1, Value.int IntKind.i64 p, Value.int IntKind.u8 l] 149)).cell? ⟨w.heap.size, 3, none⟩ = some (.int .u8 l) := World.cell?_alloc_new _ _ _ _
 have hsz1 : (w.alloc (Obj.cells #[Value.int IntKind.i64 cl, Value.int IntKind.i64 1, Value.int IntKind.i64 p, Value.int IntKind.u8 l] 149)).heap.size > w.heap.size := by simp
 generalize w.alloc (Obj.cells #[Value.int IntKind.i64 cl, Value.int IntKind.i64 1, Value.int IntKind.i64 p, Value.int IntKind.u8 l] 149) = W1 at *
 have U1 : Hid (∀ o, Below w.heap.size w ((W1.alloc o).drew)) := hide fun o => (U0.alloc (by omega) o).drew
 have q2' : ∀ o, (W1.alloc o).cell? ⟨w.heap.size, 2, none⟩ = some (.int .i64 p) := fun o => by rw [World.cell?_alloc_lt _ _ _ hsz1]; exact q2
 have q3' : ∀ o, (W1.alloc o).cell? ⟨w.heap.size, 3, none⟩ = some (.int .u8 l) := fun o => by rw [World.cell?_alloc_lt _ _ _ hsz1]; exact q3
 clear U0
 have hcv : (convert 89 9 (.slice (some ⟨W1.heap.size, 0, none⟩) 1 1)).run Try.prog (W1.alloc (Obj.cells #[Value.int IntKind.u8 l] 5)).drew = .ok (.string ⟨#[UInt8.ofNat l]⟩) (W1.alloc (Obj.cells #[Value.int IntKind.u8 l] 5)).drew :=
  run_string_own _ 0 _ 1 [(l : Int)] ⟨rfl, .inr ⟨W1.heap.size, 1, #[Value.int IntKind.u8 l], rfl, Nat.zero_le _, heap_alloc_new W1 _, Nat.le_refl _, by simp [maxLen], rfl, rfl⟩⟩
 go_region
 all_goals go_wp2
 all_goals go_ret
 all_goals refine ⟨?_, unhide U1 _⟩
 all_goals (rw [bytes_put t p _ hp]; rfl)

set_option maxRecDepth 100000 in
set_option maxHeartbeats 800000 in
theorem do_cut (t : List UInt8) (cl : Int) (p : Nat) (l : Int) (w : World) (ht : t.length ≤ 1000) (hp : p < t.length) :
  Calls Try.prog 97 #[.string ⟨t.toArray⟩, .agg #[.int .i64 cl, .int .i64 2, .int .i64 p, .int .u8 l]] w fun e w' => e = .returned (.string ⟨(t.take p ++ t.drop (p + 1)).toArray⟩) ∧ Below w.heap.size w w' := by
 have hp0 : (0 : Int) ≤ (p : Int) := by omega
 have hp1 : (p : Int) ≤ (t.length : Int) := by omega
 have hp2 : (p : Int) + 1 ≤ (t.length : Int) := by omega
 have hwp : IntKind.i64.wrap ((p : Int) + 1) = (p : Int) + 1 := by rw [IntKind.wrap_i64]; omega
 go_enter Try.func97, Try.ntmps97
 go_wp2_with fail
 have U0 : Below w.heap.size w (w.alloc (Obj.cells #[Value.int IntKind.i64 cl, Value.int IntKind.i64 2, Value.int IntKind.i64 p, Value.int IntKind.u8 l] 149)) := (Below.refl _ _).alloc (Nat.le_refl _) _
 have q2 : (w.alloc (Obj.cells #[Value.int IntKind.i64 cl, Value.int IntKind.i64 2, Value.int IntKind.i64 p, Value.int IntKind.u8 l] 149)).cell? ⟨w.heap.size, 2, none⟩ = some (.int .i64 p) := World.cell?_alloc_new _ _ _ _
 generalize w.alloc (Obj.cells #[Value.int IntKind.i64 cl, Value.int IntKind.i64 2, Value.int IntKind.i64 p, Value.int IntKind.u8 l] 149) = W1 at *
 have U1 := hide U0
 clear U0
 go_region
 all_goals go_wp2
 all_goals go_ret
 all_goals refine ⟨?_, (unhide U1).drew⟩
 all_goals (rw [bytes_cut t p hp]; rfl)
end Go.Proofs.Ytemkgikncmhoaaa

namespace Go.Proofs.Ytemkgikncmhoaaa
open Go.RowKit
attribute [local go_sem ↓] Go.wp_at_zero Go.wp_at_succ

set_option maxRecDepth 100000 in
set_option maxHeartbeats 400000 in
theorem there_yes (own : Nat → Tag) (rid b : Nat) (R : RRoom) (i : Nat) (w : World) (h : RoomY own rid w b R) (hi : i < R.texts.length) :
  Calls Try.prog 65 #[.pointer (some ⟨b, 0, none⟩), .int .i64 i] w fun e w' => e = .returned (.bool true) ∧ w' = w := by
 obtain ⟨tx, lx, bs, hc, ht, hl, h1, h2, h3, h4⟩ := h
 obtain ⟨ta, tc, rfl, _, _⟩ := ht.shape
 have c2 : w.cell? ⟨b, 2, none⟩ = some (.slice ta R.texts.length tc) := by rw [hc.cell]; rfl
 have hi1 : (i : Int) < (R.texts.length : Int) := by omega
 have hi2 : (0 : Int) ≤ (i : Int) := by omega
 clear hc ht hl h4
 go_enter Try.func65, Try.ntmps65
 go_wp2
 go_ret
 exact ⟨rfl, rfl⟩
set_option maxRecDepth 100000 in
set_option maxHeartbeats 400000 in
theorem there_no (own : Nat → Tag) (rid b : Nat) (R : RRoom) (c : Int) (w : World) (h : RoomY own rid w b R) (hi : ¬ (0 ≤ c ∧ c < R.texts.length)) :
  Calls Try.prog 65 #[.pointer (some ⟨b, 0, none⟩), .int .i64 c] w fun e w' => e = .returned (.bool false) ∧ w' = w := by
 obtain ⟨tx, lx, bs, hc, ht, hl, h1, h2, h3, h4⟩ := h
 obtain ⟨ta, tc, rfl, _, _⟩ := ht.shape
 have c2 : w.cell? ⟨b, 2, none⟩ = some (.slice ta R.texts.length tc) := by rw [hc.cell]; rfl
 clear hc ht hl h4
 by_cases h0 : 0 ≤ c
 ·have hi1 : ¬ c < (R.texts.length : Int) := fun h => hi ⟨h0, h⟩
  clear hi
  go_enter Try.func65, Try.ntmps65
  go_wp2
  go_ret
  exact ⟨rfl, rfl⟩
 ·clear hi
  go_enter Try.func65, Try.ntmps65
  go_wp2
  go_ret
  exact ⟨rfl, rfl⟩
theorem end_any (d : Bool) (w : World) : Calls Try.prog 66 #[.bool d] w fun e w' => e = .returned (.int .i64 (if d then 1 else 0)) ∧ w' = w := by
 cases d
 all_goals
  go_enter Try.func66, Try.ntmps66
  go_wp2
  go_ret
  exact ⟨rfl, rfl⟩

end Go.Proofs.Ytemkgikncmhoaaa

namespace Go.Proofs.Ytemkgikncmhoaaa
open Go.RowKit
attribute [local go_sem ↓] Go.wp_at_zero Go.wp_at_succ

def RRoom.put (R : RRoom) (i : Nat) (t : List UInt8) (L : RLine) : RRoom := { R with texts := R.texts.set i t, lines := R.lines.set i L }

/-- What a client's line and text look like in memory. -/
theorem RoomY.get {own : Nat → Tag} {rid b : Nat} {w : World} {R : RRoom} (h : RoomY own rid w b R) {i : Nat} {t : List UInt8} {L : RLine} (ht : R.texts[i]? = some t) (hL : R.lines[i]? = some L) :
  ∃ tg tc lg lc lb, w.cell? ⟨b, 0, none⟩ = some (.int .i64 R.window) ∧ w.cell? ⟨b, 2, none⟩ = some (.slice (some ⟨tg, 0, none⟩) R.texts.length tc) ∧ w.cell? ⟨b, 3, none⟩ = some (.slice (some ⟨lg, 0, none⟩) R.texts.length lc) ∧
   w.cell? ⟨tg, i, none⟩ = some (.string ⟨t.toArray⟩) ∧ w.cell? ⟨lg, i, none⟩ = some (.pointer (some ⟨lb, 0, none⟩)) ∧ w.frozen? ⟨tg, i, none⟩ = false ∧ LineAt own rid i w lb L ∧ own tg = (rid, 100, 1) ∧ own b = (rid, 100, 0) ∧ own lg = (rid, 100, 2) ∧ b < w.heap.size ∧ tg < w.heap.size ∧ lg < w.heap.size ∧ i < R.texts.length := by
 obtain ⟨tx, lx, bs, hc, htx, hlx, h1, h2, h3, h4⟩ := h
 have hi := (List.getElem?_eq_some_iff.1 ht).1
 obtain ⟨bb, hbb⟩ : ∃ bb, bs[i]? = some bb := ⟨bs[i]'(by omega), by simp [h1, hi]⟩
 obtain ⟨tg, tc, rfl, _, _, c1, f1, o1, l1⟩ := htx.get (i := i) (u := bstr t) (by simp [ht])
 obtain ⟨lg, lc, rfl, _, _, c2, f2, o2, l2⟩ := hlx.get (i := i) (u := ptr bb) (by simp [hbb])
 refine ⟨tg, tc, lg, lc, bb, by rw [hc.cell]; rfl, by rw [hc.cell]; rfl, by rw [hc.cell]; rfl, c1, c2, f1, h4 i L bb hL hbb, o1, hc.2, o2, hc.lt, l1, l2, hi⟩

/-- A text and a line of a room, turned. -/
theorem RoomY.put {own own' : Nat → Tag} {rid b : Nat} {w w' : World} {R : RRoom} (h : RoomY own rid w b R) {i tg lb : Nat} {tc : Nat} {t' : List UInt8} {L' : RLine} (hi : i < R.texts.length)
  (ht : w.cell? ⟨b, 2, none⟩ = some (.slice (some ⟨tg, 0, none⟩) R.texts.length tc)) (hlb : ∃ lg lc, w.cell? ⟨b, 3, none⟩ = some (.slice (some ⟨lg, 0, none⟩) R.texts.length lc) ∧ w.cell? ⟨lg, i, none⟩ = some (.pointer (some ⟨lb, 0, none⟩)))
  (hu : Upd own own' (inLine rid i) (w.setCell ⟨tg, i, none⟩ (.string ⟨t'.toArray⟩)) w') (hL : LineAt own' rid i w' lb L') (hi4 : i < 100) : RoomY own' rid w' b (R.put i t' L') := by
 obtain ⟨tx, lx, bs, hc, htx, hlx, h1, h2, h3, h4⟩ := h
 have e1 : tx = .slice (some ⟨tg, 0, none⟩) R.texts.length tc := by
  have := hc.cell 2; rw [ht] at this; simpa using this.symm
 subst e1
 have htg := htx.2 tg rfl
 have U1 : Upd own own (fun x => x = (rid, 100, 1)) w (w.setCell ⟨tg, i, none⟩ (.string ⟨t'.toArray⟩)) := Upd.setCell (p := ⟨tg, i, none⟩) (Upd.refl own _ w) htg _
 have n1 : ∀ k, ¬ inLine rid i (rid, 100, k) := fun k hk => by have := hk.2; simp at this; omega
 refine ⟨_, lx, bs, (hc.upd U1 (by simp)).upd hu (n1 _), ?_, ?_, by simpa [RRoom.put] using h1, by simpa [RRoom.put] using h2, by simpa [RRoom.put] using h3, fun j M bb hM hbb => ?_⟩
 ·have := (htx.set (i := i) (.string ⟨t'.toArray⟩)).upd hu (n1 _)
  simpa [RRoom.put, List.map_set, bstr] using this
 ·have := (hlx.upd U1 (by simp)).upd hu (n1 _)
  simpa [RRoom.put] using this
 ·obtain ⟨lg, lc, d1, d2⟩ := hlb
  have e2 : lx = .slice (some ⟨lg, 0, none⟩) R.texts.length lc := by
   have := hc.cell 3; rw [d1] at this; simpa using this.symm
  subst e2
  simp only [RRoom.put] at hM
  by_cases hji : j = i
  ·subst hji
   have hM' : M = L' := by
    rw [List.getElem?_set_self (by omega)] at hM; simpa using hM.symm
   subst hM'
   have := hlx.1.cells (g := lg) rfl j (ptr bb) (by simp [hbb])
   rw [Addr.add_lit, Nat.zero_add, d2] at this
   simp only [ptr, Option.some.injEq, Value.pointer.injEq, Addr.mk.injEq, and_true] at this
   subst this
   exact hL
  ·rw [List.getElem?_set_ne (fun h => hji h.symm)] at hM
   have hj4 := (List.getElem?_eq_some_iff.1 hbb).1
   exact ((h4 j M bb hM hbb).upd U1 (by simp; omega)).upd hu (fun k hk => hji hk.2)

set_option maxRecDepth 100000 in
set_option maxHeartbeats 400000 in
theorem edit_refused (own : Nat → Tag) (rid b : Nat) (R : RRoom) (i : Nat) (o : ROp) (letters : Int) (t : List UInt8) (L : RLine) (w : World) (h : RoomY own rid w b R) (ht : R.texts[i]? = some t) (hL : R.lines[i]? = some L) (hok : L.a.Ok) (hwin : R.window ≤ 4) (hkn : L.a.known ≤ L.a.rows.length)
  (hr : L.a.rows.length - L.a.known ≥ R.window ∨ L.a.rows.length ≥ 60 ∨ letters ≥ 60) :
  Calls Try.prog 81 #[.pointer (some ⟨b, 0, none⟩), .int .i64 i, .agg #[.int .i64 o.client, .int .i64 o.verb, .int .i64 o.place, .int .u8 o.letter], .int .i64 letters] w fun e w' =>
   e = .returned (.int .i64 (if L.a.rows.length - L.a.known ≥ R.window then 5 else 6)) ∧ Below w.heap.size w w' := by
 obtain ⟨tg, tc, lg, lc, lb, c0, c2, c3, c4, c5, f4, hLA, t1, t2, t3, l1, l2, l3, hi⟩ := h.get ht hL
 obtain ⟨r0, r1, k0, k1, o0, o1, s0, s1, hc, ⟨⟨fs, hfl, hro, hfs⟩, _⟩, _⟩ := hLA
 obtain ⟨ra, rc, rfl, _, _⟩ := hro.shape
 have d0 : w.cell? ⟨lb, 0, none⟩ = some (.slice ra L.a.rows.length rc) := by rw [hc.cell]; rfl
 have d4 : w.cell? ⟨lb, 4, none⟩ = some (.int .i64 L.a.known) := by rw [hc.cell]; rfl
 have l4 := hc.lt
 have hi1 : (i : Int) < (R.texts.length : Int) := by omega
 have hi2 : (0 : Int) ≤ (i : Int) := by omega
 have hrl := hok.rows
 have hkl := hok.known
 clear hc hro hfs h hok
 generalize L.a.rows.length = rl at *
 generalize L.a.known = kn at *
 generalize R.window = wd at *
 generalize R.texts.length = n at *
 have hb := (Below.refl w.heap.size w).alloc (Nat.le_refl _) (Obj.cells #[Value.int .i64 o.client, .int .i64 o.verb, .int .i64 o.place, .int .u8 o.letter] 149)
 have n1 : ¬ (b = w.heap.size) := by omega
 have n2 : ¬ (lg = w.heap.size) := by omega
 have n3 : ¬ (lb = w.heap.size) := by omega
 by_cases hw1 : rl - kn ≥ wd
 ·have hw2 : (wd : Int) ≤ (rl : Int) - (kn : Int) := by omega
  go_enter Try.func81, Try.ntmps81
  go_wp2_with fail
  go_region
  all_goals go_wp2
  all_goals go_ret
  all_goals exact ⟨by simp, hb.drew⟩
 ·have hw2 : ¬ ((wd : Int) ≤ (rl : Int) - (kn : Int)) := by omega
  by_cases hw3 : 60 ≤ rl
  ·have hw4 : (60 : Int) ≤ (rl : Int) := by omega
   go_enter Try.func81, Try.ntmps81
   go_wp2_with fail
   go_region
   all_goals go_wp2
   all_goals go_ret
   all_goals exact ⟨by simp, hb.drew⟩
  ·have hw4 : ¬ (60 : Int) ≤ (rl : Int) := by omega
   have hw5 : 60 ≤ letters := by omega
   go_enter Try.func81, Try.ntmps81
   go_wp2_with fail
   go_region
   all_goals go_wp2
   all_goals go_ret
   all_goals exact ⟨by simp, hb.drew⟩

set_option maxRecDepth 100000 in
set_option maxHeartbeats 1600000 in
theorem edit_ok (own : Nat → Tag) (rid b : Nat) (R : RRoom) (i : Nat) (o : ROp) (letters : Int) (t t' : List UInt8) (L : RLine) (w : World) (h : RoomY own rid w b R) (ht : R.texts[i]? = some t) (hL : R.lines[i]? = some L) (hwin : R.window ≤ 4) (hkn : L.a.known ≤ L.a.rows.length)
  (hr : L.a.rows.length - L.a.known < R.window) (hr2 : L.a.rows.length < 60) (hr3 : letters < 60)
  (hok : ({ L.a with rows := L.a.rows ++ [(⟨L.a.taken, [o]⟩ : RMsg)] } : REnd).Ok) (hs : L.a.sent ≤ min (L.a.known + R.window) (L.a.rows.length + 1))
  (hdo : ∀ w, Calls Try.prog 97 #[.string ⟨t.toArray⟩, .agg #[.int .i64 o.client, .int .i64 o.verb, .int .i64 o.place, .int .u8 o.letter]] w fun e w' => e = .returned (.string ⟨t'.toArray⟩) ∧ Below w.heap.size w w') :
  Calls Try.prog 81 #[.pointer (some ⟨b, 0, none⟩), .int .i64 i, .agg #[.int .i64 o.client, .int .i64 o.verb, .int .i64 o.place, .int .u8 o.letter], .int .i64 letters] w fun e w' =>
   e = .returned (.int .i64 0) ∧ ∃ own', RoomY own' rid w' b (R.put i t' { L with a := L.a.make o R.window }) ∧ Upd own own' (inRoom rid) w w' := by
 have hR0 := h
 have hn4 : R.texts.length ≤ 4 := by obtain ⟨_, _, _, _, _, _, _, _, h3, _⟩ := h; exact h3
 obtain ⟨tg, tc, lg, lc, lb, c0, c2, c3, c4, c5, f4, hLA, t1, t2, t3, l1, l2, l3, hi⟩ := h.get ht hL
 have hLA0 := hLA
 obtain ⟨r0, r1, k0, k1, o0, o1, s0, s1, hc, ⟨⟨fs, hfl, hro, hfs⟩, _⟩, _⟩ := hLA
 obtain ⟨ra, rc, rfl, _, _⟩ := hro.shape
 have d0 : w.cell? ⟨lb, 0, none⟩ = some (.slice ra L.a.rows.length rc) := by rw [hc.cell]; rfl
 have d4 : w.cell? ⟨lb, 4, none⟩ = some (.int .i64 L.a.known) := by rw [hc.cell]; rfl
 have l4 := hc.lt
 have tl := hc.2
 have hi1 : (i : Int) < (R.texts.length : Int) := by omega
 have hi2 : (0 : Int) ≤ (i : Int) := by omega
 have hrl := hok.rows
 have hkl := hok.known
 have hw2 : ¬ ((R.window : Int) ≤ (L.a.rows.length : Int) - (L.a.known : Int)) := by omega
 have hw4 : ¬ (60 : Int) ≤ (L.a.rows.length : Int) := by omega
 have hw5 : ¬ 60 ≤ letters := by omega
 clear hc hro hfs
 have HDO := hide hdo
 clear hdo
 have HMK : Hid (∀ own1 w, LineAt own1 rid i w lb L → Calls Try.prog 98 #[.pointer (some ⟨lb, 0, none⟩), .int .i64 0, .agg #[.int .i64 o.client, .int .i64 o.verb, .int .i64 o.place, .int .u8 o.letter], .int .i64 R.window] w fun e w' => e = .returned (.tuple #[]) ∧
   ∃ own', LineAt own' rid i w' lb { L with a := L.a.make o R.window } ∧ Upd own1 own' (inLine rid i) w w') := hide fun own1 w hw => make_0 own1 rid i lb L o R.window w hw hok hwin hs
 clear hok hs
 have n1 : ¬ (b = w.heap.size) := by omega
 have n2 : ¬ (lg = w.heap.size) := by omega
 have n3 : ¬ (lb = w.heap.size) := by omega
 have n4 : ¬ (tg = w.heap.size) := by omega
 go_enter Try.func81, Try.ntmps81
 go_wp2_with fail
 go_region
 go_wp2_with fail
 have V : Upd own (retag own w.heap.size (rid + 1, 0, 0)) (fun _ => False) w (w.alloc (Obj.cells #[Value.int IntKind.i64 o.client, Value.int IntKind.i64 o.verb, Value.int IntKind.i64 o.place, Value.int IntKind.u8 o.letter] 149)).drew := Upd.retag (((Upd.refl own (fun _ => False) w).alloc _).drew) _ _ (Nat.le_refl _)
 have q : ∀ k, (w.alloc (Obj.cells #[Value.int IntKind.i64 o.client, Value.int IntKind.i64 o.verb, Value.int IntKind.i64 o.place, Value.int IntKind.u8 o.letter] 149)).drew.cell? ⟨w.heap.size, k, none⟩ = #[Value.int IntKind.i64 o.client, Value.int IntKind.i64 o.verb, Value.int IntKind.i64 o.place, Value.int IntKind.u8 o.letter][k]? := fun k => World.cell?_alloc_new _ _ _ _
 have q0 := q 0
 have q1 := q 1
 have q2 := q 2
 have q3 := q 3
 simp only [List.getElem?_toArray, List.getElem?_cons_zero, List.getElem?_cons_succ] at q0 q1 q2 q3
 have c0' := V.cell c0 (fun h => h)
 have c2' := V.cell c2 (fun h => h)
 have c3' := V.cell c3 (fun h => h)
 have c4' := V.cell c4 (fun h => h)
 have c5' := V.cell c5 (fun h => h)
 have f4' := V.frozen l2 (fun h => h) f4
 have hR1 := hR0.upd V (fun _ _ h => h)
 have hLA1 := hLA0.upd V (fun _ h => h)
 have hsz1 : (w.alloc (Obj.cells #[Value.int IntKind.i64 o.client, Value.int IntKind.i64 o.verb, Value.int IntKind.i64 o.place, Value.int IntKind.u8 o.letter] 149)).drew.heap.size > w.heap.size := by simp
 have tN : retag own w.heap.size (rid + 1, 0, 0) w.heap.size = (rid + 1, 0, 0) := retag_ge (Nat.le_refl _)
 have tb : retag own w.heap.size (rid + 1, 0, 0) b = (rid, 100, 0) := by rw [retag_lt l1]; exact t2
 have tt : retag own w.heap.size (rid + 1, 0, 0) tg = (rid, 100, 1) := by rw [retag_lt l2]; exact t1
 clear q hR0 hLA0 c0 c2 c3 c4 c5 f4 n1 n2 n3 n4 d0 d4
 generalize retag own w.heap.size (rid + 1, 0, 0) = own1 at *
 generalize (w.alloc (Obj.cells #[Value.int IntKind.i64 o.client, Value.int IntKind.i64 o.verb, Value.int IntKind.i64 o.place, Value.int IntKind.u8 o.letter] 149)).drew = W1 at *
 have l1' : b < W1.heap.size := by omega
 have l2' : tg < W1.heap.size := by omega
 generalize w.heap.size = N at *
 go_cut [] (fun wc => ∃ w2, Below W1.heap.size W1 w2 ∧ wc = w2.setCell ⟨tg, i, none⟩ (.string ⟨t'.toArray⟩))
 case first =>
  go_region_with (first | (go_at_call 97; refine (unhide HDO _).mono ?_; rintro e w2 ⟨rfl, hb2⟩; have k2 := (hb2.cell (p := ⟨b, 2, none⟩) l1').trans c2'; have k4 := (hb2.cell (p := ⟨tg, i, none⟩) l2').trans c4'; have g4 := (hb2.frozen (p := ⟨tg, i, none⟩) l2').trans f4'))
  all_goals
   go_wp2
   go_meet
   case rel => exact ⟨w2, (Below.refl _ _).drew.trans hb2, rfl⟩
 case rest =>
  obtain ⟨w2, hb2, rfl⟩ := hcut
  have hR2 := hR1.upd (Upd.of_below own1 (fun _ => False) hb2) (fun _ _ h => h)
  have B2 := Upd.of_below own1 (fun _ => False) hb2
  have e2 := B2.cell c2' (fun h => h)
  have e3 := B2.cell c3' (fun h => h)
  have e5 := B2.cell c5' (fun h => h)
  have U2 : Upd own1 own1 (fun x => x = (rid, 100, 1)) W1 (w2.setCell ⟨tg, i, none⟩ (.string ⟨t'.toArray⟩)) := Upd.setCell (p := ⟨tg, i, none⟩) (Upd.of_below own1 _ hb2) tt _
  have z0 := U2.cell q0 (by simp [tN])
  have z1 := U2.cell q1 (by simp [tN])
  have z2 := U2.cell q2 (by simp [tN])
  have z3 := U2.cell q3 (by simp [tN])
  have z4 := U2.cell c0' (by simp [tb])
  have hLA3 := hLA1.upd U2 (by simp; omega)
  have FIN : Hid (∀ own2 w4, LineAt own2 rid i w4 lb { L with a := L.a.make o R.window } → Upd own1 own2 (inLine rid i) (w2.setCell ⟨tg, i, none⟩ (.string ⟨t'.toArray⟩)) w4 →
    ∃ own', RoomY own' rid w4 b (R.put i t' { L with a := L.a.make o R.window }) ∧ Upd own own' (inRoom rid) w w4) := by
   apply hide
   intro own2 w4 h1 h2
   refine ⟨own2, RoomY.put hR2 hi e2 ⟨lg, lc, e3, e5⟩ h2 h1 (by omega), ?_⟩
   exact ((V.mono (fun _ h => h.elim)).trans (U2.mono (fun t ht => by subst ht; rfl))).trans (h2.mono (fun t ht => ht.1))
  clear hR1 hR2 c0' c2' c3' c4' c5' f4' q0 q1 q2 q3 hLA1 V U2 B2 hb2 e2 e3 e5
  generalize w2.setCell ⟨tg, i, none⟩ (.string ⟨t'.toArray⟩) = W3 at *
  go_wp2_with fail
  go_region_with (first | (go_at_call 98; refine (unhide HMK own1 _ (by exact hLA3)).mono ?_; rintro e w4 ⟨rfl, own2, h1, h2⟩))
  all_goals
   go_wp2
   go_ret
   exact ⟨rfl, unhide FIN own2 w4 h1 ((Upd.refl _ _ _).drew.trans h2)⟩
end Go.Proofs.Ytemkgikncmhoaaa

