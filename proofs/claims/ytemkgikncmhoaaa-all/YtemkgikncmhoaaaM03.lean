import Derived.Test.YtemkgikncmhoaaaM02
import Derived.Deep.RegionHeld3
import Derived.Deep.AppendLies
import Derived.Deep.RegionLaw
import Derived.Deep.DrawnRows
import Derived.StillTactics
import Derived.Laws.Pointers
namespace Go.Proofs.Ytemkgikncmhoaaa
open Go.RowKit
attribute [local go_sem ↓] Go.wp_at_zero Go.wp_at_succ

theorem step_append_T {P : Program} (w : World) {ops : Array Oper} {o : Oper} {a : Act} {K : Act → World → Prop} {Q : Exit → Act → World → Prop} {E : Prop} (hgd : o.guard = none) (s x : Operand) (t : TypeId)
  (ho : o.op = .call { callee := .builtin .append, args := #[s, x], argTypes := #[t, t] })
  (e : TypeId) (i : TypeInfo) (z : Value) (size bytes : Nat) (ht : P.underlying t = some (.slice e)) (hi : P.info? e = some i) (hz : i.zero = some z)
  (hsize : i.size = size) (hby : i.bytes = bytes) (hzs : z.cells.size = size) (hsz : 0 < size)
  (v : Value) (n : Nat) (xs : List Value) (own : Nat → Tag) (tg : Tag) (hs : a.eval s = v) (hown : OwnsT own tg w e size v n xs)
  (ad : Addr) (m c : Nat) (news : List Value) (hx : a.eval x = .slice (some ad) m c) (hl : news.length = m * size) (hnews : ∀ j u, news[j]? = some u → w.cell? (ad.add j) = some u) (h1 : ∀ u ∈ news, u.oneCell' = true)
  (h63 : n + m ≤ maxLen) (hbytes : (n + m) * bytes ≤ 140737488355328) (H : Nat) (hH : w.heap.size = H)
  (h : ∀ a' c' w', OwnsT (retag own H tg) tg w' e size (.slice a' (n + m) c') (n + m) (xs ++ news) → Upd own (retag own H tg) (fun x => x = tg) w w' → K (a.put o.dst (.slice a' (n + m) c')) w') :
  if Region.wanted o (yielded ops a.tmps) = true then Oper.wp P o a w K Q else E := by
 subst hH
 have hw : Region.wanted o (yielded ops a.tmps) = true := by simp [Region.wanted, hgd]
 rw [if_pos hw]
 obtain ⟨v', w', hr, h2, h3⟩ := run_append_T (P := P) w t o.type e i z size bytes ht hi hz hsize hby hzs hsz v n xs own tg hown ad m c news hl hnews h1 h63 hbytes
 obtain ⟨a', c', rfl, _⟩ := h2.shape
 unfold Oper.wp execOp
 simp only [ho, resolve, invoke, builtin, Sem.run_bind, Sem.run_pure, Result.andThen_ok, List.map_toArray, List.map_cons, List.map_nil, hs, hx, hr]
 exact h a' c' w' h2 h3

theorem Try.info9 : (Try.prog.info? 9).map (fun i => (i.zero, i.size, i.bytes)) = some (some (.string ⟨#[]⟩), 1, 16) := by kernel_rfl
theorem Try.info4 : (Try.prog.info? 4).map (fun i => (i.zero, i.size, i.bytes)) = some (some (.bool false), 1, 1) := by kernel_rfl

set_option maxRecDepth 100000 in
set_option maxHeartbeats 800000 in
theorem fly_0_room (own : Nat → Tag) (rid c b : Nat) (L : RLine) (s : ByteArray) (w : World) (h : LineAt own rid c w b L) (hlt : L.a.out.length < 12) (hsp : L.a.spoilt.length < 13) :
  Calls Try.prog 102 #[.pointer (some ⟨b, 0, none⟩), .int .i64 0, .string s] w fun e w' => e = .returned (.tuple #[]) ∧ ∃ own', LineAt own' rid c w' b { L with a := L.a.fly s } ∧ Upd own own' (inLine rid c) w w' := by
 obtain ⟨r0, r1, k0, k1, o0, o1, s0, s1, hc, ⟨a1, a2, a3, a4⟩, ⟨b1, b2, b3, b4⟩⟩ := h
 obtain ⟨i1, hi, hz0, hz1, hz2⟩ := info_parts Try.info9
 obtain ⟨i2, hj, hy0, hy1, hy2⟩ := info_parts Try.info4
 obtain ⟨oa, oc, rfl, ocl, _⟩ := a3.shape
 obtain ⟨sa, sc, rfl, scl, _⟩ := a4.shape
 have hcell := hc.cell
 have hfz := hc.frozen
 have hl1 : ((L.a.out.length : Int) < 12) := by omega
 have h10 : w.cell? ⟨b, 10, none⟩ = some (.slice oa L.a.out.length oc) := by rw [hcell]; rfl
 have h12 : w.cell? ⟨b, 12, none⟩ = some (.slice sa L.a.spoilt.length sc) := by rw [hcell]; rfl
 have hf10 := hfz 10
 have hf12 := hfz 12
 have hblt := hc.lt
 have hne : ¬ (b = w.heap.size) := by omega
 have hb1 := hc.2
 have h10' : ((w.alloc (Obj.cells #[Value.string s] 9)).drew).cell? ⟨b, 10, none⟩ = some (.slice oa L.a.out.length oc) := (hc.alloc _).drew.cell 10
 have hf10' : ((w.alloc (Obj.cells #[Value.string s] 9)).drew).frozen? ⟨b, 10, none⟩ = false := (hc.alloc _).drew.frozen 10
 have hlt' : b < ((w.alloc (Obj.cells #[Value.string s] 9)).drew).heap.size := by simp; omega
 clear hcell hfz
 go_enter Try.func102, Try.ntmps102
 go_wp2_with fail
 go_region_law ((refine step_append_T _ (by rfl) _ _ _ (by rfl) 9 i1 _ 1 16 Try.underlying28 hi hz0 hz1 hz2 rfl (by omega) _ _ _ own (rid, c, 5) (by rfl) (a3.alloc _).drew ⟨w.heap.size, 0, none⟩ 1 1 [.string s] (by rfl) (by rfl) (World.news_of_block (cs := #[.string s]) (t := 9) (fr := (0, 0)) (heap_alloc_new w _)) (by simp [Value.oneCell']) (by simp [maxLen]; omega) (by omega) (w.heap.size + 1) (by simp) ?_; intro na nc w1 hown1 hu1; have k0 := hu1.cell h10' (by simp [hb1]); have e0 := hu1.frozen hlt' (by simp [hb1]) hf10'; clear h10 h12 hf10 hf12 h10' hf10' hlt'))
 all_goals
  go_wp2
  obtain ⟨C1, O1, U1⟩ := app_store (k := 10) hc hu1 (by simp) hown1
  have P1 := a4.upd U1 (by simp)
  clear hown1 hu1 k0 e0 a3
  have hsz := U1.size
  generalize retag own (w.heap.size + 1) (rid, c, 5) = own1 at *
  generalize w1.setCell ⟨b, 10, none⟩ (Value.slice na (L.a.out.length + 1) nc) = w2 at *
  clear w1
  have h12 : w2.cell? ⟨b, 12, none⟩ = some (.slice sa L.a.spoilt.length sc) := by rw [C1.cell]; rfl
  have h12' : ((w2.alloc (Obj.cells #[Value.bool false] 4)).drew).cell? ⟨b, 12, none⟩ = some (.slice sa L.a.spoilt.length sc) := (C1.alloc _).drew.cell 12
  have hf12 := C1.frozen 12
  have hf12' : ((w2.alloc (Obj.cells #[Value.bool false] 4)).drew).frozen? ⟨b, 12, none⟩ = false := (C1.alloc _).drew.frozen 12
  have hlt2 : b < ((w2.alloc (Obj.cells #[Value.bool false] 4)).drew).heap.size := by simp; omega
  have hb2 := C1.2
  go_region_law ((refine step_append_T _ (by rfl) _ _ _ (by rfl) 4 i2 _ 1 1 Try.underlying119 hj hy0 hy1 hy2 rfl (by omega) _ _ _ own1 (rid, c, 7) (by rfl) (P1.alloc _).drew ⟨w2.heap.size, 0, none⟩ 1 1 [.bool false] (by rfl) (by rfl) (World.news_of_block (cs := #[.bool false]) (t := 4) (fr := (0, 0)) (heap_alloc_new w2 _)) (by simp [Value.oneCell']) (by simp [maxLen]; omega) (by omega) (w2.heap.size + 1) (by simp) ?_; intro ma mc w3 hown3 hu3; have k0 := hu3.cell h12' (by simp [hb2]); have e0 := hu3.frozen hlt2 (by simp [hb2]) hf12'; clear h12 hf12 h12' hf12' hlt2))
  all_goals
   go_wp2
   go_end0
   refine ⟨rfl, ?_⟩
   obtain ⟨C2, P2, U2⟩ := app_store (k := 12) C1 hu3 (by simp) hown3
   have O2 := O1.upd U2 (by simp)
   have U := (U1.mono (may' := fun t => t = (rid, c, 5) ∨ t = (rid, c, 7) ∨ t = (rid, c, 0)) (fun t h => by rcases h with rfl | rfl <;> simp)).trans (U2.mono (fun t h => by rcases h with rfl | rfl <;> simp))
   refine ⟨_, ?_, U.mono (by rintro t (rfl | rfl | rfl) <;> exact ⟨rfl, rfl⟩)⟩
   rw [show L.a.fly s = { L.a with out := L.a.out ++ [s], spoilt := L.a.spoilt ++ [false] } from by simp [REnd.fly, hlt]]
   have X : EndAt _ rid c 0 _ _ _ _ _ { L.a with out := L.a.out ++ [s], spoilt := L.a.spoilt ++ [false] } := ⟨a1.upd U (by simp) (by simp; omega), a2.upd U (by simp), by simpa using O2, by simpa using P2⟩
   have Y : EndAt _ rid c 1 _ _ _ _ _ L.b := ⟨b1.upd U (by simp) (by simp; omega), b2.upd U (by simp), b3.upd U (by simp), b4.upd U (by simp)⟩
   exact ⟨r0, r1, _, _, _, _, _, _, C2, X, Y⟩

set_option maxRecDepth 100000 in
set_option maxHeartbeats 800000 in
theorem fly_0_full (own : Nat → Tag) (rid c b : Nat) (L : RLine) (s : ByteArray) (w : World) (h : LineAt own rid c w b L) (hlt : ¬ L.a.out.length < 12) :
  Calls Try.prog 102 #[.pointer (some ⟨b, 0, none⟩), .int .i64 0, .string s] w fun e w' => e = .returned (.tuple #[]) ∧ w' = w := by
 obtain ⟨r0, r1, k0, k1, o0, o1, s0, s1, hc, ⟨a1, a2, a3, a4⟩, ⟨b1, b2, b3, b4⟩⟩ := h
 obtain ⟨oa, oc, rfl, ocl, _⟩ := a3.shape
 have hl1 : ¬ ((L.a.out.length : Int) < 12) := by omega
 have h10 : w.cell? ⟨b, 10, none⟩ = some (.slice oa L.a.out.length oc) := by rw [hc.cell]; rfl
 go_enter Try.func102, Try.ntmps102
 go_wp2
 go_end0
 exact ⟨rfl, rfl⟩

theorem fly_0 (own : Nat → Tag) (rid c b : Nat) (L : RLine) (s : ByteArray) (w : World) (h : LineAt own rid c w b L) (hsp : L.a.spoilt.length < 13) :
  Calls Try.prog 102 #[.pointer (some ⟨b, 0, none⟩), .int .i64 0, .string s] w fun e w' => e = .returned (.tuple #[]) ∧ ∃ own', LineAt own' rid c w' b { L with a := L.a.fly s } ∧ Upd own own' (inLine rid c) w w' := by
 by_cases hlt : L.a.out.length < 12
 ·exact fly_0_room own rid c b L s w h hlt hsp
 ·refine (fly_0_full own rid c b L s w h hlt).mono ?_
  rintro e w' ⟨rfl, rfl⟩
  refine ⟨rfl, own, ?_, Upd.refl _ _ _⟩
  rw [show L.a.fly s = L.a from by simp [REnd.fly, hlt]]
  exact h
set_option maxRecDepth 100000 in
set_option maxHeartbeats 800000 in
theorem fly_1_room (own : Nat → Tag) (rid c b : Nat) (L : RLine) (s : ByteArray) (w : World) (h : LineAt own rid c w b L) (hlt : L.b.out.length < 12) (hsp : L.b.spoilt.length < 13) :
  Calls Try.prog 102 #[.pointer (some ⟨b, 0, none⟩), .int .i64 1, .string s] w fun e w' => e = .returned (.tuple #[]) ∧ ∃ own', LineAt own' rid c w' b { L with b := L.b.fly s } ∧ Upd own own' (inLine rid c) w w' := by
 obtain ⟨r0, r1, k0, k1, o0, o1, s0, s1, hc, ⟨b1, b2, b3, b4⟩, ⟨a1, a2, a3, a4⟩⟩ := h
 obtain ⟨i1, hi, hz0, hz1, hz2⟩ := info_parts Try.info9
 obtain ⟨i2, hj, hy0, hy1, hy2⟩ := info_parts Try.info4
 obtain ⟨oa, oc, rfl, ocl, _⟩ := a3.shape
 obtain ⟨sa, sc, rfl, scl, _⟩ := a4.shape
 have hcell := hc.cell
 have hfz := hc.frozen
 have hl1 : ((L.b.out.length : Int) < 12) := by omega
 have h10 : w.cell? ⟨b, 11, none⟩ = some (.slice oa L.b.out.length oc) := by rw [hcell]; rfl
 have h12 : w.cell? ⟨b, 13, none⟩ = some (.slice sa L.b.spoilt.length sc) := by rw [hcell]; rfl
 have hf10 := hfz 11
 have hf12 := hfz 13
 have hblt := hc.lt
 have hne : ¬ (b = w.heap.size) := by omega
 have hb1 := hc.2
 have h10' : ((w.alloc (Obj.cells #[Value.string s] 9)).drew).cell? ⟨b, 11, none⟩ = some (.slice oa L.b.out.length oc) := (hc.alloc _).drew.cell 11
 have hf10' : ((w.alloc (Obj.cells #[Value.string s] 9)).drew).frozen? ⟨b, 11, none⟩ = false := (hc.alloc _).drew.frozen 11
 have hlt' : b < ((w.alloc (Obj.cells #[Value.string s] 9)).drew).heap.size := by simp; omega
 clear hcell hfz
 go_enter Try.func102, Try.ntmps102
 go_wp2_with fail
 go_region_law ((refine step_append_T _ (by rfl) _ _ _ (by rfl) 9 i1 _ 1 16 Try.underlying28 hi hz0 hz1 hz2 rfl (by omega) _ _ _ own (rid, c, 6) (by rfl) (a3.alloc _).drew ⟨w.heap.size, 0, none⟩ 1 1 [.string s] (by rfl) (by rfl) (World.news_of_block (cs := #[.string s]) (t := 9) (fr := (0, 0)) (heap_alloc_new w _)) (by simp [Value.oneCell']) (by simp [maxLen]; omega) (by omega) (w.heap.size + 1) (by simp) ?_; intro na nc w1 hown1 hu1; have k0 := hu1.cell h10' (by simp [hb1]); have e0 := hu1.frozen hlt' (by simp [hb1]) hf10'; clear h10 h12 hf10 hf12 h10' hf10' hlt'))
 all_goals
  go_wp2
  obtain ⟨C1, O1, U1⟩ := app_store (k := 11) hc hu1 (by simp) hown1
  have P1 := a4.upd U1 (by simp)
  clear hown1 hu1 k0 e0 a3
  have hsz := U1.size
  generalize retag own (w.heap.size + 1) (rid, c, 6) = own1 at *
  generalize w1.setCell ⟨b, 11, none⟩ (Value.slice na (L.b.out.length + 1) nc) = w2 at *
  clear w1
  have h12 : w2.cell? ⟨b, 13, none⟩ = some (.slice sa L.b.spoilt.length sc) := by rw [C1.cell]; rfl
  have h12' : ((w2.alloc (Obj.cells #[Value.bool false] 4)).drew).cell? ⟨b, 13, none⟩ = some (.slice sa L.b.spoilt.length sc) := (C1.alloc _).drew.cell 13
  have hf12 := C1.frozen 13
  have hf12' : ((w2.alloc (Obj.cells #[Value.bool false] 4)).drew).frozen? ⟨b, 13, none⟩ = false := (C1.alloc _).drew.frozen 13
  have hlt2 : b < ((w2.alloc (Obj.cells #[Value.bool false] 4)).drew).heap.size := by simp; omega
  have hb2 := C1.2
  go_region_law ((refine step_append_T _ (by rfl) _ _ _ (by rfl) 4 i2 _ 1 1 Try.underlying119 hj hy0 hy1 hy2 rfl (by omega) _ _ _ own1 (rid, c, 8) (by rfl) (P1.alloc _).drew ⟨w2.heap.size, 0, none⟩ 1 1 [.bool false] (by rfl) (by rfl) (World.news_of_block (cs := #[.bool false]) (t := 4) (fr := (0, 0)) (heap_alloc_new w2 _)) (by simp [Value.oneCell']) (by simp [maxLen]; omega) (by omega) (w2.heap.size + 1) (by simp) ?_; intro ma mc w3 hown3 hu3; have k0 := hu3.cell h12' (by simp [hb2]); have e0 := hu3.frozen hlt2 (by simp [hb2]) hf12'; clear h12 hf12 h12' hf12' hlt2))
  all_goals
   go_wp2
   go_end0
   refine ⟨rfl, ?_⟩
   obtain ⟨C2, P2, U2⟩ := app_store (k := 13) C1 hu3 (by simp) hown3
   have O2 := O1.upd U2 (by simp)
   have U := (U1.mono (may' := fun t => t = (rid, c, 6) ∨ t = (rid, c, 8) ∨ t = (rid, c, 0)) (fun t h => by rcases h with rfl | rfl <;> simp)).trans (U2.mono (fun t h => by rcases h with rfl | rfl <;> simp))
   refine ⟨_, ?_, U.mono (by rintro t (rfl | rfl | rfl) <;> exact ⟨rfl, rfl⟩)⟩
   rw [show L.b.fly s = { L.b with out := L.b.out ++ [s], spoilt := L.b.spoilt ++ [false] } from by simp [REnd.fly, hlt]]
   have X : EndAt _ rid c 1 _ _ _ _ _ { L.b with out := L.b.out ++ [s], spoilt := L.b.spoilt ++ [false] } := ⟨a1.upd U (by simp) (by simp; omega), a2.upd U (by simp), by simpa using O2, by simpa using P2⟩
   have Y : EndAt _ rid c 0 _ _ _ _ _ L.a := ⟨b1.upd U (by simp) (by simp; omega), b2.upd U (by simp), b3.upd U (by simp), b4.upd U (by simp)⟩
   exact ⟨r0, r1, _, _, _, _, _, _, C2, Y, X⟩

set_option maxRecDepth 100000 in
set_option maxHeartbeats 800000 in
theorem fly_1_full (own : Nat → Tag) (rid c b : Nat) (L : RLine) (s : ByteArray) (w : World) (h : LineAt own rid c w b L) (hlt : ¬ L.b.out.length < 12) :
  Calls Try.prog 102 #[.pointer (some ⟨b, 0, none⟩), .int .i64 1, .string s] w fun e w' => e = .returned (.tuple #[]) ∧ w' = w := by
 obtain ⟨r0, r1, k0, k1, o0, o1, s0, s1, hc, ⟨b1, b2, b3, b4⟩, ⟨a1, a2, a3, a4⟩⟩ := h
 obtain ⟨oa, oc, rfl, ocl, _⟩ := a3.shape
 have hl1 : ¬ ((L.b.out.length : Int) < 12) := by omega
 have h10 : w.cell? ⟨b, 11, none⟩ = some (.slice oa L.b.out.length oc) := by rw [hc.cell]; rfl
 go_enter Try.func102, Try.ntmps102
 go_wp2
 go_end0
 exact ⟨rfl, rfl⟩

theorem fly_1 (own : Nat → Tag) (rid c b : Nat) (L : RLine) (s : ByteArray) (w : World) (h : LineAt own rid c w b L) (hsp : L.b.spoilt.length < 13) :
  Calls Try.prog 102 #[.pointer (some ⟨b, 0, none⟩), .int .i64 1, .string s] w fun e w' => e = .returned (.tuple #[]) ∧ ∃ own', LineAt own' rid c w' b { L with b := L.b.fly s } ∧ Upd own own' (inLine rid c) w w' := by
 by_cases hlt : L.b.out.length < 12
 ·exact fly_1_room own rid c b L s w h hlt hsp
 ·refine (fly_1_full own rid c b L s w h hlt).mono ?_
  rintro e w' ⟨rfl, rfl⟩
  refine ⟨rfl, own, ?_, Upd.refl _ _ _⟩
  rw [show L.b.fly s = L.b from by simp [REnd.fly, hlt]]
  exact h
end Go.Proofs.Ytemkgikncmhoaaa

