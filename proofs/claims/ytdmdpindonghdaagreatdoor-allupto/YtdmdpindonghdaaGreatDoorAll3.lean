/- What the proofs of these statements stand on, part 3: FlowG, FlowH, FlowK, FlowM, FlowN, SpecL, SpecM, FlowO, FlowP, TintA, TypD, PmB. -/
import Derived.Test.YtdmdpindonghdaaGreatDoorAll2
set_option maxHeartbeats 1000000
set_option maxRecDepth 100000
namespace Go.Proofs.YtdmdpindonghdaaGreatDoor
open Go.RowKit
theorem aft_other (f : Fr) (op n pl tg : Nat) (w : World) (ok : FrOk f) (hop : op < 25) (hne : op ≠ 7 ∧ op ≠ 8 ∧ op ≠ 9 ∧ op ≠ 10 ∧ op ≠ 11) (htab : FlowTab w) :
    Calls Tryz.prog 140 #[.agg (frL f).toArray, .agg #[.int .i64 pl, .int .i64 op, .int .i64 n, .int .i64 tg]] w (AftPost f op n w) := by
  have HF : Hid (afterF f op n = pushR (popR f (popsN op).reverse) (pushesN op)) := hid (by unfold afterF; rw [if_neg hne.1, if_neg hne.2.1, if_neg hne.2.2.1, if_neg hne.2.2.2.1, if_neg hne.2.2.2.2])
  have k1 := hid (fun W hW ht => popAll_any w.heap.size f op W hW ok hop ht)
  have k2 := hid (fun W hW ht => pushAll_any w.heap.size (popR f (popsN op).reverse) op W hW (popR_ok _ _ ok) hop ht)
  obtain ⟨q1, q2, q3, q4, q5⟩ : ((op : Int) == 7) = false ∧ ((op : Int) == 8) = false ∧ ((op : Int) == 9) = false ∧ ((op : Int) == 10) = false ∧ ((op : Int) == 11) = false := by
    simp only [beq_eq_false_iff_ne]; omega
  have hg3 := World.block_lt_of_cell? w _ (htab op hop).1
  have hg4 := World.block_lt_of_cell? w _ (htab op hop).2
  simp only at hg3 hg4
  clear hne
  obtain ⟨r, lo, d, st, wg⟩ := f
  obtain ⟨h1, h2, h3d⟩ := ok
  simp only at h1 h2
  obtain ⟨a, b, c, e, rfl⟩ := four h1
  obtain ⟨s0, s1, s2, s3, s4, s5, s6, s7, rfl⟩ := eight h2
  simp only [frL, List.map_cons, List.map_nil, List.cons_append, List.nil_append, numV]
  go_enter Tryz.func140, Tryz.ntmps140
  go_wp2_with fail
  refine (k1.out _ (heap_three_first w _ _ _) (htab.below (three_new w _ _ _))).mono ?_
  rintro x w3 ⟨rfl, h5, h6⟩
  have m1 := (h6.cell (k := w.heap.size + 1) (o := 1) (by omega)).trans (cell_three_second w _ _ _ _ 1)
  simp only [List.getElem?_toArray, List.getElem?_cons_zero, List.getElem?_cons_succ] at m1
  have ht3 := FlowTab.only (htab.below (three_new w _ _ _)) h6 (by omega) (by omega)
  go_wp2_with fail
  refine (k2.out _ h5 ht3).mono ?_
  rintro x w2 ⟨rfl, h3, h9⟩
  have h4 := h6.trans h9
  clear k1 k2 h5 h6 h9 m1 ht3
  have hz := h4.size
  simp at hz
  have hres := hid ((h4.block (w.heap.size + 1 + 1) (by omega)).trans (heap_three_third w _ _ _))
  rw [← HF.out] at h3
  have hok3 : FrOk (afterF ⟨r, [a, b, c, e], d, [s0, s1, s2, s3, s4, s5, s6, s7], wg⟩ op n) := afterF_ok ⟨rfl, rfl, h3d⟩ op n
  have HPM := hid (fun W b' hb' hr' => aftPost_mk (f := ⟨r, [a, b, c, e], d, [s0, s1, s2, s3, s4, s5, s6, s7], wg⟩) (op := op) (n := n) (w := w) (W := W) b' hb' hr')
  generalize afterF ⟨r, [a, b, c, e], d, [s0, s1, s2, s3, s4, s5, s6, s7], wg⟩ op n = G at *
  obtain ⟨r', lo', d', st', wg'⟩ := G
  obtain ⟨j1, j2, j3⟩ := hok3
  simp only at j1 j2
  obtain ⟨a', b', c', e', rfl⟩ := four j1
  obtain ⟨t0, t1, t2, t3, t4, t5, t6, t7, rfl⟩ := eight j2
  have c0 := RowAt.cell h3 0
  have c1 := RowAt.cell h3 1
  have c2 := RowAt.cell h3 2
  have c3 := RowAt.cell h3 3
  have c4 := RowAt.cell h3 4
  have c5 := RowAt.cell h3 5
  have c6 := RowAt.cell h3 6
  have c7 := RowAt.cell h3 7
  have c8 := RowAt.cell h3 8
  have c9 := RowAt.cell h3 9
  have c10 := RowAt.cell h3 10
  have c11 := RowAt.cell h3 11
  have c12 := RowAt.cell h3 12
  have c13 := RowAt.cell h3 13
  have c14 := RowAt.cell h3 14
  have z0 := cell_of_row w2 (w.heap.size + 1 + 1) 0 _ _ _ hres.out
  have z1 := cell_of_row w2 (w.heap.size + 1 + 1) 1 _ _ _ hres.out
  have z2 := cell_of_row w2 (w.heap.size + 1 + 1) 2 _ _ _ hres.out
  have z3 := cell_of_row w2 (w.heap.size + 1 + 1) 3 _ _ _ hres.out
  have z4 := cell_of_row w2 (w.heap.size + 1 + 1) 4 _ _ _ hres.out
  have z5 := cell_of_row w2 (w.heap.size + 1 + 1) 5 _ _ _ hres.out
  have z6 := cell_of_row w2 (w.heap.size + 1 + 1) 6 _ _ _ hres.out
  have z7 := cell_of_row w2 (w.heap.size + 1 + 1) 7 _ _ _ hres.out
  have z8 := cell_of_row w2 (w.heap.size + 1 + 1) 8 _ _ _ hres.out
  have z9 := cell_of_row w2 (w.heap.size + 1 + 1) 9 _ _ _ hres.out
  have z10 := cell_of_row w2 (w.heap.size + 1 + 1) 10 _ _ _ hres.out
  have z11 := cell_of_row w2 (w.heap.size + 1 + 1) 11 _ _ _ hres.out
  have z12 := cell_of_row w2 (w.heap.size + 1 + 1) 12 _ _ _ hres.out
  have z13 := cell_of_row w2 (w.heap.size + 1 + 1) 13 _ _ _ hres.out
  have z14 := cell_of_row w2 (w.heap.size + 1 + 1) 14 _ _ _ hres.out
  have g0 := frozen_of_row w2 (w.heap.size + 1 + 1) 0 _ _ hres.out
  have g1 := frozen_of_row w2 (w.heap.size + 1 + 1) 1 _ _ hres.out
  have g2 := frozen_of_row w2 (w.heap.size + 1 + 1) 2 _ _ hres.out
  have g3 := frozen_of_row w2 (w.heap.size + 1 + 1) 3 _ _ hres.out
  have g4 := frozen_of_row w2 (w.heap.size + 1 + 1) 4 _ _ hres.out
  have g5 := frozen_of_row w2 (w.heap.size + 1 + 1) 5 _ _ hres.out
  have g6 := frozen_of_row w2 (w.heap.size + 1 + 1) 6 _ _ hres.out
  have g7 := frozen_of_row w2 (w.heap.size + 1 + 1) 7 _ _ hres.out
  have g8 := frozen_of_row w2 (w.heap.size + 1 + 1) 8 _ _ hres.out
  have g9 := frozen_of_row w2 (w.heap.size + 1 + 1) 9 _ _ hres.out
  have g10 := frozen_of_row w2 (w.heap.size + 1 + 1) 10 _ _ hres.out
  have g11 := frozen_of_row w2 (w.heap.size + 1 + 1) 11 _ _ hres.out
  have g12 := frozen_of_row w2 (w.heap.size + 1 + 1) 12 _ _ hres.out
  have g13 := frozen_of_row w2 (w.heap.size + 1 + 1) 13 _ _ hres.out
  have g14 := frozen_of_row w2 (w.heap.size + 1 + 1) 14 _ _ hres.out
  simp only [frL, List.map_cons, List.map_nil, List.cons_append, List.nil_append, numV, List.getElem?_toArray, List.getElem?_cons_zero, List.getElem?_cons_succ] at c0 c1 c2 c3 c4 c5 c6 c7 c8 c9 c10 c11 c12 c13 c14 z0 z1 z2 z3 z4 z5 z6 z7 z8 z9 z10 z11 z12 z13 z14
  simp only [frL, List.map_cons, List.map_nil, List.cons_append, List.nil_append, numV] at HPM
  go_wp2_with fail
  go_region
  go_wp2_with fail
  have hbw : Below w.heap.size w w2 := (three_new w _ _ _).trans (h4.below (Nat.le_refl _))
  exact bodyPost_ret (aft_res (by rfl) (by rfl) (fifteen_set hres.out _ _ _ _ _ _ _ _ _ _ _ _ _ _ _).drew) rfl (HPM.out _ _ (fifteen_below hbw (by omega) _ _ _ _ _ _ _ _ _ _ _ _ _ _ _).drew rfl)
theorem aft_any (f : Fr) (op n pl tg : Nat) (w : World) (ok : FrOk f) (hop : op < 25) (hn : op = 7 ∨ op = 8 → n < 4) (htab : FlowTab w) :
    Calls Tryz.prog 140 #[.agg (frL f).toArray, .agg #[.int .i64 pl, .int .i64 op, .int .i64 n, .int .i64 tg]] w (AftPost f op n w) := by
  by_cases e7 : op = 7
  · subst e7; exact aft_load f n pl tg w ok (hn (.inl rfl))
  by_cases e8 : op = 8
  · subst e8; exact aft_store f n pl tg w ok (hn (.inr rfl))
  by_cases e9 : op = 9
  · subst e9; exact aft_dup f n pl tg w ok
  by_cases e10 : op = 10
  · subst e10; exact aft_drop f n pl tg w ok
  by_cases e11 : op = 11
  · subst e11; exact aft_swap f n pl tg w ok
  exact aft_other f op n pl tg w ok hop ⟨e7, e8, e9, e10, e11⟩ htab
attribute [local go_sem] eq4 eq8
theorem reach_old (bw bf cap k : Nat) (fs : List Fr) (way known : Fr) (ch : Bool) (lv : Value) (w : World) (hall : AllAt w bf fs) (hok : AllOk fs) (hk : fs[k]? = some known) (hway : FrOk way)
    (hwalk : WalkAt w bw lv bf fs.length cap ch) (hr : known.reached = true) (hd : known.depth ≠ way.depth) :
    Calls Tryz.prog 111 #[.pointer (some ⟨bw, 0, none⟩), .int .i64 k, .agg (frL way).toArray] w fun e w' =>
      e = .returned (.bool false) ∧ Below w.heap.size w w' := by
  have hkl : k < fs.length := (List.getElem?_eq_some_iff.1 hk).1
  have hkn : FrOk known := hok known (List.mem_of_getElem? hk)
  have HAL := hid hall
  have HWK := hid hwalk
  have w0 := cell_of_row w bw 0 _ _ _ hwalk
  have w1 := cell_of_row w bw 1 _ _ _ hwalk
  have w2 := cell_of_row w bw 2 _ _ _ hwalk
  simp only [List.getElem?_toArray, List.getElem?_cons_zero, List.getElem?_cons_succ] at w0 w1 w2
  have hbw := World.block_lt_of_cell? w _ w0
  have fw2 := frozen_of_row w bw 2 _ _ hwalk
  have c0 := hall.cell hok hk (j := 0) (by omega)
  have c1 := hall.cell hok hk (j := 1) (by omega)
  have c2 := hall.cell hok hk (j := 2) (by omega)
  have c3 := hall.cell hok hk (j := 3) (by omega)
  have c4 := hall.cell hok hk (j := 4) (by omega)
  have c5 := hall.cell hok hk (j := 5) (by omega)
  have c6 := hall.cell hok hk (j := 6) (by omega)
  have c7 := hall.cell hok hk (j := 7) (by omega)
  have c8 := hall.cell hok hk (j := 8) (by omega)
  have c9 := hall.cell hok hk (j := 9) (by omega)
  have c10 := hall.cell hok hk (j := 10) (by omega)
  have c11 := hall.cell hok hk (j := 11) (by omega)
  have c12 := hall.cell hok hk (j := 12) (by omega)
  have c13 := hall.cell hok hk (j := 13) (by omega)
  have c14 := hall.cell hok hk (j := 14) (by omega)
  have f0 := hall.frozen (k * 15)
  have f1 := hall.frozen (k * 15 + 1)
  have f2 := hall.frozen (k * 15 + 2)
  have f3 := hall.frozen (k * 15 + 3)
  have f4 := hall.frozen (k * 15 + 4)
  have f5 := hall.frozen (k * 15 + 5)
  have f6 := hall.frozen (k * 15 + 6)
  have f7 := hall.frozen (k * 15 + 7)
  have f8 := hall.frozen (k * 15 + 8)
  have f9 := hall.frozen (k * 15 + 9)
  have f10 := hall.frozen (k * 15 + 10)
  have f11 := hall.frozen (k * 15 + 11)
  have f12 := hall.frozen (k * 15 + 12)
  have f13 := hall.frozen (k * 15 + 13)
  have f14 := hall.frozen (k * 15 + 14)
  have hbf := World.block_lt_of_cell? w _ (c0.trans (by rfl : (frL known)[0]? = some (.bool known.reached)))
  simp only at hbw hbf
  obtain ⟨kr, klo, kd, kst, kw⟩ := known
  obtain ⟨h1, h2, h3⟩ := hkn
  simp only at h1 h2 hr
  subst hr
  obtain ⟨a, b, c, e, rfl⟩ := four h1
  obtain ⟨s0, s1, s2, s3, s4, s5, s6, s7, rfl⟩ := eight h2
  simp only [frL, List.map_cons, List.map_nil, List.cons_append, List.nil_append, numV, List.getElem?_cons_zero, List.getElem?_cons_succ] at c0 c1 c2 c3 c4 c5 c6 c7 c8 c9 c10 c11 c12 c13 c14
  rw [Nat.add_zero] at c0
  have HWAY := hid hway
  obtain ⟨yr, ylo, yd, yst, yw⟩ := way
  obtain ⟨g1, g2, g3⟩ := hway
  simp only at g1 g2 hd
  obtain ⟨a', b', c', e', rfl⟩ := four g1
  obtain ⟨t0, t1, t2, t3, t4, t5, t6, t7, rfl⟩ := eight g2
  simp only [frL, List.map_cons, List.map_nil, List.cons_append, List.nil_append, numV]
  have i0 : (0 : Int) ≤ (k : Int) := by omega
  have i1 : (k : Int) < (fs.length : Int) := by omega
  have hbw2 : bw ≤ w.heap.size := by omega
  have hbf2 : bf ≤ w.heap.size := by omega
  have d1 : decide ((k : Int) < 0) = false := by simp
  clear hall hwalk
  have hd' : ((kd : Int) != (yd : Int)) = true := by simp; omega
  clear hd
  go_enter Tryz.func111, Tryz.ntmps111
  go_wp2_with fail
  go_ret
  exact ⟨rfl, ((Below.refl _ _).alloc (Nat.le_refl _) _).alloc (by simp) _⟩
theorem reach_stack (bw bf cap k : Nat) (fs : List Fr) (way known : Fr) (ch : Bool) (lv : Value) (w : World) (hall : AllAt w bf fs) (hok : AllOk fs) (hk : fs[k]? = some known) (hway : FrOk way)
    (hwalk : WalkAt w bw lv bf fs.length cap ch) (hr : known.reached = true) (hd : known.depth = way.depth) (hst : known.stk ≠ way.stk) :
    Calls Tryz.prog 111 #[.pointer (some ⟨bw, 0, none⟩), .int .i64 k, .agg (frL way).toArray] w fun e w' =>
      e = .returned (.bool false) ∧ Below w.heap.size w w' := by
  have hkl : k < fs.length := (List.getElem?_eq_some_iff.1 hk).1
  have hkn : FrOk known := hok known (List.mem_of_getElem? hk)
  have HAL := hid hall
  have HWK := hid hwalk
  have w0 := cell_of_row w bw 0 _ _ _ hwalk
  have w1 := cell_of_row w bw 1 _ _ _ hwalk
  have w2 := cell_of_row w bw 2 _ _ _ hwalk
  simp only [List.getElem?_toArray, List.getElem?_cons_zero, List.getElem?_cons_succ] at w0 w1 w2
  have hbw := World.block_lt_of_cell? w _ w0
  have fw2 := frozen_of_row w bw 2 _ _ hwalk
  have c0 := hall.cell hok hk (j := 0) (by omega)
  have c1 := hall.cell hok hk (j := 1) (by omega)
  have c2 := hall.cell hok hk (j := 2) (by omega)
  have c3 := hall.cell hok hk (j := 3) (by omega)
  have c4 := hall.cell hok hk (j := 4) (by omega)
  have c5 := hall.cell hok hk (j := 5) (by omega)
  have c6 := hall.cell hok hk (j := 6) (by omega)
  have c7 := hall.cell hok hk (j := 7) (by omega)
  have c8 := hall.cell hok hk (j := 8) (by omega)
  have c9 := hall.cell hok hk (j := 9) (by omega)
  have c10 := hall.cell hok hk (j := 10) (by omega)
  have c11 := hall.cell hok hk (j := 11) (by omega)
  have c12 := hall.cell hok hk (j := 12) (by omega)
  have c13 := hall.cell hok hk (j := 13) (by omega)
  have c14 := hall.cell hok hk (j := 14) (by omega)
  have f0 := hall.frozen (k * 15)
  have f1 := hall.frozen (k * 15 + 1)
  have f2 := hall.frozen (k * 15 + 2)
  have f3 := hall.frozen (k * 15 + 3)
  have f4 := hall.frozen (k * 15 + 4)
  have f5 := hall.frozen (k * 15 + 5)
  have f6 := hall.frozen (k * 15 + 6)
  have f7 := hall.frozen (k * 15 + 7)
  have f8 := hall.frozen (k * 15 + 8)
  have f9 := hall.frozen (k * 15 + 9)
  have f10 := hall.frozen (k * 15 + 10)
  have f11 := hall.frozen (k * 15 + 11)
  have f12 := hall.frozen (k * 15 + 12)
  have f13 := hall.frozen (k * 15 + 13)
  have f14 := hall.frozen (k * 15 + 14)
  have hbf := World.block_lt_of_cell? w _ (c0.trans (by rfl : (frL known)[0]? = some (.bool known.reached)))
  simp only at hbw hbf
  obtain ⟨kr, klo, kd, kst, kw⟩ := known
  obtain ⟨h1, h2, h3⟩ := hkn
  simp only at h1 h2 hr
  subst hr
  obtain ⟨a, b, c, e, rfl⟩ := four h1
  obtain ⟨s0, s1, s2, s3, s4, s5, s6, s7, rfl⟩ := eight h2
  simp only [frL, List.map_cons, List.map_nil, List.cons_append, List.nil_append, numV, List.getElem?_cons_zero, List.getElem?_cons_succ] at c0 c1 c2 c3 c4 c5 c6 c7 c8 c9 c10 c11 c12 c13 c14
  rw [Nat.add_zero] at c0
  have HWAY := hid hway
  obtain ⟨yr, ylo, yd, yst, yw⟩ := way
  obtain ⟨g1, g2, g3⟩ := hway
  simp only at g1 g2 hd hst
  obtain ⟨a', b', c', e', rfl⟩ := four g1
  obtain ⟨t0, t1, t2, t3, t4, t5, t6, t7, rfl⟩ := eight g2
  simp only [frL, List.map_cons, List.map_nil, List.cons_append, List.nil_append, numV]
  have i0 : (0 : Int) ≤ (k : Int) := by omega
  have i1 : (k : Int) < (fs.length : Int) := by omega
  have hbw2 : bw ≤ w.heap.size := by omega
  have hbf2 : bf ≤ w.heap.size := by omega
  have d1 : decide ((k : Int) < 0) = false := by simp
  clear hall hwalk
  have hd' : ((kd : Int) != (yd : Int)) = false := by simp; omega
  have HST := hid hst
  clear hst
  clear hd
  go_enter Tryz.func111, Tryz.ntmps111
  go_wp2_with fail
  · go_ret
    exact ⟨rfl, ((Below.refl _ _).alloc (Nat.le_refl _) _).alloc (by simp) _⟩
  · have hall := ‹(!((s0 : Int) == (t0 : Int))) = false ∧ _›
    exfalso
    apply HST.out
    simp only [Bool.not_eq_false', beq_iff_eq] at hall
    obtain ⟨q0, q1, q2, q3, q4, q5, q6, q7⟩ := hall
    rw [show s0 = t0 by omega, show s1 = t1 by omega, show s2 = t2 by omega, show s3 = t3 by omega, show s4 = t4 by omega, show s5 = t5 by omega, show s6 = t6 by omega, show s7 = t7 by omega]
end Go.Proofs.YtdmdpindonghdaaGreatDoor
namespace Go.Proofs.YtdmdpindonghdaaGreatDoor
open Go.RowKit
/-- What a way that leads to instruction k makes of the frames: the frames, have they changed, does the way agree. -/
def reachF (fs : List Fr) (k : Nat) (way : Fr) : List Fr × Bool × Bool :=
  match fs[k]? with
  | none => (fs, false, false)
  | some known =>
    if known.reached = false then (fs.set k { way with reached := true }, true, true)
    else if known.depth ≠ way.depth ∨ known.stk ≠ way.stk then (fs, false, false)
    else if known.lo = List.zipWith joinN known.lo way.lo then (fs, false, true)
    else (fs.set k { way with reached := true, lo := List.zipWith joinN known.lo way.lo }, true, true)
theorem reachF_ok {fs : List Fr} {k : Nat} {way : Fr} (h : AllOk fs) (hw : FrOk way) : AllOk (reachF fs k way).1 := by
  unfold reachF
  cases hk : fs[k]? with
  | none => exact h
  | some known =>
    have hkn := h known (List.mem_of_getElem? hk)
    simp only
    split
    · exact h.set (f := { way with reached := true }) ⟨hw.lo, hw.stk, hw.depth⟩ k
    split
    · exact h
    split
    · exact h
    · exact h.set (f := { way with reached := true, lo := List.zipWith joinN known.lo way.lo }) ⟨by simp [hkn.lo, hw.lo], hw.stk, hw.depth⟩ k
theorem reachF_len (fs : List Fr) (k : Nat) (way : Fr) : (reachF fs k way).1.length = fs.length := by
  unfold reachF
  cases hk : fs[k]? with
  | none => rfl
  | some known =>
    simp only
    split
    · simp
    split
    · rfl
    split
    · rfl
    · simp
theorem reach_any (bw bf cap k : Nat) (fs : List Fr) (way : Fr) (ch : Bool) (lv : Value) (w : World) (hall : AllAt w bf fs) (hok : AllOk fs) (hk : k < fs.length) (hway : FrOk way)
    (hwalk : WalkAt w bw lv bf fs.length cap ch) (hne : bw ≠ bf) :
    Calls Tryz.prog 111 #[.pointer (some ⟨bw, 0, none⟩), .int .i64 k, .agg (frL way).toArray] w fun e w' =>
      e = .returned (.bool (reachF fs k way).2.2) ∧ AllAt w' bf (reachF fs k way).1 ∧ WalkAt w' bw lv bf fs.length cap (ch || (reachF fs k way).2.1) ∧ Two bw bf w w' := by
  obtain ⟨known, hkn⟩ : ∃ f, fs[k]? = some f := ⟨_, List.getElem?_eq_getElem hk⟩
  have hbw : bw < w.heap.size := (Array.getElem?_eq_some_iff.1 hwalk).1
  have hbf : bf < w.heap.size := (Array.getElem?_eq_some_iff.1 hall).1
  have stay : ∀ w', Below w.heap.size w w' → AllAt w' bf fs ∧ WalkAt w' bw lv bf fs.length cap (ch || false) ∧ Two bw bf w w' := fun w' hb =>
    ⟨(hb.block bf hbf).trans hall, by rw [Bool.or_false]; exact (hb.block bw hbw).trans hwalk, .of_below hb⟩
  cases hr : known.reached
  · have e : reachF fs k way = (fs.set k { way with reached := true }, true, true) := by simp [reachF, hkn, hr]
    rw [e]
    refine (reach_new bw bf cap k fs way known ch lv w hall hok hkn hway hwalk hne hr).mono ?_
    rintro x w' ⟨h1, h2, h3, h4⟩
    exact ⟨h1, h2, by rw [Bool.or_true]; exact h3, h4⟩
  by_cases hd : known.depth = way.depth
  · by_cases hst : known.stk = way.stk
    · refine (reach_join bw bf cap k fs way known ch lv w hall hok hkn hway hwalk hr hne hd hst).mono ?_
      rintro x w' ⟨h1, h4, h5⟩
      rcases h5 with ⟨h5, h2, h3⟩ | ⟨h5, h2, h3⟩
      · have e : reachF fs k way = (fs, false, true) := by
          unfold reachF; rw [hkn]; simp only
          rw [if_neg (by simp [hr]), if_neg (by simp [hd, hst]), if_pos h5]
        rw [e]
        exact ⟨h1, h2, by rw [Bool.or_false]; exact h3, h4⟩
      · have e : reachF fs k way = (fs.set k { way with reached := true, lo := List.zipWith joinN known.lo way.lo }, true, true) := by
          unfold reachF; rw [hkn]; simp only
          rw [if_neg (by simp [hr]), if_neg (by simp [hd, hst]), if_neg h5]
        rw [e]
        exact ⟨h1, h2, by rw [Bool.or_true]; exact h3, h4⟩
    · have e : reachF fs k way = (fs, false, false) := by simp [reachF, hkn, hr, hst]
      rw [e]
      refine (reach_stack bw bf cap k fs way known ch lv w hall hok hkn hway hwalk hr hd hst).mono ?_
      rintro x w' ⟨h1, hb⟩
      exact ⟨h1, stay w' hb⟩
  · have e : reachF fs k way = (fs, false, false) := by simp [reachF, hkn, hr, hd]
    rw [e]
    refine (reach_old bw bf cap k fs way known ch lv w hall hok hkn hway hwalk hr hd).mono ?_
    rintro x w' ⟨h1, hb⟩
    exact ⟨h1, stay w' hb⟩
/-- What is known ahead of instruction k, handed on. -/
def passF (fs : List Fr) (k : Nat) (ci : CI) : List Fr × Bool × Bool :=
  match fs[k]? with
  | none => (fs, false, false)
  | some ahead =>
    if ahead.reached = false then (fs, false, true)
    else if (afterF ahead ci.ins.op ci.ins.n).wrong = true then (fs, false, false)
    else if ci.ins.op = 0 then (fs, false, true)
    else if ci.ins.op = 19 then reachF fs ci.tg (afterF ahead ci.ins.op ci.ins.n)
    else if ci.ins.op = 20 then (if (reachF fs ci.tg (afterF ahead ci.ins.op ci.ins.n)).2.2 = false then reachF fs ci.tg (afterF ahead ci.ins.op ci.ins.n)
      else ((reachF (reachF fs ci.tg (afterF ahead ci.ins.op ci.ins.n)).1 (k + 1) (afterF ahead ci.ins.op ci.ins.n)).1,
        (reachF fs ci.tg (afterF ahead ci.ins.op ci.ins.n)).2.1 || (reachF (reachF fs ci.tg (afterF ahead ci.ins.op ci.ins.n)).1 (k + 1) (afterF ahead ci.ins.op ci.ins.n)).2.1,
        (reachF (reachF fs ci.tg (afterF ahead ci.ins.op ci.ins.n)).1 (k + 1) (afterF ahead ci.ins.op ci.ins.n)).2.2))
    else reachF fs (k + 1) (afterF ahead ci.ins.op ci.ins.n)
def PassPost (bw bf cap : Nat) (fs : List Fr) (k : Nat) (ci : CI) (ch : Bool) (lv : Value) (w : World) (e : Ending) (w' : World) : Prop :=
  e = .returned (.bool (passF fs k ci).2.2) ∧ AllAt w' bf (passF fs k ci).1 ∧ WalkAt w' bw lv bf fs.length cap (ch || (passF fs k ci).2.1) ∧ Two bw bf w w'
theorem passPost_mk {bw bf cap k : Nat} {fs fs' : List Fr} {ci : CI} {ch c b : Bool} {lv : Value} {w w' : World} (h : passF fs k ci = (fs', c, b)) (h1 : AllAt w' bf fs') (h2 : WalkAt w' bw lv bf fs.length cap (ch || c)) (h3 : Two bw bf w w') :
    PassPost bw bf cap fs k ci ch lv w (.returned (.bool b)) w' := by
  unfold PassPost; rw [h]; exact ⟨rfl, h1, h2, h3⟩
theorem pass_new (bw bf gl cap capl k : Nat) (fs : List Fr) (cl : List CI) (ci : CI) (ahead : Fr) (ch : Bool) (w : World) (hall : AllAt w bf fs) (hok : AllOk fs) (hk : fs[k]? = some ahead) (hlen : cl.length = fs.length)
    (hwalk : WalkAt w bw (.slice (some ⟨gl, 0, none⟩) cl.length capl) bf fs.length cap ch) (hr : ahead.reached = false) :
    Calls Tryz.prog 135 #[.pointer (some ⟨bw, 0, none⟩), .int .i64 k] w (PassPost bw bf cap fs k ci ch (.slice (some ⟨gl, 0, none⟩) cl.length capl) w) := by
  have hkl : k < fs.length := (List.getElem?_eq_some_iff.1 hk).1
  have HF : Hid (passF fs k ci = (fs, false, true)) := hid (by simp [passF, hk, hr])
  have hkn : FrOk ahead := hok ahead (List.mem_of_getElem? hk)
  have HAL := hid hall
  have HWK := hid hwalk
  have w0 := cell_of_row w bw 0 _ _ _ hwalk
  have w1 := cell_of_row w bw 1 _ _ _ hwalk
  simp only [List.getElem?_toArray, List.getElem?_cons_zero, List.getElem?_cons_succ] at w0 w1
  have hbw : bw < w.heap.size := (Array.getElem?_eq_some_iff.1 hwalk).1
  have hbf : bf < w.heap.size := (Array.getElem?_eq_some_iff.1 hall).1
  have c0 := hall.cell hok hk (j := 0) (by omega)
  have c1 := hall.cell hok hk (j := 1) (by omega)
  have c2 := hall.cell hok hk (j := 2) (by omega)
  have c3 := hall.cell hok hk (j := 3) (by omega)
  have c4 := hall.cell hok hk (j := 4) (by omega)
  have c5 := hall.cell hok hk (j := 5) (by omega)
  have c6 := hall.cell hok hk (j := 6) (by omega)
  have c7 := hall.cell hok hk (j := 7) (by omega)
  have c8 := hall.cell hok hk (j := 8) (by omega)
  have c9 := hall.cell hok hk (j := 9) (by omega)
  have c10 := hall.cell hok hk (j := 10) (by omega)
  have c11 := hall.cell hok hk (j := 11) (by omega)
  have c12 := hall.cell hok hk (j := 12) (by omega)
  have c13 := hall.cell hok hk (j := 13) (by omega)
  have c14 := hall.cell hok hk (j := 14) (by omega)
  obtain ⟨kr, klo, kd, kst, kw⟩ := ahead
  obtain ⟨h1, h2, h3⟩ := hkn
  simp only at h1 h2 hr
  subst hr
  obtain ⟨a, b, c, e, rfl⟩ := four h1
  obtain ⟨s0, s1, s2, s3, s4, s5, s6, s7, rfl⟩ := eight h2
  simp only [frL, List.map_cons, List.map_nil, List.cons_append, List.nil_append, numV, List.getElem?_cons_zero, List.getElem?_cons_succ] at c0 c1 c2 c3 c4 c5 c6 c7 c8 c9 c10 c11 c12 c13 c14
  rw [Nat.add_zero] at c0
  have i0 : (0 : Int) ≤ (k : Int) := by omega
  have i1 : (k : Int) < (fs.length : Int) := by omega
  have i2 : (k : Int) < (cl.length : Int) := by omega
  have d1 : decide ((k : Int) < 0) = false := by simp
  clear hall hwalk hk hlen
  go_enter Tryz.func135, Tryz.ntmps135
  go_wp2_with fail
  go_ret
  have hb := (Below.refl w.heap.size w).alloc (Nat.le_refl _) (.cells #[.bool false, .int .i64 a, .int .i64 b, .int .i64 c, .int .i64 e, .int .i64 kd, .int .i64 s0, .int .i64 s1, .int .i64 s2, .int .i64 s3, .int .i64 s4, .int .i64 s5, .int .i64 s6, .int .i64 s7, .bool kw] 125)
  exact passPost_mk HF.out ((hb.block bf hbf).trans HAL.out) (by rw [Bool.or_false]; exact (hb.block bw hbw).trans HWK.out) (.of_below hb)
theorem pass_go (bw bf gl cap capl k : Nat) (fs : List Fr) (cl : List CI) (ci : CI) (ahead : Fr) (ch : Bool) (w : World) (hall : AllAt w bf fs) (hok : AllOk fs) (hk : fs[k]? = some ahead) (hlen : cl.length = fs.length)
    (hwalk : WalkAt w bw (.slice (some ⟨gl, 0, none⟩) cl.length capl) bf fs.length cap ch) (hr : ahead.reached = true) (hat : CiAt w gl cl) (hgl : gl < w.heap.size) (hci : cl[k]? = some ci) (htab : FlowTab w) (hop : ci.ins.op < 25) (hn : ci.ins.op = 7 ∨ ci.ins.op = 8 → ci.ins.n < 4) (hne : bw ≠ bf) (hle : fs.length ≤ 200) (htg : ci.ins.op = 19 ∨ ci.ins.op = 20 → ci.tg < fs.length) (hnx : ci.ins.op ≠ 0 → ci.ins.op ≠ 19 → k + 1 < fs.length) :
    Calls Tryz.prog 135 #[.pointer (some ⟨bw, 0, none⟩), .int .i64 k] w (PassPost bw bf cap fs k ci ch (.slice (some ⟨gl, 0, none⟩) cl.length capl) w) := by
  have hkl : k < fs.length := (List.getElem?_eq_some_iff.1 hk).1
  have HP : Hid (passF fs k ci = if (afterF ahead ci.ins.op ci.ins.n).wrong = true then (fs, false, false)
    else if ci.ins.op = 0 then (fs, false, true)
    else if ci.ins.op = 19 then reachF fs ci.tg (afterF ahead ci.ins.op ci.ins.n)
    else if ci.ins.op = 20 then (if (reachF fs ci.tg (afterF ahead ci.ins.op ci.ins.n)).2.2 = false then reachF fs ci.tg (afterF ahead ci.ins.op ci.ins.n)
      else ((reachF (reachF fs ci.tg (afterF ahead ci.ins.op ci.ins.n)).1 (k + 1) (afterF ahead ci.ins.op ci.ins.n)).1,
        (reachF fs ci.tg (afterF ahead ci.ins.op ci.ins.n)).2.1 || (reachF (reachF fs ci.tg (afterF ahead ci.ins.op ci.ins.n)).1 (k + 1) (afterF ahead ci.ins.op ci.ins.n)).2.1,
        (reachF (reachF fs ci.tg (afterF ahead ci.ins.op ci.ins.n)).1 (k + 1) (afterF ahead ci.ins.op ci.ins.n)).2.2))
    else reachF fs (k + 1) (afterF ahead ci.ins.op ci.ins.n)) := hid (by simp [passF, hk, hr])
  have HCI := hid (hat k ci hci)
  have hkn : FrOk ahead := hok ahead (List.mem_of_getElem? hk)
  have HAL := hid hall
  have HWK := hid hwalk
  have w0 := cell_of_row w bw 0 _ _ _ hwalk
  have w1 := cell_of_row w bw 1 _ _ _ hwalk
  simp only [List.getElem?_toArray, List.getElem?_cons_zero, List.getElem?_cons_succ] at w0 w1
  have hbw : bw < w.heap.size := (Array.getElem?_eq_some_iff.1 hwalk).1
  have hbf : bf < w.heap.size := (Array.getElem?_eq_some_iff.1 hall).1
  have c0 := hall.cell hok hk (j := 0) (by omega)
  have c1 := hall.cell hok hk (j := 1) (by omega)
  have c2 := hall.cell hok hk (j := 2) (by omega)
  have c3 := hall.cell hok hk (j := 3) (by omega)
  have c4 := hall.cell hok hk (j := 4) (by omega)
  have c5 := hall.cell hok hk (j := 5) (by omega)
  have c6 := hall.cell hok hk (j := 6) (by omega)
  have c7 := hall.cell hok hk (j := 7) (by omega)
  have c8 := hall.cell hok hk (j := 8) (by omega)
  have c9 := hall.cell hok hk (j := 9) (by omega)
  have c10 := hall.cell hok hk (j := 10) (by omega)
  have c11 := hall.cell hok hk (j := 11) (by omega)
  have c12 := hall.cell hok hk (j := 12) (by omega)
  have c13 := hall.cell hok hk (j := 13) (by omega)
  have c14 := hall.cell hok hk (j := 14) (by omega)
  obtain ⟨kr, klo, kd, kst, kw⟩ := ahead
  obtain ⟨h1, h2, h3⟩ := hkn
  simp only at h1 h2 hr
  subst hr
  obtain ⟨a, b, c, e, rfl⟩ := four h1
  obtain ⟨s0, s1, s2, s3, s4, s5, s6, s7, rfl⟩ := eight h2
  simp only [frL, List.map_cons, List.map_nil, List.cons_append, List.nil_append, numV, List.getElem?_cons_zero, List.getElem?_cons_succ] at c0 c1 c2 c3 c4 c5 c6 c7 c8 c9 c10 c11 c12 c13 c14
  rw [Nat.add_zero] at c0
  have i0 : (0 : Int) ≤ (k : Int) := by omega
  have i1 : (k : Int) < (fs.length : Int) := by omega
  have i2 : (k : Int) < (cl.length : Int) := by omega
  have d1 : decide ((k : Int) < 0) = false := by simp
  have haft := hid (fun W hW => aft_any ⟨true, [a, b, c, e], kd, [s0, s1, s2, s3, s4, s5, s6, s7], kw⟩ ci.ins.op ci.ins.n ci.ins.place ci.tg W ⟨rfl, rfl, h3⟩ hop hn hW)
  have hgok : FrOk (afterF ⟨true, [a, b, c, e], kd, [s0, s1, s2, s3, s4, s5, s6, s7], kw⟩ ci.ins.op ci.ins.n) := afterF_ok ⟨rfl, rfl, h3⟩ _ _
  have HG : Hid (afterF ⟨true, [a, b, c, e], kd, [s0, s1, s2, s3, s4, s5, s6, s7], kw⟩ ci.ins.op ci.ins.n = afterF ⟨true, [a, b, c, e], kd, [s0, s1, s2, s3, s4, s5, s6, s7], kw⟩ ci.ins.op ci.ins.n) := hid rfl
  unfold AftPost at haft
  generalize hGG : afterF ⟨true, [a, b, c, e], kd, [s0, s1, s2, s3, s4, s5, s6, s7], kw⟩ ci.ins.op ci.ins.n = G at haft hgok
  have HGG := hid hGG
  clear hGG HG
  obtain ⟨r', lo', d', st', wg'⟩ := G
  have HGOK := hid hgok
  obtain ⟨j1, j2, j3⟩ := hgok
  simp only at j1 j2
  obtain ⟨a', b', c', e', rfl⟩ := four j1
  obtain ⟨t0, t1, t2, t3, t4, t5, t6, t7, rfl⟩ := eight j2
  simp only [frL, List.map_cons, List.map_nil, List.cons_append, List.nil_append, numV] at haft
  obtain ⟨x0, x1, x2, x3⟩ := HCI.out
  have hgl2 : gl ≤ w.heap.size := by omega
  have HTAB := hid htab
  rw [HGG.out] at HP
  have HOP := hid hop
  clear hall hwalk hk hlen htab hat hci
  go_enter Tryz.func135, Tryz.ntmps135
  go_upto_region 7 with fail
  go_cut [7, 8] (fun x7 x8 wc => ∃ B : Nat, x7 = .pointer (some ⟨B, 0, none⟩) ∧ x8 = .bool (!wg') ∧ w.heap.size + 1 + 1 ≤ B ∧ wc.heap[B]? = some (.cells #[.bool r', .int .i64 a', .int .i64 b', .int .i64 c', .int .i64 e', .int .i64 d', .int .i64 t0, .int .i64 t1, .int .i64 t2, .int .i64 t3, .int .i64 t4, .int .i64 t5, .int .i64 t6, .int .i64 t7, .bool wg'] 125) ∧
    wc.heap[w.heap.size + 1]? = some (.cells #[.int .i64 ci.ins.place, .int .i64 ci.ins.op, .int .i64 ci.ins.n, .int .i64 ci.tg] 128) ∧ Below w.heap.size w wc)
  case first =>
    go_wp2_with fail
    refine (haft.out _ (HTAB.out.below (((Below.refl _ _).alloc (Nat.le_refl _) _).alloc (by simp) _))).mono ?_
    intro x w5 hh
    obtain ⟨hb5, hx5⟩ := hh
    subst x
    go_wp2_with fail
    go_meet
    have hz5 := hb5.size
    rw [alloc_size, alloc_size] at hz5
    refine ⟨_, rfl, rfl, hz5, heap_alloc_new _ _, ?_, ?_⟩
    · rw [Below.heap_alloc _ _ _ (by omega), hb5.block _ (by rw [alloc_size, alloc_size]; omega)]
      exact heap_two_new w _ _
    · exact ((((Below.refl _ _).alloc (Nat.le_refl _) _).alloc (by simp) _).trans (hb5.mono (by simp; omega))).alloc (by omega) _
  case rest =>
    obtain ⟨B, rfl, rfl, hB, hrow, hin, hbel⟩ := hcut
    have hA : AllAt wc bf fs := (hbel.block bf hbf).trans HAL.out
    have hW : WalkAt wc bw (.slice (some ⟨gl, 0, none⟩) cl.length capl) bf fs.length cap ch := (hbel.block bw hbw).trans HWK.out
    have m0 := cell_of_row wc B 0 _ _ _ hrow
    have m1 := cell_of_row wc B 1 _ _ _ hrow
    have m2 := cell_of_row wc B 2 _ _ _ hrow
    have m3 := cell_of_row wc B 3 _ _ _ hrow
    have m4 := cell_of_row wc B 4 _ _ _ hrow
    have m5 := cell_of_row wc B 5 _ _ _ hrow
    have m6 := cell_of_row wc B 6 _ _ _ hrow
    have m7 := cell_of_row wc B 7 _ _ _ hrow
    have m8 := cell_of_row wc B 8 _ _ _ hrow
    have m9 := cell_of_row wc B 9 _ _ _ hrow
    have m10 := cell_of_row wc B 10 _ _ _ hrow
    have m11 := cell_of_row wc B 11 _ _ _ hrow
    have m12 := cell_of_row wc B 12 _ _ _ hrow
    have m13 := cell_of_row wc B 13 _ _ _ hrow
    have m14 := cell_of_row wc B 14 _ _ _ hrow
    have n0 := cell_of_row wc (w.heap.size + 1) 0 _ _ _ hin
    have n1 := cell_of_row wc (w.heap.size + 1) 1 _ _ _ hin
    have n2 := cell_of_row wc (w.heap.size + 1) 2 _ _ _ hin
    have n3 := cell_of_row wc (w.heap.size + 1) 3 _ _ _ hin
    simp only [List.getElem?_toArray, List.getElem?_cons_zero, List.getElem?_cons_succ] at m0 m1 m2 m3 m4 m5 m6 m7 m8 m9 m10 m11 m12 m13 m14 n0 n1 n2 n3
    have HA := hid hA
    have HW := hid hW
    clear hA hW haft c0 c1 c2 c3 c4 c5 c6 c7 c8 c9 c10 c11 c12 c13 c14 w0 w1 x0 x1 x2 x3
    cases wg'
    case true =>
      have HF : Hid (passF fs k ci = (fs, false, false)) := hid (by rw [HP.out, if_pos rfl])
      go_wp2_with fail
      go_ret
      exact passPost_mk HF.out HA.out (by rw [Bool.or_false]; exact HW.out) (.of_below hbel)
    case false =>
      by_cases o0 : ci.ins.op = 0
      · have q0 : ((ci.ins.op : Int) == 0) = true := by simp; omega
        have HF : Hid (passF fs k ci = (fs, false, true)) := hid (by rw [HP.out, if_neg (by simp), if_pos o0])
        clear o0
        go_wp2_with fail
        go_ret
        exact passPost_mk HF.out HA.out (by rw [Bool.or_false]; exact HW.out) (.of_below hbel)
      have q0 : ((ci.ins.op : Int) == 0) = false := by simp; omega
      by_cases o19 : ci.ins.op = 19
      · have q1 : ((ci.ins.op : Int) == 19) = true := by simp; omega
        have HF : Hid (passF fs k ci = reachF fs ci.tg ⟨r', [a', b', c', e'], d', [t0, t1, t2, t3, t4, t5, t6, t7], false⟩) := hid (by rw [HP.out, if_neg (by simp), if_neg o0, if_pos o19])
        have hrc := hid (reach_any bw bf cap ci.tg fs ⟨r', [a', b', c', e'], d', [t0, t1, t2, t3, t4, t5, t6, t7], false⟩ ch _ wc HA.out hok (htg (.inl o19)) HGOK.out HW.out hne)
        simp only [frL, List.map_cons, List.map_nil, List.cons_append, List.nil_append, numV] at hrc
        clear o0 o19
        go_wp2_with fail
        refine hrc.out.mono ?_
        clear hrc
        intro x w6 hh
        obtain ⟨hx6, hA6, hW6, hT6⟩ := hh
        subst x
        go_wp2_with fail
        go_ret
        exact passPost_mk HF.out hA6 hW6 ((Two.of_below hbel).trans hT6)
      have q1 : ((ci.ins.op : Int) == 19) = false := by simp; omega
      have hnx2 := hnx o0 o19
      by_cases o20 : ci.ins.op = 20
      · have q2 : ((ci.ins.op : Int) == 20) = true := by simp; omega
        have HF : Hid (passF fs k ci = if (reachF fs ci.tg ⟨r', [a', b', c', e'], d', [t0, t1, t2, t3, t4, t5, t6, t7], false⟩).2.2 = false then reachF fs ci.tg ⟨r', [a', b', c', e'], d', [t0, t1, t2, t3, t4, t5, t6, t7], false⟩ else ((reachF (reachF fs ci.tg ⟨r', [a', b', c', e'], d', [t0, t1, t2, t3, t4, t5, t6, t7], false⟩).1 (k + 1) ⟨r', [a', b', c', e'], d', [t0, t1, t2, t3, t4, t5, t6, t7], false⟩).1, (reachF fs ci.tg ⟨r', [a', b', c', e'], d', [t0, t1, t2, t3, t4, t5, t6, t7], false⟩).2.1 || (reachF (reachF fs ci.tg ⟨r', [a', b', c', e'], d', [t0, t1, t2, t3, t4, t5, t6, t7], false⟩).1 (k + 1) ⟨r', [a', b', c', e'], d', [t0, t1, t2, t3, t4, t5, t6, t7], false⟩).2.1, (reachF (reachF fs ci.tg ⟨r', [a', b', c', e'], d', [t0, t1, t2, t3, t4, t5, t6, t7], false⟩).1 (k + 1) ⟨r', [a', b', c', e'], d', [t0, t1, t2, t3, t4, t5, t6, t7], false⟩).2.2)) := hid (by rw [HP.out, if_neg (by simp), if_neg o0, if_neg o19, if_pos o20])
        have hrc := hid (reach_any bw bf cap ci.tg fs ⟨r', [a', b', c', e'], d', [t0, t1, t2, t3, t4, t5, t6, t7], false⟩ ch _ wc HA.out hok (htg (.inr o20)) HGOK.out HW.out hne)
        have hok2 := reachF_ok (k := ci.tg) (way := ⟨r', [a', b', c', e'], d', [t0, t1, t2, t3, t4, t5, t6, t7], false⟩) hok HGOK.out
        have hln2 := reachF_len fs ci.tg ⟨r', [a', b', c', e'], d', [t0, t1, t2, t3, t4, t5, t6, t7], false⟩
        simp only [frL, List.map_cons, List.map_nil, List.cons_append, List.nil_append, numV] at hrc
        generalize reachF fs ci.tg ⟨r', [a', b', c', e'], d', [t0, t1, t2, t3, t4, t5, t6, t7], false⟩ = R1 at *
        obtain ⟨fs1, ch1, ok1⟩ := R1
        simp only at hok2 hln2 hrc HF
        clear o0 o19 o20
        go_wp2_with fail
        refine hrc.out.mono ?_
        clear hrc
        intro x w6 hh
        obtain ⟨hx6, hA6, hW6, hT6⟩ := hh
        subst x
        cases ok1
        · have HF2 : Hid (passF fs k ci = (fs1, ch1, false)) := hid (by rw [HF.out, if_pos rfl])
          go_wp2_with fail
          go_ret
          exact passPost_mk HF2.out hA6 hW6 ((Two.of_below hbel).trans hT6)
        · have HF2 : Hid (passF fs k ci = ((reachF fs1 (k + 1) ⟨r', [a', b', c', e'], d', [t0, t1, t2, t3, t4, t5, t6, t7], false⟩).1, ch1 || (reachF fs1 (k + 1) ⟨r', [a', b', c', e'], d', [t0, t1, t2, t3, t4, t5, t6, t7], false⟩).2.1, (reachF fs1 (k + 1) ⟨r', [a', b', c', e'], d', [t0, t1, t2, t3, t4, t5, t6, t7], false⟩).2.2)) := hid (by rw [HF.out, if_neg (by simp)])
          have hBz : B < wc.heap.size := (Array.getElem?_eq_some_iff.1 hrow).1
          have hrow6 := (hT6.block B hBz (by omega) (by omega)).trans hrow
          clear m0 m1 m2 m3 m4 m5 m6 m7 m8 m9 m10 m11 m12 m13 m14
          have m0 := cell_of_row w6 B 0 _ _ _ hrow6
          have m1 := cell_of_row w6 B 1 _ _ _ hrow6
          have m2 := cell_of_row w6 B 2 _ _ _ hrow6
          have m3 := cell_of_row w6 B 3 _ _ _ hrow6
          have m4 := cell_of_row w6 B 4 _ _ _ hrow6
          have m5 := cell_of_row w6 B 5 _ _ _ hrow6
          have m6 := cell_of_row w6 B 6 _ _ _ hrow6
          have m7 := cell_of_row w6 B 7 _ _ _ hrow6
          have m8 := cell_of_row w6 B 8 _ _ _ hrow6
          have m9 := cell_of_row w6 B 9 _ _ _ hrow6
          have m10 := cell_of_row w6 B 10 _ _ _ hrow6
          have m11 := cell_of_row w6 B 11 _ _ _ hrow6
          have m12 := cell_of_row w6 B 12 _ _ _ hrow6
          have m13 := cell_of_row w6 B 13 _ _ _ hrow6
          have m14 := cell_of_row w6 B 14 _ _ _ hrow6
          simp only [List.getElem?_toArray, List.getElem?_cons_zero, List.getElem?_cons_succ] at m0 m1 m2 m3 m4 m5 m6 m7 m8 m9 m10 m11 m12 m13 m14
          rw [← hln2] at hW6
          have hrc2 := hid (reach_any bw bf cap (k + 1) fs1 ⟨r', [a', b', c', e'], d', [t0, t1, t2, t3, t4, t5, t6, t7], false⟩ (ch || ch1) _ w6 hA6 hok2 (by omega) HGOK.out hW6 hne)
          simp only [frL, List.map_cons, List.map_nil, List.cons_append, List.nil_append, numV] at hrc2
          rw [show (((k + 1 : Nat)) : Int) = (k : Int) + 1 by omega] at hrc2
          have hk200 : (k : Int) + 1 ≤ 200 := by omega
          have HLN := hid hln2
          clear hA6 hW6 hln2
          go_wp2_with fail
          refine hrc2.out.mono ?_
          clear hrc2
          intro x w7 hh
          obtain ⟨hx7, hA7, hW7, hT7⟩ := hh
          subst x
          go_wp2_with fail
          go_ret
          exact passPost_mk HF2.out hA7 (by rw [← HLN.out, ← Bool.or_assoc]; exact hW7) (((Two.of_below hbel).trans hT6).trans hT7)
      have q2 : ((ci.ins.op : Int) == 20) = false := by simp; omega
      have HF : Hid (passF fs k ci = reachF fs (k + 1) ⟨r', [a', b', c', e'], d', [t0, t1, t2, t3, t4, t5, t6, t7], false⟩) := hid (by rw [HP.out, if_neg (by simp), if_neg o0, if_neg o19, if_neg o20])
      have hrc := hid (reach_any bw bf cap (k + 1) fs ⟨r', [a', b', c', e'], d', [t0, t1, t2, t3, t4, t5, t6, t7], false⟩ ch _ wc HA.out hok hnx2 HGOK.out HW.out hne)
      simp only [frL, List.map_cons, List.map_nil, List.cons_append, List.nil_append, numV] at hrc
      clear o0 o19 o20
      rw [show (((k + 1 : Nat)) : Int) = (k : Int) + 1 by omega] at hrc
      have hk200 : (k : Int) + 1 ≤ 200 := by omega
      go_wp2_with fail
      refine hrc.out.mono ?_
      clear hrc
      intro x w6 hh
      obtain ⟨hx6, hA6, hW6, hT6⟩ := hh
      subst x
      go_wp2_with fail
      go_ret
      exact passPost_mk HF.out hA6 hW6 ((Two.of_below hbel).trans hT6)
/-- The type of local j. -/
def lk (b : ByteArray) (j : Nat) : Nat := kindN (byteAt b j)
structure Wit (R : ByteArray → ByteArray → Prop) (f : Fr) : Prop where
  wrong : f.wrong = false
  one : ∃ lo st, R lo st ∧ Stk f (tl st)
  lo : ∀ j, j < 4 → (∃ lo st, R lo st ∧ f.lo.getD j 0 = lk lo j) ∨ (f.lo.getD j 0 = 2 ∧ ∃ lo st lo' st', R lo st ∧ R lo' st' ∧ lk lo j ≠ lk lo' j)
theorem Wit.mono {R R' : ByteArray → ByteArray → Prop} {f : Fr} (h : Wit R f) (hr : ∀ lo st, R lo st → R' lo st) : Wit R' f := by
  refine ⟨h.wrong, ?_, fun j hj => ?_⟩
  · obtain ⟨lo, st, a, b⟩ := h.one
    exact ⟨lo, st, hr _ _ a, b⟩
  · rcases h.lo j hj with ⟨lo, st, a, b⟩ | ⟨a, lo, st, lo', st', b, c, d⟩
    · exact .inl ⟨lo, st, hr _ _ a, b⟩
    · exact .inr ⟨a, lo, st, lo', st', hr _ _ b, hr _ _ c, d⟩
def At (l : List Ins) (L k : Nat) (lo st : ByteArray) : Prop := Reach l L ⟨k, lo, st⟩
def Sound (l : List Ins) (L : Nat) (fs : List Fr) : Prop := ∀ k f, fs[k]? = some f → f.reached = true → Wit (At l L k) f
theorem reach_ok {l : List Ins} {L : Nat} (hw : Wf l L) {p : Pt} (h : Reach l L p) : Okp l L p := by
  obtain ⟨n, hn⟩ := h
  induction n generalizing p with
  | zero => rw [show p = initP L from hn]; exact init_ok hw
  | succ n ih =>
    obtain ⟨q, ss, h1, h2, h3⟩ := hn
    exact step_ok hw (ih h1) h2 h3
theorem kindN_inj {l : List Ins} {L n : Nat} {p q : Pt} (hp : Okp l L p) (hq : Okp l L q) (hn : n < L) (h : lk p.lo n = lk q.lo n) : byteAt p.lo n = byteAt q.lo n := by
  obtain ⟨c, c1, c2, _⟩ := tl_get (b := p.lo) (n := n) (by rw [hp.lo]; exact hn)
  obtain ⟨d, d1, d2, _⟩ := tl_get (b := q.lo) (n := n) (by rw [hq.lo]; exact hn)
  unfold lk at h
  rw [c2, d2] at h ⊢
  rw [code8_inj (hp.llo c (List.mem_of_getElem? c1)) (hq.llo d (List.mem_of_getElem? d1)) h]
theorem calm_st {i : Ins} {p q : Pt} (h : clashB i p q = false) (he : p.at_ = q.at_) : p.st = q.st ∧ (i.op = 7 → byteAt p.lo i.n = byteAt q.lo i.n) := by
  simp only [clashB, he, beq_self_eq_true, Bool.true_and, Bool.or_eq_false_iff, Bool.not_eq_false', decide_eq_true_eq, Bool.and_eq_false_iff, beq_eq_false_iff_ne, beq_iff_eq] at h
  refine ⟨h.1.symm, fun h7 => ?_⟩
  rcases h.2 with h2 | h2
  · exact absurd h7 h2
  · exact h2.symm
theorem store_tl {lo st : ByteArray} {n : Nat} (hn : n < lo.size) (hp : 1 ≤ st.size) : ∃ c, byteAt st (st.size - 1) = c.toNat ∧ tl (lo.extract 0 n ++ st.extract (st.size - 1) st.size ++ lo.extract (n + 1) lo.size) = (tl lo).set n c := by
  rcases nil_or_snoc (tl st) with e | ⟨s0, d, e⟩
  · have : st.size = 0 := by rw [← tl_len, e]; rfl
    omega
  · obtain ⟨z, z1, z2, z3⟩ := tl_last e
    refine ⟨d, z3, ?_⟩
    rw [tl_append, tl_append, z1, tl_extract, tl_extract]
    have hl : n < (tl lo).length := hn
    rw [List.set_eq_take_append_cons_drop, if_pos hl, show lo.size = (tl lo).length from rfl]
    rw [List.take_of_length_le (l := (tl lo).drop (n + 1)) (by simp)]
    simp
theorem aft_lk {f : Fr} {lo st : ByteArray} {op n : Nat} (h : Ago f lo st op n) (hn : op = 8 → n < lo.size) (j : Nat) : lk (afterV lo st op n).1 j = if op = 8 ∧ j = n then kindN (byteAt st (st.size - 1)) else lk lo j := by
  rw [h.lv]
  by_cases e8 : op = 8
  · rw [if_pos e8]
    obtain ⟨c, c1, c2⟩ := store_tl (hn e8) (h.pos e8)
    have hb : ∀ b : ByteArray, byteAt b j = ((tl b).getD j 0).toNat := fun _ => rfl
    unfold lk
    rw [hb, c2, List.getD_eq_getElem?_getD, List.getElem?_set]
    by_cases hj : j = n
    · subst hj
      rw [if_pos rfl, if_pos (show j < (tl lo).length from hn e8), if_pos ⟨e8, rfl⟩, c1]; rfl
    · rw [if_neg (fun e => hj e.symm), if_neg (fun e => hj e.2), ← List.getD_eq_getElem?_getD]; rfl
  · rw [if_neg e8, if_neg (fun e => e8 e.1)]
theorem loAft_get {lo : List Nat} {st : ByteArray} {op n : Nat} (hl : op = 8 → n < lo.length) (j : Nat) : (loAft lo st op n).getD j 0 = if op = 8 ∧ j = n then kindN (byteAt st (st.size - 1)) else lo.getD j 0 := by
  unfold loAft
  by_cases e8 : op = 8
  · rw [if_pos e8, List.getD_eq_getElem?_getD, List.getElem?_set]
    by_cases hj : j = n
    · subst hj
      rw [if_pos rfl, if_pos (hl e8), if_pos ⟨e8, rfl⟩]; rfl
    · rw [if_neg (fun e => hj e.symm), if_neg (fun e => hj e.2), ← List.getD_eq_getElem?_getD]
  · rw [if_neg e8, if_neg (fun e => e8 e.1)]
/-- Where the code is well typed, a frame that is found on some way is good for every point there. -/
theorem ago_all {l : List Ins} {L k : Nat} (hw : Wf l L) (hwt : WT l L) {i : Ins} (hi : l[k]? = some i) {f : Fr} (hf : Wit (At l L k) f) {lo st : ByteArray} (hr : At l L k lo st) : Ago f lo st i.op i.n := by
  have hm : i ∈ l := List.mem_of_getElem? hi
  have hok := reach_ok hw hr
  have calm : ∀ lo' st', At l L k lo' st' → st' = st ∧ (i.op = 7 → byteAt lo' i.n = byteAt lo i.n) := fun lo' st' h' =>
    calm_st (p := ⟨k, lo', st'⟩) (q := ⟨k, lo, st⟩) (hwt.2 _ _ i h' hr rfl hi) rfl
  have hL := hw.loc
  have harg := hw.arg i hm
  have hlo : lo.size = L := hok.lo
  obtain ⟨lo0, st0, h0, hs0⟩ := hf.one
  rw [(calm _ _ h0).1] at hs0
  have h7 : i.op = 7 → f.lo.getD i.n 0 = kindN (byteAt lo i.n) := by
    intro e7
    have hn := harg (.inl e7)
    rcases hf.lo i.n (by omega) with ⟨lo1, st1, h1, e1⟩ | ⟨_, lo1, st1, lo2, st2, h1, h2, e1⟩
    · rw [e1]; unfold lk; rw [(calm _ _ h1).2 e7]
    · exfalso; apply e1
      unfold lk
      rw [(calm _ _ h1).2 e7, (calm _ _ h2).2 e7]
  rcases aft_both hs0 hf.wrong hok.lst (fun h => by rw [hlo]; exact harg h) (by omega) h7 with h | h
  · exact h
  · exfalso
    have := hwt.1 _ hr
    rw [stepP_eq (p := ⟨k, lo, st⟩) hi, if_pos h.1] at this
    exact this rfl
/-- What is found behind instruction i, at k. -/
def Behind (l : List Ins) (L k : Nat) (i : Ins) (lo st : ByteArray) : Prop := ∃ lo0 st0, At l L k lo0 st0 ∧ (afterV lo0 st0 i.op i.n).2.2 = true ∧ (afterV lo0 st0 i.op i.n).2.1.size ≤ 8 ∧ lo = (afterV lo0 st0 i.op i.n).1 ∧ st = (afterV lo0 st0 i.op i.n).2.1
theorem wit_step {l : List Ins} {L k : Nat} (hw : Wf l L) (hwt : WT l L) {i : Ins} (hi : l[k]? = some i) {f : Fr} (hok : FrOk f) (hf : Wit (At l L k) f) : Wit (Behind l L k i) (afterF f i.op i.n) := by
  have hm : i ∈ l := List.mem_of_getElem? hi
  have harg := hw.arg i hm
  have hL := hw.loc
  have hall : ∀ lo st, At l L k lo st → Ago f lo st i.op i.n ∧ Behind l L k i (afterV lo st i.op i.n).1 (afterV lo st i.op i.n).2.1 ∧ ∀ j, lk (afterV lo st i.op i.n).1 j = if i.op = 8 ∧ j = i.n then kindN (byteAt st (st.size - 1)) else lk lo j := fun lo st h =>
    have ha := ago_all hw hwt hi hf h
    ⟨ha, ⟨lo, st, h, ha.ok, ha.sm, rfl, rfl⟩, aft_lk ha (fun e => by rw [(reach_ok hw h).lo]; exact harg (.inr e))⟩
  obtain ⟨lo0, st0, h0, hs0⟩ := hf.one
  obtain ⟨g0, b0, k0⟩ := hall _ _ h0
  refine ⟨g0.wr, ⟨_, _, b0, g0.sk⟩, fun j hj => ?_⟩
  rw [g0.fl, loAft_get (fun e => by have := harg (.inr e); rw [hok.lo]; omega)]
  by_cases hc : i.op = 8 ∧ j = i.n
  · rw [if_pos hc]
    refine .inl ⟨_, _, b0, ?_⟩
    rw [k0, if_pos hc]
  · rw [if_neg hc]
    rcases hf.lo j hj with ⟨lo1, st1, h1, e1⟩ | ⟨e2, lo1, st1, lo2, st2, h1, h2, e1⟩
    · obtain ⟨_, b1, k1⟩ := hall _ _ h1
      exact .inl ⟨_, _, b1, by rw [k1, if_neg hc]; exact e1⟩
    · obtain ⟨_, b1, k1⟩ := hall _ _ h1
      obtain ⟨_, b2, k2⟩ := hall _ _ h2
      exact .inr ⟨e2, _, _, _, _, b1, b2, by rw [k1, k2, if_neg hc, if_neg hc]; exact e1⟩
theorem zip_get {a b : List Nat} (ha : a.length = 4) (hb : b.length = 4) {j : Nat} (hj : j < 4) : (List.zipWith joinN a b).getD j 0 = joinN (a.getD j 0) (b.getD j 0) := by
  have h1 : j < a.length := by omega
  have h2 : j < b.length := by omega
  simp [List.getD_eq_getElem?_getD, List.getElem?_zipWith, List.getElem?_eq_getElem h1, List.getElem?_eq_getElem h2]
theorem reach_sound {l : List Ins} {L k : Nat} (hwt : WT l L) {fs : List Fr} {way : Fr} (hok : AllOk fs) (hway : FrOk way) (hs : Sound l L fs) (hlen : fs.length = l.length) (hk : k < fs.length) (h : Wit (At l L k) way) :
    (reachF fs k way).2.2 = true ∧ Sound l L (reachF fs k way).1 := by
  have hset : ∀ g : Fr, Wit (At l L k) g → Sound l L (fs.set k g) := by
    intro g hg m f hm hr
    rw [List.getElem?_set] at hm
    by_cases e : k = m
    · subst e
      rw [if_pos rfl, if_pos hk] at hm
      cases hm; exact hg
    · rw [if_neg e] at hm
      exact hs m f hm hr
  have hkn : fs[k]? = some fs[k] := List.getElem?_eq_getElem hk
  unfold reachF
  rw [hkn]
  simp only
  by_cases hr : fs[k].reached = false
  · rw [if_pos hr]
    exact ⟨rfl, hset _ ⟨h.wrong, by obtain ⟨a, b, c, d⟩ := h.one; exact ⟨a, b, c, ⟨d.le, d.depth, d.stk⟩⟩, h.lo⟩⟩
  rw [if_neg hr]
  have hr' : fs[k].reached = true := by simpa using hr
  have hknw := hs k _ hkn hr'
  have hkok := hok _ (List.getElem_mem hk)
  obtain ⟨lo1, st1, a1, b1⟩ := hknw.one
  obtain ⟨lo2, st2, a2, b2⟩ := h.one
  have hk2 : k < l.length := by omega
  have est : st1 = st2 := (calm_st (p := ⟨k, lo1, st1⟩) (q := ⟨k, lo2, st2⟩) (hwt.2 _ _ _ a1 a2 rfl (List.getElem?_eq_getElem hk2)) rfl).1
  rw [est] at b1
  rw [if_neg (by
    rintro (e | e)
    · exact e (b1.depth.trans b2.depth.symm)
    · exact e (b1.stk.trans b2.stk.symm))]
  by_cases hj : fs[k].lo = List.zipWith joinN fs[k].lo way.lo
  · rw [if_pos hj]; exact ⟨rfl, hs⟩
  rw [if_neg hj]
  refine ⟨rfl, hset _ ⟨h.wrong, ⟨lo2, st2, a2, ⟨b2.le, b2.depth, b2.stk⟩⟩, fun j hj4 => ?_⟩⟩
  simp only
  rw [zip_get hkok.lo hway.lo hj4]
  by_cases e : fs[k].lo.getD j 0 = way.lo.getD j 0
  · rw [joinN_eq e]; exact hknw.lo j hj4
  rw [joinN_ne e]
  refine .inr ⟨rfl, ?_⟩
  rcases hknw.lo j hj4 with ⟨lo3, st3, h3, e3⟩ | ⟨_, t⟩
  · rcases h.lo j hj4 with ⟨lo4, st4, h4, e4⟩ | ⟨_, t⟩
    · exact ⟨lo3, st3, lo4, st4, h3, h4, by rw [← e3, ← e4]; exact e⟩
    · exact t
  · exact t
theorem aims_get {l : List Ins} {k : Nat} {i : Ins} (h : l[k]? = some i) : (aims l)[k]? = some ⟨i, aimOf l i⟩ := by
  unfold aims; rw [List.getElem?_map, h]; rfl
/-- A point behind instruction i, at k, is reached at each next instruction. -/
theorem behind_jump {l : List Ins} {L k : Nat} {i : Ins} (hi : l[k]? = some i) (hj : i.op = 19 ∨ i.op = 20) {lo st : ByteArray} (h : Behind l L k i lo st) : At l L (aimOf l i) lo st := by
  obtain ⟨lo0, st0, h0, e1, e2, rfl, rfl⟩ := h
  have hjj : isJump i.op = true := by unfold isJump; rcases hj with e | e <;> rw [e] <;> rfl
  refine Reach.step h0 (stepP_eq (p := ⟨k, lo0, st0⟩) hi ▸ if_neg (by rintro (e | e); · rw [e1] at e; cases e
                                                                      · simp only at e; omega)) ?_
  rw [if_pos hjj, List.mem_append]
  refine .inl ?_
  rw [List.mem_singleton, show aimOf l i = (findP i.n l 0).toNat by unfold aimOf; rw [if_pos hjj]]
theorem behind_next {l : List Ins} {L k : Nat} {i : Ins} (hi : l[k]? = some i) (hj : i.op ≠ 0 ∧ i.op ≠ 19) {lo st : ByteArray} (h : Behind l L k i lo st) : At l L (k + 1) lo st := by
  obtain ⟨lo0, st0, h0, e1, e2, rfl, rfl⟩ := h
  refine Reach.step h0 (stepP_eq (p := ⟨k, lo0, st0⟩) hi ▸ if_neg (by rintro (e | e); · rw [e1] at e; cases e
                                                                      · simp only at e; omega)) ?_
  rw [List.mem_append, if_pos hj]
  exact .inr (by rw [List.mem_singleton])
theorem aim_lt {l : List Ins} {L : Nat} (hw : Wf l L) {i : Ins} (hm : i ∈ l) (hj : i.op = 19 ∨ i.op = 20) : aimOf l i < l.length := by
  have hjj : isJump i.op = true := by unfold isJump; rcases hj with e | e <;> rw [e] <;> rfl
  have h0 := hw.jump i hm hjj
  have h1 := findP_lt _ l 0 h0
  unfold aimOf; rw [if_pos hjj]; omega
theorem next_lt {l : List Ins} {L k : Nat} (hw : Wf l L) {i : Ins} (hi : l[k]? = some i) (hj : i.op ≠ 0 ∧ i.op ≠ 19) : k + 1 < l.length := by
  have hk := (List.getElem?_eq_some_iff.1 hi).1
  rcases Nat.lt_or_ge (k + 1) l.length with h | h
  · exact h
  · exfalso
    have hlast := hw.last
    have h1 : lastOp l = i.op := by
      unfold lastOp
      rw [List.getLast?_eq_getElem?, show l.length - 1 = k by omega, hi]
      rfl
    simp [endsOk, h1] at hlast
    omega
theorem pass_sound {l : List Ins} {L k : Nat} (hw : Wf l L) (hwt : WT l L) {fs : List Fr} (hok : AllOk fs) (hs : Sound l L fs) (hlen : fs.length = l.length) {i : Ins} (hi : l[k]? = some i) :
    (passF fs k ⟨i, aimOf l i⟩).2.2 = true ∧ Sound l L (passF fs k ⟨i, aimOf l i⟩).1 := by
  have hk := (List.getElem?_eq_some_iff.1 hi).1
  have hm : i ∈ l := List.mem_of_getElem? hi
  have hkn : fs[k]? = some (fs[k]'(by omega)) := List.getElem?_eq_getElem (by omega)
  have hkok := hok _ (List.mem_of_getElem? hkn)
  generalize fs[k]'(by omega) = ahead at hkn hkok
  unfold passF
  rw [hkn]
  simp only
  by_cases hr : ahead.reached = false
  · rw [if_pos hr]; exact ⟨rfl, hs⟩
  rw [if_neg hr]
  have hst := wit_step hw hwt hi hkok (hs k _ hkn (by simpa using hr))
  have haok := afterF_ok hkok i.op i.n
  rw [if_neg (by rw [hst.wrong]; simp)]
  by_cases o0 : i.op = 0
  · rw [if_pos o0]; exact ⟨rfl, hs⟩
  rw [if_neg o0]
  by_cases o19 : i.op = 19
  · rw [if_pos o19]
    exact reach_sound hwt hok haok hs hlen (by rw [hlen]; exact aim_lt hw hm (.inl o19)) (hst.mono fun _ _ h => behind_jump hi (.inl o19) h)
  rw [if_neg o19]
  have hnx := next_lt hw hi ⟨o0, o19⟩
  by_cases o20 : i.op = 20
  · rw [if_pos o20]
    obtain ⟨a, b⟩ := reach_sound hwt hok haok hs hlen (by rw [hlen]; exact aim_lt hw hm (.inr o20)) (hst.mono fun _ _ h => behind_jump hi (.inr o20) h)
    rw [if_neg (by rw [a]; simp)]
    exact reach_sound hwt (reachF_ok hok haok) haok b (by rw [reachF_len]; exact hlen) (by rw [reachF_len]; omega) (hst.mono fun _ _ h => behind_next hi ⟨o0, o19⟩ h)
  rw [if_neg o20]
  exact reach_sound hwt hok haok hs hlen (by omega) (hst.mono fun _ _ h => behind_next hi ⟨o0, o19⟩ h)
/-- The frame tells of the point. -/
structure Cov (f : Fr) (lo st : ByteArray) : Prop where
  reached : f.reached = true
  sk : Stk f (tl st)
  lo : ∀ j, j < 4 → f.lo.getD j 0 = lk lo j ∨ f.lo.getD j 0 = 2
def CovAt (fs : List Fr) (k : Nat) (lo st : ByteArray) : Prop := ∃ f, fs[k]? = some f ∧ Cov f lo st
theorem reach_keep {fs : List Fr} (hok : AllOk fs) {k m : Nat} {way : Fr} (hway : FrOk way) {lo st : ByteArray} (h : CovAt fs m lo st) : CovAt (reachF fs k way).1 m lo st := by
  obtain ⟨f, hf, hc⟩ := h
  unfold reachF
  cases hk : fs[k]? with
  | none => exact ⟨f, hf, hc⟩
  | some known =>
    simp only
    by_cases e : k = m
    · subst e
      rw [hf] at hk
      cases hk
      have hlt := (List.getElem?_eq_some_iff.1 hf).1
      have hfo := hok f (List.mem_of_getElem? hf)
      rw [if_neg (by rw [hc.reached]; simp)]
      by_cases h1 : f.depth ≠ way.depth ∨ f.stk ≠ way.stk
      · rw [if_pos h1]; exact ⟨f, hf, hc⟩
      rw [if_neg h1]
      simp only [not_or, ne_eq, Decidable.not_not] at h1
      by_cases h2 : f.lo = List.zipWith joinN f.lo way.lo
      · rw [if_pos h2]; exact ⟨f, hf, hc⟩
      rw [if_neg h2]
      refine ⟨_, List.getElem?_set_self hlt, ⟨rfl, ⟨hc.sk.le, h1.1 ▸ hc.sk.depth, h1.2 ▸ hc.sk.stk⟩, fun j hj => ?_⟩⟩
      simp only
      rw [zip_get hfo.lo hway.lo hj]
      unfold joinN
      by_cases h3 : f.lo.getD j 0 = way.lo.getD j 0
      · rw [if_pos h3]; exact hc.lo j hj
      · rw [if_neg h3]; exact .inr rfl
    · have hset : ∀ g : Fr, CovAt (fs.set k g) m lo st := fun g => ⟨f, by rw [List.getElem?_set_ne e]; exact hf, hc⟩
      split
      · exact hset _
      split
      · exact ⟨f, hf, hc⟩
      split
      · exact ⟨f, hf, hc⟩
      · exact hset _
def nz (a : Nat) : Nat := if a = 2 then 0 else 1
def worth (f : Fr) : Nat := if f.reached = false then 5 else (f.lo.map nz).sum
def pot (fs : List Fr) : Nat := (fs.map worth).sum
theorem nz_le (a : Nat) : nz a ≤ 1 := by unfold nz; split <;> omega
theorem nz_join (a b : Nat) : nz (joinN a b) ≤ nz a ∧ (joinN a b ≠ a → nz (joinN a b) < nz a) := by
  unfold joinN
  by_cases h : a = b
  · rw [if_pos h]; exact ⟨Nat.le_refl _, fun e => absurd rfl e⟩
  · rw [if_neg h]
    refine ⟨by simp [nz], fun e => ?_⟩
    simp only [nz, if_true]
    rw [if_neg (fun e2 => e e2.symm)]; omega
theorem worth_le {f : Fr} (h : f.lo.length = 4) (hr : f.reached = true) : worth f ≤ 4 := by
  unfold worth
  rw [if_neg (by rw [hr]; simp)]
  obtain ⟨a, b, c, d, e⟩ := four h
  have h0 := nz_le a
  have h1 := nz_le b
  have h2 := nz_le c
  have h3 := nz_le d
  rw [e]; simp only [List.map_cons, List.map_nil, List.sum_cons, List.sum_nil]; omega
theorem sum_join {x y : List Nat} (hx : x.length = 4) (hy : y.length = 4) (h : x ≠ List.zipWith joinN x y) : ((List.zipWith joinN x y).map nz).sum < (x.map nz).sum := by
  obtain ⟨a, b, c, d, rfl⟩ := four hx
  obtain ⟨a', b', c', d', rfl⟩ := four hy
  simp only [List.zipWith_cons_cons, List.zipWith_nil_left, List.map_cons, List.map_nil, List.sum_cons, List.sum_nil]
  obtain ⟨p0, q0⟩ := nz_join a a'
  obtain ⟨p1, q1⟩ := nz_join b b'
  obtain ⟨p2, q2⟩ := nz_join c c'
  obtain ⟨p3, q3⟩ := nz_join d d'
  by_cases e0 : joinN a a' = a
  · by_cases e1 : joinN b b' = b
    · by_cases e2 : joinN c c' = c
      · by_cases e3 : joinN d d' = d
        · exfalso; apply h
          simp [e0, e1, e2, e3]
        · have := q3 e3; omega
      · have := q2 e2; omega
    · have := q1 e1; omega
  · have := q0 e0; omega
theorem pot_set {fs : List Fr} {k : Nat} {f g : Fr} (h : fs[k]? = some f) : pot (fs.set k g) + worth f = pot fs + worth g := by
  induction fs generalizing k with
  | nil => simp at h
  | cons a r ih =>
    cases k with
    | zero =>
      simp only [List.getElem?_cons_zero, Option.some.injEq] at h
      subst h
      simp only [pot, List.set_cons_zero, List.map_cons, List.sum_cons]; omega
    | succ k =>
      have := ih (k := k) (by simpa using h)
      simp only [pot, List.set_cons_succ, List.map_cons, List.sum_cons] at *; omega
def one (b : Bool) : Nat := if b = true then 1 else 0
theorem reach_pot {fs : List Fr} (hok : AllOk fs) {k : Nat} {way : Fr} (hway : FrOk way) : pot (reachF fs k way).1 + one (reachF fs k way).2.1 ≤ pot fs := by
  unfold reachF
  cases hk : fs[k]? with
  | none => simp [one]
  | some known =>
    have hkn := hok known (List.mem_of_getElem? hk)
    simp only
    by_cases hr : known.reached = false
    · rw [if_pos hr]
      have h1 := pot_set (g := { way with reached := true }) hk
      have h2 := worth_le (f := { way with reached := true }) hway.lo rfl
      have h3 : worth known = 5 := by unfold worth; rw [if_pos hr]
      simp only [one, if_true]; omega
    rw [if_neg hr]
    split
    · simp [one]
    split
    · simp [one]
    · rename_i h
      have h1 := pot_set (g := { way with reached := true, lo := List.zipWith joinN known.lo way.lo }) hk
      have h2 := sum_join hkn.lo hway.lo h
      have h3 : worth known = (known.lo.map nz).sum := by unfold worth; rw [if_neg hr]
      have h4 : worth { way with reached := true, lo := List.zipWith joinN known.lo way.lo } = ((List.zipWith joinN known.lo way.lo).map nz).sum := by unfold worth; rw [if_neg (by simp)]
      simp only [one, if_true]; omega
theorem reach_same {fs : List Fr} {k : Nat} {way : Fr} (h : (reachF fs k way).2.1 = false) : (reachF fs k way).1 = fs := by
  unfold reachF at *
  cases hk : fs[k]? with
  | none => rfl
  | some known =>
    simp only [hk] at *
    split at h
    · cases h
    rename_i h1
    rw [if_neg h1]
    split at h
    · rename_i h2; rw [if_pos h2]
    rename_i h2
    rw [if_neg h2]
    split at h
    · rename_i h3; rw [if_pos h3]
    · cases h
/-- What holds of a pass, by what holds of a reach. -/
theorem pass_ind {fs : List Fr} (hok : AllOk fs) {k : Nat} {ci : CI} (P : List Fr → Bool → Prop) (h0 : P fs false) (hr : ∀ fs' c t way, AllOk fs' → FrOk way → P fs' c → P (reachF fs' t way).1 (c || (reachF fs' t way).2.1)) : P (passF fs k ci).1 (passF fs k ci).2.1 := by
  unfold passF
  cases hk : fs[k]? with
  | none => exact h0
  | some ahead =>
    have hkn := hok ahead (List.mem_of_getElem? hk)
    have haok := afterF_ok hkn ci.ins.op ci.ins.n
    have h1 : ∀ t, P (reachF fs t (afterF ahead ci.ins.op ci.ins.n)).1 (reachF fs t (afterF ahead ci.ins.op ci.ins.n)).2.1 := fun t => by
      have := hr fs false t _ hok haok h0
      rwa [Bool.false_or] at this
    simp only
    split
    · exact h0
    split
    · exact h0
    split
    · exact h0
    split
    · exact h1 _
    split
    · split
      · exact h1 _
      · exact hr _ _ _ _ (reachF_ok hok haok) haok (h1 _)
    · exact h1 _
theorem passF_ok {fs : List Fr} (hok : AllOk fs) {k : Nat} {ci : CI} : AllOk (passF fs k ci).1 :=
  pass_ind hok (fun fs' _ => AllOk fs') hok (fun _ _ _ _ h hw _ => reachF_ok h hw)
theorem passF_len {fs : List Fr} (hok : AllOk fs) {k : Nat} {ci : CI} : (passF fs k ci).1.length = fs.length :=
  pass_ind hok (fun fs' _ => fs'.length = fs.length) rfl (fun _ _ _ _ _ _ h => by rw [reachF_len]; exact h)
theorem pass_keep {fs : List Fr} (hok : AllOk fs) {k m : Nat} {ci : CI} {lo st : ByteArray} (h : CovAt fs m lo st) : CovAt (passF fs k ci).1 m lo st :=
  pass_ind hok (fun fs' _ => CovAt fs' m lo st) h (fun _ _ _ _ ho hw hc => reach_keep ho hw hc)
theorem pass_pot {fs : List Fr} (hok : AllOk fs) {k : Nat} {ci : CI} : pot (passF fs k ci).1 + one (passF fs k ci).2.1 ≤ pot fs :=
  pass_ind hok (fun fs' c => pot fs' + one c ≤ pot fs) (by simp [one]) (fun fs' c t way ho hw hc => by
    have := reach_pot (k := t) ho hw
    cases c
    · rw [Bool.false_or]; simp only [one] at *; omega
    · rw [Bool.true_or]; simp only [one] at *; omega)
theorem pass_same {fs : List Fr} (hok : AllOk fs) {k : Nat} {ci : CI} (h : (passF fs k ci).2.1 = false) : (passF fs k ci).1 = fs :=
  pass_ind hok (fun fs' c => c = false → fs' = fs) (fun _ => rfl) (fun fs' c t way _ _ hc h2 => by
    rw [Bool.or_eq_false_iff] at h2
    rw [reach_same h2.2]; exact hc h2.1) h
def Still (l : List Ins) (fs : List Fr) : Prop := ∀ (k : Nat) (i : Ins), l[k]? = some i → (passF fs k ⟨i, aimOf l i⟩).2.1 = false ∧ (passF fs k ⟨i, aimOf l i⟩).2.2 = true
theorem reach_cov {fs : List Fr} (hok : AllOk fs) {t : Nat} {way : Fr} (hway : FrOk way) (h1 : (reachF fs t way).2.1 = false) (h2 : (reachF fs t way).2.2 = true) {lo st : ByteArray} (hs : Stk way (tl st)) (hl : ∀ j, j < 4 → way.lo.getD j 0 = lk lo j ∨ way.lo.getD j 0 = 2) : CovAt fs t lo st := by
  unfold reachF at *
  cases hk : fs[t]? with
  | none => rw [hk] at h2; cases h2
  | some g =>
    have hg := hok g (List.mem_of_getElem? hk)
    simp only [hk] at h1 h2
    by_cases hr : g.reached = false
    · rw [if_pos hr] at h1; cases h1
    rw [if_neg hr] at h1 h2
    by_cases hd : g.depth ≠ way.depth ∨ g.stk ≠ way.stk
    · rw [if_pos hd] at h2; cases h2
    rw [if_neg hd] at h1 h2
    by_cases hj : g.lo = List.zipWith joinN g.lo way.lo
    · simp only [not_or, ne_eq, Decidable.not_not] at hd
      refine ⟨g, hk, ⟨by simpa using hr, ⟨hs.le, hd.1 ▸ hs.depth, hd.2 ▸ hs.stk⟩, fun j hj4 => ?_⟩⟩
      have e := congrArg (fun x => x.getD j 0) hj
      rw [zip_get hg.lo hway.lo hj4] at e
      unfold joinN at e
      by_cases e3 : g.lo.getD j 0 = way.lo.getD j 0
      · rw [e3]; exact hl j hj4
      · rw [if_neg e3] at e; exact .inr e
    · rw [if_neg hj] at h1; cases h1
theorem afterF_wrong {f : Fr} (h : f.wrong = true) (op n : Nat) : (afterF f op n).wrong = true := by
  unfold afterF
  split
  · unfold loadF
    split
    · rfl
    · apply pushF_wrong
      split
      · rfl
      · exact h
  split
  · unfold storeF
    split
    · rfl
    · exact popF_wrong h
  split
  · exact pushF_wrong (pushF_wrong (popF_wrong h) _) _
  split
  · exact popF_wrong h
  split
  · exact pushF_wrong (pushF_wrong (popF_wrong (popF_wrong h)) _) _
  · exact pushR_wrong _ (popR_wrong _ h)
/-- A frame that tells of a point goes with it through its instruction. -/
theorem still_step {l : List Ins} {L : Nat} (hw : Wf l L) {fs : List Fr} (hok : AllOk fs) (hst : Still l fs) {p : Pt} {i : Ins} (hp : Okp l L p) (hi : l[p.at_]? = some i) (hc : CovAt fs p.at_ p.lo p.st) :
    ∃ f, fs[p.at_]? = some f ∧ Cov f p.lo p.st ∧ Ago f p.lo p.st i.op i.n ∧ (i.op = 7 → f.lo.getD i.n 0 = lk p.lo i.n) ∧
      (i.op = 19 ∨ i.op = 20 → CovAt fs (aimOf l i) (afterV p.lo p.st i.op i.n).1 (afterV p.lo p.st i.op i.n).2.1) ∧
      (i.op ≠ 0 ∧ i.op ≠ 19 → CovAt fs (p.at_ + 1) (afterV p.lo p.st i.op i.n).1 (afterV p.lo p.st i.op i.n).2.1) := by
  obtain ⟨f, hf, hcv⟩ := hc
  have hm : i ∈ l := List.mem_of_getElem? hi
  have harg := hw.arg i hm
  have hL := hw.loc
  have hfo := hok f (List.mem_of_getElem? hf)
  obtain ⟨s1, s2⟩ := hst _ _ hi
  unfold passF at s1 s2
  simp only [hf] at s1 s2
  rw [if_neg (by rw [hcv.reached]; simp)] at s1 s2
  by_cases hwr : (afterF f i.op i.n).wrong = true
  · rw [if_pos hwr] at s2; cases s2
  rw [if_neg hwr] at s1 s2
  have hfw : f.wrong = false := by
    cases e : f.wrong
    · rfl
    · exact absurd (afterF_wrong e _ _) hwr
  have h7 : i.op = 7 → f.lo.getD i.n 0 = lk p.lo i.n := by
    intro e7
    have hn := harg (.inl e7)
    rcases hcv.lo i.n (by omega) with h | h
    · exact h
    · exfalso; apply hwr; rw [e7]; exact load_mixed h
  have hg : Ago f p.lo p.st i.op i.n := by
    rcases aft_both hcv.sk hfw hp.lst (fun h => by rw [hp.lo]; exact harg h) (by rw [hp.lo]; omega) h7 with h | h
    · exact h
    · exact absurd h.2 hwr
  have haok := afterF_ok hfo i.op i.n
  have hlo : ∀ j, j < 4 → (afterF f i.op i.n).lo.getD j 0 = lk (afterV p.lo p.st i.op i.n).1 j ∨ (afterF f i.op i.n).lo.getD j 0 = 2 := by
    intro j hj
    rw [hg.fl, loAft_get (fun e => by have := harg (.inr e); rw [hfo.lo]; omega), aft_lk hg (fun e => by rw [hp.lo]; exact harg (.inr e))]
    by_cases hcc : i.op = 8 ∧ j = i.n
    · rw [if_pos hcc, if_pos hcc]; exact .inl rfl
    · rw [if_neg hcc, if_neg hcc]; exact hcv.lo j hj
  refine ⟨f, hf, hcv, hg, h7, fun hj => ?_, fun hj => ?_⟩
  · have o0 : i.op ≠ 0 := by omega
    rw [if_neg o0] at s1 s2
    by_cases o19 : i.op = 19
    · rw [if_pos o19] at s1 s2
      exact reach_cov hok haok s1 s2 hg.sk hlo
    · rw [if_neg o19] at s1 s2
      have o20 : i.op = 20 := by omega
      rw [if_pos o20] at s1 s2
      by_cases e : (reachF fs (aimOf l i) (afterF f i.op i.n)).2.2 = false
      · rw [if_pos e, e] at s2; cases s2
      · rw [if_neg e] at s1 s2
        simp only [Bool.or_eq_false_iff] at s1
        exact reach_cov hok haok s1.1 (by simpa using e) hg.sk hlo
  · rw [if_neg hj.1, if_neg hj.2] at s1 s2
    by_cases o20 : i.op = 20
    · rw [if_pos o20] at s1 s2
      by_cases e : (reachF fs (aimOf l i) (afterF f i.op i.n)).2.2 = false
      · rw [if_pos e, e] at s2; cases s2
      · rw [if_neg e] at s1 s2
        simp only [Bool.or_eq_false_iff] at s1
        rw [reach_same s1.1] at s1 s2
        exact reach_cov hok haok s1.2 s2 hg.sk hlo
    · rw [if_neg o20] at s1 s2
      exact reach_cov hok haok s1 s2 hg.sk hlo
theorem still_all {l : List Ins} {L : Nat} (hw : Wf l L) {fs : List Fr} (hok : AllOk fs) (hst : Still l fs) (h0 : CovAt fs 0 (initP L).lo (initP L).st) {p : Pt} (h : Reach l L p) : CovAt fs p.at_ p.lo p.st := by
  obtain ⟨n, hn⟩ := h
  induction n generalizing p with
  | zero => rw [show p = initP L from hn]; exact h0
  | succ n ih =>
    obtain ⟨q, ss, h1, h2, h3⟩ := hn
    have hq := reach_ok hw ⟨n, h1⟩
    have hi : l[q.at_]? = some (l[q.at_]'hq.at_) := List.getElem?_eq_getElem hq.at_
    obtain ⟨f, _, _, hg, _, j1, j2⟩ := still_step hw hok hst hq hi (ih h1)
    rw [stepP_eq hi, if_neg (by
      rintro (e | e)
      · rw [hg.ok] at e; cases e
      · have := hg.sm; omega)] at h2
    simp only [Option.some.injEq] at h2
    subst h2
    rw [List.mem_append] at h3
    rcases h3 with h3 | h3
    · by_cases hj : isJump (l[q.at_]'hq.at_).op = true
      · rw [if_pos hj, List.mem_singleton] at h3
        subst h3
        have hj' : (l[q.at_]'hq.at_).op = 19 ∨ (l[q.at_]'hq.at_).op = 20 := by simpa [isJump] using hj
        have := j1 hj'
        unfold aimOf at this
        rw [if_pos hj] at this
        exact this
      · rw [if_neg hj] at h3; simp at h3
    · by_cases hj : (l[q.at_]'hq.at_).op ≠ 0 ∧ (l[q.at_]'hq.at_).op ≠ 19
      · rw [if_pos hj, List.mem_singleton] at h3
        subst h3
        exact j2 hj
      · rw [if_neg hj] at h3; simp at h3
theorem stk_inj {f : Fr} {a b : List UInt8} (ha : Stk f a) (hb : Stk f b) (la : ∀ c ∈ a, letter c) (lb : ∀ c ∈ b, letter c) : a = b := by
  have hz : a.length = b.length := ha.depth.symm.trans hb.depth
  have he := ha.stk.symm.trans hb.stk
  have hm : a.map code8 = b.map code8 := (List.append_inj he (by simp [hz])).1
  clear he ha hb
  induction a generalizing b with
  | nil => cases b with
    | nil => rfl
    | cons => simp at hz
  | cons x r ih => cases b with
    | nil => simp at hz
    | cons y s =>
      simp only [List.map_cons, List.cons.injEq] at hm
      rw [code8_inj (la x (by simp)) (lb y (by simp)) hm.1, ih (fun c hc => la c (by simp [hc])) (fun c hc => lb c (by simp [hc])) (by simpa using hz) hm.2]
theorem still_wt {l : List Ins} {L : Nat} (hw : Wf l L) {fs : List Fr} (hok : AllOk fs) (hst : Still l fs) (h0 : CovAt fs 0 (initP L).lo (initP L).st) : WT l L := by
  refine ⟨fun p hp => ?_, fun p q i hp hq he hi => ?_⟩
  · have ho := reach_ok hw hp
    have hi : l[p.at_]? = some (l[p.at_]'ho.at_) := List.getElem?_eq_getElem ho.at_
    obtain ⟨f, _, _, hg, _, _, _⟩ := still_step hw hok hst ho hi (still_all hw hok hst h0 hp)
    rw [stepP_eq hi, if_neg (by
      rintro (e | e)
      · rw [hg.ok] at e; cases e
      · have := hg.sm; omega)]
    simp
  · have ho := reach_ok hw hp
    have ho2 := reach_ok hw hq
    obtain ⟨f, e1, c1, _, a1, _, _⟩ := still_step hw hok hst ho hi (still_all hw hok hst h0 hp)
    obtain ⟨g, e2, c2, _, a2, _, _⟩ := still_step hw hok hst ho2 (he ▸ hi) (still_all hw hok hst h0 hq)
    rw [he, e2] at e1
    cases e1
    have es : p.st = q.st := tl_inj (stk_inj c1.sk c2.sk ho.lst ho2.lst)
    have hm : i ∈ l := List.mem_of_getElem? hi
    unfold clashB
    rw [he, es]
    simp only [beq_self_eq_true, decide_true, Bool.not_true, Bool.false_or, Bool.true_and, Bool.and_eq_false_iff, beq_eq_false_iff_ne, Bool.not_eq_false', beq_iff_eq]
    by_cases h7 : i.op = 7
    · refine .inr ?_
      exact (kindN_inj ho ho2 (hw.arg i hm (.inl h7)) ((a1 h7).symm.trans (a2 h7))).symm
    · exact .inl h7
structure SetInv (l : List Ins) (L : Nat) (fs : List Fr) : Prop where
  ok : AllOk fs
  len : fs.length = l.length
  sound : WT l L → Sound l L fs
  cov : CovAt fs 0 (initP L).lo (initP L).st
theorem SetInv.pass {l : List Ins} {L k : Nat} {fs : List Fr} {i : Ins} (hw : Wf l L) (h : SetInv l L fs) (hi : l[k]? = some i) : SetInv l L (passF fs k ⟨i, aimOf l i⟩).1 :=
  ⟨passF_ok h.ok, (passF_len h.ok).trans h.len, fun hwt => (pass_sound hw hwt h.ok (h.sound hwt) h.len hi).2, pass_keep h.ok h.cov⟩
theorem SetInv.bad {l : List Ins} {L k : Nat} {fs : List Fr} {i : Ins} (hw : Wf l L) (h : SetInv l L fs) (hi : l[k]? = some i) (hb : (passF fs k ⟨i, aimOf l i⟩).2.2 = false) : ¬ WT l L := by
  intro hwt
  rw [(pass_sound hw hwt h.ok (h.sound hwt) h.len hi).1] at hb
  cases hb
def StillTo (l : List Ins) (fs : List Fr) (n : Nat) : Prop := ∀ (k : Nat) (i : Ins), k < n → l[k]? = some i → (passF fs k ⟨i, aimOf l i⟩).2.1 = false ∧ (passF fs k ⟨i, aimOf l i⟩).2.2 = true
theorem StillTo.succ {l : List Ins} {fs : List Fr} {n : Nat} {i : Ins} (h : StillTo l fs n) (hi : l[n]? = some i) (h1 : (passF fs n ⟨i, aimOf l i⟩).2.1 = false) (h2 : (passF fs n ⟨i, aimOf l i⟩).2.2 = true) : StillTo l fs (n + 1) := by
  intro k j hk hj
  by_cases e : k = n
  · subst e
    rw [hi] at hj
    cases hj
    exact ⟨h1, h2⟩
  · exact h k j (by omega) hj
theorem StillTo.all {l : List Ins} {fs : List Fr} (h : StillTo l fs l.length) : Still l fs := fun k i hi => h k i (List.getElem?_eq_some_iff.1 hi).1 hi
theorem CiAt.two {a b g : Nat} {l : List CI} {w w' : World} (h : CiAt w g l) (ht : Two a b w w') (hg : g < w.heap.size) (h1 : g ≠ a) (h2 : g ≠ b) : CiAt w' g l := h.same (ht.block g hg h1 h2)
/-- The tables of types lie in neither block. -/
def Apart (a : Nat) : Prop := 3 ≠ a ∧ 4 ≠ a
theorem FlowTab.two {a b : Nat} {w w' : World} (h : FlowTab w) (ht : Two a b w w') (ha : Apart a) (hb : Apart b) : FlowTab w' := by
  intro k hk
  obtain ⟨h0, h1⟩ := h k hk
  have l0 := World.block_lt_of_cell? w _ h0
  have l1 := World.block_lt_of_cell? w _ h1
  exact ⟨(World.cell?_of_block (a := ⟨3, k, none⟩) (ht.block _ l0 ha.1 hb.1)).trans h0, (World.cell?_of_block (a := ⟨4, k, none⟩) (ht.block _ l1 ha.2 hb.2)).trans h1⟩
theorem pass_any {l : List Ins} {L : Nat} (hw : Wf l L) (bw bf gl cap capl k : Nat) (fs : List Fr) (i : Ins) (ch : Bool) (w : World) (hall : AllAt w bf fs) (hok : AllOk fs) (hlen : fs.length = l.length) (hi : l[k]? = some i)
    (hwalk : WalkAt w bw (.slice (some ⟨gl, 0, none⟩) l.length capl) bf l.length cap ch) (hat : CiAt w gl (aims l)) (hgl : gl < w.heap.size) (htab : FlowTab w) (hne : bw ≠ bf) :
    Calls Tryz.prog 135 #[.pointer (some ⟨bw, 0, none⟩), .int .i64 k] w (PassPost bw bf cap fs k ⟨i, aimOf l i⟩ ch (.slice (some ⟨gl, 0, none⟩) l.length capl) w) := by
  have hk := (List.getElem?_eq_some_iff.1 hi).1
  have hm : i ∈ l := List.mem_of_getElem? hi
  have hkn : fs[k]? = some (fs[k]'(by omega)) := List.getElem?_eq_getElem (by omega)
  rw [← hlen] at hwalk
  have hcl : (aims l).length = fs.length := by rw [aims_len, hlen]
  have hL := hw.loc
  have h120 := hw.len
  cases hr : (fs[k]'(by omega)).reached
  · have := pass_new bw bf gl cap capl k fs (aims l) ⟨i, aimOf l i⟩ _ ch w hall hok hkn hcl (by rw [hcl]; exact hwalk) hr
    rw [aims_len] at this
    exact this
  · have := pass_go bw bf gl cap capl k fs (aims l) ⟨i, aimOf l i⟩ _ ch w hall hok hkn hcl (by rw [hcl]; exact hwalk) hr hat hgl (aims_get hi) htab (hw.op i hm) (fun h => by have := hw.arg i hm h; simp only; omega) hne (by omega) (fun h => by rw [hlen]; exact aim_lt hw hm h) (fun h0 h1 => by rw [hlen]; exact next_lt hw hi ⟨h0, h1⟩)
    rw [aims_len] at this
    exact this
def SettlePost (l : List Ins) (L bw bf cap : Nat) (lv : Value) (w : World) (e : Ending) (w' : World) : Prop :=
  ∃ (b : Bool) (fs' : List Fr) (ch : Bool), e = .returned (.bool b) ∧ AllAt w' bf fs' ∧ WalkAt w' bw lv bf l.length cap ch ∧ Two bw bf w w' ∧ (b = true → SetInv l L fs' ∧ Still l fs') ∧ (b = false → ¬ WT l L)
theorem settle_any {l : List Ins} {L : Nat} (hw : Wf l L) (bw bf gl cap capl : Nat) (fs : List Fr) (ch : Bool) (w : World) (hall : AllAt w bf fs) (hinv : SetInv l L fs) (hst : ch = false → Still l fs)
    (hwalk : WalkAt w bw (.slice (some ⟨gl, 0, none⟩) l.length capl) bf l.length cap ch) (hat : CiAt w gl (aims l)) (hgl : gl < w.heap.size) (htab : FlowTab w) (hne : bw ≠ bf) (hgw : gl ≠ bw) (hgf : gl ≠ bf) (ha : Apart bw) (hb : Apart bf) :
    Calls Tryz.prog 112 #[.pointer (some ⟨bw, 0, none⟩)] w (SettlePost l L bw bf cap (.slice (some ⟨gl, 0, none⟩) l.length capl) w) := by
  go_enter Tryz.func112, Tryz.ntmps112
  go_wp2_with fail
  go_loopg [] (pot fs + one ch) (fun g w' => ∃ (fs' : List Fr) (c : Bool), AllAt w' bf fs' ∧ WalkAt w' bw (.slice (some ⟨gl, 0, none⟩) l.length capl) bf l.length cap c ∧ Two bw bf w w' ∧ SetInv l L fs' ∧ (c = false → Still l fs') ∧ pot fs' + one c ≤ g)
  case atStart => exact ⟨fs, ch, hall, hwalk, Two.refl _ _ _, hinv, hst, Nat.le_refl _⟩
  case round =>
    obtain ⟨fs1, c, hA, hW, hT, hI, hS, hp⟩ := hrel
    have w0 := cell_of_row wr bw 0 _ _ _ hW
    have w2 := cell_of_row wr bw 2 _ _ _ hW
    have z2 := frozen_of_row wr bw 2 _ _ hW
    simp only [List.getElem?_toArray, List.getElem?_cons_zero, List.getElem?_cons_succ] at w0 w2
    have HA := hid hA
    have HW := hid hW
    have HT := hid hT
    have HI := hid hI
    have HP := hid hp
    have HN := hid hne
    have HAT := hid hat
    have HTB := hid htab
    have HWF := hid hw
    clear hA hW hT hI hp hall hinv hst hwalk hat htab hw
    cases c
    · have HS := hid (hS rfl)
      clear hS
      go_wp2_with fail
      go_ret
      exact ⟨true, fs1, false, rfl, HA.out, HW.out, HT.out, fun _ => ⟨HI.out, HS.out⟩, fun h => by cases h⟩
    · clear hS
      have HW0 : Hid (WalkAt (wr.setCell ⟨bw, 2, none⟩ (.bool false)) bw (.slice (some ⟨gl, 0, none⟩) l.length capl) bf l.length cap false) := hid (setCell_row 2 (.bool false) HW.out)
      have HA0 : Hid (AllAt (wr.setCell ⟨bw, 2, none⟩ (.bool false)) bf fs1) := hid ((Below.heap_setCell _ _ _ _ (fun e => HN.out e.symm)).trans HA.out)
      have HT0 : Hid (Two bw bf w (wr.setCell ⟨bw, 2, none⟩ (.bool false))) := hid (HT.out.set)
      generalize hW1 : wr.setCell ⟨bw, 2, none⟩ (.bool false) = W1 at HW0 HA0 HT0
      have x0 := cell_of_row W1 bw 0 _ _ _ HW0.out
      simp only [List.getElem?_toArray, List.getElem?_cons_zero] at x0
      go_wp2_with fail
      go_loopg [16] (l.length) (fun g i w' => ∃ (k : Nat) (fs' : List Fr) (c : Bool), i = .int .i64 k ∧ k ≤ l.length ∧ g = l.length - k ∧ AllAt w' bf fs' ∧ WalkAt w' bw (.slice (some ⟨gl, 0, none⟩) l.length capl) bf l.length cap c ∧ Two bw bf w w' ∧ SetInv l L fs' ∧ (c = false → StillTo l fs' k) ∧ pot fs' + one c ≤ pot fs1)
      case atStart =>
        exact ⟨0, fs1, false, rfl, by omega, by omega, HA0.out, HW0.out, HT0.out, HI.out, fun _ k i hk => by omega, Nat.le_refl _⟩
      case round =>
        obtain ⟨k, fs2, c2, rfl, hk, hg, hA, hW, hT, hI, hS, hp⟩ := hrel
        have HP2 := hid hp
        have HS2 := hid hS
        have HI2 := hid hI
        have HA2 := hid hA
        have HW2 := hid hW
        have HT2 := hid hT
        have h120 := HWF.out.len
        clear hA hW hT hI hS hp
        rcases Nat.lt_or_ge k l.length with hkl | hkl
        · have hi : Hid (l[k]? = some l[k]) := hid (List.getElem?_eq_getElem hkl)
          generalize l[k] = i at hi
          have hps := hid (pass_any HWF.out bw bf gl cap capl k fs2 i c2 wr HA2.out HI2.out.ok HI2.out.len hi.out HW2.out (HAT.out.two HT2.out hgl hgw hgf) (Nat.lt_of_lt_of_le hgl HT2.out.size) (HTB.out.two HT2.out ha hb) HN.out)
          have i1 : (k : Int) < (l.length : Int) := by omega
          have hk200 : (k : Int) + 1 ≤ 200 := by omega
          have HB : Hid ((passF fs2 k ⟨i, aimOf l i⟩).2.2 = false → ¬ WT l L) := hid (HI2.out.bad HWF.out hi.out)
          have HI3 : Hid (SetInv l L (passF fs2 k ⟨i, aimOf l i⟩).1) := hid (HI2.out.pass HWF.out hi.out)
          have HPT : Hid (pot (passF fs2 k ⟨i, aimOf l i⟩).1 + one (passF fs2 k ⟨i, aimOf l i⟩).2.1 ≤ pot fs2) := hid (pass_pot HI2.out.ok)
          have HSS : Hid ((passF fs2 k ⟨i, aimOf l i⟩).2.1 = false → (passF fs2 k ⟨i, aimOf l i⟩).2.2 = true → c2 = false → StillTo l (passF fs2 k ⟨i, aimOf l i⟩).1 (k + 1)) := hid (fun h1 h2 h3 => by
            have := pass_same HI2.out.ok h1
            rw [this]
            exact (HS2.out h3).succ hi.out h1 h2)
          have HLN : Hid (fs2.length = l.length) := hid HI2.out.len
          unfold PassPost at hps
          generalize passF fs2 k ⟨i, aimOf l i⟩ = R at *
          obtain ⟨fs3, c3, ok3⟩ := R
          simp only at hps HB HI3 HPT HSS
          clear hi HS2
          go_wp2_with fail
          refine hps.out.mono ?_
          clear hps
          intro x w6 hh
          obtain ⟨hx6, hA6, hW6, hT6⟩ := hh
          subst x
          rw [HLN.out] at hW6
          have HA6 := hid hA6
          have HW6 := hid hW6
          have HT6 := hid hT6
          clear hA6 hW6 hT6
          cases ok3
          · have HB2 := hid (HB.out rfl)
            clear HB HSS
            go_wp2_with fail
            go_ret
            exact ⟨false, fs3, c2 || c3, rfl, HA6.out, HW6.out, HT2.out.trans HT6.out, fun h => absurd h (by decide), fun _ => HB2.out⟩
          · have HSS2 := hid (fun h1 h2 => HSS.out h1 rfl h2)
            clear HB HSS
            go_wp2_with fail
            go_roundg (l.length - (k + 1))
            case measure => omega
            case rel =>
              exact ⟨k + 1, fs3, c2 || c3, rfl, by omega, rfl, HA6.out, HW6.out, HT2.out.trans HT6.out, HI3.out, fun h => by
                rw [Bool.or_eq_false_iff] at h
                exact HSS2.out h.2 h.1, by
                have h1 := HPT.out
                have h2 := HP2.out
                cases c2
                · rw [Bool.false_or]; simp only [one] at *; omega
                · rw [Bool.true_or]; simp only [one] at *; omega⟩
        · have i1 : ¬ (k : Int) < (l.length : Int) := by omega
          go_wp2_with fail
          go_roundg (pot fs2 + one c2)
          case measure =>
            have h1 := HP.out
            have h2 := HP2.out
            simp only [one, if_true] at *; omega
          case rel =>
            exact ⟨fs2, c2, HA2.out, HW2.out, HT2.out, HI2.out, fun h => by
              have := HS2.out h
              rw [show k = l.length by omega] at this
              exact this.all, Nat.le_refl _⟩
def zeroF : Fr := ⟨false, [0, 0, 0, 0], 0, [0, 0, 0, 0, 0, 0, 0, 0], false⟩
theorem zeroF_ok : FrOk zeroF := ⟨rfl, rfl, Nat.zero_le _⟩
theorem zeros_ok (n : Nat) : AllOk (List.replicate n zeroF) := fun f hf => by rw [List.eq_of_mem_replicate hf]; exact zeroF_ok
theorem frameInfo : (Tryz.prog.info? 125).map (fun i => (i.zero, i.size, i.bytes)) = some (some (.agg (frL zeroF).toArray), 15, 120) := by kernel_rfl
theorem zeros_made (n : Nat) : madeCells (frL zeroF).toArray (n * 15) = (allL (List.replicate n zeroF)).toArray := by
  apply Array.toList_inj.1
  apply List.ext_getElem?
  intro i
  have hl := allL_len (zeros_ok n)
  rw [List.length_replicate] at hl
  by_cases hi : i < n * 15
  · have h1 : i / 15 < n := by omega
    have h2 : i % 15 < 15 := by omega
    have e : i = i / 15 * 15 + i % 15 := by omega
    have h3 := allL_at (zeros_ok n) (k := i / 15) (j := i % 15) (f := zeroF) (by rw [List.getElem?_replicate, if_pos h1]) h2
    rw [← e] at h3
    simp only [madeCells, Array.toList_map, Array.toList_range, List.getElem?_map, List.getElem?_range hi, Option.map_some]
    rw [h3]
    have h4 : (frL zeroF).length = 15 := rfl
    rw [List.getElem?_eq_getElem (by omega)]
    simp [List.getElem?_eq_getElem (show i % 15 < (frL zeroF).length by omega), h4]
  · rw [List.getElem?_eq_none (by simp [size_madeCells]; omega), List.getElem?_eq_none (by simp; omega)]
theorem make_frames (n : Nat) (h : n ≤ 120) (w : World) : Sem.run Tryz.prog (Instr.makeSlice 65 (.int .i64 n) (.int .i64 n)) w = .ok (.slice (some ⟨w.heap.size, 0, none⟩) n n) (w.alloc (.cells (allL (List.replicate n zeroF)).toArray 125)) := by
  obtain ⟨i0, hi, hz0, hz1, hz2⟩ := info_parts frameInfo
  have := run_make (P := Tryz.prog) w 65 125 i0 _ Tryz.underlying65 hi hz0 .i64 .i64 n n (by omega) (by omega) (by rw [hz2]; omega) (by omega)
  rw [this, hz1, show Value.cells (.agg (frL zeroF).toArray) = (frL zeroF).toArray from rfl]
  simp only [Int.toNat_natCast]
  rw [zeros_made]
theorem startF (n : Nat) (h : 0 < n) : reachF (List.replicate n zeroF) 0 zeroF = ((List.replicate n zeroF).set 0 { zeroF with reached := true }, true, true) := by
  unfold reachF
  rw [List.getElem?_replicate, if_pos h]
  rfl
theorem start_stk (f : Fr) (hd : f.depth = 0) (hs : f.stk = [0, 0, 0, 0, 0, 0, 0, 0]) (L : Nat) : Stk f (tl (initP L).st) := ⟨Nat.zero_le _, hd, hs⟩
theorem start_lk (L j : Nat) : lk (initP L).lo j = 0 := by
  have h : letters (initP L).lo ∧ True := by
    refine ⟨letters_extract ?_ _ _, trivial⟩
    intro c hc
    simp at hc
    exact .inl hc
  have hall : ∀ c ∈ tl (initP L).lo, c = 105 := by
    intro c hc
    simp only [initP] at hc
    rw [tl_extract] at hc
    have := List.mem_of_mem_drop (List.mem_of_mem_take hc)
    simpa [tl] using this
  unfold lk
  show kindN (((tl (initP L).lo).getD j 0).toNat) = 0
  rw [List.getD_eq_getElem?_getD]
  cases e : (tl (initP L).lo)[j]? with
  | none => rfl
  | some c => rw [hall c (List.mem_of_getElem? e)]; rfl
theorem start_inv {l : List Ins} {L : Nat} (hw : Wf l L) : SetInv l L ((List.replicate l.length zeroF).set 0 { zeroF with reached := true }) := by
  have hp := hw.pos
  have h0 : ((List.replicate l.length zeroF).set 0 { zeroF with reached := true })[0]? = some { zeroF with reached := true } := List.getElem?_set_self (by simpa using hp)
  have hlo : ∀ j, j < 4 → ([0, 0, 0, 0] : List Nat).getD j 0 = 0 := by
    intro j hj
    match j, hj with
    | 0, _ => rfl
    | 1, _ => rfl
    | 2, _ => rfl
    | 3, _ => rfl
  refine ⟨(zeros_ok _).set (f := { zeroF with reached := true }) ⟨rfl, rfl, Nat.zero_le _⟩ 0, by simp, fun _ k f hk hr => ?_, ⟨_, h0, ⟨rfl, start_stk _ rfl rfl L, fun j hj => .inl ?_⟩⟩⟩
  · by_cases e : 0 = k
    · subst e
      rw [h0] at hk
      cases hk
      exact ⟨rfl, ⟨_, _, Reach.init l L, start_stk _ rfl rfl L⟩, fun j hj => .inl ⟨_, _, Reach.init l L, (hlo j hj).trans (start_lk L j).symm⟩⟩
    · rw [List.getElem?_set_ne e, List.getElem?_replicate] at hk
      split at hk
      · cases hk; cases hr
      · cases hk
  · rw [start_lk]; exact hlo j hj
def FramesPost (l : List Ins) (L : Nat) (w : World) (e : Ending) (w' : World) : Prop :=
  Below w.heap.size w w' ∧ ((¬ WT l L ∧ e = .returned (.tuple #[.slice none 0 0, .bool false])) ∨
    (∃ fs bf, e = .returned (.tuple #[.slice (some ⟨bf, 0, none⟩) l.length l.length, .bool true]) ∧ w.heap.size ≤ bf ∧ AllAt w' bf fs ∧ SetInv l L fs ∧ Still l fs))
theorem Two.below {a b B : Nat} {w w' : World} (h : Two a b w w') (hB : B ≤ w.heap.size) (ha : B ≤ a) (hb : B ≤ b) : Below B w w' :=
  ⟨h.os, h.tape, h.output, h.size, fun k hk => h.block k (by omega) (by omega) (by omega)⟩
theorem apart_of {w : World} {a : Nat} (h : FlowTab w) (ha : w.heap.size ≤ a) : Apart a := by
  obtain ⟨h0, h1⟩ := h 0 (by omega)
  have l0 := World.block_lt_of_cell? w _ h0
  have l1 := World.block_lt_of_cell? w _ h1
  exact ⟨by simp only at l0; omega, by simp only at l1; omega⟩
theorem three_second (w : World) (a b c : Obj) : ((((w.alloc a).alloc b).alloc c).drew).heap[w.heap.size + 1]? = some b := by
  show (((w.alloc a).alloc b).alloc c).heap[w.heap.size + 1]? = some b
  rw [Below.heap_alloc _ _ _ (by simp)]; exact heap_two_new w _ _
theorem three_below (w : World) (a b c : Obj) : Below w.heap.size w (((w.alloc a).alloc b).alloc c).drew :=
  have h : Below w.heap.size w (((w.alloc a).alloc b).alloc c) := (((Below.refl _ _).alloc (Nat.le_refl _) _).alloc (by simp) _).alloc (by simp; omega) _
  ⟨h.os, h.tape, h.output, h.size, h.block⟩
theorem frames_any {l : List Ins} {L : Nat} (hw : Wf l L) (gl capl : Nat) (w : World) (hat : CiAt w gl (aims l)) (hgl : gl < w.heap.size) (htab : FlowTab w) :
    Calls Tryz.prog 71 #[.agg #[.int .i64 L, .slice (some ⟨gl, 0, none⟩) l.length capl]] w (FramesPost l L w) := by
  have h120 := hw.len
  have HWF := hid hw
  have HAT := hid hat
  have HTB := hid htab
  have hmk := make_frames l.length h120
  have HSI := hid (start_inv hw)
  have HSF := hid (startF l.length hw.pos)
  have HPOS := hid hw.pos
  clear hw hat htab
  generalize hZ : List.replicate l.length zeroF = Z at *
  have HZ : Hid (Z.length = l.length ∧ AllOk Z) := hid ⟨by rw [← hZ]; simp, by rw [← hZ]; exact zeros_ok _⟩
  clear hZ
  go_enter Tryz.func71, Tryz.ntmps71
  go_upto_region 1 with fail
  go_cut [4] (fun x4 wc => ∃ bw bf : Nat, x4 = .pointer (some ⟨bw, 0, none⟩) ∧ w.heap.size ≤ bw ∧ w.heap.size ≤ bf ∧ bw ≠ bf ∧ AllAt wc bf Z ∧ WalkAt wc bw (.slice (some ⟨gl, 0, none⟩) l.length capl) bf l.length l.length false ∧ Below w.heap.size w wc)
  case first =>
    go_region
    · go_wp2_with fail
      go_meet
      exact ⟨w.heap.size + 1 + 1, w.heap.size + 1, rfl, by omega, by omega, by omega, three_second w _ _ _, heap_three_third w _ _ _, three_below w _ _ _⟩
    · go_wp2_with fail
      go_meet
      exact ⟨w.heap.size + 1, w.heap.size + 1 + 1, rfl, by omega, by omega, by omega, heap_three_third w _ _ _, three_second w _ _ _, three_below w _ _ _⟩
  case rest =>
    obtain ⟨bw, bf, rfl, h1, h2, h3, hA, hW, hB⟩ := hcut
    have hrc := hid (reach_any bw bf l.length 0 Z zeroF false _ wc hA HZ.out.2 (by rw [HZ.out.1]; exact HPOS.out) zeroF_ok (by rw [HZ.out.1]; exact hW) h3)
    rw [HSF.out] at hrc
    simp only [zeroF, frL, List.map_cons, List.map_nil, List.cons_append, List.nil_append, numV] at hrc
    have HA := hid hA
    have HB := hid hB
    clear hA hW hB hmk
    go_wp2_with fail
    refine hrc.out.mono ?_
    clear hrc
    intro x w6 hh
    obtain ⟨hx6, hA6, hW6, hT6⟩ := hh
    subst x
    rw [HZ.out.1] at hW6
    have hsz := HB.out.size
    have hgl2 : gl < wc.heap.size := by omega
    have hat6 : CiAt w6 gl (aims l) := (HAT.out.below HB.out hgl).two hT6 hgl2 (by omega) (by omega)
    have ha := apart_of HTB.out h1
    have hb := apart_of HTB.out h2
    have hst := hid (settle_any HWF.out bw bf gl l.length capl _ _ w6 hA6 HSI.out (fun h => absurd h (by decide)) hW6 hat6 (Nat.lt_of_lt_of_le hgl2 hT6.size) ((HTB.out.below HB.out).two hT6 ha hb) h3 (by omega) (by omega) ha hb)
    have HT6 := hid hT6
    clear hA6 hW6 hT6 hat6 ha hb
    go_wp2_with fail
    refine hst.out.mono ?_
    clear hst
    intro x w7 hh
    obtain ⟨b, fs', ch, hx7, hA7, hW7, hT7, hgood, hbad⟩ := hh
    subst x
    have HBB : Hid (Below w.heap.size w w7) := hid ((HB.out.trans (HT6.out.below hsz h1 h2)).trans (hT7.below (Nat.le_trans hsz HT6.out.size) h1 h2))
    have w1 := cell_of_row w7 bw 1 _ _ _ hW7
    simp only [List.getElem?_toArray, List.getElem?_cons_zero, List.getElem?_cons_succ] at w1
    have HA7 := hid hA7
    clear hA7 hW7 hT7
    cases b
    · have HN := hid (hbad rfl)
      clear hgood hbad
      go_wp2_with fail
      exact bodyPost_ret (v := .tuple #[.slice none 0 0, .bool false]) (by simp [results, Tryz.results71, go_sem]) rfl ⟨HBB.out, .inl ⟨HN.out, rfl⟩⟩
    · have HN := hid (hgood rfl)
      clear hgood hbad
      go_wp2_with fail
      exact bodyPost_ret (v := .tuple #[.slice (some ⟨bf, 0, none⟩) l.length l.length, .bool true]) (by simp [results, Tryz.results71, go_sem]) rfl ⟨HBB.out, .inr ⟨fs', bf, rfl, h2, HA7.out, HN.out.1, HN.out.2⟩⟩
structure Loaded (s : ByteArray) (w w' : World) (g cap bf : Nat) (fs : List Fr) : Prop where
  err : errOf s = 0
  wt : WT (codeOf s) (byteAt s 1)
  g1 : w.heap.size ≤ g
  g2 : g < w'.heap.size
  ci : CiAt w' g (aims (codeOf s))
  b1 : w.heap.size ≤ bf
  all : AllAt w' bf fs
  inv : SetInv (codeOf s) (byteAt s 1) fs
  still : Still (codeOf s) fs
def LoadPost (s : ByteArray) (w : World) (e : Ending) (w' : World) : Prop :=
  Below w.heap.size w w' ∧ ((∃ r : Nat, r ≠ 0 ∧ IsErr s r ∧ e = .returned (.tuple #[.agg #[.int .i64 0, .slice none 0 0], .slice none 0 0, .int .i64 r])) ∨
    (∃ g cap bf fs, e = .returned (.tuple #[.agg #[.int .i64 (byteAt s 1 : Nat), .slice (some ⟨g, 0, none⟩) (codeOf s).length cap], .slice (some ⟨bf, 0, none⟩) (codeOf s).length (codeOf s).length, .int .i64 0]) ∧ Loaded s w w' g cap bf fs))
theorem tload_any (s : ByteArray) (w : World) (hs : s.size ≤ maxLen) (htab : FlowTab w) :
    Calls Tryz.prog 40 #[.string s] w (LoadPost s w) := by
  have hrd := hid (fun W => read_any s W hs)
  have HTB := hid htab
  clear hs htab
  go_enter Tryz.func40, Tryz.ntmps40
  go_wp2_with fail
  refine (hrd.out _).mono ?_
  clear hrd
  intro x w2 hp
  obtain ⟨hb, hp⟩ := hp
  have hb1 := instr_below hb
  clear hb
  rcases hp with ⟨he, hx⟩ | ⟨he, g, cap, hx, hg1, hg2, hat⟩
  · subst x
    have hz := hb1.size
    rw [alloc_size] at hz
    have hb2 : Below (w.heap.size + 1) (w.alloc (.cells #[.int .i64 0, .slice none 0 0] 64)) (w2.alloc (.cells #[.int .i64 0, .slice none 0 0] 64)) := hb1.alloc hz _
    obtain ⟨bx, bo, hz2⟩ := box_cells hb2
    have x0 := bx 0
    have x1 := bx 1
    simp only [List.getElem?_toArray, List.getElem?_cons_zero, List.getElem?_cons_succ] at x0 x1
    have hf0 := hb2.frozen (p := ⟨w.heap.size, 0, none⟩) (by simp)
    have hf1 := hb2.frozen (p := ⟨w.heap.size, 1, none⟩) (by simp)
    have hne : ((errOf s : Int) != 0) = true := by simp; omega
    have HE : Hid (IsErr s (errOf s)) := hid (.inl ⟨he, rfl⟩)
    have HN := hid he
    clear bx bo he hb1
    go_wp2_with fail
    refine bodyPost_ret (v := .tuple #[.agg #[.int .i64 0, .slice none 0 0], .slice none 0 0, .int .i64 (errOf s : Nat)]) (by simp [results, Tryz.results40, go_sem, x0, x1]) rfl ⟨two_set hb2, .inl ⟨errOf s, HN.out, HE.out, rfl⟩⟩
  · subst x
    have hz := hb1.size
    rw [alloc_size] at hz
    have hb2 : Below (w.heap.size + 1) (w.alloc (.cells #[.int .i64 0, .slice none 0 0] 64)) (w2.alloc (.cells #[.int .i64 (byteAt s 1 : Nat), .slice (some ⟨g, 0, none⟩) (codeOf s).length cap] 64)) := hb1.alloc hz _
    have HW := hid (wf_of he)
    have HE := hid he
    have hgz : w.heap.size + 1 ≤ g := by simpa using hg1
    have hbw : Below w.heap.size w (w2.alloc (.cells #[.int .i64 (byteAt s 1 : Nat), .slice (some ⟨g, 0, none⟩) (codeOf s).length cap] 64)) := box_below (Nat.le_refl _) hb2
    have hfr := hid (frames_any HW.out g cap _ (hat.same (Below.heap_alloc w2 (.cells #[.int .i64 (byteAt s 1 : Nat), .slice (some ⟨g, 0, none⟩) (codeOf s).length cap] 64) _ hg2)) (by rw [alloc_size]; omega) (HTB.out.below hbw))
    have HAT := hid hat
    generalize hLL : byteAt s 1 = L at *
    have HLL := hid hLL
    generalize hl : codeOf s = l at *
    have HL := hid hl
    clear hat he hbw hl hg1 hLL
    go_wp2_with fail
    refine hfr.out.mono ?_
    clear hfr
    intro x w3 hp
    obtain ⟨hb3, hp⟩ := hp
    have hz3 := hb3.size
    rw [alloc_size] at hz3
    have hb4 : Below (w.heap.size + 1) (w.alloc (.cells #[.int .i64 0, .slice none 0 0] 64)) w3 := hb2.trans (hb3.mono (by rw [alloc_size]; omega))
    obtain ⟨bx, bo, hz2⟩ := box_cells hb4
    have x0 := bx 0
    have x1 := bx 1
    simp only [List.getElem?_toArray, List.getElem?_cons_zero, List.getElem?_cons_succ] at x0 x1
    have hf0 := hb4.frozen (p := ⟨w.heap.size, 0, none⟩) (by simp)
    have hf1 := hb4.frozen (p := ⟨w.heap.size, 1, none⟩) (by simp)
    have HB3 := hid hb3
    rcases hp with ⟨hn, rfl⟩ | ⟨fs, bf, rfl, hbf, hall, hinv, hst⟩
    · have HE5 : Hid (IsErr s 5) := hid (.inr (.inr ⟨HE.out, by rw [HL.out, HLL.out]; exact hn, rfl⟩))
      clear hn bx bo hb3
      go_wp2_with fail
      exact bodyPost_ret (v := .tuple #[.agg #[.int .i64 0, .slice none 0 0], .slice none 0 0, .int .i64 5]) (by simp [results, Tryz.results40, go_sem, x0, x1]) rfl ⟨two_set hb4, .inl ⟨5, by decide, HE5.out, rfl⟩⟩
    · obtain ⟨px, po, pz⟩ := box_cells (hb3.mono (by rw [alloc_size]; omega))
      have y0 := px 0
      have y1 := px 1
      simp only [List.getElem?_toArray, List.getElem?_cons_zero, List.getElem?_cons_succ] at y0 y1
      have hbf2 : w2.heap.size + 1 ≤ bf := by rw [alloc_size] at hbf; exact hbf
      have HALL := hid hall
      have HINV := hid hinv
      have HST := hid hst
      have HWT := hid (still_wt HW.out hinv.ok hst hinv.cov)
      have HCI := hid (HAT.out.same ((hb3.block g (by rw [alloc_size]; omega)).trans (Below.heap_alloc w2 _ _ hg2)))
      clear hall hinv hst hbf bx bo px po hb3 HB3 pz
      go_wp2_with fail
      refine bodyPost_ret (v := .tuple #[.agg #[.int .i64 L, .slice (some ⟨g, 0, none⟩) l.length cap], .slice (some ⟨bf, 0, none⟩) l.length l.length, .int .i64 0]) (by simp [results, Tryz.results40, go_sem, x0, x1]) rfl ⟨two_set hb4, .inr ?_⟩
      have hs0 : ∀ b u v, b ≠ w.heap.size → ((w3.setCell ⟨w.heap.size, 0, none⟩ u).setCell ⟨w.heap.size, 1, none⟩ v).heap[b]? = w3.heap[b]? := fun b u v h => by
        rw [Below.heap_setCell _ _ _ _ h, Below.heap_setCell _ _ _ _ h]
      refine ⟨g, cap, bf, fs, by rw [HL.out, HLL.out], ⟨HE.out, by rw [HL.out, HLL.out]; exact HWT.out, by omega, by simp [World.setCell]; omega, by rw [HL.out]; exact HCI.out.same (hs0 _ _ _ (by omega)), by omega, (hs0 _ _ _ (by omega)).trans HALL.out, by rw [HL.out, HLL.out]; exact HINV.out, by rw [HL.out]; exact HST.out⟩⟩
def TCheckPost (s : ByteArray) (w : World) (e : Ending) (w' : World) : Prop := Below w.heap.size w w' ∧ ∃ r : Nat, e = .returned (.int .i64 r) ∧ IsErr s r
theorem tcheck_any (s : ByteArray) (w : World) (hs : s.size ≤ maxLen) (htab : FlowTab w) :
    Calls Tryz.prog 29 #[.string s] w (TCheckPost s w) := by
  have hld := hid (tload_any s w hs htab)
  clear hs htab
  go_enter Tryz.func29, Tryz.ntmps29
  go_wp2_with fail
  refine hld.out.mono ?_
  clear hld
  intro x w2 hp
  obtain ⟨hb, hp⟩ := hp
  have hz := hb.size
  have HB := hid hb
  clear hb
  rcases hp with ⟨r, hr, he, rfl⟩ | ⟨g, cap, bf, fs, rfl, hL⟩
  · have HE := hid he
    clear he hr
    go_wp2_with fail
    go_ret
    exact ⟨HB.out.alloc hz _, r, rfl, HE.out⟩
  · have HE : Hid (IsErr s 0) := hid (.inr (.inl ⟨hL.err, hL.wt, rfl⟩))
    clear hL
    go_wp2_with fail
    go_ret
    exact ⟨HB.out.alloc hz _, 0, rfl, HE.out⟩
theorem num_any (r : Nat) (w : World) : Calls Tryz.prog 14 #[.int .i64 r] w fun e w' => e = .returned (.int .i64 r) ∧ w' = w := by
  go_enter Tryz.func14, Tryz.ntmps14
  go_wp2
  go_ret
  exact ⟨rfl, rfl⟩
theorem row5 {wr w5 : World} {o o' : Obj} {base n : Nat} {v : Value} {cs : List Value} (h : wr.ownsRow base 102 4 v n cs) (hb : Below (wr.alloc o).drew.heap.size (wr.alloc o).drew w5) : (w5.alloc o').ownsRow base 102 4 v n cs := by
  have hb' : Below wr.heap.size wr w5 := ((Below.refl _ _).alloc (Nat.le_refl _) o).trans (⟨hb.os, hb.tape, hb.output, hb.size, fun k hk => hb.block k (by simp [World.drew]; omega)⟩)
  exact (owns_below h hb' (fun g hg => (h.lt g hg).2)).alloc _
theorem below5 {wr w5 : World} {o : Obj} (hb : Below (wr.alloc o).drew.heap.size (wr.alloc o).drew w5) : Below wr.heap.size wr w5 :=
  ((Below.refl _ _).alloc (Nat.le_refl _) o).trans (⟨hb.os, hb.tape, hb.output, hb.size, fun k hk => hb.block k (by simp [World.drew]; omega)⟩)
theorem OwnPts.mono {w : World} {base base' : Nat} {v : Value} {ms : List MP} (h : OwnPts w base v ms) (hb : base' ≤ base) : OwnPts w base' v ms := by
  obtain ⟨cs, h1, h2⟩ := h
  exact ⟨cs, owns_mono h1 hb, PtsIn.keep (fun g hg => ⟨⟨Nat.le_trans hb hg.1, hg.2⟩, rfl⟩) _ _ h2⟩
def mapsF (l : List Ins) (fs : List Fr) (L : Nat) : List MP := List.zipWith (fun i f => ptF i.place f L) l fs
def TMapsPost (s : ByteArray) (w : World) (e : Ending) (w' : World) : Prop :=
  Below w.heap.size w w' ∧ ((∃ r : Nat, r ≠ 0 ∧ IsErr s r ∧ e = .returned (.tuple #[.slice none 0 0, .int .i64 r])) ∨
    (∃ v fs, e = .returned (.tuple #[v, .int .i64 0]) ∧ errOf s = 0 ∧ SetInv (codeOf s) (byteAt s 1) fs ∧ Still (codeOf s) fs ∧ OwnPts w' w.heap.size v (mapsF (codeOf s) fs (byteAt s 1))))
theorem tmaps_any (s : ByteArray) (w : World) (hs : s.size ≤ maxLen) (htab : FlowTab w) :
    Calls Tryz.prog 31 #[.string s] w (TMapsPost s w) := by
  obtain ⟨i0, hi0, hz0, hz1, hz2⟩ := info_parts pointInfo
  have hld := hid (tload_any s w hs htab)
  clear hs htab
  go_enter Tryz.func31, Tryz.ntmps31
  go_wp2_with fail
  refine hld.out.mono ?_
  clear hld
  intro x w2 hp
  obtain ⟨hb, hp⟩ := hp
  have hz := hb.size
  have HB := hid hb
  clear hb
  rcases hp with ⟨r, hr, he, rfl⟩ | ⟨g, cap, bf, fs, rfl, hLd⟩
  · have HE := hid he
    have HR := hid hr
    have hne : ((r : Int) != 0) = true := by simp; omega
    clear he hr
    go_wp2_with fail
    exact bodyPost_ret (v := .tuple #[.slice none 0 0, .int .i64 r]) (by simp [results, Tryz.results31, go_sem]) rfl ⟨HB.out.alloc hz _, .inl ⟨r, HR.out, HE.out, rfl⟩⟩
  · have HLD := hid hLd
    have hgl : g < w2.heap.size := hLd.g2
    have hL : byteAt s 1 ≤ 4 := (wf_of hLd.err).loc
    have hlen := hLd.inv.len
    have h120 := (wf_of hLd.err).len
    clear hLd
    generalize hLL : byteAt s 1 = L at *
    have HLL := hid hLL
    generalize hl : codeOf s = l at *
    have HL := hid hl
    clear hl hLL
    have hf0 := HLD.out.b1
    go_wp2_with fail
    go_loopg [7, 21] l.length (fun gk v i w' => ∃ k : Nat, k ≤ l.length ∧ gk = l.length - k ∧ i = .int .i64 k ∧ OwnPts w' (w2.heap.size + 1) v ((mapsF l fs L).take k) ∧ Below (w2.heap.size + 1) (w2.alloc (.cells #[.int .i64 L, .slice (some ⟨g, 0, none⟩) l.length cap] 64)) w')
    case atStart => exact ⟨0, by omega, by omega, rfl, OwnPts.nil _ _, Below.refl _ _⟩
    case round =>
      obtain ⟨k, hk, hg, rfl, hown, hbel⟩ := hrel
      have hz2' := hbel.size
      rw [alloc_size] at hz2'
      have HBEL := hid hbel
      have HOWN := hid hown
      rcases Nat.lt_or_ge k l.length with hlt | hge
      · have d1 : (k : Int) < (l.length : Int) := by omega
        have d0 : (0 : Int) ≤ (k : Int) := by omega
        have hbfz : bf < w2.heap.size := (Array.getElem?_eq_some_iff.1 HLD.out.all).1
        have hall : AllAt wr bf fs := ((hbel.block bf (by omega)).trans (Below.heap_alloc w2 _ _ hbfz)).trans HLD.out.all
        have hok := HLD.out.inv.ok
        have hci : CiAt wr g (aims l) := by
          have := HLD.out.ci
          rw [HL.out] at this
          exact this.same ((hbel.block g (by omega)).trans (Below.heap_alloc w2 _ _ hgl))
        obtain ⟨bx, bo, _⟩ := box_cells hbel
        have y0 := bx 0
        have y1 := bx 1
        simp only [List.getElem?_toArray, List.getElem?_cons_zero, List.getElem?_cons_succ] at y0 y1
        have hi : l[k]? = some l[k] := List.getElem?_eq_getElem hlt
        have hfk : fs[k]? = some (fs[k]'(by omega)) := List.getElem?_eq_getElem (by omega)
        obtain ⟨p0, _, _, _⟩ := hci k _ (aims_get hi)
        have HNX : Hid ((mapsF l fs L).take (k + 1) = (mapsF l fs L).take k ++ [ptF l[k].place (fs[k]'(by omega)) L]) := hid (by
          have hkm : k < (mapsF l fs L).length := by simp [mapsF]; omega
          rw [List.take_succ_eq_append_getElem hkm]
          simp [mapsF])
        have hfok := hok _ (List.mem_of_getElem? hfk)
        have hpt := hid (fun W => point_any l[k].place L (fs[k]'(by omega)) W hfok hL)
        have HFK := hid hfk
        generalize fs[k]'(by omega) = f at *
        generalize l[k].place = pl at *
        have c0 := hall.cell hok HFK.out (j := 0) (by omega)
        have c1 := hall.cell hok HFK.out (j := 1) (by omega)
        have c2 := hall.cell hok HFK.out (j := 2) (by omega)
        have c3 := hall.cell hok HFK.out (j := 3) (by omega)
        have c4 := hall.cell hok HFK.out (j := 4) (by omega)
        have c5 := hall.cell hok HFK.out (j := 5) (by omega)
        have c6 := hall.cell hok HFK.out (j := 6) (by omega)
        have c7 := hall.cell hok HFK.out (j := 7) (by omega)
        have c8 := hall.cell hok HFK.out (j := 8) (by omega)
        have c9 := hall.cell hok HFK.out (j := 9) (by omega)
        have c10 := hall.cell hok HFK.out (j := 10) (by omega)
        have c11 := hall.cell hok HFK.out (j := 11) (by omega)
        have c12 := hall.cell hok HFK.out (j := 12) (by omega)
        have c13 := hall.cell hok HFK.out (j := 13) (by omega)
        have c14 := hall.cell hok HFK.out (j := 14) (by omega)
        have HM := hid (rfl : ptF pl f L = ptF pl f L)
        generalize hM : ptF pl f L = M at hpt HNX HM
        clear HM hM
        obtain ⟨fr, flo, d, fst, fw⟩ := f
        obtain ⟨h1, h2, h3⟩ := hfok
        simp only at h1 h2
        obtain ⟨a, b, c, e, rfl⟩ := four h1
        obtain ⟨s0, s1, s2, s3, s4, s5, s6, s7, rfl⟩ := eight h2
        simp only [frL, List.map_cons, List.map_nil, List.cons_append, List.nil_append, numV, List.getElem?_cons_zero, List.getElem?_cons_succ] at c0 c1 c2 c3 c4 c5 c6 c7 c8 c9 c10 c11 c12 c13 c14 hpt
        rw [Nat.add_zero] at c0
        obtain ⟨cs, hrow, hpts⟩ := hown
        rw [List.length_take, Nat.min_eq_left (by simp [mapsF]; omega)] at hrow
        have hgz : g < wr.heap.size := by omega
        have hwz : w2.heap.size < wr.heap.size := by omega
        have HPTS := hid hpts
        have hfar : ∀ b, b ≤ w2.heap.size ∨ wr.heap.size ≤ b → some b ≠ u7.ownBlock := fun b hb e => by
          have := hrow.lt b e.symm
          omega
        clear hall hci hbel bx bo hi hfk hok HOWN hpts
        go_upto_region 9 with fail
        go_region_held3 (fun w' => w'.cell? ⟨w2.heap.size, 0, none⟩ = some (.int .i64 L) ∧ w'.cell? ⟨w2.heap.size, 1, none⟩ = some (.slice (some ⟨g, 0, none⟩) l.length cap) ∧ w'.cell? ⟨g, k * 4, none⟩ = some (.int .i64 pl) ∧ w'.cell? ⟨wr.heap.size, 0, none⟩ = some (.bool fr) ∧ w'.cell? ⟨wr.heap.size, 1, none⟩ = some (.int .i64 a) ∧ w'.cell? ⟨wr.heap.size, 2, none⟩ = some (.int .i64 b) ∧ w'.cell? ⟨wr.heap.size, 3, none⟩ = some (.int .i64 c) ∧ w'.cell? ⟨wr.heap.size, 4, none⟩ = some (.int .i64 e) ∧ w'.cell? ⟨wr.heap.size, 5, none⟩ = some (.int .i64 d) ∧ w'.cell? ⟨wr.heap.size, 6, none⟩ = some (.int .i64 s0) ∧ w'.cell? ⟨wr.heap.size, 7, none⟩ = some (.int .i64 s1) ∧ w'.cell? ⟨wr.heap.size, 8, none⟩ = some (.int .i64 s2) ∧ w'.cell? ⟨wr.heap.size, 9, none⟩ = some (.int .i64 s3) ∧ w'.cell? ⟨wr.heap.size, 10, none⟩ = some (.int .i64 s4) ∧ w'.cell? ⟨wr.heap.size, 11, none⟩ = some (.int .i64 s5) ∧ w'.cell? ⟨wr.heap.size, 12, none⟩ = some (.int .i64 s6) ∧ w'.cell? ⟨wr.heap.size, 13, none⟩ = some (.int .i64 s7) ∧ w'.cell? ⟨wr.heap.size, 14, none⟩ = some (.bool fw))
          (first
            | go_keep
            | (go_split_ands
               refine ⟨?_, ?_, ?_, ?_, ?_, ?_, ?_, ?_, ?_, ?_, ?_, ?_, ?_, ?_, ?_, ?_, ?_, ?_⟩ <;> first | (exact hgrow6.cell (by assumption) (hfar _ (by simp <;> omega))) | (rw [hb5.cell (by simp <;> omega)]; assumption)))
          ((first
            | (go_at_call 53; refine (hpt.out _).mono ?_; intro x w5 hpost; obtain ⟨hb5, v1, v2, hx5, hi1, hi2⟩ := hpost; obtain ⟨p1, q1, hv1⟩ := hi1.slice; obtain ⟨p2, q2, hv2⟩ := hi2.slice; subst hv1; subst hv2; subst hx5; have hz5 : wr.heap.size + 1 ≤ w5.heap.size := by simpa using hb5.size)
            | (refine step_append_lies _ (by rfl) _ _ _ (by rfl) (w2.heap.size + 1) 102 i0 _ 4 64 Tryz.underlying76 hi0 hz0 hz1 hz2 rfl (by omega) _ k cs (by rfl) (row5 hrow hb5)
                ⟨w5.heap.size, 0, none⟩ 1 1 [.int .i64 M.place, .bool M.reached, .slice p1 M.lo.length q1, .slice p2 M.st.length q2] (by rfl) (by rfl) (World.news_of_block (cs := #[.int .i64 M.place, .bool M.reached, .slice p1 M.lo.length q1, .slice p2 M.st.length q2]) (t := 102) (fr := (0, 0)) (heap_alloc_new w5 _)) (by simp [Value.oneCell'])
                (by omega) (by unfold maxLen; omega) (by omega) (by simp; omega) (w5.heap.size + 1) (by simp) ?_; intro gg gcap w6 hown6 hgrow6 hat6 hlt6)))
        have HROW := hid hrow
        have HI1 := hid hi1
        have HI2 := hid hi2
        have HB5 := hid (below5 hb5)
        have HO6 := hid hown6
        have HG6 := hid hgrow6
        have HAT6 := hid hat6
        clear hrow hi1 hi2 hb5 hown6 hgrow6 hat6 y0 y1 p0 c0 c1 c2 c3 c4 c5 c6 c7 c8 c9 c10 c11 c12 c13 c14 hpt
        go_wp2_with fail
        go_roundg (l.length - (k + 1))
        case measure => omega
        case rel =>
          have hlt7 : ∀ g', u7.ownBlock = some g' → g' < wr.heap.size := fun g' hg' => (HROW.out.lt g' hg').2
          have hmk : k + 1 = ((mapsF l fs L).take (k + 1)).length := by rw [List.length_take, Nat.min_eq_left (by simp [mapsF]; omega)]
          refine ⟨k + 1, by omega, rfl, by go_num, ?_, ?_⟩
          · have hps : PtsIn (w5.alloc (.cells #[.int .i64 M.place, .bool M.reached, .slice p1 M.lo.length q1, .slice p2 M.st.length q2] 102)) (fun g' => w2.heap.size + 1 ≤ g' ∧ g' < (w5.alloc (.cells #[.int .i64 M.place, .bool M.reached, .slice p1 M.lo.length q1, .slice p2 M.st.length q2] 102)).heap.size ∧ u7.ownBlock ≠ some g') cs ((mapsF l fs L).take k) :=
              PtsIn.keep (fun g' hg' => ⟨⟨hg'.1, by rw [alloc_size]; omega, hg'.2.2⟩, (Below.heap_alloc _ _ _ (by omega)).trans (HB5.out.block g' hg'.2.1)⟩) _ _ HPTS.out
            have hk1 : ∀ (v : Value) (x : List Nat), IntsAt w5 (fun g' => wr.heap.size + 1 ≤ g' ∧ g' < w5.heap.size) v x → IntsAt (w5.alloc (.cells #[.int .i64 M.place, .bool M.reached, .slice p1 M.lo.length q1, .slice p2 M.st.length q2] 102)) (fun g' => w2.heap.size + 1 ≤ g' ∧ g' < (w5.alloc (.cells #[.int .i64 M.place, .bool M.reached, .slice p1 M.lo.length q1, .slice p2 M.st.length q2] 102)).heap.size ∧ u7.ownBlock ≠ some g') v x := fun v x h =>
              h.keep (fun g' hg' => ⟨⟨by omega, by rw [alloc_size]; omega, fun e => by have := hlt7 g' e; omega⟩, Below.heap_alloc _ _ _ hg'.2⟩)
            have := OwnPts.push (m := M) (by rw [List.length_take, Nat.min_eq_left (by simp [mapsF]; omega)]) hps (hk1 _ _ (by simpa using HI1.out)) (hk1 _ _ (by simpa using HI2.out)) HO6.out HG6.out (by rw [alloc_size]; exact HAT6.out)
            rw [← HNX.out, ← hmk] at this
            exact this
          · have h1 : Below (w2.heap.size + 1) (w2.alloc (.cells #[.int .i64 L, .slice (some ⟨g, 0, none⟩) l.length cap] 64)) w5 := HBEL.out.trans (HB5.out.mono hz2')
            exact (h1.alloc (by omega) _).grown HG6.out (by rw [alloc_size]; omega) (fun k hk => (HROW.out.lt k hk).1)
      · have d1 : ¬ (k : Int) < (l.length : Int) := by omega
        have hkl : k = l.length := by omega
        clear hbel hown
        go_wp2_with fail
        refine bodyPost_ret (v := .tuple #[u7, .int .i64 0]) (by simp [results, Tryz.results31, go_sem]) rfl ⟨HB.out.trans ((box_below (Nat.le_refl _) HBEL.out).mono hz), .inr ⟨u7, fs, rfl, HLD.out.err, HLD.out.inv, HLD.out.still, ?_⟩⟩
        have := HOWN.out
        rw [hkl, List.take_of_length_le (by simp [mapsF]; omega)] at this
        rw [HL.out, HLL.out]
        exact this.mono (by omega)
/-- Where the program's machine lies: what no step changes. -/
structure PK where
  b : Nat
  g : Nat
  cap : Nat
  bf : Nat
  gC : Nat
  cC : Nat
  A : Nat
  B4 : Nat
  l : List Ins
  L : Nat
  fs : List Fr
  zs : List Int
def PK.row (K : PK) (vI vO : Value) (lo4 st8 : List Int) (s : MS) : List Value :=
  [.int .i64 K.L, .slice (some ⟨K.g, 0, none⟩) K.l.length K.cap, .slice (some ⟨K.bf, 0, none⟩) K.l.length K.l.length, vI, vO, .int .i64 s.oc, .int .i64 s.va, .int .i64 s.at_] ++ (lo4.map (Value.int .i64) ++ (.int .i64 s.st.length :: (st8.map (Value.int .i64) ++ [.slice (some ⟨K.gC, 0, none⟩) s.hs.1.length K.cC, .int .i64 s.hs.2.1, .int .i64 s.hs.2.2])))
structure PM (w : World) (K : PK) (vI vO : Value) (lo4 st8 : List Int) (s : MS) : Prop where
  row : w.heap[K.b]? = some (.cells (K.row vI vO lo4 st8 s).toArray 74)
  l4 : lo4.length = 4
  l8 : st8.length = 8
  lol : s.lo.length = K.L
  lo : lo4.take K.L = s.lo.map (·.2)
  stl : s.st.length ≤ 8
  st : st8.take s.st.length = s.st.map (·.2)
  L4 : K.L ≤ 4
  b1 : K.A ≤ K.b
  b2 : K.b < K.B4
  g1 : K.A ≤ K.g
  g2 : K.g < K.B4
  f1 : K.A ≤ K.bf
  f2 : K.bf < K.B4
  c1 : K.A ≤ K.gC
  c2 : K.gC < K.B4
  z : K.B4 ≤ w.heap.size
  ne1 : K.b ≠ K.g
  ne2 : K.b ≠ K.bf
  ne3 : K.b ≠ K.gC
  ne4 : K.gC ≠ K.g
  ne5 : K.gC ≠ K.bf
  code : CiAt w K.g (aims K.l)
  frames : AllAt w K.bf K.fs
  fok : AllOk K.fs
  flen : K.fs.length = K.l.length
  llen : K.l.length ≤ 120
  cells : w.ownsRow K.A 100 5 (.slice (some ⟨K.gC, 0, none⟩) s.hs.1.length K.cC) s.hs.1.length ((s.hs.1.map toldC).flatMap clCells)
  inp : ZsAt w vI (K.zs.drop s.rd)
  inb : ∀ a n c, vI = .slice (some a) n c → K.A ≤ a.block ∧ a.block < K.B4 ∧ a.block ≠ K.b ∧ a.block ≠ K.gC ∧ n ≤ c ∧ ∃ g o, a = ⟨g, o, none⟩
  out : w.ownsRow K.B4 3 1 vO s.out.length (s.out.map (.int .i64))
/-- The blocks of the program's machine. -/
def PK.In (K : PK) (vO : Value) (k : Nat) : Prop := (K.A ≤ k ∧ k < K.B4) ∨ vO.ownBlock = some k
theorem ZsAt.same {w w' : World} {v : Value} {zs : List Int} (h : ZsAt w v zs) (hk : ∀ a n c, v = .slice (some a) n c → w'.heap[a.block]? = w.heap[a.block]?) : ZsAt w' v zs := by
  rcases h with h | ⟨a, cap, hv, hc⟩
  · exact .inl h
  · refine .inr ⟨a, cap, hv, fun j x hj => ?_⟩
    have hbl : (a.add j).block = a.block := by unfold Addr.add; split <;> rfl
    exact (World.cell?_of_block (a := a.add j) (by rw [hbl]; exact hk a _ _ hv)).trans (hc j x hj)
theorem PM.keep {w w' : World} {K : PK} {vI vO : Value} {lo4 st8 : List Int} {s : MS} (h : PM w K vI vO lo4 st8 s) (hz : w.heap.size ≤ w'.heap.size) (hk : ∀ k, k < w.heap.size → K.In vO k → w'.heap[k]? = w.heap[k]?) : PM w' K vI vO lo4 st8 s := by
  have z := h.z
  have hin : ∀ k, K.A ≤ k → k < K.B4 → w'.heap[k]? = w.heap[k]? := fun k h1 h2 => hk k (by omega) (.inl ⟨h1, h2⟩)
  exact { h with
    row := (hin _ h.b1 h.b2).trans h.row
    z := by omega
    code := h.code.same (hin _ h.g1 h.g2)
    frames := (hin _ h.f1 h.f2).trans h.frames
    cells := owns_keep h.cells (fun g hg => by
      simp only [Value.ownBlock, Option.some.injEq] at hg
      subst hg
      exact hin _ h.c1 h.c2)
    inp := h.inp.same (fun a n c e => hin _ (h.inb a n c e).1 (h.inb a n c e).2.1)
    out := owns_keep h.out (fun g hg => hk g (h.out.lt g hg).2 (.inr hg)) }
theorem PM.below {w w' : World} {K : PK} {vI vO : Value} {lo4 st8 : List Int} {s : MS} (h : PM w K vI vO lo4 st8 s) (hb : Below w.heap.size w w') : PM w' K vI vO lo4 st8 s := h.keep hb.size (fun k hk _ => hb.block k hk)
theorem fourZ {l : List Int} (h : l.length = 4) : ∃ a b c d, l = [a, b, c, d] := by
  match l, h with
  | [a, b, c, d], _ => exact ⟨a, b, c, d, rfl⟩
theorem eightZ {l : List Int} (h : l.length = 8) : ∃ a b c d e f g i, l = [a, b, c, d, e, f, g, i] := by
  match l, h with
  | [a, b, c, d, e, f, g, i], _ => exact ⟨a, b, c, d, e, f, g, i, rfl⟩
theorem PM.get {w : World} {K : PK} {vI vO : Value} {lo4 st8 : List Int} {s : MS} (h : PM w K vI vO lo4 st8 s) (j : Nat) : w.cell? ⟨K.b, j, none⟩ = (K.row vI vO lo4 st8 s)[j]? := by
  rw [cell_of_row w K.b j _ _ _ h.row, List.getElem?_toArray]
theorem pphase_any (b o : Nat) (ph : Int) (w : World) (h : w.cell? ⟨b, o + 1, none⟩ = some (.int .i64 ph)) : Calls Tryz.prog 59 #[.pointer (some ⟨b, o, none⟩)] w fun e w' => e = .returned (.int .i64 ph) ∧ w' = w := by
  go_enter Tryz.func59, Tryz.ntmps59
  go_wp2_with fail
  go_ret
  exact ⟨rfl, rfl⟩
theorem phand_any (b o : Nat) (ph : Int) (w : World) (h : w.cell? ⟨b, o + 2, none⟩ = some (.int .i64 ph)) : Calls Tryz.prog 101 #[.pointer (some ⟨b, o, none⟩)] w fun e w' => e = .returned (.int .i64 ph) ∧ w' = w := by
  go_enter Tryz.func101, Tryz.ntmps101
  go_wp2_with fail
  go_ret
  exact ⟨rfl, rfl⟩
def HeapPost (cs : List Cl) (w : World) (e : Ending) (w' : World) : Prop :=
  Below w.heap.size w w' ∧ ∃ v', e = .returned v' ∧ w'.ownsRow w.heap.size 100 5 v' cs.length (cs.flatMap clCells)
theorem pheap_any {w : World} {K : PK} {vI vO : Value} {lo4 st8 : List Int} {s : MS} (h : PM w K vI vO lo4 st8 s) (hn : s.hs.1.length ≤ 100) :
    Calls Tryz.prog 63 #[.pointer (some ⟨K.b, 0, none⟩)] w (HeapPost (s.hs.1.map toldC) w) := by
  have m21 := h.get 21
  obtain ⟨a0, a1, a2, a3, rfl⟩ := fourZ h.l4
  obtain ⟨t0, t1, t2, t3, t4, t5, t6, t7, rfl⟩ := eightZ h.l8
  simp only [PK.row, List.map_cons, List.map_nil, List.cons_append, List.nil_append, List.getElem?_cons_zero, List.getElem?_cons_succ] at m21
  have hls := LsAt.of_owns h.cells
  have hc := hid (pcells_any K.b 21 (s.hs.1.map toldC) _ _ w m21 (by simpa using hls) (by simp; omega))
  clear h hls
  go_enter Tryz.func63, Tryz.ntmps63
  go_wp2_with fail
  refine hc.out.mono ?_
  clear hc
  intro x w5 hh
  have HP := hid hh
  obtain ⟨_, v', hx, _⟩ := hh
  subst x
  go_wp2_with fail
  go_ret
  exact HP.out
theorem zs_of_owns {w : World} {base : Nat} {v : Value} {zs : List Int} (h : w.ownsRow base 3 1 v zs.length (zs.map (.int .i64))) : ZsAt w v zs := by
  have hh := h
  rcases h.2 with ⟨h1, h2⟩ | ⟨g, cap, cur, hv, hg, r⟩
  · exact .inl ⟨h1, List.length_eq_zero_iff.1 h2⟩
  · subst hv
    refine .inr ⟨⟨g, 0, none⟩, cap, rfl, fun j x hj => hh.cells (g := g) rfl j _ ?_⟩
    rw [List.getElem?_map, hj]
    rfl
theorem poutput_any {w : World} {K : PK} {vI vO : Value} {lo4 st8 : List Int} {s : MS} (h : PM w K vI vO lo4 st8 s) (hn : s.out.length ≤ 8796093022208) :
    Calls Tryz.prog 25 #[.pointer (some ⟨K.b, 0, none⟩)] w (CopyPost s.out w) := by
  have m4 := h.get 4
  simp only [PK.row, List.cons_append, List.nil_append, List.getElem?_cons_zero, List.getElem?_cons_succ] at m4
  have hc := hid (copied_any s.out vO w (zs_of_owns h.out) hn)
  clear h
  go_enter Tryz.func25, Tryz.ntmps25
  go_wp2_with fail
  refine hc.out.mono ?_
  clear hc
  intro x w5 hh
  have HP := hid hh
  obtain ⟨_, v', hx, _⟩ := hh
  subst x
  go_wp2_with fail
  go_ret
  exact HP.out
end Go.Proofs.YtdmdpindonghdaaGreatDoor
