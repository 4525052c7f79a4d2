/- The contract of the program's after, at all others. -/
import Derived.Test.YteocjidfbbekfaaDoorFlowD
namespace Go.Proofs.YteocjidfbbekfaaDoor
open Go.RowKit

set_option maxRecDepth 100000 in
set_option maxHeartbeats 1000000 in
theorem aft_other (f : Fr) (op n pl tg : Nat) (w : World) (ok : FrOk f) (hop : op < 25) (hne : op ≠ 7 ∧ op ≠ 8 ∧ op ≠ 9 ∧ op ≠ 10 ∧ op ≠ 11) (htab : FlowTab w) :
    Calls Tryd.prog 37 #[.agg (frL f).toArray, .agg #[.int .i64 pl, .int .i64 op, .int .i64 n, .int .i64 tg]] w (AftPost f op n w) := by
  have HF : Hid (afterF f op n = pushR (popR f (popsN op).reverse) (pushesN op)) := hid (by unfold afterF; rw [if_neg hne.1, if_neg hne.2.1, if_neg hne.2.2.1, if_neg hne.2.2.2.1, if_neg hne.2.2.2.2])
  have k1 := hid (fun W hW ht => popAll_any w.heap.size f op W hW ok hop ht)
  have k2 := hid (fun W hW ht => pushAll_any w.heap.size (popR f (popsN op).reverse) op W hW (popR_ok _ _ ok) hop ht)
  obtain ⟨q1, q2, q3, q4, q5⟩ : ((op : Int) == 7) = false ∧ ((op : Int) == 8) = false ∧ ((op : Int) == 9) = false ∧ ((op : Int) == 10) = false ∧ ((op : Int) == 11) = false := by
    simp only [beq_eq_false_iff_ne]; omega
  have hg3 := World.block_lt_of_cell? w _ (htab op hop).1
  have hg4 := World.block_lt_of_cell? w _ (htab op hop).2
  simp only at hg3 hg4
  clear hne
  obtain ⟨r, lo, d, st, wg⟩ := f
  obtain ⟨h1, h2, h3d⟩ := ok
  simp only at h1 h2
  obtain ⟨a, b, c, e, rfl⟩ := four h1
  obtain ⟨s0, s1, s2, s3, s4, s5, s6, s7, rfl⟩ := eight h2
  simp only [frL, List.map_cons, List.map_nil, List.cons_append, List.nil_append, numV]
  go_enter Tryd.func37, Tryd.ntmps37
  go_wp2_with fail
  refine (k1.out _ (heap_three_first w _ _ _) (htab.below (three_new w _ _ _))).mono ?_
  rintro x w3 ⟨rfl, h5, h6⟩
  have m1 := (h6.cell (k := w.heap.size + 1) (o := 1) (by omega)).trans (cell_three_second w _ _ _ _ 1)
  simp only [List.getElem?_toArray, List.getElem?_cons_zero, List.getElem?_cons_succ] at m1
  have ht3 := FlowTab.only (htab.below (three_new w _ _ _)) h6 (by omega) (by omega)
  go_wp2_with fail
  refine (k2.out _ h5 ht3).mono ?_
  rintro x w2 ⟨rfl, h3, h9⟩
  have h4 := h6.trans h9
  clear k1 k2 h5 h6 h9 m1 ht3
  have hz := h4.size
  simp at hz
  have hres := hid ((h4.block (w.heap.size + 1 + 1) (by omega)).trans (heap_three_third w _ _ _))
  rw [← HF.out] at h3
  have hok3 : FrOk (afterF ⟨r, [a, b, c, e], d, [s0, s1, s2, s3, s4, s5, s6, s7], wg⟩ op n) := afterF_ok ⟨rfl, rfl, h3d⟩ op n
  have HPM := hid (fun W b' hb' hr' => aftPost_mk (f := ⟨r, [a, b, c, e], d, [s0, s1, s2, s3, s4, s5, s6, s7], wg⟩) (op := op) (n := n) (w := w) (W := W) b' hb' hr')
  generalize afterF ⟨r, [a, b, c, e], d, [s0, s1, s2, s3, s4, s5, s6, s7], wg⟩ op n = G at *
  obtain ⟨r', lo', d', st', wg'⟩ := G
  obtain ⟨j1, j2, j3⟩ := hok3
  simp only at j1 j2
  obtain ⟨a', b', c', e', rfl⟩ := four j1
  obtain ⟨t0, t1, t2, t3, t4, t5, t6, t7, rfl⟩ := eight j2
  have c0 := RowAt.cell h3 0
  have c1 := RowAt.cell h3 1
  have c2 := RowAt.cell h3 2
  have c3 := RowAt.cell h3 3
  have c4 := RowAt.cell h3 4
  have c5 := RowAt.cell h3 5
  have c6 := RowAt.cell h3 6
  have c7 := RowAt.cell h3 7
  have c8 := RowAt.cell h3 8
  have c9 := RowAt.cell h3 9
  have c10 := RowAt.cell h3 10
  have c11 := RowAt.cell h3 11
  have c12 := RowAt.cell h3 12
  have c13 := RowAt.cell h3 13
  have c14 := RowAt.cell h3 14
  have z0 := cell_of_row w2 (w.heap.size + 1 + 1) 0 _ _ _ hres.out
  have z1 := cell_of_row w2 (w.heap.size + 1 + 1) 1 _ _ _ hres.out
  have z2 := cell_of_row w2 (w.heap.size + 1 + 1) 2 _ _ _ hres.out
  have z3 := cell_of_row w2 (w.heap.size + 1 + 1) 3 _ _ _ hres.out
  have z4 := cell_of_row w2 (w.heap.size + 1 + 1) 4 _ _ _ hres.out
  have z5 := cell_of_row w2 (w.heap.size + 1 + 1) 5 _ _ _ hres.out
  have z6 := cell_of_row w2 (w.heap.size + 1 + 1) 6 _ _ _ hres.out
  have z7 := cell_of_row w2 (w.heap.size + 1 + 1) 7 _ _ _ hres.out
  have z8 := cell_of_row w2 (w.heap.size + 1 + 1) 8 _ _ _ hres.out
  have z9 := cell_of_row w2 (w.heap.size + 1 + 1) 9 _ _ _ hres.out
  have z10 := cell_of_row w2 (w.heap.size + 1 + 1) 10 _ _ _ hres.out
  have z11 := cell_of_row w2 (w.heap.size + 1 + 1) 11 _ _ _ hres.out
  have z12 := cell_of_row w2 (w.heap.size + 1 + 1) 12 _ _ _ hres.out
  have z13 := cell_of_row w2 (w.heap.size + 1 + 1) 13 _ _ _ hres.out
  have z14 := cell_of_row w2 (w.heap.size + 1 + 1) 14 _ _ _ hres.out
  have g0 := frozen_of_row w2 (w.heap.size + 1 + 1) 0 _ _ hres.out
  have g1 := frozen_of_row w2 (w.heap.size + 1 + 1) 1 _ _ hres.out
  have g2 := frozen_of_row w2 (w.heap.size + 1 + 1) 2 _ _ hres.out
  have g3 := frozen_of_row w2 (w.heap.size + 1 + 1) 3 _ _ hres.out
  have g4 := frozen_of_row w2 (w.heap.size + 1 + 1) 4 _ _ hres.out
  have g5 := frozen_of_row w2 (w.heap.size + 1 + 1) 5 _ _ hres.out
  have g6 := frozen_of_row w2 (w.heap.size + 1 + 1) 6 _ _ hres.out
  have g7 := frozen_of_row w2 (w.heap.size + 1 + 1) 7 _ _ hres.out
  have g8 := frozen_of_row w2 (w.heap.size + 1 + 1) 8 _ _ hres.out
  have g9 := frozen_of_row w2 (w.heap.size + 1 + 1) 9 _ _ hres.out
  have g10 := frozen_of_row w2 (w.heap.size + 1 + 1) 10 _ _ hres.out
  have g11 := frozen_of_row w2 (w.heap.size + 1 + 1) 11 _ _ hres.out
  have g12 := frozen_of_row w2 (w.heap.size + 1 + 1) 12 _ _ hres.out
  have g13 := frozen_of_row w2 (w.heap.size + 1 + 1) 13 _ _ hres.out
  have g14 := frozen_of_row w2 (w.heap.size + 1 + 1) 14 _ _ hres.out
  simp only [frL, List.map_cons, List.map_nil, List.cons_append, List.nil_append, numV, List.getElem?_toArray, List.getElem?_cons_zero, List.getElem?_cons_succ] at c0 c1 c2 c3 c4 c5 c6 c7 c8 c9 c10 c11 c12 c13 c14 z0 z1 z2 z3 z4 z5 z6 z7 z8 z9 z10 z11 z12 z13 z14
  simp only [frL, List.map_cons, List.map_nil, List.cons_append, List.nil_append, numV] at HPM
  go_wp2_with fail
  go_region
  go_wp2_with fail
  have hbw : Below w.heap.size w w2 := (three_new w _ _ _).trans (h4.below (Nat.le_refl _))
  exact bodyPost_ret (aft_res (by rfl) (by rfl) (fifteen_set hres.out _ _ _ _ _ _ _ _ _ _ _ _ _ _ _).drew) rfl (HPM.out _ _ (fifteen_below hbw (by omega) _ _ _ _ _ _ _ _ _ _ _ _ _ _ _).drew rfl)
end Go.Proofs.YteocjidfbbekfaaDoor
