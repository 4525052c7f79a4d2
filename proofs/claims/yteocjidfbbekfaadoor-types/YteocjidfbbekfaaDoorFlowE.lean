/- The contract of the program's after, at a Load, a Store and a Drop. -/
import Derived.Test.YteocjidfbbekfaaDoorFlowD
namespace Go.Proofs.YteocjidfbbekfaaDoor
open Go.RowKit

set_option maxRecDepth 100000 in
set_option maxHeartbeats 1000000 in
theorem aft_load (f : Fr) (n pl tg : Nat) (w : World) (ok : FrOk f) (hn : n < 4) :
    Calls Tryd.prog 37 #[.agg (frL f).toArray, .agg #[.int .i64 pl, .int .i64 (7 : Nat), .int .i64 n, .int .i64 tg]] w (AftPost f 7 n w) := by
  have HF : Hid (afterF f 7 n = loadF f n) := hid (rfl)
  have hld := hid (fun W hW => load_any w.heap.size f n W hW ok hn)
  obtain ⟨r, lo, d, st, wg⟩ := f
  obtain ⟨h1, h2, h3d⟩ := ok
  simp only at h1 h2
  obtain ⟨a, b, c, e, rfl⟩ := four h1
  obtain ⟨s0, s1, s2, s3, s4, s5, s6, s7, rfl⟩ := eight h2
  simp only [frL, List.map_cons, List.map_nil, List.cons_append, List.nil_append, numV]
  go_enter Tryd.func37, Tryd.ntmps37
  go_wp2_with fail
  refine (hld.out _ (heap_three_first w _ _ _)).mono ?_
  rintro x w2 ⟨rfl, h3, h4⟩
  have hz := h4.size
  simp at hz
  have hres := hid ((h4.block (w.heap.size + 1 + 1) (by omega)).trans (heap_three_third w _ _ _))
  rw [← HF.out] at h3
  have hok3 : FrOk (afterF ⟨r, [a, b, c, e], d, [s0, s1, s2, s3, s4, s5, s6, s7], wg⟩ 7 n) := afterF_ok ⟨rfl, rfl, h3d⟩ 7 n
  have HPM := hid (fun W b' hb' hr' => aftPost_mk (f := ⟨r, [a, b, c, e], d, [s0, s1, s2, s3, s4, s5, s6, s7], wg⟩) (op := 7) (n := n) (w := w) (W := W) b' hb' hr')
  generalize afterF ⟨r, [a, b, c, e], d, [s0, s1, s2, s3, s4, s5, s6, s7], wg⟩ 7 n = G at *
  obtain ⟨r', lo', d', st', wg'⟩ := G
  obtain ⟨j1, j2, j3⟩ := hok3
  simp only at j1 j2
  obtain ⟨a', b', c', e', rfl⟩ := four j1
  obtain ⟨t0, t1, t2, t3, t4, t5, t6, t7, rfl⟩ := eight j2
  have c0 := RowAt.cell h3 0
  have c1 := RowAt.cell h3 1
  have c2 := RowAt.cell h3 2
  have c3 := RowAt.cell h3 3
  have c4 := RowAt.cell h3 4
  have c5 := RowAt.cell h3 5
  have c6 := RowAt.cell h3 6
  have c7 := RowAt.cell h3 7
  have c8 := RowAt.cell h3 8
  have c9 := RowAt.cell h3 9
  have c10 := RowAt.cell h3 10
  have c11 := RowAt.cell h3 11
  have c12 := RowAt.cell h3 12
  have c13 := RowAt.cell h3 13
  have c14 := RowAt.cell h3 14
  have z0 := cell_of_row w2 (w.heap.size + 1 + 1) 0 _ _ _ hres.out
  have z1 := cell_of_row w2 (w.heap.size + 1 + 1) 1 _ _ _ hres.out
  have z2 := cell_of_row w2 (w.heap.size + 1 + 1) 2 _ _ _ hres.out
  have z3 := cell_of_row w2 (w.heap.size + 1 + 1) 3 _ _ _ hres.out
  have z4 := cell_of_row w2 (w.heap.size + 1 + 1) 4 _ _ _ hres.out
  have z5 := cell_of_row w2 (w.heap.size + 1 + 1) 5 _ _ _ hres.out
  have z6 := cell_of_row w2 (w.heap.size + 1 + 1) 6 _ _ _ hres.out
  have z7 := cell_of_row w2 (w.heap.size + 1 + 1) 7 _ _ _ hres.out
  have z8 := cell_of_row w2 (w.heap.size + 1 + 1) 8 _ _ _ hres.out
  have z9 := cell_of_row w2 (w.heap.size + 1 + 1) 9 _ _ _ hres.out
  have z10 := cell_of_row w2 (w.heap.size + 1 + 1) 10 _ _ _ hres.out
  have z11 := cell_of_row w2 (w.heap.size + 1 + 1) 11 _ _ _ hres.out
  have z12 := cell_of_row w2 (w.heap.size + 1 + 1) 12 _ _ _ hres.out
  have z13 := cell_of_row w2 (w.heap.size + 1 + 1) 13 _ _ _ hres.out
  have z14 := cell_of_row w2 (w.heap.size + 1 + 1) 14 _ _ _ hres.out
  have g0 := frozen_of_row w2 (w.heap.size + 1 + 1) 0 _ _ hres.out
  have g1 := frozen_of_row w2 (w.heap.size + 1 + 1) 1 _ _ hres.out
  have g2 := frozen_of_row w2 (w.heap.size + 1 + 1) 2 _ _ hres.out
  have g3 := frozen_of_row w2 (w.heap.size + 1 + 1) 3 _ _ hres.out
  have g4 := frozen_of_row w2 (w.heap.size + 1 + 1) 4 _ _ hres.out
  have g5 := frozen_of_row w2 (w.heap.size + 1 + 1) 5 _ _ hres.out
  have g6 := frozen_of_row w2 (w.heap.size + 1 + 1) 6 _ _ hres.out
  have g7 := frozen_of_row w2 (w.heap.size + 1 + 1) 7 _ _ hres.out
  have g8 := frozen_of_row w2 (w.heap.size + 1 + 1) 8 _ _ hres.out
  have g9 := frozen_of_row w2 (w.heap.size + 1 + 1) 9 _ _ hres.out
  have g10 := frozen_of_row w2 (w.heap.size + 1 + 1) 10 _ _ hres.out
  have g11 := frozen_of_row w2 (w.heap.size + 1 + 1) 11 _ _ hres.out
  have g12 := frozen_of_row w2 (w.heap.size + 1 + 1) 12 _ _ hres.out
  have g13 := frozen_of_row w2 (w.heap.size + 1 + 1) 13 _ _ hres.out
  have g14 := frozen_of_row w2 (w.heap.size + 1 + 1) 14 _ _ hres.out
  simp only [frL, List.map_cons, List.map_nil, List.cons_append, List.nil_append, numV, List.getElem?_toArray, List.getElem?_cons_zero, List.getElem?_cons_succ] at c0 c1 c2 c3 c4 c5 c6 c7 c8 c9 c10 c11 c12 c13 c14 z0 z1 z2 z3 z4 z5 z6 z7 z8 z9 z10 z11 z12 z13 z14
  simp only [frL, List.map_cons, List.map_nil, List.cons_append, List.nil_append, numV] at HPM
  go_wp2_with fail
  go_region
  go_wp2_with fail
  have hbw : Below w.heap.size w w2 := (three_new w _ _ _).trans (h4.below (Nat.le_refl _))
  exact bodyPost_ret (aft_res (by rfl) (by rfl) (fifteen_set hres.out _ _ _ _ _ _ _ _ _ _ _ _ _ _ _).drew) rfl (HPM.out _ _ (fifteen_below hbw (by omega) _ _ _ _ _ _ _ _ _ _ _ _ _ _ _).drew rfl)

set_option maxRecDepth 100000 in
set_option maxHeartbeats 1000000 in
theorem aft_store (f : Fr) (n pl tg : Nat) (w : World) (ok : FrOk f) (hn : n < 4) :
    Calls Tryd.prog 37 #[.agg (frL f).toArray, .agg #[.int .i64 pl, .int .i64 (8 : Nat), .int .i64 n, .int .i64 tg]] w (AftPost f 8 n w) := by
  have HF : Hid (afterF f 8 n = storeF f n) := hid (rfl)
  have hld := hid (fun W hW => store_any w.heap.size f n W hW ok hn)
  obtain ⟨r, lo, d, st, wg⟩ := f
  obtain ⟨h1, h2, h3d⟩ := ok
  simp only at h1 h2
  obtain ⟨a, b, c, e, rfl⟩ := four h1
  obtain ⟨s0, s1, s2, s3, s4, s5, s6, s7, rfl⟩ := eight h2
  simp only [frL, List.map_cons, List.map_nil, List.cons_append, List.nil_append, numV]
  go_enter Tryd.func37, Tryd.ntmps37
  go_wp2_with fail
  refine (hld.out _ (heap_three_first w _ _ _)).mono ?_
  rintro x w2 ⟨rfl, h3, h4⟩
  have hz := h4.size
  simp at hz
  have hres := hid ((h4.block (w.heap.size + 1 + 1) (by omega)).trans (heap_three_third w _ _ _))
  rw [← HF.out] at h3
  have hok3 : FrOk (afterF ⟨r, [a, b, c, e], d, [s0, s1, s2, s3, s4, s5, s6, s7], wg⟩ 8 n) := afterF_ok ⟨rfl, rfl, h3d⟩ 8 n
  have HPM := hid (fun W b' hb' hr' => aftPost_mk (f := ⟨r, [a, b, c, e], d, [s0, s1, s2, s3, s4, s5, s6, s7], wg⟩) (op := 8) (n := n) (w := w) (W := W) b' hb' hr')
  generalize afterF ⟨r, [a, b, c, e], d, [s0, s1, s2, s3, s4, s5, s6, s7], wg⟩ 8 n = G at *
  obtain ⟨r', lo', d', st', wg'⟩ := G
  obtain ⟨j1, j2, j3⟩ := hok3
  simp only at j1 j2
  obtain ⟨a', b', c', e', rfl⟩ := four j1
  obtain ⟨t0, t1, t2, t3, t4, t5, t6, t7, rfl⟩ := eight j2
  have c0 := RowAt.cell h3 0
  have c1 := RowAt.cell h3 1
  have c2 := RowAt.cell h3 2
  have c3 := RowAt.cell h3 3
  have c4 := RowAt.cell h3 4
  have c5 := RowAt.cell h3 5
  have c6 := RowAt.cell h3 6
  have c7 := RowAt.cell h3 7
  have c8 := RowAt.cell h3 8
  have c9 := RowAt.cell h3 9
  have c10 := RowAt.cell h3 10
  have c11 := RowAt.cell h3 11
  have c12 := RowAt.cell h3 12
  have c13 := RowAt.cell h3 13
  have c14 := RowAt.cell h3 14
  have z0 := cell_of_row w2 (w.heap.size + 1 + 1) 0 _ _ _ hres.out
  have z1 := cell_of_row w2 (w.heap.size + 1 + 1) 1 _ _ _ hres.out
  have z2 := cell_of_row w2 (w.heap.size + 1 + 1) 2 _ _ _ hres.out
  have z3 := cell_of_row w2 (w.heap.size + 1 + 1) 3 _ _ _ hres.out
  have z4 := cell_of_row w2 (w.heap.size + 1 + 1) 4 _ _ _ hres.out
  have z5 := cell_of_row w2 (w.heap.size + 1 + 1) 5 _ _ _ hres.out
  have z6 := cell_of_row w2 (w.heap.size + 1 + 1) 6 _ _ _ hres.out
  have z7 := cell_of_row w2 (w.heap.size + 1 + 1) 7 _ _ _ hres.out
  have z8 := cell_of_row w2 (w.heap.size + 1 + 1) 8 _ _ _ hres.out
  have z9 := cell_of_row w2 (w.heap.size + 1 + 1) 9 _ _ _ hres.out
  have z10 := cell_of_row w2 (w.heap.size + 1 + 1) 10 _ _ _ hres.out
  have z11 := cell_of_row w2 (w.heap.size + 1 + 1) 11 _ _ _ hres.out
  have z12 := cell_of_row w2 (w.heap.size + 1 + 1) 12 _ _ _ hres.out
  have z13 := cell_of_row w2 (w.heap.size + 1 + 1) 13 _ _ _ hres.out
  have z14 := cell_of_row w2 (w.heap.size + 1 + 1) 14 _ _ _ hres.out
  have g0 := frozen_of_row w2 (w.heap.size + 1 + 1) 0 _ _ hres.out
  have g1 := frozen_of_row w2 (w.heap.size + 1 + 1) 1 _ _ hres.out
  have g2 := frozen_of_row w2 (w.heap.size + 1 + 1) 2 _ _ hres.out
  have g3 := frozen_of_row w2 (w.heap.size + 1 + 1) 3 _ _ hres.out
  have g4 := frozen_of_row w2 (w.heap.size + 1 + 1) 4 _ _ hres.out
  have g5 := frozen_of_row w2 (w.heap.size + 1 + 1) 5 _ _ hres.out
  have g6 := frozen_of_row w2 (w.heap.size + 1 + 1) 6 _ _ hres.out
  have g7 := frozen_of_row w2 (w.heap.size + 1 + 1) 7 _ _ hres.out
  have g8 := frozen_of_row w2 (w.heap.size + 1 + 1) 8 _ _ hres.out
  have g9 := frozen_of_row w2 (w.heap.size + 1 + 1) 9 _ _ hres.out
  have g10 := frozen_of_row w2 (w.heap.size + 1 + 1) 10 _ _ hres.out
  have g11 := frozen_of_row w2 (w.heap.size + 1 + 1) 11 _ _ hres.out
  have g12 := frozen_of_row w2 (w.heap.size + 1 + 1) 12 _ _ hres.out
  have g13 := frozen_of_row w2 (w.heap.size + 1 + 1) 13 _ _ hres.out
  have g14 := frozen_of_row w2 (w.heap.size + 1 + 1) 14 _ _ hres.out
  simp only [frL, List.map_cons, List.map_nil, List.cons_append, List.nil_append, numV, List.getElem?_toArray, List.getElem?_cons_zero, List.getElem?_cons_succ] at c0 c1 c2 c3 c4 c5 c6 c7 c8 c9 c10 c11 c12 c13 c14 z0 z1 z2 z3 z4 z5 z6 z7 z8 z9 z10 z11 z12 z13 z14
  simp only [frL, List.map_cons, List.map_nil, List.cons_append, List.nil_append, numV] at HPM
  go_wp2_with fail
  go_region
  go_wp2_with fail
  have hbw : Below w.heap.size w w2 := (three_new w _ _ _).trans (h4.below (Nat.le_refl _))
  exact bodyPost_ret (aft_res (by rfl) (by rfl) (fifteen_set hres.out _ _ _ _ _ _ _ _ _ _ _ _ _ _ _).drew) rfl (HPM.out _ _ (fifteen_below hbw (by omega) _ _ _ _ _ _ _ _ _ _ _ _ _ _ _).drew rfl)

set_option maxRecDepth 100000 in
set_option maxHeartbeats 1000000 in
theorem aft_drop (f : Fr) (n pl tg : Nat) (w : World) (ok : FrOk f) :
    Calls Tryd.prog 37 #[.agg (frL f).toArray, .agg #[.int .i64 pl, .int .i64 (10 : Nat), .int .i64 n, .int .i64 tg]] w (AftPost f 10 n w) := by
  have HF : Hid (afterF f 10 n = (popF f).1) := hid (rfl)
  have hld := hid (fun W hW => pop_any w.heap.size f W hW ok)
  obtain ⟨r, lo, d, st, wg⟩ := f
  obtain ⟨h1, h2, h3d⟩ := ok
  simp only at h1 h2
  obtain ⟨a, b, c, e, rfl⟩ := four h1
  obtain ⟨s0, s1, s2, s3, s4, s5, s6, s7, rfl⟩ := eight h2
  simp only [frL, List.map_cons, List.map_nil, List.cons_append, List.nil_append, numV]
  go_enter Tryd.func37, Tryd.ntmps37
  go_wp2_with fail
  refine (hld.out _ (heap_three_first w _ _ _)).mono ?_
  rintro x w2 ⟨rfl, h3, h4⟩
  have hz := h4.size
  simp at hz
  have hres := hid ((h4.block (w.heap.size + 1 + 1) (by omega)).trans (heap_three_third w _ _ _))
  rw [← HF.out] at h3
  have hok3 : FrOk (afterF ⟨r, [a, b, c, e], d, [s0, s1, s2, s3, s4, s5, s6, s7], wg⟩ 10 n) := afterF_ok ⟨rfl, rfl, h3d⟩ 10 n
  have HPM := hid (fun W b' hb' hr' => aftPost_mk (f := ⟨r, [a, b, c, e], d, [s0, s1, s2, s3, s4, s5, s6, s7], wg⟩) (op := 10) (n := n) (w := w) (W := W) b' hb' hr')
  generalize afterF ⟨r, [a, b, c, e], d, [s0, s1, s2, s3, s4, s5, s6, s7], wg⟩ 10 n = G at *
  obtain ⟨r', lo', d', st', wg'⟩ := G
  obtain ⟨j1, j2, j3⟩ := hok3
  simp only at j1 j2
  obtain ⟨a', b', c', e', rfl⟩ := four j1
  obtain ⟨t0, t1, t2, t3, t4, t5, t6, t7, rfl⟩ := eight j2
  have c0 := RowAt.cell h3 0
  have c1 := RowAt.cell h3 1
  have c2 := RowAt.cell h3 2
  have c3 := RowAt.cell h3 3
  have c4 := RowAt.cell h3 4
  have c5 := RowAt.cell h3 5
  have c6 := RowAt.cell h3 6
  have c7 := RowAt.cell h3 7
  have c8 := RowAt.cell h3 8
  have c9 := RowAt.cell h3 9
  have c10 := RowAt.cell h3 10
  have c11 := RowAt.cell h3 11
  have c12 := RowAt.cell h3 12
  have c13 := RowAt.cell h3 13
  have c14 := RowAt.cell h3 14
  have z0 := cell_of_row w2 (w.heap.size + 1 + 1) 0 _ _ _ hres.out
  have z1 := cell_of_row w2 (w.heap.size + 1 + 1) 1 _ _ _ hres.out
  have z2 := cell_of_row w2 (w.heap.size + 1 + 1) 2 _ _ _ hres.out
  have z3 := cell_of_row w2 (w.heap.size + 1 + 1) 3 _ _ _ hres.out
  have z4 := cell_of_row w2 (w.heap.size + 1 + 1) 4 _ _ _ hres.out
  have z5 := cell_of_row w2 (w.heap.size + 1 + 1) 5 _ _ _ hres.out
  have z6 := cell_of_row w2 (w.heap.size + 1 + 1) 6 _ _ _ hres.out
  have z7 := cell_of_row w2 (w.heap.size + 1 + 1) 7 _ _ _ hres.out
  have z8 := cell_of_row w2 (w.heap.size + 1 + 1) 8 _ _ _ hres.out
  have z9 := cell_of_row w2 (w.heap.size + 1 + 1) 9 _ _ _ hres.out
  have z10 := cell_of_row w2 (w.heap.size + 1 + 1) 10 _ _ _ hres.out
  have z11 := cell_of_row w2 (w.heap.size + 1 + 1) 11 _ _ _ hres.out
  have z12 := cell_of_row w2 (w.heap.size + 1 + 1) 12 _ _ _ hres.out
  have z13 := cell_of_row w2 (w.heap.size + 1 + 1) 13 _ _ _ hres.out
  have z14 := cell_of_row w2 (w.heap.size + 1 + 1) 14 _ _ _ hres.out
  have g0 := frozen_of_row w2 (w.heap.size + 1 + 1) 0 _ _ hres.out
  have g1 := frozen_of_row w2 (w.heap.size + 1 + 1) 1 _ _ hres.out
  have g2 := frozen_of_row w2 (w.heap.size + 1 + 1) 2 _ _ hres.out
  have g3 := frozen_of_row w2 (w.heap.size + 1 + 1) 3 _ _ hres.out
  have g4 := frozen_of_row w2 (w.heap.size + 1 + 1) 4 _ _ hres.out
  have g5 := frozen_of_row w2 (w.heap.size + 1 + 1) 5 _ _ hres.out
  have g6 := frozen_of_row w2 (w.heap.size + 1 + 1) 6 _ _ hres.out
  have g7 := frozen_of_row w2 (w.heap.size + 1 + 1) 7 _ _ hres.out
  have g8 := frozen_of_row w2 (w.heap.size + 1 + 1) 8 _ _ hres.out
  have g9 := frozen_of_row w2 (w.heap.size + 1 + 1) 9 _ _ hres.out
  have g10 := frozen_of_row w2 (w.heap.size + 1 + 1) 10 _ _ hres.out
  have g11 := frozen_of_row w2 (w.heap.size + 1 + 1) 11 _ _ hres.out
  have g12 := frozen_of_row w2 (w.heap.size + 1 + 1) 12 _ _ hres.out
  have g13 := frozen_of_row w2 (w.heap.size + 1 + 1) 13 _ _ hres.out
  have g14 := frozen_of_row w2 (w.heap.size + 1 + 1) 14 _ _ hres.out
  simp only [frL, List.map_cons, List.map_nil, List.cons_append, List.nil_append, numV, List.getElem?_toArray, List.getElem?_cons_zero, List.getElem?_cons_succ] at c0 c1 c2 c3 c4 c5 c6 c7 c8 c9 c10 c11 c12 c13 c14 z0 z1 z2 z3 z4 z5 z6 z7 z8 z9 z10 z11 z12 z13 z14
  simp only [frL, List.map_cons, List.map_nil, List.cons_append, List.nil_append, numV] at HPM
  go_wp2_with fail
  go_region
  go_wp2_with fail
  have hbw : Below w.heap.size w w2 := (three_new w _ _ _).trans (h4.below (Nat.le_refl _))
  exact bodyPost_ret (aft_res (by rfl) (by rfl) (fifteen_set hres.out _ _ _ _ _ _ _ _ _ _ _ _ _ _ _).drew) rfl (HPM.out _ _ (fifteen_below hbw (by omega) _ _ _ _ _ _ _ _ _ _ _ _ _ _ _).drew rfl)
end Go.Proofs.YteocjidfbbekfaaDoor
