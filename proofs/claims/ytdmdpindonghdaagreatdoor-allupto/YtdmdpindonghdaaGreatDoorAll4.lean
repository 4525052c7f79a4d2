/- What the proofs of these statements stand on, part 4: PmC. -/
import Derived.Test.YtdmdpindonghdaaGreatDoorAll3
set_option maxHeartbeats 4000000
set_option maxRecDepth 100000
namespace Go.Proofs.YtdmdpindonghdaaGreatDoor
open Go.RowKit
def PStatePost (oc va : Int) (pl : Nat) (ph hd : Int) (Q1 Q2 : List (Nat × Int)) (w : World) (e : Ending) (w' : World) : Prop :=
  Below w.heap.size w w' ∧ ∃ v1 v2, e = .returned (.agg #[.int .i64 oc, .int .i64 va, .int .i64 pl, .int .i64 ph, .int .i64 hd, v1, v2]) ∧ w'.ownsRow w.heap.size 98 2 v1 Q1.length (Q1.flatMap slCells) ∧ w'.ownsRow w.heap.size 98 2 v2 Q2.length (Q2.flatMap slCells) ∧ ∀ g, v1.ownBlock = some g → v2.ownBlock ≠ some g
theorem only7 (w : World) (b : Nat) (v0 v1 v2 v3 v4 v5 v6 : Value) : Only b w (((((((w.setCell ⟨b, 0, none⟩ v0).setCell ⟨b, 1, none⟩ v1).setCell ⟨b, 2, none⟩ v2).setCell ⟨b, 3, none⟩ v3).setCell ⟨b, 4, none⟩ v4).setCell ⟨b, 5, none⟩ v5).setCell ⟨b, 6, none⟩ v6) := (((((((Only.refl _ _).set _ _).set _ _).set _ _).set _ _).set _ _).set _ _).set _ _
theorem row7 {w : World} {b : Nat} {t : TypeId} {x0 x1 x2 x3 x4 x5 x6 : Value} (h : w.heap[b]? = some (.cells #[x0, x1, x2, x3, x4, x5, x6] t)) (v0 v1 v2 v3 v4 v5 v6 : Value) : (((((((w.setCell ⟨b, 0, none⟩ v0).setCell ⟨b, 1, none⟩ v1).setCell ⟨b, 2, none⟩ v2).setCell ⟨b, 3, none⟩ v3).setCell ⟨b, 4, none⟩ v4).setCell ⟨b, 5, none⟩ v5).setCell ⟨b, 6, none⟩ v6).heap[b]? = some (.cells #[v0, v1, v2, v3, v4, v5, v6] t) := by
  have h0 := setCell_row 0 v0 h
  simp only [List.setIfInBounds_toArray, List.set_cons_zero] at h0
  have h1 := setCell_row 1 v1 h0
  simp only [List.setIfInBounds_toArray, List.set_cons_zero, List.set_cons_succ] at h1
  have h2 := setCell_row 2 v2 h1
  simp only [List.setIfInBounds_toArray, List.set_cons_zero, List.set_cons_succ] at h2
  have h3 := setCell_row 3 v3 h2
  simp only [List.setIfInBounds_toArray, List.set_cons_zero, List.set_cons_succ] at h3
  have h4 := setCell_row 4 v4 h3
  simp only [List.setIfInBounds_toArray, List.set_cons_zero, List.set_cons_succ] at h4
  have h5 := setCell_row 5 v5 h4
  simp only [List.setIfInBounds_toArray, List.set_cons_zero, List.set_cons_succ] at h5
  have h6 := setCell_row 6 v6 h5
  simp only [List.setIfInBounds_toArray, List.set_cons_zero, List.set_cons_succ] at h6
  exact h6
theorem pstate_any {w : World} {K : PK} {vI vO : Value} {lo4 st8 : List Int} {s : MS} (h : PM w K vI vO lo4 st8 s) {i : Ins} {f : Fr} (hi : K.l[s.at_]? = some i) (hf : K.fs[s.at_]? = some f) :
    Calls Tryz.prog 60 #[.pointer (some ⟨K.b, 0, none⟩)] w (PStatePost s.oc s.va i.place s.hs.2.1 s.hs.2.2 (slotsF (f.lo.take K.L) lo4) (slotsF (f.stk.take f.depth) st8) w) := by
  obtain ⟨p0, _, _, _⟩ := h.code s.at_ _ (aims_get hi)
  have hlt := (List.getElem?_eq_some_iff.1 hi).1
  have hfok := h.fok _ (List.mem_of_getElem? hf)
  have hlt1 := hid (fun W => localTypes_any f K.L W hfok h.L4)
  have hst1 := hid (fun W => stackTypes_any f W hfok)
  have hfl : (f.lo.take K.L).length ≤ 1000 := by have := hfok.lo; simp; omega
  have hsl : (f.stk.take f.depth).length ≤ 1000 := by have := hfok.stk; simp; omega
  have hz := h.z
  have hb2 := h.b2
  have hg2 := h.g2
  have hf2 := h.f2
  have hbz : K.b < w.heap.size := by omega
  have hgz : K.g < w.heap.size := by omega
  have hfz : K.bf < w.heap.size := by omega
  have c0 := h.frames.cell h.fok hf (j := 0) (by omega)
  have c1 := h.frames.cell h.fok hf (j := 1) (by omega)
  have c2 := h.frames.cell h.fok hf (j := 2) (by omega)
  have c3 := h.frames.cell h.fok hf (j := 3) (by omega)
  have c4 := h.frames.cell h.fok hf (j := 4) (by omega)
  have c5 := h.frames.cell h.fok hf (j := 5) (by omega)
  have c6 := h.frames.cell h.fok hf (j := 6) (by omega)
  have c7 := h.frames.cell h.fok hf (j := 7) (by omega)
  have c8 := h.frames.cell h.fok hf (j := 8) (by omega)
  have c9 := h.frames.cell h.fok hf (j := 9) (by omega)
  have c10 := h.frames.cell h.fok hf (j := 10) (by omega)
  have c11 := h.frames.cell h.fok hf (j := 11) (by omega)
  have c12 := h.frames.cell h.fok hf (j := 12) (by omega)
  have c13 := h.frames.cell h.fok hf (j := 13) (by omega)
  have c14 := h.frames.cell h.fok hf (j := 14) (by omega)
  have m0 := h.get 0
  have m1 := h.get 1
  have m2 := h.get 2
  have m5 := h.get 5
  have m6 := h.get 6
  have m7 := h.get 7
  have m8 := h.get 8
  have m9 := h.get 9
  have m10 := h.get 10
  have m11 := h.get 11
  have m13 := h.get 13
  have m14 := h.get 14
  have m15 := h.get 15
  have m16 := h.get 16
  have m17 := h.get 17
  have m18 := h.get 18
  have m19 := h.get 19
  have m20 := h.get 20
  have m22 := h.get 22
  have m23 := h.get 23
  obtain ⟨x0, x1, x2, x3, rfl⟩ := fourZ h.l4
  obtain ⟨t0, t1, t2, t3, t4, t5, t6, t7, rfl⟩ := eightZ h.l8
  simp only [PK.row, List.map_cons, List.map_nil, List.cons_append, List.nil_append, List.getElem?_cons_zero, List.getElem?_cons_succ] at m0 m1 m2 m5 m6 m7 m8 m9 m10 m11 m13 m14 m15 m16 m17 m18 m19 m20 m22 m23
  have hsl1 := hid (fun (W : World) (hb : Below w.heap.size w W) (P : Nat → Prop) (v : Value) (hv : IntsAt W P v (f.lo.take K.L)) => pslots_any (f.lo.take K.L) [x0, x1, x2, x3] P v K.b 8 4 W hv (fun j x hj => by
    rw [hb.cell (p := ⟨K.b, 8 + j, none⟩) hbz]
    match j with
    | 0 => rw [m8]; simp at hj; rw [hj]
    | 1 => rw [m9]; simp at hj; rw [hj]
    | 2 => rw [m10]; simp at hj; rw [hj]
    | 3 => rw [m11]; simp at hj; rw [hj]
    | j + 4 => simp at hj) hfl (by simp))
  have hsl2 := hid (fun (W : World) (hb : Below w.heap.size w W) (P : Nat → Prop) (v : Value) (hv : IntsAt W P v (f.stk.take f.depth)) => pslots_any (f.stk.take f.depth) [t0, t1, t2, t3, t4, t5, t6, t7] P v K.b 13 8 W hv (fun j x hj => by
    rw [hb.cell (p := ⟨K.b, 13 + j, none⟩) hbz]
    match j with
    | 0 => rw [m13]; simp at hj; rw [hj]
    | 1 => rw [m14]; simp at hj; rw [hj]
    | 2 => rw [m15]; simp at hj; rw [hj]
    | 3 => rw [m16]; simp at hj; rw [hj]
    | 4 => rw [m17]; simp at hj; rw [hj]
    | 5 => rw [m18]; simp at hj; rw [hj]
    | 6 => rw [m19]; simp at hj; rw [hj]
    | 7 => rw [m20]; simp at hj; rw [hj]
    | j + 8 => simp at hj) hsl (by simp))
  have hph := hid (fun (W : World) (hb : Below w.heap.size w W) => pphase_any K.b 21 s.hs.2.1 W ((hb.cell (p := ⟨K.b, 22, none⟩) hbz).trans m22))
  have hhd := hid (fun (W : World) (hb : Below w.heap.size w W) => phand_any K.b 21 s.hs.2.2 W ((hb.cell (p := ⟨K.b, 23, none⟩) hbz).trans m23))
  generalize hQ1 : slotsF (f.lo.take K.L) [x0, x1, x2, x3] = Q1 at *
  generalize hQ2 : slotsF (f.stk.take f.depth) [t0, t1, t2, t3, t4, t5, t6, t7] = Q2 at *
  generalize hT1 : f.lo.take K.L = T1 at *
  generalize hT2 : f.stk.take f.depth = T2 at *
  clear hQ1 hQ2 hT1 hT2 m8 m9 m10 m11 m13 m14 m15 m16 m17 m18 m19 m20 m22 m23 hz hb2 hg2 hf2
  obtain ⟨fr, flo, d, fst, fw⟩ := f
  obtain ⟨h1, h2, h3⟩ := hfok
  simp only at h1 h2
  obtain ⟨a, b, c, e, rfl⟩ := four h1
  obtain ⟨s0, s1, s2, s3, s4, s5, s6, s7, rfl⟩ := eight h2
  simp only [frL, List.map_cons, List.map_nil, List.cons_append, List.nil_append, numV, List.getElem?_cons_zero, List.getElem?_cons_succ] at c0 c1 c2 c3 c4 c5 c6 c7 c8 c9 c10 c11 c12 c13 c14 hlt1 hst1
  rw [Nat.add_zero] at c0
  have d0 : ¬ (s.at_ : Int) < 0 := by omega
  have d1 : (s.at_ : Int) < (K.l.length : Int) := by omega
  have d2 : ¬ (K.l.length : Int) ≤ (s.at_ : Int) := by omega
  have d3 : (0 : Int) ≤ (s.at_ : Int) := by omega
  have HFC : Hid (∀ W, Below w.heap.size w W → W.cell? ⟨K.bf, s.at_ * 15, none⟩ = some (.bool fr) ∧ W.cell? ⟨K.bf, s.at_ * 15 + 1, none⟩ = some (.int .i64 a) ∧ W.cell? ⟨K.bf, s.at_ * 15 + 2, none⟩ = some (.int .i64 b) ∧ W.cell? ⟨K.bf, s.at_ * 15 + 3, none⟩ = some (.int .i64 c) ∧ W.cell? ⟨K.bf, s.at_ * 15 + 4, none⟩ = some (.int .i64 e) ∧ W.cell? ⟨K.bf, s.at_ * 15 + 5, none⟩ = some (.int .i64 d) ∧ W.cell? ⟨K.bf, s.at_ * 15 + 6, none⟩ = some (.int .i64 s0) ∧ W.cell? ⟨K.bf, s.at_ * 15 + 7, none⟩ = some (.int .i64 s1) ∧ W.cell? ⟨K.bf, s.at_ * 15 + 8, none⟩ = some (.int .i64 s2) ∧ W.cell? ⟨K.bf, s.at_ * 15 + 9, none⟩ = some (.int .i64 s3) ∧ W.cell? ⟨K.bf, s.at_ * 15 + 10, none⟩ = some (.int .i64 s4) ∧ W.cell? ⟨K.bf, s.at_ * 15 + 11, none⟩ = some (.int .i64 s5) ∧ W.cell? ⟨K.bf, s.at_ * 15 + 12, none⟩ = some (.int .i64 s6) ∧ W.cell? ⟨K.bf, s.at_ * 15 + 13, none⟩ = some (.int .i64 s7) ∧ W.cell? ⟨K.bf, s.at_ * 15 + 14, none⟩ = some (.bool fw) ∧ W.cell? ⟨K.b, 2, none⟩ = some (.slice (some ⟨K.bf, 0, none⟩) K.l.length K.l.length)) := hid (fun W hb => ⟨(hb.cell (p := ⟨K.bf, _, none⟩) hfz).trans c0, (hb.cell (p := ⟨K.bf, _, none⟩) hfz).trans c1, (hb.cell (p := ⟨K.bf, _, none⟩) hfz).trans c2, (hb.cell (p := ⟨K.bf, _, none⟩) hfz).trans c3, (hb.cell (p := ⟨K.bf, _, none⟩) hfz).trans c4, (hb.cell (p := ⟨K.bf, _, none⟩) hfz).trans c5, (hb.cell (p := ⟨K.bf, _, none⟩) hfz).trans c6, (hb.cell (p := ⟨K.bf, _, none⟩) hfz).trans c7, (hb.cell (p := ⟨K.bf, _, none⟩) hfz).trans c8, (hb.cell (p := ⟨K.bf, _, none⟩) hfz).trans c9, (hb.cell (p := ⟨K.bf, _, none⟩) hfz).trans c10, (hb.cell (p := ⟨K.bf, _, none⟩) hfz).trans c11, (hb.cell (p := ⟨K.bf, _, none⟩) hfz).trans c12, (hb.cell (p := ⟨K.bf, _, none⟩) hfz).trans c13, (hb.cell (p := ⟨K.bf, _, none⟩) hfz).trans c14, (hb.cell (p := ⟨K.b, 2, none⟩) hbz).trans m2⟩)
  clear h hi hf hlt h1 h2 h3 c0 c1 c2 c3 c4 c5 c6 c7 c8 c9 c10 c11 c12 c13 c14
  go_enter Tryz.func60, Tryz.ntmps60
  go_upto_region 1 with fail
  go_cut [3] (fun x wc => x = .pointer (some ⟨w.heap.size + 1, 0, none⟩) ∧ wc.heap[w.heap.size + 1]? = some (.cells #[.int .i64 s.oc, .int .i64 s.va, .int .i64 0, .int .i64 0, .int .i64 0, .slice none 0 0, .slice none 0 0] 134) ∧ wc.heap[w.heap.size]? = some (.cells #[.int .i64 0, .int .i64 0, .int .i64 0, .int .i64 0, .int .i64 0, .slice none 0 0, .slice none 0 0] 134) ∧ Below w.heap.size w wc)
  case first =>
    go_region
    go_wp2_with fail
    go_meet
    exact ⟨rfl, heap_two_new w _ _, heap_two_first w _ _, two_below w _ _⟩
  case rest =>
    obtain ⟨rfl, hp, hr, hb1⟩ := hcut
    have hNz : w.heap.size + 1 < wc.heap.size := (Array.getElem?_eq_some_iff.1 hp).1
    have z3 := cell_of_row wc (w.heap.size + 1) 3 _ _ _ hp
    have z4 := cell_of_row wc (w.heap.size + 1) 4 _ _ _ hp
    have z2 := cell_of_row wc (w.heap.size + 1) 2 _ _ _ hp
    have k2 := frozen_of_row wc (w.heap.size + 1) 2 _ _ hp
    have k3 := frozen_of_row wc (w.heap.size + 1) 3 _ _ hp
    have k4 := frozen_of_row wc (w.heap.size + 1) 4 _ _ hp
    simp only [List.getElem?_toArray, List.getElem?_cons_zero, List.getElem?_cons_succ] at z2 z3 z4
    rw [← hb1.cell (p := ⟨K.b, 0, none⟩) hbz] at m0
    rw [← hb1.cell (p := ⟨K.b, 1, none⟩) hbz] at m1
    rw [← hb1.cell (p := ⟨K.b, 2, none⟩) hbz] at m2
    rw [← hb1.cell (p := ⟨K.b, 7, none⟩) hbz] at m7
    rw [← hb1.cell (p := ⟨K.g, s.at_ * 4, none⟩) hgz] at p0
    have n1 : K.b ≠ w.heap.size + 1 := by omega
    have n2 : K.g ≠ w.heap.size + 1 := by omega
    have n3 : K.bf ≠ w.heap.size + 1 := by omega
    clear m5 m6
    go_wp2_with fail
    refine (hph.out _ hb1).mono ?_
    intro x w1 hh
    obtain ⟨hx, hw1⟩ := hh
    subst x
    subst w1
    go_wp2_with fail
    have hb2 : Below w.heap.size w (wc.setCell ⟨w.heap.size + 1, 3, none⟩ (.int .i64 s.hs.2.1)) := hb1.setCell (by simp only; omega) _
    refine (hhd.out _ hb2).mono ?_
    intro x w1 hh
    obtain ⟨hx, hw1⟩ := hh
    subst x
    subst w1
    go_wp2_with fail
    have hrow2 : (((wc.setCell ⟨w.heap.size + 1, 3, none⟩ (.int .i64 s.hs.2.1)).setCell ⟨w.heap.size + 1, 4, none⟩ (.int .i64 s.hs.2.2)).setCell ⟨w.heap.size + 1, 2, none⟩ (.int .i64 i.place)).heap[w.heap.size + 1]? = some (.cells #[.int .i64 s.oc, .int .i64 s.va, .int .i64 i.place, .int .i64 s.hs.2.1, .int .i64 s.hs.2.2, .slice none 0 0, .slice none 0 0] 134) := setCell_row 2 _ (setCell_row 4 _ (setCell_row 3 _ hp))
    have hres2 : (((wc.setCell ⟨w.heap.size + 1, 3, none⟩ (.int .i64 s.hs.2.1)).setCell ⟨w.heap.size + 1, 4, none⟩ (.int .i64 s.hs.2.2)).setCell ⟨w.heap.size + 1, 2, none⟩ (.int .i64 i.place)).heap[w.heap.size]? = some (.cells #[.int .i64 0, .int .i64 0, .int .i64 0, .int .i64 0, .int .i64 0, .slice none 0 0, .slice none 0 0] 134) := by
      rw [Below.heap_setCell _ _ _ _ (by simp), Below.heap_setCell _ _ _ _ (by simp), Below.heap_setCell _ _ _ _ (by simp)]
      exact hr
    have hB2 : Below w.heap.size w (((wc.setCell ⟨w.heap.size + 1, 3, none⟩ (.int .i64 s.hs.2.1)).setCell ⟨w.heap.size + 1, 4, none⟩ (.int .i64 s.hs.2.2)).setCell ⟨w.heap.size + 1, 2, none⟩ (.int .i64 i.place)) := (hb2.setCell (by simp only; omega) _).setCell (by simp only; omega) _
    clear z2 z3 z4 k2 k3 k4 hb2 hp hr m7 p0
    rw [hb1.cell (p := ⟨K.b, 0, none⟩) hbz, ← hB2.cell (p := ⟨K.b, 0, none⟩) hbz] at m0
    rw [hb1.cell (p := ⟨K.b, 2, none⟩) hbz, ← hB2.cell (p := ⟨K.b, 2, none⟩) hbz] at m2
    obtain ⟨c0, c1, c2, c3, c4, c5, c6, c7, c8, c9, c10, c11, c12, c13, c14, _⟩ := HFC.out _ hB2
    generalize ((wc.setCell ⟨w.heap.size + 1, 3, none⟩ (.int .i64 s.hs.2.1)).setCell ⟨w.heap.size + 1, 4, none⟩ (.int .i64 s.hs.2.2)).setCell ⟨w.heap.size + 1, 2, none⟩ (.int .i64 i.place) = W2 at *
    have hW2z : w.heap.size + 1 < W2.heap.size := (Array.getElem?_eq_some_iff.1 hrow2).1
    clear hNz m1
    have hLT := hid (hlt1.out W2.drew)
    go_cut [5] (fun x w3 => ∃ P, IntsAt w3 P x T1 ∧ Below w.heap.size w w3 ∧ w3.heap[w.heap.size + 1]? = some (.cells #[.int .i64 s.oc, .int .i64 s.va, .int .i64 i.place, .int .i64 s.hs.2.1, .int .i64 s.hs.2.2, .slice none 0 0, .slice none 0 0] 134) ∧ w3.heap[w.heap.size]? = some (.cells #[.int .i64 0, .int .i64 0, .int .i64 0, .int .i64 0, .int .i64 0, .slice none 0 0, .slice none 0 0] 134))
    case first =>
      go_region_law ((go_simp; go_at_call 88; refine hLT.out.mono ?_; intro x w3 hh3; obtain ⟨hB3, v3, hx3, hv3⟩ := hh3; subst hx3; dsimp only))
      all_goals
        have hb2d : Below w.heap.size w W2.drew := ⟨hB2.os, hB2.tape, hB2.output, hB2.size, hB2.block⟩
        have hb3 : Below w.heap.size w w3 := hb2d.trans (hB3.mono hb2d.size)
        have row3 : w3.heap[w.heap.size + 1]? = some (.cells #[.int .i64 s.oc, .int .i64 s.va, .int .i64 i.place, .int .i64 s.hs.2.1, .int .i64 s.hs.2.2, .slice none 0 0, .slice none 0 0] 134) := (hB3.block (w.heap.size + 1) (show w.heap.size + 1 < W2.heap.size from hW2z)).trans hrow2
        have res3 : w3.heap[w.heap.size]? = some (.cells #[.int .i64 0, .int .i64 0, .int .i64 0, .int .i64 0, .int .i64 0, .slice none 0 0, .slice none 0 0] 134) := (hB3.block w.heap.size (show w.heap.size < W2.heap.size by omega)).trans hres2
        have R3 := hid row3
        have S3 := hid res3
        have B3 := hid hb3
        have V3 := hid (IntsAt.of_owns hv3)
        clear c0 c1 c2 c3 c4 c5 c6 c7 c8 c9 c10 c11 c12 c13 c14 m0 m2 hLT hv3 hB3 hrow2 hres2 hB2 hb2d hb1 hlt1 hsl1 hph hhd hW2z row3 res3 hb3 HFC hsl2 hst1
        go_wp2_with fail
        go_meet
        exact ⟨_, V3.out, B3.out, R3.out, S3.out⟩
    case rest =>
      obtain ⟨P3, hv3, hb3, row3, res3⟩ := hcut
      have hS1 := hid (hsl1.out wc hb3 _ u5 hv3)
      have hz3 : w.heap.size + 1 < wc.heap.size := (Array.getElem?_eq_some_iff.1 row3).1
      clear c0 c1 c2 c3 c4 c5 c6 c7 c8 c9 c10 c11 c12 c13 c14 m0 m2 hLT hv3 hrow2 hres2 hB2 hb1 hlt1 hsl1 hph hhd hW2z
      go_wp2_with fail
      refine hS1.out.mono ?_
      clear hS1
      intro x w4 hh4
      obtain ⟨hB4, v4, hx4, ho4⟩ := hh4
      subst x
      obtain ⟨p4, q4, e4⟩ := (LsAt.of_owns ho4).slice
      subst v4
      have row4 := (hB4.block (w.heap.size + 1) hz3).trans row3
      have res4 := (hB4.block w.heap.size (by omega)).trans res3
      have hb4 : Below w.heap.size w w4 := hb3.trans (hB4.mono hb3.size)
      have y5 := cell_of_row w4 (w.heap.size + 1) 5 _ _ _ row4
      have k5 := frozen_of_row w4 (w.heap.size + 1) 5 _ _ row4
      have hz4 : w.heap.size + 1 < w4.heap.size := (Array.getElem?_eq_some_iff.1 row4).1
      have hb5 : Below w.heap.size w (w4.setCell ⟨w.heap.size + 1, 5, none⟩ (.slice p4 Q1.length q4)) := hb4.setCell (by simp only; omega) _
      have row5 := setCell_row (t := 134) 5 (.slice p4 Q1.length q4) row4
      have res5 : (w4.setCell ⟨w.heap.size + 1, 5, none⟩ (.slice p4 Q1.length q4)).heap[w.heap.size]? = _ := (Below.heap_setCell _ _ _ _ (by simp)).trans res4
      have own5 : (w4.setCell ⟨w.heap.size + 1, 5, none⟩ (.slice p4 Q1.length q4)).ownsRow wc.heap.size 98 2 (.slice p4 Q1.length q4) Q1.length (Q1.flatMap slCells) := owns_set ho4 (by intro e; have := (ho4.lt _ e).1; simp only at this; omega) _
      have hz5 : (w4.setCell ⟨w.heap.size + 1, 5, none⟩ (.slice p4 Q1.length q4)).heap.size = w4.heap.size := by simp [World.setCell]
      obtain ⟨c0, c1, c2, c3, c4, c5, c6, c7, c8, c9, c10, c11, c12, c13, c14, m2⟩ := HFC.out _ hb5
      simp only [List.getElem?_toArray, List.getElem?_cons_zero, List.getElem?_cons_succ] at y5
      have HO5 := hid own5
      have HR5 := hid row5
      have HS5 := hid res5
      have HB5 := hid hb5
      clear hB4 ho4 row3 res3 row4 res4 hb3 hb4 own5 row5 res5 hb5 HFC
      go_wp2_with fail
      generalize w4.setCell ⟨w.heap.size + 1, 5, none⟩ (.slice p4 Q1.length q4) = W5 at *
      have hst2 := hid (hst1.out W5)
      refine hst2.out.mono ?_
      clear hst2 hst1 c0 c1 c2 c3 c4 c5 c6 c7 c8 c9 c10 c11 c12 c13 c14 m2 y5 k5
      intro x w6 hh6
      obtain ⟨hB6, v6, hx6, ho6⟩ := hh6
      subst x
      have hb6 : Below w.heap.size w w6 := HB5.out.trans (hB6.mono HB5.out.size)
      have hS2 := hid (hsl2.out w6 hb6 _ v6 (IntsAt.of_owns ho6))
      have row6 := (hB6.block (w.heap.size + 1) (by omega)).trans HR5.out
      have res6 := (hB6.block w.heap.size (by omega)).trans HS5.out
      have hz6 := hB6.size
      have own6 := owns_keep HO5.out (fun g hg => hB6.block g (HO5.out.lt g hg).2)
      have OW6 := hid own6
      clear HB5 HR5 HS5 HO5 hsl2 hB6 ho6 own6
      go_wp2_with fail
      refine hS2.out.mono ?_
      clear hS2
      intro x w7 hh7
      obtain ⟨hB7, v7, hx7, ho7⟩ := hh7
      subst x
      obtain ⟨p7, q7, e7⟩ := (LsAt.of_owns ho7).slice
      subst v7
      have hb7 : Below w.heap.size w w7 := hb6.trans (hB7.mono hb6.size)
      have row7 := (hB7.block (w.heap.size + 1) (by omega)).trans row6
      have res7 := (hB7.block w.heap.size (by omega)).trans res6
      have own7 := owns_keep OW6.out (fun g hg => hB7.block g (OW6.out.lt g hg).2)
      have hap : ∀ g, (Value.slice p4 Q1.length q4).ownBlock = some g → (Value.slice p7 Q2.length q7).ownBlock ≠ some g := by
        intro g h1 h2
        have a1 := (OW6.out.lt g h1).2
        have a2 := (ho7.lt g h2).1
        omega
      simp only [List.setIfInBounds_toArray, List.set_cons_zero, List.set_cons_succ] at row7
      have y6 := cell_of_row w7 (w.heap.size + 1) 6 _ _ _ row7
      have k6 := frozen_of_row w7 (w.heap.size + 1) 6 _ _ row7
      simp only [List.getElem?_toArray, List.getElem?_cons_zero, List.getElem?_cons_succ] at y6
      have hz7 := hB7.size
      have row8 := setCell_row (t := 134) 6 (.slice p7 Q2.length q7) row7
      simp only [List.setIfInBounds_toArray, List.set_cons_zero, List.set_cons_succ] at row8
      have res8 : (w7.setCell ⟨w.heap.size + 1, 6, none⟩ (.slice p7 Q2.length q7)).heap[w.heap.size]? = _ := (Below.heap_setCell _ _ _ _ (by simp)).trans res7
      have own8 : (w7.setCell ⟨w.heap.size + 1, 6, none⟩ (.slice p7 Q2.length q7)).ownsRow wc.heap.size 98 2 (.slice p4 Q1.length q4) Q1.length (Q1.flatMap slCells) := owns_set own7 (by intro e; have := (own7.lt _ e).1; simp only at this; omega) _
      have own9 : (w7.setCell ⟨w.heap.size + 1, 6, none⟩ (.slice p7 Q2.length q7)).ownsRow w6.heap.size 98 2 (.slice p7 Q2.length q7) Q2.length (Q2.flatMap slCells) := owns_set ho7 (by intro e; have := (ho7.lt _ e).1; simp only at this; omega) _
      have hb8 : Below w.heap.size w (w7.setCell ⟨w.heap.size + 1, 6, none⟩ (.slice p7 Q2.length q7)) := hb7.setCell (by simp only; omega) _
      have l0 := cell_of_row _ (w.heap.size + 1) 0 _ _ _ row8
      have l1 := cell_of_row _ (w.heap.size + 1) 1 _ _ _ row8
      have l2 := cell_of_row _ (w.heap.size + 1) 2 _ _ _ row8
      have l3 := cell_of_row _ (w.heap.size + 1) 3 _ _ _ row8
      have l4 := cell_of_row _ (w.heap.size + 1) 4 _ _ _ row8
      have l5 := cell_of_row _ (w.heap.size + 1) 5 _ _ _ row8
      have l6 := cell_of_row _ (w.heap.size + 1) 6 _ _ _ row8
      have n0 := cell_of_row _ w.heap.size 0 _ _ _ res8
      have n1 := cell_of_row _ w.heap.size 1 _ _ _ res8
      have n2 := cell_of_row _ w.heap.size 2 _ _ _ res8
      have n3 := cell_of_row _ w.heap.size 3 _ _ _ res8
      have n4 := cell_of_row _ w.heap.size 4 _ _ _ res8
      have n5 := cell_of_row _ w.heap.size 5 _ _ _ res8
      have n6 := cell_of_row _ w.heap.size 6 _ _ _ res8
      have o0 := frozen_of_row _ w.heap.size 0 _ _ res8
      have o1 := frozen_of_row _ w.heap.size 1 _ _ res8
      have o2 := frozen_of_row _ w.heap.size 2 _ _ res8
      have o3 := frozen_of_row _ w.heap.size 3 _ _ res8
      have o4 := frozen_of_row _ w.heap.size 4 _ _ res8
      have o5 := frozen_of_row _ w.heap.size 5 _ _ res8
      have o6 := frozen_of_row _ w.heap.size 6 _ _ res8
      simp only [List.getElem?_toArray, List.getElem?_cons_zero, List.getElem?_cons_succ] at l0 l1 l2 l3 l4 l5 l6 n0 n1 n2 n3 n4 n5 n6
      have O8 := hid own8
      have O9 := hid own9
      have B8 := hid hb8
      have HAP := hid hap
      have RES8 := hid res8
      clear row6 res6 row7 res7 own7 hb6 hb7 row8 res8 own8 own9 hb8 OW6 hap hB7 ho7
      go_wp2_with fail
      clear l0 l1 l2 l3 l4 l5 l6 n0 n1 n2 n3 n4 n5 n6 o0 o1 o2 o3 o4 o5 o6 y6 k6
      generalize w7.setCell ⟨w.heap.size + 1, 6, none⟩ (.slice p7 Q2.length q7) = W8 at *
      have hrow := row7 RES8.out (.int .i64 s.oc) (.int .i64 s.va) (.int .i64 i.place) (.int .i64 s.hs.2.1) (.int .i64 s.hs.2.2) (.slice p4 Q1.length q4) (.slice p7 Q2.length q7)
      have honly := only7 W8 w.heap.size (.int .i64 s.oc) (.int .i64 s.va) (.int .i64 i.place) (.int .i64 s.hs.2.1) (.int .i64 s.hs.2.2) (.slice p4 Q1.length q4) (.slice p7 Q2.length q7)
      generalize ((((((W8.setCell ⟨w.heap.size, 0, none⟩ (.int .i64 s.oc)).setCell ⟨w.heap.size, 1, none⟩ (.int .i64 s.va)).setCell ⟨w.heap.size, 2, none⟩ (.int .i64 i.place)).setCell ⟨w.heap.size, 3, none⟩ (.int .i64 s.hs.2.1)).setCell ⟨w.heap.size, 4, none⟩ (.int .i64 s.hs.2.2)).setCell ⟨w.heap.size, 5, none⟩ (.slice p4 Q1.length q4)).setCell ⟨w.heap.size, 6, none⟩ (.slice p7 Q2.length q7) = WF at *
      have z0 := cell_of_row WF w.heap.size 0 _ _ _ hrow
      have z1 := cell_of_row WF w.heap.size 1 _ _ _ hrow
      have z2 := cell_of_row WF w.heap.size 2 _ _ _ hrow
      have z3 := cell_of_row WF w.heap.size 3 _ _ _ hrow
      have z4 := cell_of_row WF w.heap.size 4 _ _ _ hrow
      have z5 := cell_of_row WF w.heap.size 5 _ _ _ hrow
      have z6 := cell_of_row WF w.heap.size 6 _ _ _ hrow
      simp only [List.getElem?_toArray, List.getElem?_cons_zero, List.getElem?_cons_succ] at z0 z1 z2 z3 z4 z5 z6
      refine bodyPost_ret (v := .agg #[.int .i64 s.oc, .int .i64 s.va, .int .i64 i.place, .int .i64 s.hs.2.1, .int .i64 s.hs.2.2, .slice p4 Q1.length q4, .slice p7 Q2.length q7]) (by simp [results, Tryz.results60, go_sem, z0, z1, z2, z3, z4, z5, z6]) rfl ?_
      refine ⟨B8.out.trans (honly.below (Nat.le_refl _)), _, _, rfl, ?_, ?_, HAP.out⟩
      · exact owns_mono (owns_keep O8.out (fun g hg => honly.block g (by have := (O8.out.lt g hg).1; omega))) (by omega)
      · exact owns_mono (owns_keep O9.out (fun g hg => honly.block g (by have := (O9.out.lt g hg).1; omega))) (by omega)
end Go.Proofs.YtdmdpindonghdaaGreatDoor
