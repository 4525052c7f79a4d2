/- The contract of the program's reach, where the stacks differ. -/
import Derived.Test.YteocjidfbbekfaaDoorFlowJ
import Derived.Test.YteocjidfbbekfaaDoorArrEq
namespace Go.Proofs.YteocjidfbbekfaaDoor
open Go.RowKit
attribute [local go_sem] eq4 eq8
set_option maxRecDepth 100000 in
set_option maxHeartbeats 1000000 in
theorem reach_old (bw bf cap k : Nat) (fs : List Fr) (way known : Fr) (ch : Bool) (lv : Value) (w : World) (hall : AllAt w bf fs) (hok : AllOk fs) (hk : fs[k]? = some known) (hway : FrOk way)
    (hwalk : WalkAt w bw lv bf fs.length cap ch) (hr : known.reached = true) (hd : known.depth ≠ way.depth) :
    Calls Tryd.prog 30 #[.pointer (some ⟨bw, 0, none⟩), .int .i64 k, .agg (frL way).toArray] w fun e w' =>
      e = .returned (.bool false) ∧ Below w.heap.size w w' := by
  have hkl : k < fs.length := (List.getElem?_eq_some_iff.1 hk).1
  have hkn : FrOk known := hok known (List.mem_of_getElem? hk)
  have HAL := hid hall
  have HWK := hid hwalk
  have w0 := cell_of_row w bw 0 _ _ _ hwalk
  have w1 := cell_of_row w bw 1 _ _ _ hwalk
  have w2 := cell_of_row w bw 2 _ _ _ hwalk
  simp only [List.getElem?_toArray, List.getElem?_cons_zero, List.getElem?_cons_succ] at w0 w1 w2
  have hbw := World.block_lt_of_cell? w _ w0
  have fw2 := frozen_of_row w bw 2 _ _ hwalk
  have c0 := hall.cell hok hk (j := 0) (by omega)
  have c1 := hall.cell hok hk (j := 1) (by omega)
  have c2 := hall.cell hok hk (j := 2) (by omega)
  have c3 := hall.cell hok hk (j := 3) (by omega)
  have c4 := hall.cell hok hk (j := 4) (by omega)
  have c5 := hall.cell hok hk (j := 5) (by omega)
  have c6 := hall.cell hok hk (j := 6) (by omega)
  have c7 := hall.cell hok hk (j := 7) (by omega)
  have c8 := hall.cell hok hk (j := 8) (by omega)
  have c9 := hall.cell hok hk (j := 9) (by omega)
  have c10 := hall.cell hok hk (j := 10) (by omega)
  have c11 := hall.cell hok hk (j := 11) (by omega)
  have c12 := hall.cell hok hk (j := 12) (by omega)
  have c13 := hall.cell hok hk (j := 13) (by omega)
  have c14 := hall.cell hok hk (j := 14) (by omega)
  have f0 := hall.frozen (k * 15)
  have f1 := hall.frozen (k * 15 + 1)
  have f2 := hall.frozen (k * 15 + 2)
  have f3 := hall.frozen (k * 15 + 3)
  have f4 := hall.frozen (k * 15 + 4)
  have f5 := hall.frozen (k * 15 + 5)
  have f6 := hall.frozen (k * 15 + 6)
  have f7 := hall.frozen (k * 15 + 7)
  have f8 := hall.frozen (k * 15 + 8)
  have f9 := hall.frozen (k * 15 + 9)
  have f10 := hall.frozen (k * 15 + 10)
  have f11 := hall.frozen (k * 15 + 11)
  have f12 := hall.frozen (k * 15 + 12)
  have f13 := hall.frozen (k * 15 + 13)
  have f14 := hall.frozen (k * 15 + 14)
  have hbf := World.block_lt_of_cell? w _ (c0.trans (by rfl : (frL known)[0]? = some (.bool known.reached)))
  simp only at hbw hbf
  obtain ⟨kr, klo, kd, kst, kw⟩ := known
  obtain ⟨h1, h2, h3⟩ := hkn
  simp only at h1 h2 hr
  subst hr
  obtain ⟨a, b, c, e, rfl⟩ := four h1
  obtain ⟨s0, s1, s2, s3, s4, s5, s6, s7, rfl⟩ := eight h2
  simp only [frL, List.map_cons, List.map_nil, List.cons_append, List.nil_append, numV, List.getElem?_cons_zero, List.getElem?_cons_succ] at c0 c1 c2 c3 c4 c5 c6 c7 c8 c9 c10 c11 c12 c13 c14
  rw [Nat.add_zero] at c0
  have HWAY := hid hway
  obtain ⟨yr, ylo, yd, yst, yw⟩ := way
  obtain ⟨g1, g2, g3⟩ := hway
  simp only at g1 g2 hd
  obtain ⟨a', b', c', e', rfl⟩ := four g1
  obtain ⟨t0, t1, t2, t3, t4, t5, t6, t7, rfl⟩ := eight g2
  simp only [frL, List.map_cons, List.map_nil, List.cons_append, List.nil_append, numV]
  have i0 : (0 : Int) ≤ (k : Int) := by omega
  have i1 : (k : Int) < (fs.length : Int) := by omega
  have hbw2 : bw ≤ w.heap.size := by omega
  have hbf2 : bf ≤ w.heap.size := by omega
  have d1 : decide ((k : Int) < 0) = false := by simp
  clear hall hwalk
  have hd' : ((kd : Int) != (yd : Int)) = true := by simp; omega
  clear hd
  go_enter Tryd.func30, Tryd.ntmps30
  go_wp2_with fail
  go_ret
  exact ⟨rfl, ((Below.refl _ _).alloc (Nat.le_refl _) _).alloc (by simp) _⟩
set_option maxRecDepth 100000 in
set_option maxHeartbeats 1000000 in
theorem reach_stack (bw bf cap k : Nat) (fs : List Fr) (way known : Fr) (ch : Bool) (lv : Value) (w : World) (hall : AllAt w bf fs) (hok : AllOk fs) (hk : fs[k]? = some known) (hway : FrOk way)
    (hwalk : WalkAt w bw lv bf fs.length cap ch) (hr : known.reached = true) (hd : known.depth = way.depth) (hst : known.stk ≠ way.stk) :
    Calls Tryd.prog 30 #[.pointer (some ⟨bw, 0, none⟩), .int .i64 k, .agg (frL way).toArray] w fun e w' =>
      e = .returned (.bool false) ∧ Below w.heap.size w w' := by
  have hkl : k < fs.length := (List.getElem?_eq_some_iff.1 hk).1
  have hkn : FrOk known := hok known (List.mem_of_getElem? hk)
  have HAL := hid hall
  have HWK := hid hwalk
  have w0 := cell_of_row w bw 0 _ _ _ hwalk
  have w1 := cell_of_row w bw 1 _ _ _ hwalk
  have w2 := cell_of_row w bw 2 _ _ _ hwalk
  simp only [List.getElem?_toArray, List.getElem?_cons_zero, List.getElem?_cons_succ] at w0 w1 w2
  have hbw := World.block_lt_of_cell? w _ w0
  have fw2 := frozen_of_row w bw 2 _ _ hwalk
  have c0 := hall.cell hok hk (j := 0) (by omega)
  have c1 := hall.cell hok hk (j := 1) (by omega)
  have c2 := hall.cell hok hk (j := 2) (by omega)
  have c3 := hall.cell hok hk (j := 3) (by omega)
  have c4 := hall.cell hok hk (j := 4) (by omega)
  have c5 := hall.cell hok hk (j := 5) (by omega)
  have c6 := hall.cell hok hk (j := 6) (by omega)
  have c7 := hall.cell hok hk (j := 7) (by omega)
  have c8 := hall.cell hok hk (j := 8) (by omega)
  have c9 := hall.cell hok hk (j := 9) (by omega)
  have c10 := hall.cell hok hk (j := 10) (by omega)
  have c11 := hall.cell hok hk (j := 11) (by omega)
  have c12 := hall.cell hok hk (j := 12) (by omega)
  have c13 := hall.cell hok hk (j := 13) (by omega)
  have c14 := hall.cell hok hk (j := 14) (by omega)
  have f0 := hall.frozen (k * 15)
  have f1 := hall.frozen (k * 15 + 1)
  have f2 := hall.frozen (k * 15 + 2)
  have f3 := hall.frozen (k * 15 + 3)
  have f4 := hall.frozen (k * 15 + 4)
  have f5 := hall.frozen (k * 15 + 5)
  have f6 := hall.frozen (k * 15 + 6)
  have f7 := hall.frozen (k * 15 + 7)
  have f8 := hall.frozen (k * 15 + 8)
  have f9 := hall.frozen (k * 15 + 9)
  have f10 := hall.frozen (k * 15 + 10)
  have f11 := hall.frozen (k * 15 + 11)
  have f12 := hall.frozen (k * 15 + 12)
  have f13 := hall.frozen (k * 15 + 13)
  have f14 := hall.frozen (k * 15 + 14)
  have hbf := World.block_lt_of_cell? w _ (c0.trans (by rfl : (frL known)[0]? = some (.bool known.reached)))
  simp only at hbw hbf
  obtain ⟨kr, klo, kd, kst, kw⟩ := known
  obtain ⟨h1, h2, h3⟩ := hkn
  simp only at h1 h2 hr
  subst hr
  obtain ⟨a, b, c, e, rfl⟩ := four h1
  obtain ⟨s0, s1, s2, s3, s4, s5, s6, s7, rfl⟩ := eight h2
  simp only [frL, List.map_cons, List.map_nil, List.cons_append, List.nil_append, numV, List.getElem?_cons_zero, List.getElem?_cons_succ] at c0 c1 c2 c3 c4 c5 c6 c7 c8 c9 c10 c11 c12 c13 c14
  rw [Nat.add_zero] at c0
  have HWAY := hid hway
  obtain ⟨yr, ylo, yd, yst, yw⟩ := way
  obtain ⟨g1, g2, g3⟩ := hway
  simp only at g1 g2 hd hst
  obtain ⟨a', b', c', e', rfl⟩ := four g1
  obtain ⟨t0, t1, t2, t3, t4, t5, t6, t7, rfl⟩ := eight g2
  simp only [frL, List.map_cons, List.map_nil, List.cons_append, List.nil_append, numV]
  have i0 : (0 : Int) ≤ (k : Int) := by omega
  have i1 : (k : Int) < (fs.length : Int) := by omega
  have hbw2 : bw ≤ w.heap.size := by omega
  have hbf2 : bf ≤ w.heap.size := by omega
  have d1 : decide ((k : Int) < 0) = false := by simp
  clear hall hwalk
  have hd' : ((kd : Int) != (yd : Int)) = false := by simp; omega
  have HST := hid hst
  clear hst
  clear hd
  go_enter Tryd.func30, Tryd.ntmps30
  go_wp2_with fail
  · go_ret
    exact ⟨rfl, ((Below.refl _ _).alloc (Nat.le_refl _) _).alloc (by simp) _⟩
  · have hall := ‹(!((s0 : Int) == (t0 : Int))) = false ∧ _›
    exfalso
    apply HST.out
    simp only [Bool.not_eq_false', beq_iff_eq] at hall
    obtain ⟨q0, q1, q2, q3, q4, q5, q6, q7⟩ := hall
    rw [show s0 = t0 by omega, show s1 = t1 by omega, show s2 = t2 by omega, show s3 = t3 by omega, show s4 = t4 by omega, show s5 = t5 by omega, show s6 = t6 by omega, show s7 = t7 by omega]
end Go.Proofs.YteocjidfbbekfaaDoor
