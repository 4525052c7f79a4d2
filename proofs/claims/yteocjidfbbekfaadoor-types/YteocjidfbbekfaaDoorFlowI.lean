/- The contract of the program's joined. -/
import Derived.Test.YteocjidfbbekfaaDoorFlowD
import Derived.WalkSpells
import Derived.WalkLawsBesides
import Derived.WalkSmall
import Derived.BigRegion
import Derived.Deep.QuietTactic
import Derived.BigQuiet
namespace Go.Proofs.YteocjidfbbekfaaDoor
open Go.RowKit

def joinN (a b : Nat) : Nat := if a = b then a else 2
theorem joinN_eq {a b : Nat} (h : a = b) : joinN a b = a := if_pos h
theorem joinN_ne {a b : Nat} (h : ¬ a = b) : joinN a b = 2 := if_neg h

set_option maxRecDepth 100000 in
set_option maxHeartbeats 1000000 in
theorem flowJoined_any (a0 a1 a2 a3 b0 b1 b2 b3 : Nat) (w : World) :
    Calls Tryd.prog 35 #[.agg #[.int .i64 a0, .int .i64 a1, .int .i64 a2, .int .i64 a3], .agg #[.int .i64 b0, .int .i64 b1, .int .i64 b2, .int .i64 b3]] w fun e w' =>
      e = .returned (.agg #[.int .i64 (joinN a0 b0 : Nat), .int .i64 (joinN a1 b1 : Nat), .int .i64 (joinN a2 b2 : Nat), .int .i64 (joinN a3 b3 : Nat)]) ∧ Below w.heap.size w w' := by
  go_enter Tryd.func35, Tryd.ntmps35
  go_wp2_with fail
  go_loopw [6] (fun i w' => ∃ (k x0 x1 x2 x3 : Nat), i = .int .i64 k ∧ k ≤ 4 ∧ w'.heap[w.heap.size]? = some (.cells #[.int .i64 x0, .int .i64 x1, .int .i64 x2, .int .i64 x3] 45) ∧
    Only w.heap.size (((w.alloc (.cells #[.int .i64 a0, .int .i64 a1, .int .i64 a2, .int .i64 a3] 45)).alloc (.cells #[.int .i64 b0, .int .i64 b1, .int .i64 b2, .int .i64 b3] 45)).alloc (.cells #[.int .i64 0, .int .i64 0, .int .i64 0, .int .i64 0] 45)) w' ∧
    x0 = (if 0 < k then joinN a0 b0 else a0) ∧ x1 = (if 1 < k then joinN a1 b1 else a1) ∧ x2 = (if 2 < k then joinN a2 b2 else a2) ∧ x3 = (if 3 < k then joinN a3 b3 else a3)) (fun i _ => 4 - (intOf i).toNat)
  case atStart => exact ⟨0, a0, a1, a2, a3, rfl, by omega, heap_three_first w _ _ _, Only.refl _ _, by simp, by simp, by simp, by simp⟩
  case round =>
    obtain ⟨k, x0, x1, x2, x3, rfl, hk, hrow, honly, v0, v1, v2, v3⟩ := hrel
    have hz := honly.size
    simp at hz
    have y0 := cell_of_row wr w.heap.size 0 _ _ _ hrow
    have y1 := cell_of_row wr w.heap.size 1 _ _ _ hrow
    have y2 := cell_of_row wr w.heap.size 2 _ _ _ hrow
    have y3 := cell_of_row wr w.heap.size 3 _ _ _ hrow
    have f0 := frozen_of_row wr w.heap.size 0 _ _ hrow
    have f1 := frozen_of_row wr w.heap.size 1 _ _ hrow
    have f2 := frozen_of_row wr w.heap.size 2 _ _ hrow
    have f3 := frozen_of_row wr w.heap.size 3 _ _ hrow
    have u0 := (honly.cell (k := w.heap.size + 1) (o := 0) (by omega)).trans (cell_three_second w _ _ _ _ 0)
    have u1 := (honly.cell (k := w.heap.size + 1) (o := 1) (by omega)).trans (cell_three_second w _ _ _ _ 1)
    have u2 := (honly.cell (k := w.heap.size + 1) (o := 2) (by omega)).trans (cell_three_second w _ _ _ _ 2)
    have u3 := (honly.cell (k := w.heap.size + 1) (o := 3) (by omega)).trans (cell_three_second w _ _ _ _ 3)
    simp only [List.getElem?_toArray, List.getElem?_cons_zero, List.getElem?_cons_succ] at y0 y1 y2 y3 u0 u1 u2 u3
    match k, hk with
    | 0, _ =>
      simp only [Nat.lt_irrefl, Nat.not_lt_zero, if_false] at v0 v1 v2 v3
      by_cases hq : a0 = b0
      · have hx := hid (joinN_eq hq)
        have hq' : ((x0 : Int) != (b0 : Int)) = false := by rw [v0]; simp; omega
        have V0 := hid v0
        have V1 := hid v1
        have V2 := hid v2
        have V3 := hid v3
        clear v0 v1 v2 v3 hq
        go_wp2_with fail
        go_quiet (fail)
        go_wp2_with fail
        exact ⟨⟨1, x0, x1, x2, x3, rfl, by omega, hrow, honly.drewN _, by rw [V0.out]; simp [hx.out], by rw [V1.out]; simp, by rw [V2.out]; simp, by rw [V3.out]; simp⟩, by simp [intOf]⟩
      · have hx := hid (joinN_ne hq)
        have hq' : ((x0 : Int) != (b0 : Int)) = true := by rw [v0]; simp; omega
        have V0 := hid v0
        have V1 := hid v1
        have V2 := hid v2
        have V3 := hid v3
        clear v0 v1 v2 v3 hq
        go_wp2_with fail
        go_quiet (fail)
        go_wp2_with fail
        exact ⟨⟨1, 2, x1, x2, x3, rfl, by omega, by have := setCell_row (w := wr.drewN nq) 0 (.int .i64 2) hrow; simpa using this, (honly.drewN _).set _ _, by simp [hx.out], by rw [V1.out]; simp, by rw [V2.out]; simp, by rw [V3.out]; simp⟩, by simp [intOf]⟩
    | 1, _ =>
      simp only [Nat.reduceLT, Nat.lt_irrefl, if_true, if_false] at v0 v1 v2 v3
      by_cases hq : a1 = b1
      · have hx := hid (joinN_eq hq)
        have hq' : ((x1 : Int) != (b1 : Int)) = false := by rw [v1]; simp; omega
        have V0 := hid v0
        have V1 := hid v1
        have V2 := hid v2
        have V3 := hid v3
        clear v0 v1 v2 v3 hq
        go_wp2_with fail
        go_quiet (fail)
        go_wp2_with fail
        exact ⟨⟨2, x0, x1, x2, x3, rfl, by omega, hrow, honly.drewN _, by rw [V0.out]; simp, by rw [V1.out]; simp [hx.out], by rw [V2.out]; simp, by rw [V3.out]; simp⟩, by simp [intOf]⟩
      · have hx := hid (joinN_ne hq)
        have hq' : ((x1 : Int) != (b1 : Int)) = true := by rw [v1]; simp; omega
        have V0 := hid v0
        have V1 := hid v1
        have V2 := hid v2
        have V3 := hid v3
        clear v0 v1 v2 v3 hq
        go_wp2_with fail
        go_quiet (fail)
        go_wp2_with fail
        exact ⟨⟨2, x0, 2, x2, x3, rfl, by omega, by have := setCell_row (w := wr.drewN nq) 1 (.int .i64 2) hrow; simpa using this, (honly.drewN _).set _ _, by rw [V0.out]; simp, by simp [hx.out], by rw [V2.out]; simp, by rw [V3.out]; simp⟩, by simp [intOf]⟩
    | 2, _ =>
      simp only [Nat.reduceLT, Nat.lt_irrefl, if_true, if_false] at v0 v1 v2 v3
      by_cases hq : a2 = b2
      · have hx := hid (joinN_eq hq)
        have hq' : ((x2 : Int) != (b2 : Int)) = false := by rw [v2]; simp; omega
        have V0 := hid v0
        have V1 := hid v1
        have V2 := hid v2
        have V3 := hid v3
        clear v0 v1 v2 v3 hq
        go_wp2_with fail
        go_quiet (fail)
        go_wp2_with fail
        exact ⟨⟨3, x0, x1, x2, x3, rfl, by omega, hrow, honly.drewN _, by rw [V0.out]; simp, by rw [V1.out]; simp, by rw [V2.out]; simp [hx.out], by rw [V3.out]; simp⟩, by simp [intOf]⟩
      · have hx := hid (joinN_ne hq)
        have hq' : ((x2 : Int) != (b2 : Int)) = true := by rw [v2]; simp; omega
        have V0 := hid v0
        have V1 := hid v1
        have V2 := hid v2
        have V3 := hid v3
        clear v0 v1 v2 v3 hq
        go_wp2_with fail
        go_quiet (fail)
        go_wp2_with fail
        exact ⟨⟨3, x0, x1, 2, x3, rfl, by omega, by have := setCell_row (w := wr.drewN nq) 2 (.int .i64 2) hrow; simpa using this, (honly.drewN _).set _ _, by rw [V0.out]; simp, by rw [V1.out]; simp, by simp [hx.out], by rw [V3.out]; simp⟩, by simp [intOf]⟩
    | 3, _ =>
      simp only [Nat.reduceLT, Nat.lt_irrefl, if_true, if_false] at v0 v1 v2 v3
      by_cases hq : a3 = b3
      · have hx := hid (joinN_eq hq)
        have hq' : ((x3 : Int) != (b3 : Int)) = false := by rw [v3]; simp; omega
        have V0 := hid v0
        have V1 := hid v1
        have V2 := hid v2
        have V3 := hid v3
        clear v0 v1 v2 v3 hq
        go_wp2_with fail
        go_quiet (fail)
        go_wp2_with fail
        exact ⟨⟨4, x0, x1, x2, x3, rfl, by omega, hrow, honly.drewN _, by rw [V0.out]; simp, by rw [V1.out]; simp, by rw [V2.out]; simp, by rw [V3.out]; simp [hx.out]⟩, by simp [intOf]⟩
      · have hx := hid (joinN_ne hq)
        have hq' : ((x3 : Int) != (b3 : Int)) = true := by rw [v3]; simp; omega
        have V0 := hid v0
        have V1 := hid v1
        have V2 := hid v2
        have V3 := hid v3
        clear v0 v1 v2 v3 hq
        go_wp2_with fail
        go_quiet (fail)
        go_wp2_with fail
        exact ⟨⟨4, x0, x1, x2, 2, rfl, by omega, by have := setCell_row (w := wr.drewN nq) 3 (.int .i64 2) hrow; simpa using this, (honly.drewN _).set _ _, by rw [V0.out]; simp, by rw [V1.out]; simp, by rw [V2.out]; simp, by simp [hx.out]⟩, by simp [intOf]⟩
    | 4, _ =>
      have hres := hid ((honly.block (w.heap.size + 1 + 1) (by omega)).trans (heap_three_third w _ _ _))
      have z0 := cell_of_row wr (w.heap.size + 1 + 1) 0 _ _ _ hres.out
      have z1 := cell_of_row wr (w.heap.size + 1 + 1) 1 _ _ _ hres.out
      have z2 := cell_of_row wr (w.heap.size + 1 + 1) 2 _ _ _ hres.out
      have z3 := cell_of_row wr (w.heap.size + 1 + 1) 3 _ _ _ hres.out
      have g0 := frozen_of_row wr (w.heap.size + 1 + 1) 0 _ _ hres.out
      have g1 := frozen_of_row wr (w.heap.size + 1 + 1) 1 _ _ hres.out
      have g2 := frozen_of_row wr (w.heap.size + 1 + 1) 2 _ _ hres.out
      have g3 := frozen_of_row wr (w.heap.size + 1 + 1) 3 _ _ hres.out
      simp only [List.getElem?_toArray, List.getElem?_cons_zero, List.getElem?_cons_succ] at z0 z1 z2 z3
      simp only [Nat.reduceLT, if_true] at v0 v1 v2 v3
      have V0 := hid v0
      have V1 := hid v1
      have V2 := hid v2
      have V3 := hid v3
      have hbw : Below w.heap.size w wr := (three_new w _ _ _).trans (honly.below (Nat.le_refl _))
      clear v0 v1 v2 v3
      go_wp2_with fail
      refine bodyPost_ret (v := .agg #[.int .i64 x0, .int .i64 x1, .int .i64 x2, .int .i64 x3]) (by simp [results, Tryd.results35, go_sem, *]) rfl ⟨by rw [V0.out, V1.out, V2.out, V3.out], ?_⟩
      exact (((hbw.setCell (by simp; omega) _).setCell (by simp; omega) _).setCell (by simp; omega) _).setCell (by simp; omega) _
end Go.Proofs.YteocjidfbbekfaaDoor
