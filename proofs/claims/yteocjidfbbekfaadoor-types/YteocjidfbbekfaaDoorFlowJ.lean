/- The contract of the program's reach. -/
import Derived.Test.YteocjidfbbekfaaDoorSpecJ
import Derived.Test.YteocjidfbbekfaaDoorFlowI
import Derived.Deep.DeepCutAuto
namespace Go.Proofs.YteocjidfbbekfaaDoor
open Go.RowKit

def WalkAt (w : World) (bw : Nat) (lv : Value) (bf n cap : Nat) (ch : Bool) : Prop := w.heap[bw]? = some (.cells #[lv, .slice (some ⟨bf, 0, none⟩) n cap, .bool ch] 79)
/-- Of what was there only the blocks a and b may have turned. -/
structure Two (a b : Nat) (w w' : World) : Prop where
  os : w'.os = w.os
  tape : w'.tape = w.tape
  output : w'.output = w.output
  size : w.heap.size ≤ w'.heap.size
  block : ∀ k, k < w.heap.size → k ≠ a → k ≠ b → w'.heap[k]? = w.heap[k]?

theorem Two.refl (a b : Nat) (w : World) : Two a b w w := ⟨rfl, rfl, rfl, Nat.le_refl _, fun _ _ _ _ => rfl⟩
theorem Two.alloc {a b : Nat} {w w' : World} (h : Two a b w w') (o : Obj) : Two a b w (w'.alloc o) :=
  ⟨h.os, h.tape, h.output, by have := h.size; simp; omega, fun k hk h1 h2 => by rw [Below.heap_alloc _ _ _ (Nat.lt_of_lt_of_le hk h.size)]; exact h.block k hk h1 h2⟩
theorem Two.setB {a b : Nat} {w w' : World} (h : Two a b w w') (o : Nat) (v : Value) : Two a b w (w'.setCell ⟨b, o, none⟩ v) :=
  ⟨h.os, h.tape, h.output, by simpa [World.setCell] using h.size, fun k hk h1 h2 => by rw [Below.heap_setCell _ _ _ _ h2]; exact h.block k hk h1 h2⟩
theorem Two.drew {a b : Nat} {w w' : World} (h : Two a b w w') : Two a b w w'.drew := ⟨h.os, h.tape, h.output, h.size, h.block⟩
theorem alloc_size (w : World) (o : Obj) : (w.alloc o).heap.size = w.heap.size + 1 := by simp
theorem drew_heap (w : World) : w.drew.heap = w.heap := rfl
theorem reach_put {w : World} {bw bf cap k n d : Nat} {fs : List Fr} {lv : Value} {ch : Bool} (r u : Bool) (a b c e t0 t1 t2 t3 t4 t5 t6 t7 : Nat) (x y : Obj) (hall : AllAt w bf fs) (hok : AllOk fs) (hk : k < fs.length)
    (hwalk : WalkAt w bw lv bf n cap ch) (hne : bw ≠ bf) (hd : d ≤ 8) (hbf : bf < w.heap.size) (hbw : bw < w.heap.size) :
    AllAt (((((((((((((((((w.setCell ⟨bf, k * 15, none⟩ (.bool r)).setCell ⟨bf, k * 15 + 1, none⟩ (.int .i64 a)).setCell ⟨bf, k * 15 + 2, none⟩ (.int .i64 b)).setCell ⟨bf, k * 15 + 3, none⟩ (.int .i64 c)).setCell ⟨bf, k * 15 + 4, none⟩ (.int .i64 e)).setCell ⟨bf, k * 15 + 5, none⟩ (.int .i64 d)).setCell ⟨bf, k * 15 + 6, none⟩ (.int .i64 t0)).setCell ⟨bf, k * 15 + 7, none⟩ (.int .i64 t1)).setCell ⟨bf, k * 15 + 8, none⟩ (.int .i64 t2)).setCell ⟨bf, k * 15 + 9, none⟩ (.int .i64 t3)).setCell ⟨bf, k * 15 + 10, none⟩ (.int .i64 t4)).setCell ⟨bf, k * 15 + 11, none⟩ (.int .i64 t5)).setCell ⟨bf, k * 15 + 12, none⟩ (.int .i64 t6)).setCell ⟨bf, k * 15 + 13, none⟩ (.int .i64 t7)).setCell ⟨bf, k * 15 + 14, none⟩ (.bool u)).alloc x).alloc y).drew bf (fs.set k ⟨r, [a, b, c, e], d, [t0, t1, t2, t3, t4, t5, t6, t7], u⟩) ∧
    WalkAt (((((((((((((((((w.setCell ⟨bf, k * 15, none⟩ (.bool r)).setCell ⟨bf, k * 15 + 1, none⟩ (.int .i64 a)).setCell ⟨bf, k * 15 + 2, none⟩ (.int .i64 b)).setCell ⟨bf, k * 15 + 3, none⟩ (.int .i64 c)).setCell ⟨bf, k * 15 + 4, none⟩ (.int .i64 e)).setCell ⟨bf, k * 15 + 5, none⟩ (.int .i64 d)).setCell ⟨bf, k * 15 + 6, none⟩ (.int .i64 t0)).setCell ⟨bf, k * 15 + 7, none⟩ (.int .i64 t1)).setCell ⟨bf, k * 15 + 8, none⟩ (.int .i64 t2)).setCell ⟨bf, k * 15 + 9, none⟩ (.int .i64 t3)).setCell ⟨bf, k * 15 + 10, none⟩ (.int .i64 t4)).setCell ⟨bf, k * 15 + 11, none⟩ (.int .i64 t5)).setCell ⟨bf, k * 15 + 12, none⟩ (.int .i64 t6)).setCell ⟨bf, k * 15 + 13, none⟩ (.int .i64 t7)).setCell ⟨bf, k * 15 + 14, none⟩ (.bool u)).alloc x).alloc y).drew bw lv bf n cap ch ∧
    Two bw bf w (((((((((((((((((w.setCell ⟨bf, k * 15, none⟩ (.bool r)).setCell ⟨bf, k * 15 + 1, none⟩ (.int .i64 a)).setCell ⟨bf, k * 15 + 2, none⟩ (.int .i64 b)).setCell ⟨bf, k * 15 + 3, none⟩ (.int .i64 c)).setCell ⟨bf, k * 15 + 4, none⟩ (.int .i64 e)).setCell ⟨bf, k * 15 + 5, none⟩ (.int .i64 d)).setCell ⟨bf, k * 15 + 6, none⟩ (.int .i64 t0)).setCell ⟨bf, k * 15 + 7, none⟩ (.int .i64 t1)).setCell ⟨bf, k * 15 + 8, none⟩ (.int .i64 t2)).setCell ⟨bf, k * 15 + 9, none⟩ (.int .i64 t3)).setCell ⟨bf, k * 15 + 10, none⟩ (.int .i64 t4)).setCell ⟨bf, k * 15 + 11, none⟩ (.int .i64 t5)).setCell ⟨bf, k * 15 + 12, none⟩ (.int .i64 t6)).setCell ⟨bf, k * 15 + 13, none⟩ (.int .i64 t7)).setCell ⟨bf, k * 15 + 14, none⟩ (.bool u)).alloc x).alloc y).drew := by
  have hs := size15 (w := w) (b := bf) (k * 15) (.bool r) (.int .i64 a) (.int .i64 b) (.int .i64 c) (.int .i64 e) (.int .i64 d) (.int .i64 t0) (.int .i64 t1) (.int .i64 t2) (.int .i64 t3) (.int .i64 t4) (.int .i64 t5) (.int .i64 t6) (.int .i64 t7) (.bool u)
  refine ⟨?_, ?_, ((((((((((((((((((Two.refl bw bf w).setB (k * 15) (.bool r)).setB (k * 15 + 1) (.int .i64 a)).setB (k * 15 + 2) (.int .i64 b)).setB (k * 15 + 3) (.int .i64 c)).setB (k * 15 + 4) (.int .i64 e)).setB (k * 15 + 5) (.int .i64 d)).setB (k * 15 + 6) (.int .i64 t0)).setB (k * 15 + 7) (.int .i64 t1)).setB (k * 15 + 8) (.int .i64 t2)).setB (k * 15 + 9) (.int .i64 t3)).setB (k * 15 + 10) (.int .i64 t4)).setB (k * 15 + 11) (.int .i64 t5)).setB (k * 15 + 12) (.int .i64 t6)).setB (k * 15 + 13) (.int .i64 t7)).setB (k * 15 + 14) (.bool u)).alloc x).alloc y).drew⟩
  · unfold AllAt
    rw [drew_heap, Below.heap_alloc _ _ _ (by rw [alloc_size, hs]; omega), Below.heap_alloc _ _ _ (by rw [hs]; exact hbf), ← allL_put hok hk (f := ⟨r, [a, b, c, e], d, [t0, t1, t2, t3, t4, t5, t6, t7], u⟩) ⟨rfl, rfl, hd⟩]
    exact put15 (k * 15) hall (.bool r) (.int .i64 a) (.int .i64 b) (.int .i64 c) (.int .i64 e) (.int .i64 d) (.int .i64 t0) (.int .i64 t1) (.int .i64 t2) (.int .i64 t3) (.int .i64 t4) (.int .i64 t5) (.int .i64 t6) (.int .i64 t7) (.bool u)
  · unfold WalkAt
    rw [drew_heap, Below.heap_alloc _ _ _ (by rw [alloc_size, hs]; omega), Below.heap_alloc _ _ _ (by rw [hs]; exact hbw), same15 (k * 15) hne (.bool r) (.int .i64 a) (.int .i64 b) (.int .i64 c) (.int .i64 e) (.int .i64 d) (.int .i64 t0) (.int .i64 t1) (.int .i64 t2) (.int .i64 t3) (.int .i64 t4) (.int .i64 t5) (.int .i64 t6) (.int .i64 t7) (.bool u)]
    exact hwalk
theorem Two.set {a b : Nat} {w w' : World} (h : Two a b w w') {o : Nat} {v : Value} : Two a b w (w'.setCell ⟨a, o, none⟩ v) :=
  ⟨h.os, h.tape, h.output, by simpa [World.setCell] using h.size, fun k hk h1 h2 => by rw [Below.heap_setCell _ _ _ _ h1]; exact h.block k hk h1 h2⟩
set_option maxRecDepth 100000 in
set_option maxHeartbeats 1000000 in
theorem reach_new (bw bf cap k : Nat) (fs : List Fr) (way known : Fr) (ch : Bool) (lv : Value) (w : World) (hall : AllAt w bf fs) (hok : AllOk fs) (hk : fs[k]? = some known) (hway : FrOk way)
    (hwalk : WalkAt w bw lv bf fs.length cap ch) (hne : bw ≠ bf) (hr : known.reached = false) :
    Calls Tryd.prog 30 #[.pointer (some ⟨bw, 0, none⟩), .int .i64 k, .agg (frL way).toArray] w fun e w' =>
      e = .returned (.bool true) ∧ AllAt w' bf (fs.set k { way with reached := true }) ∧ WalkAt w' bw lv bf fs.length cap true ∧ Two bw bf w w' := by
  have hkl : k < fs.length := (List.getElem?_eq_some_iff.1 hk).1
  have hkn : FrOk known := hok known (List.mem_of_getElem? hk)
  have HAL := hid hall
  have HWK := hid hwalk
  have w0 := cell_of_row w bw 0 _ _ _ hwalk
  have w1 := cell_of_row w bw 1 _ _ _ hwalk
  have w2 := cell_of_row w bw 2 _ _ _ hwalk
  simp only [List.getElem?_toArray, List.getElem?_cons_zero, List.getElem?_cons_succ] at w0 w1 w2
  have hbw := World.block_lt_of_cell? w _ w0
  have fw2 := frozen_of_row w bw 2 _ _ hwalk
  have c0 := hall.cell hok hk (j := 0) (by omega)
  have c1 := hall.cell hok hk (j := 1) (by omega)
  have c2 := hall.cell hok hk (j := 2) (by omega)
  have c3 := hall.cell hok hk (j := 3) (by omega)
  have c4 := hall.cell hok hk (j := 4) (by omega)
  have c5 := hall.cell hok hk (j := 5) (by omega)
  have c6 := hall.cell hok hk (j := 6) (by omega)
  have c7 := hall.cell hok hk (j := 7) (by omega)
  have c8 := hall.cell hok hk (j := 8) (by omega)
  have c9 := hall.cell hok hk (j := 9) (by omega)
  have c10 := hall.cell hok hk (j := 10) (by omega)
  have c11 := hall.cell hok hk (j := 11) (by omega)
  have c12 := hall.cell hok hk (j := 12) (by omega)
  have c13 := hall.cell hok hk (j := 13) (by omega)
  have c14 := hall.cell hok hk (j := 14) (by omega)
  have f0 := hall.frozen (k * 15)
  have f1 := hall.frozen (k * 15 + 1)
  have f2 := hall.frozen (k * 15 + 2)
  have f3 := hall.frozen (k * 15 + 3)
  have f4 := hall.frozen (k * 15 + 4)
  have f5 := hall.frozen (k * 15 + 5)
  have f6 := hall.frozen (k * 15 + 6)
  have f7 := hall.frozen (k * 15 + 7)
  have f8 := hall.frozen (k * 15 + 8)
  have f9 := hall.frozen (k * 15 + 9)
  have f10 := hall.frozen (k * 15 + 10)
  have f11 := hall.frozen (k * 15 + 11)
  have f12 := hall.frozen (k * 15 + 12)
  have f13 := hall.frozen (k * 15 + 13)
  have f14 := hall.frozen (k * 15 + 14)
  have hbf := World.block_lt_of_cell? w _ (c0.trans (by rfl : (frL known)[0]? = some (.bool known.reached)))
  simp only at hbw hbf
  obtain ⟨kr, klo, kd, kst, kw⟩ := known
  obtain ⟨h1, h2, h3⟩ := hkn
  simp only at h1 h2 hr
  subst hr
  obtain ⟨a, b, c, e, rfl⟩ := four h1
  obtain ⟨s0, s1, s2, s3, s4, s5, s6, s7, rfl⟩ := eight h2
  simp only [frL, List.map_cons, List.map_nil, List.cons_append, List.nil_append, numV, List.getElem?_cons_zero, List.getElem?_cons_succ] at c0 c1 c2 c3 c4 c5 c6 c7 c8 c9 c10 c11 c12 c13 c14
  rw [Nat.add_zero] at c0
  have HWAY := hid hway
  obtain ⟨yr, ylo, yd, yst, yw⟩ := way
  obtain ⟨g1, g2, g3⟩ := hway
  simp only at g1 g2
  obtain ⟨a', b', c', e', rfl⟩ := four g1
  obtain ⟨t0, t1, t2, t3, t4, t5, t6, t7, rfl⟩ := eight g2
  simp only [frL, List.map_cons, List.map_nil, List.cons_append, List.nil_append, numV]
  have i0 : (0 : Int) ≤ (k : Int) := by omega
  have i1 : (k : Int) < (fs.length : Int) := by omega
  have hbw2 : bw ≤ w.heap.size := by omega
  have hbf2 : bf ≤ w.heap.size := by omega
  have d1 : decide ((k : Int) < 0) = false := by simp
  clear hall hwalk
  go_enter Tryd.func30, Tryd.ntmps30
  go_wp2_with fail
  go_cut [6] (fun x6 wc => x6 = .bool false ∧ AllAt wc bf (fs.set k ⟨true, [a', b', c', e'], yd, [t0, t1, t2, t3, t4, t5, t6, t7], yw⟩) ∧ WalkAt wc bw lv bf fs.length cap ch ∧ Two bw bf w wc)
  case first =>
    go_region
    go_wp2_with fail
    go_meet
    exact ⟨rfl, reach_put true yw a' b' c' e' t0 t1 t2 t3 t4 t5 t6 t7 _ _ HAL.out hok hkl HWK.out hne g3 hbf hbw⟩
  case rest =>
    obtain ⟨rfl, hA, hW, hT⟩ := hcut
    have v2 := cell_of_row wc bw 2 _ _ _ hW
    simp only [List.getElem?_toArray, List.getElem?_cons_zero, List.getElem?_cons_succ] at v2
    have u2 := frozen_of_row wc bw 2 _ _ hW
    have HA := hid hA
    have HW := hid hW
    clear hA hW c0 c1 c2 c3 c4 c5 c6 c7 c8 c9 c10 c11 c12 c13 c14 f0 f1 f2 f3 f4 f5 f6 f7 f8 f9 f10 f11 f12 f13 f14
    go_wp2_with fail
    go_ret
    refine ⟨rfl, ?_, by have := setCell_row 2 (.bool true) HW.out; simpa [WalkAt] using this, hT.set⟩
    unfold AllAt
    rw [Below.heap_setCell _ _ _ _ (Ne.symm hne)]
    exact HA.out
end Go.Proofs.YteocjidfbbekfaaDoor
