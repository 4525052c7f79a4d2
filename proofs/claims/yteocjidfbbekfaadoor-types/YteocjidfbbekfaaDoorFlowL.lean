/- The contract of the program's reach, where a way joins those that are known. -/
import Derived.Test.YteocjidfbbekfaaDoorFlowJ
import Derived.Test.YteocjidfbbekfaaDoorArrEq
namespace Go.Proofs.YteocjidfbbekfaaDoor
open Go.RowKit
attribute [local go_sem] eq4 eq8
theorem bcell {W w1 : World} (hb : Below W.heap.size W w1) : (∀ b o, b < W.heap.size → w1.cell? ⟨b, o, none⟩ = W.cell? ⟨b, o, none⟩) ∧ (∀ b o, b < W.heap.size → w1.frozen? ⟨b, o, none⟩ = W.frozen? ⟨b, o, none⟩) :=
  ⟨fun b o h => hb.cell (p := ⟨b, o, none⟩) h, fun b o h => hb.frozen (p := ⟨b, o, none⟩) h⟩
theorem reach_put2 {w : World} {bw bf cap k n d : Nat} {fs : List Fr} {lv : Value} {ch : Bool} (r u : Bool) (a b c e t0 t1 t2 t3 t4 t5 t6 t7 : Nat) (hall : AllAt w bf fs) (hok : AllOk fs) (hk : k < fs.length)
    (hwalk : WalkAt w bw lv bf n cap ch) (hne : bw ≠ bf) (hd : d ≤ 8) :
    AllAt (((((((((((((((w.setCell ⟨bf, k * 15, none⟩ (.bool r)).setCell ⟨bf, k * 15 + 1, none⟩ (.int .i64 a)).setCell ⟨bf, k * 15 + 2, none⟩ (.int .i64 b)).setCell ⟨bf, k * 15 + 3, none⟩ (.int .i64 c)).setCell ⟨bf, k * 15 + 4, none⟩ (.int .i64 e)).setCell ⟨bf, k * 15 + 5, none⟩ (.int .i64 d)).setCell ⟨bf, k * 15 + 6, none⟩ (.int .i64 t0)).setCell ⟨bf, k * 15 + 7, none⟩ (.int .i64 t1)).setCell ⟨bf, k * 15 + 8, none⟩ (.int .i64 t2)).setCell ⟨bf, k * 15 + 9, none⟩ (.int .i64 t3)).setCell ⟨bf, k * 15 + 10, none⟩ (.int .i64 t4)).setCell ⟨bf, k * 15 + 11, none⟩ (.int .i64 t5)).setCell ⟨bf, k * 15 + 12, none⟩ (.int .i64 t6)).setCell ⟨bf, k * 15 + 13, none⟩ (.int .i64 t7)).setCell ⟨bf, k * 15 + 14, none⟩ (.bool u)).drew bf (fs.set k ⟨r, [a, b, c, e], d, [t0, t1, t2, t3, t4, t5, t6, t7], u⟩) ∧ WalkAt (((((((((((((((w.setCell ⟨bf, k * 15, none⟩ (.bool r)).setCell ⟨bf, k * 15 + 1, none⟩ (.int .i64 a)).setCell ⟨bf, k * 15 + 2, none⟩ (.int .i64 b)).setCell ⟨bf, k * 15 + 3, none⟩ (.int .i64 c)).setCell ⟨bf, k * 15 + 4, none⟩ (.int .i64 e)).setCell ⟨bf, k * 15 + 5, none⟩ (.int .i64 d)).setCell ⟨bf, k * 15 + 6, none⟩ (.int .i64 t0)).setCell ⟨bf, k * 15 + 7, none⟩ (.int .i64 t1)).setCell ⟨bf, k * 15 + 8, none⟩ (.int .i64 t2)).setCell ⟨bf, k * 15 + 9, none⟩ (.int .i64 t3)).setCell ⟨bf, k * 15 + 10, none⟩ (.int .i64 t4)).setCell ⟨bf, k * 15 + 11, none⟩ (.int .i64 t5)).setCell ⟨bf, k * 15 + 12, none⟩ (.int .i64 t6)).setCell ⟨bf, k * 15 + 13, none⟩ (.int .i64 t7)).setCell ⟨bf, k * 15 + 14, none⟩ (.bool u)).drew bw lv bf n cap ch ∧ Two bw bf w (((((((((((((((w.setCell ⟨bf, k * 15, none⟩ (.bool r)).setCell ⟨bf, k * 15 + 1, none⟩ (.int .i64 a)).setCell ⟨bf, k * 15 + 2, none⟩ (.int .i64 b)).setCell ⟨bf, k * 15 + 3, none⟩ (.int .i64 c)).setCell ⟨bf, k * 15 + 4, none⟩ (.int .i64 e)).setCell ⟨bf, k * 15 + 5, none⟩ (.int .i64 d)).setCell ⟨bf, k * 15 + 6, none⟩ (.int .i64 t0)).setCell ⟨bf, k * 15 + 7, none⟩ (.int .i64 t1)).setCell ⟨bf, k * 15 + 8, none⟩ (.int .i64 t2)).setCell ⟨bf, k * 15 + 9, none⟩ (.int .i64 t3)).setCell ⟨bf, k * 15 + 10, none⟩ (.int .i64 t4)).setCell ⟨bf, k * 15 + 11, none⟩ (.int .i64 t5)).setCell ⟨bf, k * 15 + 12, none⟩ (.int .i64 t6)).setCell ⟨bf, k * 15 + 13, none⟩ (.int .i64 t7)).setCell ⟨bf, k * 15 + 14, none⟩ (.bool u)).drew := by
  refine ⟨?_, ?_, ((((((((((((((((Two.refl bw bf w).setB (k * 15) (.bool r)).setB (k * 15 + 1) (.int .i64 a)).setB (k * 15 + 2) (.int .i64 b)).setB (k * 15 + 3) (.int .i64 c)).setB (k * 15 + 4) (.int .i64 e)).setB (k * 15 + 5) (.int .i64 d)).setB (k * 15 + 6) (.int .i64 t0)).setB (k * 15 + 7) (.int .i64 t1)).setB (k * 15 + 8) (.int .i64 t2)).setB (k * 15 + 9) (.int .i64 t3)).setB (k * 15 + 10) (.int .i64 t4)).setB (k * 15 + 11) (.int .i64 t5)).setB (k * 15 + 12) (.int .i64 t6)).setB (k * 15 + 13) (.int .i64 t7)).setB (k * 15 + 14) (.bool u)).drew⟩
  · unfold AllAt
    rw [drew_heap, ← allL_put hok hk (f := ⟨r, [a, b, c, e], d, [t0, t1, t2, t3, t4, t5, t6, t7], u⟩) ⟨rfl, rfl, hd⟩]
    exact put15 (k * 15) hall (.bool r) (.int .i64 a) (.int .i64 b) (.int .i64 c) (.int .i64 e) (.int .i64 d) (.int .i64 t0) (.int .i64 t1) (.int .i64 t2) (.int .i64 t3) (.int .i64 t4) (.int .i64 t5) (.int .i64 t6) (.int .i64 t7) (.bool u)
  · unfold WalkAt
    rw [drew_heap, same15 (k * 15) hne (.bool r) (.int .i64 a) (.int .i64 b) (.int .i64 c) (.int .i64 e) (.int .i64 d) (.int .i64 t0) (.int .i64 t1) (.int .i64 t2) (.int .i64 t3) (.int .i64 t4) (.int .i64 t5) (.int .i64 t6) (.int .i64 t7) (.bool u)]
    exact hwalk
theorem Two.of_below {a b : Nat} {w w' : World} (h : Below w.heap.size w w') : Two a b w w' := ⟨h.os, h.tape, h.output, h.size, fun k hk _ _ => h.block k hk⟩
theorem Two.trans {a b : Nat} {w1 w2 w3 : World} (h : Two a b w1 w2) (g : Two a b w2 w3) : Two a b w1 w3 :=
  ⟨g.os.trans h.os, g.tape.trans h.tape, g.output.trans h.output, Nat.le_trans h.size g.size, fun k hk h1 h2 => (g.block k (Nat.lt_of_lt_of_le hk h.size) h1 h2).trans (h.block k hk h1 h2)⟩
theorem four_set {w w5 : World} {x y : Array Value} {t s : TypeId} {r yw : Bool} {a b c e d : Nat} {t0 t1 t2 t3 t4 t5 t6 t7 : Nat} (j0 j1 j2 j3 : Nat) (hx : x = #[.bool r, .int .i64 a, .int .i64 b, .int .i64 c, .int .i64 e, .int .i64 d, .int .i64 t0, .int .i64 t1, .int .i64 t2, .int .i64 t3, .int .i64 t4, .int .i64 t5, .int .i64 t6, .int .i64 t7, .bool yw])
    (hb : Below ((w.alloc (.cells x t)).alloc (.cells y s)).heap.size ((w.alloc (.cells x t)).alloc (.cells y s)) w5) :
    ((((w5.setCell ⟨w.heap.size, 1, none⟩ (.int .i64 j0)).setCell ⟨w.heap.size, 2, none⟩ (.int .i64 j1)).setCell ⟨w.heap.size, 3, none⟩ (.int .i64 j2)).setCell ⟨w.heap.size, 4, none⟩ (.int .i64 j3)).heap[w.heap.size]? =
      some (.cells #[.bool r, .int .i64 j0, .int .i64 j1, .int .i64 j2, .int .i64 j3, .int .i64 d, .int .i64 t0, .int .i64 t1, .int .i64 t2, .int .i64 t3, .int .i64 t4, .int .i64 t5, .int .i64 t6, .int .i64 t7, .bool yw] t) ∧
    ((((w5.setCell ⟨w.heap.size, 1, none⟩ (.int .i64 j0)).setCell ⟨w.heap.size, 2, none⟩ (.int .i64 j1)).setCell ⟨w.heap.size, 3, none⟩ (.int .i64 j2)).setCell ⟨w.heap.size, 4, none⟩ (.int .i64 j3)).heap[w.heap.size + 1]? = some (.cells y s) ∧
    Below w.heap.size w ((((w5.setCell ⟨w.heap.size, 1, none⟩ (.int .i64 j0)).setCell ⟨w.heap.size, 2, none⟩ (.int .i64 j1)).setCell ⟨w.heap.size, 3, none⟩ (.int .i64 j2)).setCell ⟨w.heap.size, 4, none⟩ (.int .i64 j3)) := by
  subst hx
  rw [alloc_size, alloc_size] at hb
  have h0 := (hb.block w.heap.size (by omega)).trans ((Below.heap_alloc _ _ _ (by rw [alloc_size]; omega)).trans (heap_alloc_new w _))
  have h1 := (hb.block (w.heap.size + 1) (by omega)).trans (heap_two_new w _ _)
  refine ⟨?_, ?_, ?_⟩
  · have := setCell_row 4 (.int .i64 j3) (setCell_row 3 (.int .i64 j2) (setCell_row 2 (.int .i64 j1) (setCell_row 1 (.int .i64 j0) h0)))
    simpa using this
  · iterate 4 rw [Below.heap_setCell _ _ _ _ (by simp)]
    exact h1
  · have hbw : Below w.heap.size w w5 := (((Below.refl _ _).alloc (Nat.le_refl _) _).alloc (by simp) _).trans (hb.mono (by omega))
    exact (((hbw.setCell (by simp) _).setCell (by simp) _).setCell (by simp) _).setCell (by simp) _
def ReachPost (bw bf cap k : Nat) (fs : List Fr) (way known : Fr) (ch : Bool) (lv : Value) (w : World) (e : Ending) (w' : World) : Prop :=
  e = .returned (.bool true) ∧ Two bw bf w w' ∧ ((known.lo = List.zipWith joinN known.lo way.lo ∧ AllAt w' bf fs ∧ WalkAt w' bw lv bf fs.length cap ch) ∨
    (known.lo ≠ List.zipWith joinN known.lo way.lo ∧ AllAt w' bf (fs.set k { way with reached := true, lo := List.zipWith joinN known.lo way.lo }) ∧ WalkAt w' bw lv bf fs.length cap true))
set_option maxRecDepth 100000 in
set_option maxHeartbeats 1000000 in
theorem reach_join (bw bf cap k : Nat) (fs : List Fr) (way known : Fr) (ch : Bool) (lv : Value) (w : World) (hall : AllAt w bf fs) (hok : AllOk fs) (hk : fs[k]? = some known) (hway : FrOk way)
    (hwalk : WalkAt w bw lv bf fs.length cap ch) (hr : known.reached = true) (hne : bw ≠ bf) (hd : known.depth = way.depth) (hst : known.stk = way.stk) :
    Calls Tryd.prog 30 #[.pointer (some ⟨bw, 0, none⟩), .int .i64 k, .agg (frL way).toArray] w (ReachPost bw bf cap k fs way known ch lv w) := by
  have hkl : k < fs.length := (List.getElem?_eq_some_iff.1 hk).1
  have hkn : FrOk known := hok known (List.mem_of_getElem? hk)
  have HAL := hid hall
  have HWK := hid hwalk
  have w0 := cell_of_row w bw 0 _ _ _ hwalk
  have w1 := cell_of_row w bw 1 _ _ _ hwalk
  have w2 := cell_of_row w bw 2 _ _ _ hwalk
  simp only [List.getElem?_toArray, List.getElem?_cons_zero, List.getElem?_cons_succ] at w0 w1 w2
  have hbw := World.block_lt_of_cell? w _ w0
  have fw2 := frozen_of_row w bw 2 _ _ hwalk
  have c0 := hall.cell hok hk (j := 0) (by omega)
  have c1 := hall.cell hok hk (j := 1) (by omega)
  have c2 := hall.cell hok hk (j := 2) (by omega)
  have c3 := hall.cell hok hk (j := 3) (by omega)
  have c4 := hall.cell hok hk (j := 4) (by omega)
  have c5 := hall.cell hok hk (j := 5) (by omega)
  have c6 := hall.cell hok hk (j := 6) (by omega)
  have c7 := hall.cell hok hk (j := 7) (by omega)
  have c8 := hall.cell hok hk (j := 8) (by omega)
  have c9 := hall.cell hok hk (j := 9) (by omega)
  have c10 := hall.cell hok hk (j := 10) (by omega)
  have c11 := hall.cell hok hk (j := 11) (by omega)
  have c12 := hall.cell hok hk (j := 12) (by omega)
  have c13 := hall.cell hok hk (j := 13) (by omega)
  have c14 := hall.cell hok hk (j := 14) (by omega)
  have f0 := hall.frozen (k * 15)
  have f1 := hall.frozen (k * 15 + 1)
  have f2 := hall.frozen (k * 15 + 2)
  have f3 := hall.frozen (k * 15 + 3)
  have f4 := hall.frozen (k * 15 + 4)
  have f5 := hall.frozen (k * 15 + 5)
  have f6 := hall.frozen (k * 15 + 6)
  have f7 := hall.frozen (k * 15 + 7)
  have f8 := hall.frozen (k * 15 + 8)
  have f9 := hall.frozen (k * 15 + 9)
  have f10 := hall.frozen (k * 15 + 10)
  have f11 := hall.frozen (k * 15 + 11)
  have f12 := hall.frozen (k * 15 + 12)
  have f13 := hall.frozen (k * 15 + 13)
  have f14 := hall.frozen (k * 15 + 14)
  have hbf := World.block_lt_of_cell? w _ (c0.trans (by rfl : (frL known)[0]? = some (.bool known.reached)))
  simp only at hbw hbf
  obtain ⟨kr, klo, kd, kst, kw⟩ := known
  obtain ⟨h1, h2, h3⟩ := hkn
  simp only at h1 h2 hr
  subst hr
  obtain ⟨a, b, c, e, rfl⟩ := four h1
  obtain ⟨s0, s1, s2, s3, s4, s5, s6, s7, rfl⟩ := eight h2
  simp only [frL, List.map_cons, List.map_nil, List.cons_append, List.nil_append, numV, List.getElem?_cons_zero, List.getElem?_cons_succ] at c0 c1 c2 c3 c4 c5 c6 c7 c8 c9 c10 c11 c12 c13 c14
  rw [Nat.add_zero] at c0
  have HWAY := hid hway
  obtain ⟨yr, ylo, yd, yst, yw⟩ := way
  obtain ⟨g1, g2, g3⟩ := hway
  simp only at g1 g2 hd hst
  obtain ⟨a', b', c', e', rfl⟩ := four g1
  obtain ⟨t0, t1, t2, t3, t4, t5, t6, t7, rfl⟩ := eight g2
  simp only [frL, List.map_cons, List.map_nil, List.cons_append, List.nil_append, numV]
  have i0 : (0 : Int) ≤ (k : Int) := by omega
  have i1 : (k : Int) < (fs.length : Int) := by omega
  have hbw2 : bw ≤ w.heap.size := by omega
  have hbf2 : bf ≤ w.heap.size := by omega
  have d1 : decide ((k : Int) < 0) = false := by simp
  clear hall hwalk
  subst hd
  simp only [List.cons.injEq, and_true] at hst
  obtain ⟨rfl, rfl, rfl, rfl, rfl, rfl, rfl, rfl⟩ := hst
  have hjn := hid (fun W => flowJoined_any a b c e a' b' c' e' W)
  have HPS : Hid (∀ w', Two bw bf w w' → ([a, b, c, e] = [joinN a a', joinN b b', joinN c c', joinN e e'] ∧ AllAt w' bf fs ∧ WalkAt w' bw lv bf fs.length cap ch ∨
      [a, b, c, e] ≠ [joinN a a', joinN b b', joinN c c', joinN e e'] ∧ AllAt w' bf (fs.set k ⟨true, [joinN a a', joinN b b', joinN c c', joinN e e'], kd, [s0, s1, s2, s3, s4, s5, s6, s7], yw⟩) ∧ WalkAt w' bw lv bf fs.length cap true) →
      ReachPost bw bf cap k fs ⟨yr, [a', b', c', e'], kd, [s0, s1, s2, s3, s4, s5, s6, s7], yw⟩ ⟨true, [a, b, c, e], kd, [s0, s1, s2, s3, s4, s5, s6, s7], kw⟩ ch lv w (.returned (.bool true)) w') := hid (fun w' h1 h2 => ⟨rfl, h1, h2⟩)
  generalize joinN a a' = j0 at *
  generalize joinN b b' = j1 at *
  generalize joinN c c' = j2 at *
  generalize joinN e e' = j3 at *
  go_enter Tryd.func30, Tryd.ntmps30

  go_upto_region 8 with fail
  go_cut [6] (fun x6 wc => x6 = .bool false ∧ wc.heap[w.heap.size]? = some (.cells #[.bool true, .int .i64 j0, .int .i64 j1, .int .i64 j2, .int .i64 j3, .int .i64 kd, .int .i64 s0, .int .i64 s1, .int .i64 s2, .int .i64 s3, .int .i64 s4, .int .i64 s5, .int .i64 s6, .int .i64 s7, .bool yw] 48) ∧ wc.heap[w.heap.size + 1]? = some (.cells #[.bool true, .int .i64 a, .int .i64 b, .int .i64 c, .int .i64 e, .int .i64 kd, .int .i64 s0, .int .i64 s1, .int .i64 s2, .int .i64 s3, .int .i64 s4, .int .i64 s5, .int .i64 s6, .int .i64 s7, .bool kw] 48) ∧ Below w.heap.size w wc)
  case first =>
    go_wp2_with fail
    refine (hjn.out _).mono ?_
    clear hjn
    intro x w5 hh
    obtain ⟨hx5, hb5⟩ := hh
    subst x
    have hr5 := hid (four_set j0 j1 j2 j3 rfl hb5)
    obtain ⟨hc5, hf5⟩ := bcell hb5
    have hz5 := hb5.size
    simp at hc5 hf5 hz5
    go_wp2_with fail
    go_meet
    exact ⟨rfl, hr5.out.1, hr5.out.2.1, hr5.out.2.2⟩
  case rest =>
    obtain ⟨rfl, hR1, hR2, hB⟩ := hcut
    have hA : AllAt wc bf fs := (hB.block bf hbf).trans HAL.out
    have hW : WalkAt wc bw lv bf fs.length cap ch := (hB.block bw hbw).trans HWK.out
    clear hjn c0 c1 c2 c3 c4 c5 c6 c7 c8 c9 c10 c11 c12 c13 c14 f0 f1 f2 f3 f4 f5 f6 f7 f8 f9 f10 f11 f12 f13 f14 w0 w1 w2 fw2
    have m0 := cell_of_row wc w.heap.size 0 _ _ _ hR1
    have m1 := cell_of_row wc w.heap.size 1 _ _ _ hR1
    have m2 := cell_of_row wc w.heap.size 2 _ _ _ hR1
    have m3 := cell_of_row wc w.heap.size 3 _ _ _ hR1
    have m4 := cell_of_row wc w.heap.size 4 _ _ _ hR1
    have m5 := cell_of_row wc w.heap.size 5 _ _ _ hR1
    have m6 := cell_of_row wc w.heap.size 6 _ _ _ hR1
    have m7 := cell_of_row wc w.heap.size 7 _ _ _ hR1
    have m8 := cell_of_row wc w.heap.size 8 _ _ _ hR1
    have m9 := cell_of_row wc w.heap.size 9 _ _ _ hR1
    have m10 := cell_of_row wc w.heap.size 10 _ _ _ hR1
    have m11 := cell_of_row wc w.heap.size 11 _ _ _ hR1
    have m12 := cell_of_row wc w.heap.size 12 _ _ _ hR1
    have m13 := cell_of_row wc w.heap.size 13 _ _ _ hR1
    have m14 := cell_of_row wc w.heap.size 14 _ _ _ hR1
    have p0 := cell_of_row wc (w.heap.size + 1) 0 _ _ _ hR2
    have p1 := cell_of_row wc (w.heap.size + 1) 1 _ _ _ hR2
    have p2 := cell_of_row wc (w.heap.size + 1) 2 _ _ _ hR2
    have p3 := cell_of_row wc (w.heap.size + 1) 3 _ _ _ hR2
    have p4 := cell_of_row wc (w.heap.size + 1) 4 _ _ _ hR2
    have c0 := hA.cell hok hk (j := 0) (by omega)
    have c1 := hA.cell hok hk (j := 1) (by omega)
    have c2 := hA.cell hok hk (j := 2) (by omega)
    have c3 := hA.cell hok hk (j := 3) (by omega)
    have c4 := hA.cell hok hk (j := 4) (by omega)
    have c5 := hA.cell hok hk (j := 5) (by omega)
    have c6 := hA.cell hok hk (j := 6) (by omega)
    have c7 := hA.cell hok hk (j := 7) (by omega)
    have c8 := hA.cell hok hk (j := 8) (by omega)
    have c9 := hA.cell hok hk (j := 9) (by omega)
    have c10 := hA.cell hok hk (j := 10) (by omega)
    have c11 := hA.cell hok hk (j := 11) (by omega)
    have c12 := hA.cell hok hk (j := 12) (by omega)
    have c13 := hA.cell hok hk (j := 13) (by omega)
    have c14 := hA.cell hok hk (j := 14) (by omega)
    have f0 := hA.frozen (k * 15)
    have f1 := hA.frozen (k * 15 + 1)
    have f2 := hA.frozen (k * 15 + 2)
    have f3 := hA.frozen (k * 15 + 3)
    have f4 := hA.frozen (k * 15 + 4)
    have f5 := hA.frozen (k * 15 + 5)
    have f6 := hA.frozen (k * 15 + 6)
    have f7 := hA.frozen (k * 15 + 7)
    have f8 := hA.frozen (k * 15 + 8)
    have f9 := hA.frozen (k * 15 + 9)
    have f10 := hA.frozen (k * 15 + 10)
    have f11 := hA.frozen (k * 15 + 11)
    have f12 := hA.frozen (k * 15 + 12)
    have f13 := hA.frozen (k * 15 + 13)
    have f14 := hA.frozen (k * 15 + 14)
    rw [Nat.add_zero] at c0
    have v1 := cell_of_row wc bw 1 _ _ _ hW
    simp only [frL, List.map_cons, List.map_nil, List.cons_append, List.nil_append, numV, List.getElem?_toArray, List.getElem?_cons_zero, List.getElem?_cons_succ] at v1 m0 m1 m2 m3 m4 m5 m6 m7 m8 m9 m10 m11 m12 m13 m14 p0 p1 p2 p3 p4 c0 c1 c2 c3 c4 c5 c6 c7 c8 c9 c10 c11 c12 c13 c14
    have HA := hid hA
    have HW := hid hW
    clear hA hW hR1 hR2
    by_cases hsame : a = j0 ∧ b = j1 ∧ c = j2 ∧ e = j3
    · obtain ⟨q0, q1, q2, q3⟩ := hsame
      have y0 : ((a : Int) == (j0 : Int)) = true := by simp; omega
      have y1 : ((b : Int) == (j1 : Int)) = true := by simp; omega
      have y2 : ((c : Int) == (j2 : Int)) = true := by simp; omega
      have y3 : ((e : Int) == (j3 : Int)) = true := by simp; omega
      have HQ : Hid ([a, b, c, e] = [j0, j1, j2, j3]) := hid (by rw [q0, q1, q2, q3])
      clear q0 q1 q2 q3
      go_wp2_with fail
      go_ret
      exact HPS.out _ (.of_below hB) (.inl ⟨HQ.out, HA.out, HW.out⟩)
    · have HQ : Hid ([a, b, c, e] ≠ [j0, j1, j2, j3]) := hid (by
        intro h
        simp only [List.cons.injEq, and_true] at h
        exact hsame h)
      clear hsame
      go_wp2_with fail
      · go_cut [6] (fun x6 wd => x6 = .bool false ∧ AllAt wd bf (fs.set k ⟨true, [j0, j1, j2, j3], kd, [s0, s1, s2, s3, s4, s5, s6, s7], yw⟩) ∧ WalkAt wd bw lv bf fs.length cap ch ∧ Two bw bf wc wd)
        case first =>
          go_region
          go_wp2_with fail
          go_meet
          exact ⟨rfl, reach_put2 true yw j0 j1 j2 j3 s0 s1 s2 s3 s4 s5 s6 s7 HA.out hok hkl HW.out hne h3⟩
        case rest =>
          obtain ⟨rfl, hA2, hW2, hT2⟩ := hcut
          have z2 := cell_of_row wc bw 2 _ _ _ hW2
          simp only [List.getElem?_toArray, List.getElem?_cons_zero, List.getElem?_cons_succ] at z2
          have u2 := frozen_of_row wc bw 2 _ _ hW2
          have HA2 := hid hA2
          have HW2 := hid hW2
          have HT2 := hid ((Two.of_below (a := bw) (b := bf) hB).trans hT2)
          clear hA2 hW2 hT2
          go_wp2_with fail
          go_ret
          refine HPS.out _ HT2.out.set (.inr ⟨HQ.out, ?_, by have := setCell_row 2 (.bool true) HW2.out; simpa [WalkAt] using this⟩)
          unfold AllAt
          rw [Below.heap_setCell _ _ _ _ (Ne.symm hne)]
          exact HA2.out
      · have hsm := ‹(!((a : Int) == (j0 : Int))) = false ∧ _›
        exfalso
        apply HQ.out
        simp only [Bool.not_eq_false', beq_iff_eq] at hsm
        obtain ⟨q0, q1, q2, q3⟩ := hsm
        rw [show a = j0 by omega, show b = j1 by omega, show c = j2 by omega, show e = j3 by omega]
end Go.Proofs.YteocjidfbbekfaaDoor
