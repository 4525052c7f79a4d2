/- What the program's after does to a frame; how its result is read. -/
import Derived.Test.YteocjidfbbekfaaDoorFlowC
namespace Go.Proofs.YteocjidfbbekfaaDoor
open Go.RowKit

theorem three_new (w : World) (a b c : Obj) : Below w.heap.size w (((w.alloc a).alloc b).alloc c) :=
  (((Below.refl _ _).alloc (Nat.le_refl _) _).alloc (by simp) _).alloc (by simp; omega) _
def dupF (f : Fr) : Fr := pushF (pushF (popF f).1 (popF f).2) (popF f).2
def swapF (f : Fr) : Fr := pushF (pushF (popF (popF f).1).1 (popF f).2) (popF (popF f).1).2
/-- What an instruction does to a frame. -/
def afterF (f : Fr) (op n : Nat) : Fr :=
  if op = 7 then loadF f n else if op = 8 then storeF f n else if op = 9 then dupF f else if op = 10 then (popF f).1 else if op = 11 then swapF f
  else pushR (popR f (popsN op).reverse) (pushesN op)
theorem afterF_ok {f : Fr} (h : FrOk f) (op n : Nat) : FrOk (afterF f op n) := by
  unfold afterF
  split
  · exact loadF_ok h n
  split
  · exact storeF_ok h n
  split
  · exact pushF_ok (pushF_ok (popF_ok h) _) _
  split
  · exact popF_ok h
  split
  · exact pushF_ok (pushF_ok (popF_ok (popF_ok h)) _) _
  · exact pushR_ok _ _ (popR_ok _ _ h)

theorem heap_three_first (w : World) (a b c : Obj) : (((w.alloc a).alloc b).alloc c).heap[w.heap.size]? = some a := by
  rw [Below.heap_alloc _ _ _ (by simp; omega), Below.heap_alloc _ _ _ (by simp), heap_alloc_new]
theorem cell_three_second (w : World) (a c : Obj) (cs : Array Value) (t : TypeId) (j : Nat) : (((w.alloc a).alloc (.cells cs t)).alloc c).cell? ⟨w.heap.size + 1, j, none⟩ = cs[j]? :=
  cell_of_row _ _ j cs t (0, 0) (by rw [Below.heap_alloc _ _ _ (by simp)]; exact heap_two_new w _ _)
theorem heap_three_third (w : World) (a b c : Obj) : (((w.alloc a).alloc b).alloc c).heap[w.heap.size + 1 + 1]? = some c := by
  have h := heap_alloc_new ((w.alloc a).alloc b) c
  have e : ((w.alloc a).alloc b).heap.size = w.heap.size + 1 + 1 := by simp
  rw [e] at h
  exact h

def AftPost (f : Fr) (op n : Nat) (w : World) (e : Ending) (w' : World) : Prop :=
  Below w.heap.size w w' ∧ e = .returned (.tuple #[.agg (frL (afterF f op n)).toArray, .bool (!(afterF f op n).wrong)])

theorem RowAt.drew {w : World} {b : Nat} {cs : Array Value} (h : RowAt w b cs) : RowAt w.drew b cs := h
theorem fifteen_set {w : World} {b : Nat} {z0 z1 z2 z3 z4 z5 z6 z7 z8 z9 z10 z11 z12 z13 z14 : Value} (h : RowAt w b #[z0, z1, z2, z3, z4, z5, z6, z7, z8, z9, z10, z11, z12, z13, z14]) (v0 v1 v2 v3 v4 v5 v6 v7 v8 v9 v10 v11 v12 v13 v14 : Value) :
    RowAt (((((((((((((((w.setCell ⟨b, 0, none⟩ v0).setCell ⟨b, 1, none⟩ v1).setCell ⟨b, 2, none⟩ v2).setCell ⟨b, 3, none⟩ v3).setCell ⟨b, 4, none⟩ v4).setCell ⟨b, 5, none⟩ v5).setCell ⟨b, 6, none⟩ v6).setCell ⟨b, 7, none⟩ v7).setCell ⟨b, 8, none⟩ v8).setCell ⟨b, 9, none⟩ v9).setCell ⟨b, 10, none⟩ v10).setCell ⟨b, 11, none⟩ v11).setCell ⟨b, 12, none⟩ v12).setCell ⟨b, 13, none⟩ v13).setCell ⟨b, 14, none⟩ v14) b #[v0, v1, v2, v3, v4, v5, v6, v7, v8, v9, v10, v11, v12, v13, v14] := by
  simpa using (((((((((((((((h.set 0 v0).set 1 v1).set 2 v2).set 3 v3).set 4 v4).set 5 v5).set 6 v6).set 7 v7).set 8 v8).set 9 v9).set 10 v10).set 11 v11).set 12 v12).set 13 v13).set 14 v14)
theorem fifteen_below {B : Nat} {w0 w : World} {b : Nat} (h : Below B w0 w) (hb : B ≤ b) (v0 v1 v2 v3 v4 v5 v6 v7 v8 v9 v10 v11 v12 v13 v14 : Value) :
    Below B w0 (((((((((((((((w.setCell ⟨b, 0, none⟩ v0).setCell ⟨b, 1, none⟩ v1).setCell ⟨b, 2, none⟩ v2).setCell ⟨b, 3, none⟩ v3).setCell ⟨b, 4, none⟩ v4).setCell ⟨b, 5, none⟩ v5).setCell ⟨b, 6, none⟩ v6).setCell ⟨b, 7, none⟩ v7).setCell ⟨b, 8, none⟩ v8).setCell ⟨b, 9, none⟩ v9).setCell ⟨b, 10, none⟩ v10).setCell ⟨b, 11, none⟩ v11).setCell ⟨b, 12, none⟩ v12).setCell ⟨b, 13, none⟩ v13).setCell ⟨b, 14, none⟩ v14) :=
  (((((((((((((((h.setCell (p := ⟨b, 0, none⟩) hb v0).setCell (p := ⟨b, 1, none⟩) hb v1).setCell (p := ⟨b, 2, none⟩) hb v2).setCell (p := ⟨b, 3, none⟩) hb v3).setCell (p := ⟨b, 4, none⟩) hb v4).setCell (p := ⟨b, 5, none⟩) hb v5).setCell (p := ⟨b, 6, none⟩) hb v6).setCell (p := ⟨b, 7, none⟩) hb v7).setCell (p := ⟨b, 8, none⟩) hb v8).setCell (p := ⟨b, 9, none⟩) hb v9).setCell (p := ⟨b, 10, none⟩) hb v10).setCell (p := ⟨b, 11, none⟩) hb v11).setCell (p := ⟨b, 12, none⟩) hb v12).setCell (p := ⟨b, 13, none⟩) hb v13).setCell (p := ⟨b, 14, none⟩) hb v14)
set_option maxHeartbeats 1000000 in
theorem aft_res {tmps : Array Value} {W : World} {B : Nat} {r wg u : Bool} {a b c e d t0 t1 t2 t3 t4 t5 t6 t7 : Nat} (h4 : tmps[4]? = some (.pointer (some ⟨B, 0, none⟩))) (h5 : tmps[5]? = some (.bool u))
    (hrow : RowAt W B #[.bool r, .int .i64 a, .int .i64 b, .int .i64 c, .int .i64 e, .int .i64 d, .int .i64 t0, .int .i64 t1, .int .i64 t2, .int .i64 t3, .int .i64 t4, .int .i64 t5, .int .i64 t6, .int .i64 t7, .bool wg]) :
    (results Tryd.f37 tmps).run Tryd.prog W = .ok (.tuple #[.agg #[.bool r, .int .i64 a, .int .i64 b, .int .i64 c, .int .i64 e, .int .i64 d, .int .i64 t0, .int .i64 t1, .int .i64 t2, .int .i64 t3, .int .i64 t4, .int .i64 t5, .int .i64 t6, .int .i64 t7, .bool wg], .bool u]) W := by
  have y0 := RowAt.cell hrow 0
  have y1 := RowAt.cell hrow 1
  have y2 := RowAt.cell hrow 2
  have y3 := RowAt.cell hrow 3
  have y4 := RowAt.cell hrow 4
  have y5 := RowAt.cell hrow 5
  have y6 := RowAt.cell hrow 6
  have y7 := RowAt.cell hrow 7
  have y8 := RowAt.cell hrow 8
  have y9 := RowAt.cell hrow 9
  have y10 := RowAt.cell hrow 10
  have y11 := RowAt.cell hrow 11
  have y12 := RowAt.cell hrow 12
  have y13 := RowAt.cell hrow 13
  have y14 := RowAt.cell hrow 14
  simp only [List.getElem?_toArray, List.getElem?_cons_zero, List.getElem?_cons_succ] at y0 y1 y2 y3 y4 y5 y6 y7 y8 y9 y10 y11 y12 y13 y14
  simp [results, Tryd.results37, go_sem, *]

theorem aftPost_mk {f : Fr} {op n : Nat} {w W : World} (b : Bool) (hb : Below w.heap.size w W) (h : b = !(afterF f op n).wrong) : AftPost f op n w (.returned (.tuple #[.agg (frL (afterF f op n)).toArray, .bool b])) W := by
  subst h; exact ⟨hb, rfl⟩

end Go.Proofs.YteocjidfbbekfaaDoor
