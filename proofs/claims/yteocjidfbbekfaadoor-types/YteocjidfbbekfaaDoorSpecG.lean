/- Small facts on new blocks. -/
import Derived.Test.YteocjidfbbekfaaDoorSpecC
namespace Go.Proofs.YteocjidfbbekfaaDoor
open Go.RowKit

theorem box_cells {w wr : World} {c : Array Value} {t : TypeId} (hb : Below (w.heap.size + 1) (w.alloc (.cells c t)) wr) :
    (∀ o, wr.cell? ⟨w.heap.size, o, none⟩ = c[o]?) ∧ (∀ b o, b < w.heap.size → wr.cell? ⟨b, o, none⟩ = w.cell? ⟨b, o, none⟩) ∧ w.heap.size + 1 ≤ wr.heap.size := by
  refine ⟨fun o => ?_, fun b o h => ?_, ?_⟩
  · rw [hb.cell (p := ⟨w.heap.size, o, none⟩) (by simp)]; simp
  · rw [hb.cell (p := ⟨b, o, none⟩) (by simp; omega), World.cell?_alloc_past _ _ _ h]
  · have := hb.size; simpa using this

theorem box_below {w wr : World} {o : Obj} {base : Nat} (hbase : base ≤ w.heap.size) (hb : Below (w.heap.size + 1) (w.alloc o) wr) : Below base w wr :=
  ((Below.refl base w).alloc hbase o).trans (hb.mono (by omega))

theorem heap_two_new (w : World) (a b : Obj) : ((w.alloc a).alloc b).heap[w.heap.size + 1]? = some b := by
  have h := heap_alloc_new (w.alloc a) b
  have e : (w.alloc a).heap.size = w.heap.size + 1 := by simp
  rw [e] at h
  exact h

theorem setCell_row {w : World} {b : Nat} {cs : Array Value} {t : TypeId} {fr : Nat × Nat} (j : Nat) (v : Value) (h : w.heap[b]? = some (.cells cs t fr)) : (w.setCell ⟨b, j, none⟩ v).heap[b]? = some (.cells (cs.setIfInBounds j v) t fr) := by
  simp [World.setCell, Array.getElem?_modify, h]
theorem owns_set {w : World} {base e size n : Nat} {v : Value} {xs : List Value} {a : Addr} (h : w.ownsRow base e size v n xs) (hne : v.ownBlock ≠ some a.block) (u : Value) : (w.setCell a u).ownsRow base e size v n xs := by
  refine ⟨h.1, ?_⟩
  rcases h.2 with h2 | ⟨g, cap, cur, hv, hg, hh, r⟩
  · exact .inl h2
  · refine .inr ⟨g, cap, cur, hv, hg, ?_, r⟩
    rw [Below.heap_setCell _ _ _ _ (fun e => hne (by rw [hv, ← e]; rfl))]
    exact hh

theorem heap_set_new (w : World) (a : Addr) (v : Value) (o : Obj) : ((w.setCell a v).alloc o).heap[w.heap.size]? = some o := by
  have h := heap_alloc_new (w.setCell a v) o
  have e : (w.setCell a v).heap.size = w.heap.size := by simp [World.setCell]
  rw [e] at h
  exact h
end Go.Proofs.YteocjidfbbekfaaDoor
