/- A frame of types in memory: its row of fifteen cells, and what may turn while it is written. -/
import Derived.Test.YteocjidfbbekfaaDoorSpecG
import Derived.WalkSmall
namespace Go.Proofs.YteocjidfbbekfaaDoor
open Go.RowKit

/-- Only block b may have turned; no block is new. -/
structure Only (b : Nat) (w w' : World) : Prop where
  os : w'.os = w.os
  tape : w'.tape = w.tape
  output : w'.output = w.output
  size : w'.heap.size = w.heap.size
  block : ∀ k, k ≠ b → w'.heap[k]? = w.heap[k]?
theorem Only.refl (b : Nat) (w : World) : Only b w w := ⟨rfl, rfl, rfl, rfl, fun _ _ => rfl⟩
theorem Only.trans {b : Nat} {w1 w2 w3 : World} (h : Only b w1 w2) (k : Only b w2 w3) : Only b w1 w3 :=
  ⟨k.os.trans h.os, k.tape.trans h.tape, k.output.trans h.output, k.size.trans h.size, fun i hi => (k.block i hi).trans (h.block i hi)⟩
theorem Only.set {b : Nat} {w1 w2 : World} (h : Only b w1 w2) (o : Nat) (v : Value) : Only b w1 (w2.setCell ⟨b, o, none⟩ v) :=
  h.trans ⟨rfl, rfl, rfl, by simp [World.setCell], fun k hk => Below.heap_setCell _ _ _ _ hk⟩
theorem Only.drewN {b : Nat} {w1 w2 : World} (h : Only b w1 w2) (n : Nat) : Only b w1 (w2.drewN n) := h.trans ⟨rfl, rfl, rfl, rfl, fun _ _ => rfl⟩
theorem Only.drew {b : Nat} {w1 w2 : World} (h : Only b w1 w2) : Only b w1 w2.drew := h.trans ⟨rfl, rfl, rfl, rfl, fun _ _ => rfl⟩
theorem Only.below {b B : Nat} {w w' : World} (h : Only b w w') (hb : B ≤ b) : Below B w w' :=
  ⟨h.os, h.tape, h.output, by rw [h.size]; exact Nat.le_refl _, fun k hk => h.block k (by omega)⟩
theorem Only.cell {b : Nat} {w w' : World} (h : Only b w w') {k o : Nat} (hk : k ≠ b) : w'.cell? ⟨k, o, none⟩ = w.cell? ⟨k, o, none⟩ := World.cell?_of_block (a := ⟨k, o, none⟩) (h.block k hk)

/-- A frame's row lies at block b. -/
def RowAt (w : World) (b : Nat) (cs : Array Value) : Prop := w.heap[b]? = some (.cells cs 48)
theorem RowAt.cell {w : World} {b : Nat} {cs : Array Value} (h : RowAt w b cs) (j : Nat) : w.cell? ⟨b, j, none⟩ = cs[j]? := cell_of_row w b j cs _ _ h
theorem RowAt.frozen {w : World} {b : Nat} {cs : Array Value} (h : RowAt w b cs) (j : Nat) : w.frozen? ⟨b, j, none⟩ = false := frozen_of_row w b j cs _ h
theorem RowAt.set {w : World} {b : Nat} {cs : Array Value} (h : RowAt w b cs) (j : Nat) (v : Value) : RowAt (w.setCell ⟨b, j, none⟩ v) b (cs.setIfInBounds j v) := setCell_row j v h
theorem RowAt.drewN {w : World} {b : Nat} {cs : Array Value} (h : RowAt w b cs) (n : Nat) : RowAt (w.drewN n) b cs := h
theorem RowAt.lt {w : World} {b : Nat} {cs : Array Value} (h : RowAt w b cs) : b < w.heap.size := by
  unfold RowAt at h
  exact (Array.getElem?_eq_some_iff.1 h).1
end Go.Proofs.YteocjidfbbekfaaDoor
