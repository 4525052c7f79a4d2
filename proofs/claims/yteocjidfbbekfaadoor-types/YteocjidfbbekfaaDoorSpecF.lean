/- The program's own list of instructions: an instruction and the index that a jump aims at. Nothing of a program stands here but the shape of its cells. -/
import Derived.Test.YteocjidfbbekfaaDoorSpecE
namespace Go.Proofs.YteocjidfbbekfaaDoor
open Go.RowKit

structure CI where
  ins : Ins
  tg : Nat

def ciCells (l : List CI) : List Value := l.flatMap fun i => [.int .i64 i.ins.place, .int .i64 i.ins.op, .int .i64 i.ins.n, .int .i64 i.tg]
theorem ciCells_len (l : List CI) : (ciCells l).length = l.length * 4 := by
  induction l with
  | nil => rfl
  | cons a r ih => simp only [ciCells, List.flatMap_cons, List.length_append, List.length_cons, List.length_nil] at *; omega
theorem ciCells_snoc (l : List CI) (i : CI) : ciCells (l ++ [i]) = ciCells l ++ [.int .i64 i.ins.place, .int .i64 i.ins.op, .int .i64 i.ins.n, .int .i64 i.tg] := by simp [ciCells]
theorem ciCells_at (l : List CI) (k : Nat) (h : k < l.length) : (ciCells l)[k * 4]? = some (.int .i64 l[k].ins.place) ∧ (ciCells l)[k * 4 + 1]? = some (.int .i64 l[k].ins.op) ∧ (ciCells l)[k * 4 + 2]? = some (.int .i64 l[k].ins.n) ∧ (ciCells l)[k * 4 + 3]? = some (.int .i64 l[k].tg) := by
  induction l generalizing k with
  | nil => simp at h
  | cons a r ih =>
    cases k with
    | zero => simp [ciCells]
    | succ k =>
      have := ih k (by simpa using h)
      have e0 : (k + 1) * 4 = k * 4 + 4 := by omega
      have e1 : (k + 1) * 4 + 1 = k * 4 + 1 + 4 := by omega
      have e2 : (k + 1) * 4 + 2 = k * 4 + 2 + 4 := by omega
      have e3 : (k + 1) * 4 + 3 = k * 4 + 3 + 4 := by omega
      have hc : ∀ j, (ciCells (a :: r))[j + 4]? = (ciCells r)[j]? := fun j => by simp [ciCells]
      rw [e3, e2, e1, e0, hc, hc, hc, hc]
      simpa using this
def CiAt (w : World) (g : Nat) (l : List CI) : Prop :=
  ∀ (i : Nat) (c : CI), l[i]? = some c → w.cell? ⟨g, i * 4, none⟩ = some (.int .i64 c.ins.place) ∧ w.cell? ⟨g, i * 4 + 1, none⟩ = some (.int .i64 c.ins.op) ∧ w.cell? ⟨g, i * 4 + 2, none⟩ = some (.int .i64 c.ins.n) ∧ w.cell? ⟨g, i * 4 + 3, none⟩ = some (.int .i64 c.tg)
theorem CiAt.below {w w' : World} {g B : Nat} {l : List CI} (h : CiAt w g l) (hb : Below B w w') (hg : g < B) : CiAt w' g l := by
  intro i c hi
  obtain ⟨h0, h1, h2, h3⟩ := h i c hi
  exact ⟨(hb.cell (p := ⟨g, i * 4, none⟩) hg).trans h0, (hb.cell (p := ⟨g, i * 4 + 1, none⟩) hg).trans h1, (hb.cell (p := ⟨g, i * 4 + 2, none⟩) hg).trans h2, (hb.cell (p := ⟨g, i * 4 + 3, none⟩) hg).trans h3⟩
theorem CiAt.of_owns {w : World} {base e g n cap : Nat} {l : List CI} (h : w.ownsRow base e 4 (.slice (some ⟨g, 0, none⟩) n cap) l.length (ciCells l)) : CiAt w g l := by
  intro i c hi
  obtain ⟨hl, rfl⟩ := List.getElem?_eq_some_iff.1 hi
  have hc := h.cells (g := g) rfl
  obtain ⟨a0, a1, a2, a3⟩ := ciCells_at l i hl
  have h0 := hc _ _ a0
  have h1 := hc _ _ a1
  have h2 := hc _ _ a2
  have h3 := hc _ _ a3
  rw [addr_add] at h0 h1 h2 h3
  exact ⟨h0, h1, h2, h3⟩
theorem CiAt.same {w w' : World} {g : Nat} {l : List CI} (h : CiAt w g l) (hb : w'.heap[g]? = w.heap[g]?) : CiAt w' g l := by
  have hc : ∀ o, w'.cell? ⟨g, o, none⟩ = w.cell? ⟨g, o, none⟩ := fun o => World.cell?_of_block (a := ⟨g, o, none⟩) hb
  intro i c hi
  obtain ⟨h0, h1, h2, h3⟩ := h i c hi
  exact ⟨(hc _).trans h0, (hc _).trans h1, (hc _).trans h2, (hc _).trans h3⟩
def plain (i : Ins) : CI := ⟨i, 0⟩
def plains (l : List Ins) : List CI := l.map plain
theorem plains_len (l : List Ins) : (plains l).length = l.length := by simp [plains]
theorem plains_snoc (l : List Ins) (i : Ins) : plains (l ++ [i]) = plains l ++ [⟨i, 0⟩] := by simp [plains, plain]
/-- The index that a jump aims at. -/
def aimOf (l : List Ins) (i : Ins) : Nat := if isJump i.op = true then (findP i.n l 0).toNat else 0
def aims (l : List Ins) : List CI := l.map fun i => ⟨i, aimOf l i⟩
theorem aims_len (l : List Ins) : (aims l).length = l.length := by simp [aims]
end Go.Proofs.YteocjidfbbekfaaDoor
