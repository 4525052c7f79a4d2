/- The plain mathematics of types: the tables, what an instruction does to the types, in the reference's words. Nothing of a program stands here. -/
import Derived.Test.YteocjidfbbekfaaDoorSpec
namespace Go.Proofs.YteocjidfbbekfaaDoor
open Go.RowKit

def popsL (op : Nat) : List UInt8 :=
  if op = 0 ∨ op = 20 ∨ op = 22 then [105] else if op = 2 ∨ op = 3 ∨ op = 4 ∨ op = 5 ∨ op = 6 then [105, 105]
  else if op = 14 ∨ op = 16 ∨ op = 23 ∨ op = 24 then [114] else if op = 15 ∨ op = 18 then [114, 114] else if op = 17 then [114, 105] else []
def pushesL (op : Nat) : List UInt8 :=
  if op = 1 ∨ op = 2 ∨ op = 3 ∨ op = 4 ∨ op = 5 ∨ op = 6 ∨ op = 16 ∨ op = 18 ∨ op = 21 then [105]
  else if op = 12 ∨ op = 13 ∨ op = 14 ∨ op = 23 ∨ op = 24 then [114] else []
def popsS (op : Nat) : ByteArray := ⟨(popsL op).toArray⟩
def pushesS (op : Nat) : ByteArray := ⟨(pushesL op).toArray⟩
theorem popsL_le (op : Nat) : (popsL op).length ≤ 2 := by
  unfold popsL
  split
  · simp
  split
  · simp
  split
  · simp
  split
  · simp
  split <;> simp
theorem pushesL_le (op : Nat) : (pushesL op).length ≤ 1 := by
  unfold pushesL
  split
  · simp
  split <;> simp
theorem popsS_size (op : Nat) : (popsS op).size ≤ 2 := popsL_le op
theorem pushesS_size (op : Nat) : (pushesS op).size ≤ 1 := pushesL_le op

/-- What an instruction does to the types of locals and stack; false: it can't be done. -/
def afterV (lo st : ByteArray) (op n : Nat) : ByteArray × ByteArray × Bool :=
  if op = 7 then (lo, st ++ lo.extract n (n + 1), true)
  else if op = 8 then (if st.size < 1 then (lo, st, false) else (lo.extract 0 n ++ st.extract (st.size - 1) st.size ++ lo.extract (n + 1) lo.size, st.extract 0 (st.size - 1), true))
  else if op = 9 then (if st.size < 1 then (lo, st, false) else (lo, st ++ st.extract (st.size - 1) st.size, true))
  else if op = 10 then (if st.size < 1 then (lo, st, false) else (lo, st.extract 0 (st.size - 1), true))
  else if op = 11 then (if st.size < 2 then (lo, st, false) else (lo, st.extract 0 (st.size - 2) ++ st.extract (st.size - 1) st.size ++ st.extract (st.size - 2) (st.size - 1), true))
  else if st.size < (popsS op).size then (lo, st, false)
  else if st.extract (st.size - (popsS op).size) st.size = popsS op then (lo, st.extract 0 (st.size - (popsS op).size) ++ pushesS op, true) else (lo, st, false)

/-- The reference's two tables of types. -/
def TypeTab (w : World) : Prop := ∀ k : Nat, k < 25 → w.cell? ⟨1, k, none⟩ = some (.string (popsS k)) ∧ w.cell? ⟨2, k, none⟩ = some (.string (pushesS k))
theorem TypeTab.below {w w' : World} (h : TypeTab w) (hb : Below w.heap.size w w') : TypeTab w' := by
  intro k hk
  obtain ⟨h0, h1⟩ := h k hk
  have l0 := World.block_lt_of_cell? w _ h0
  have l1 := World.block_lt_of_cell? w _ h1
  exact ⟨(hb.cell (p := ⟨1, k, none⟩) l0).trans h0, (hb.cell (p := ⟨2, k, none⟩) l1).trans h1⟩

def pointV (a : Nat) (lo st : ByteArray) : Value := .agg #[.int .i64 a, .string lo, .string st]
def AfterPost (a : Nat) (lo st : ByteArray) (op n : Nat) (w : World) (e : Ending) (w' : World) : Prop :=
  Below w.heap.size w w' ∧ e = .returned (.tuple #[.agg #[.int .i64 a, .string (afterV lo st op n).1, .string (afterV lo st op n).2.1], .bool (afterV lo st op n).2.2])
theorem afterPost_mk {a op n : Nat} {lo st lo' st' : ByteArray} {b : Bool} {w w' : World} (hb : Below w.heap.size w w') (h : afterV lo st op n = (lo', st', b)) :
    AfterPost a lo st op n w (.returned (.tuple #[.agg #[.int .i64 a, .string lo', .string st'], .bool b])) w' := by
  unfold AfterPost; rw [h]; exact ⟨hb, rfl⟩
end Go.Proofs.YteocjidfbbekfaaDoor
