/- A frame of types: what pops, pushes, loads and stores do to it. -/
import Derived.Test.YteocjidfbbekfaaDoorSpecH
namespace Go.Proofs.YteocjidfbbekfaaDoor
open Go.RowKit

structure Fr where
  reached : Bool
  lo : List Nat
  depth : Nat
  stk : List Nat
  wrong : Bool
structure FrOk (f : Fr) : Prop where
  lo : f.lo.length = 4
  stk : f.stk.length = 8
  depth : f.depth ≤ 8
def numV (n : Nat) : Value := .int .i64 (n : Int)
def frL (f : Fr) : List Value := .bool f.reached :: (f.lo.map numV ++ (numV f.depth :: (f.stk.map numV ++ [.bool f.wrong])))
def FrAt (w : World) (b : Nat) (f : Fr) : Prop := RowAt w b (frL f).toArray
theorem four {l : List Nat} (h : l.length = 4) : ∃ a b c d, l = [a, b, c, d] := by
  match l, h with
  | [a, b, c, d], _ => exact ⟨a, b, c, d, rfl⟩
theorem eight {l : List Nat} (h : l.length = 8) : ∃ a b c d e f g i, l = [a, b, c, d, e, f, g, i] := by
  match l, h with
  | [a, b, c, d, e, f, g, i], _ => exact ⟨a, b, c, d, e, f, g, i, rfl⟩
theorem fr_get {f : Fr} (h : FrOk f) : (frL f).toArray[0]? = some (.bool f.reached) ∧ (frL f).toArray[5]? = some (numV f.depth) ∧ (frL f).toArray[14]? = some (.bool f.wrong) := by
  obtain ⟨r, lo, d, st, wr⟩ := f
  obtain ⟨h1, h2, h3⟩ := h
  simp only at h1 h2
  obtain ⟨a, b, c, e, rfl⟩ := four h1
  obtain ⟨s0, s1, s2, s3, s4, s5, s6, s7, rfl⟩ := eight h2
  exact ⟨rfl, rfl, rfl⟩
theorem fr_lo {f : Fr} (h : FrOk f) {i : Nat} (hi : i < 4) : (frL f).toArray[1 + i]? = some (numV (f.lo.getD i 0)) := by
  obtain ⟨r, lo, d, st, wr⟩ := f
  obtain ⟨h1, h2, h3⟩ := h
  simp only at h1 h2
  obtain ⟨a, b, c, e, rfl⟩ := four h1
  match i, hi with
  | 0, _ => rfl
  | 1, _ => rfl
  | 2, _ => rfl
  | 3, _ => rfl
theorem fr_stk {f : Fr} (h : FrOk f) {i : Nat} (hi : i < 8) : (frL f).toArray[6 + i]? = some (numV (f.stk.getD i 0)) := by
  obtain ⟨r, lo, d, st, wr⟩ := f
  obtain ⟨h1, h2, h3⟩ := h
  simp only at h1 h2
  obtain ⟨a, b, c, e, rfl⟩ := four h1
  obtain ⟨s0, s1, s2, s3, s4, s5, s6, s7, rfl⟩ := eight h2
  match i, hi with
  | 0, _ => rfl
  | 1, _ => rfl
  | 2, _ => rfl
  | 3, _ => rfl
  | 4, _ => rfl
  | 5, _ => rfl
  | 6, _ => rfl
  | 7, _ => rfl
theorem fr_set_depth {f : Fr} (h : FrOk f) (n : Nat) : (frL f).toArray.setIfInBounds 5 (numV n) = (frL { f with depth := n }).toArray := by
  obtain ⟨r, lo, d, st, wr⟩ := f
  obtain ⟨h1, h2, h3⟩ := h
  simp only at h1 h2
  obtain ⟨a, b, c, e, rfl⟩ := four h1
  simp [frL]
theorem fr_set_wrong {f : Fr} (h : FrOk f) (u : Bool) : (frL f).toArray.setIfInBounds 14 (.bool u) = (frL { f with wrong := u }).toArray := by
  obtain ⟨r, lo, d, st, wr⟩ := f
  obtain ⟨h1, h2, h3⟩ := h
  simp only at h1 h2
  obtain ⟨a, b, c, e, rfl⟩ := four h1
  obtain ⟨s0, s1, s2, s3, s4, s5, s6, s7, rfl⟩ := eight h2
  simp [frL]
theorem fr_set_stk {f : Fr} (h : FrOk f) {i : Nat} (hi : i < 8) (n : Nat) : (frL f).toArray.setIfInBounds (6 + i) (numV n) = (frL { f with stk := f.stk.set i n }).toArray := by
  obtain ⟨r, lo, d, st, wr⟩ := f
  obtain ⟨h1, h2, h3⟩ := h
  simp only at h1 h2
  obtain ⟨a, b, c, e, rfl⟩ := four h1
  obtain ⟨s0, s1, s2, s3, s4, s5, s6, s7, rfl⟩ := eight h2
  match i, hi with
  | 0, _ => simp [frL]
  | 1, _ => simp [frL]
  | 2, _ => simp [frL]
  | 3, _ => simp [frL]
  | 4, _ => simp [frL]
  | 5, _ => simp [frL]
  | 6, _ => simp [frL]
  | 7, _ => simp [frL]
theorem fr_set_lo {f : Fr} (h : FrOk f) {i : Nat} (hi : i < 4) (n : Nat) : (frL f).toArray.setIfInBounds (1 + i) (numV n) = (frL { f with lo := f.lo.set i n }).toArray := by
  obtain ⟨r, lo, d, st, wr⟩ := f
  obtain ⟨h1, h2, h3⟩ := h
  simp only at h1 h2
  obtain ⟨a, b, c, e, rfl⟩ := four h1
  match i, hi with
  | 0, _ => simp [frL]
  | 1, _ => simp [frL]
  | 2, _ => simp [frL]
  | 3, _ => simp [frL]

def badF (f : Fr) : Fr := { f with wrong := true }
def popF (f : Fr) : Fr × Nat := if f.depth = 0 then (badF f, 0) else ({ f with depth := f.depth - 1, stk := f.stk.set (f.depth - 1) 0 }, f.stk.getD (f.depth - 1) 0)
def pushF (f : Fr) (k : Nat) : Fr := if f.depth = 8 then badF f else { f with stk := f.stk.set f.depth k, depth := f.depth + 1 }
theorem badF_ok {f : Fr} (h : FrOk f) : FrOk (badF f) := ⟨h.lo, h.stk, h.depth⟩
theorem popF_ok {f : Fr} (h : FrOk f) : FrOk (popF f).1 := by
  unfold popF
  by_cases hd : f.depth = 0
  · rw [if_pos hd]; exact badF_ok h
  · rw [if_neg hd]; exact ⟨h.lo, by simp [h.stk], by have := h.depth; simp only; omega⟩
theorem pushF_ok {f : Fr} (h : FrOk f) (k : Nat) : FrOk (pushF f k) := by
  unfold pushF
  by_cases hd : f.depth = 8
  · rw [if_pos hd]; exact badF_ok h
  · rw [if_neg hd]; exact ⟨h.lo, by simp [h.stk], by have := h.depth; simp only; omega⟩
end Go.Proofs.YteocjidfbbekfaaDoor
