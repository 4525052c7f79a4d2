/- All frames of a program in one row of memory: where each cell lies, and what a store of a whole frame makes of it. -/
import Derived.Test.YteocjidfbbekfaaDoorSpecI
namespace Go.Proofs.YteocjidfbbekfaaDoor
open Go.RowKit

def allL (fs : List Fr) : List Value := fs.flatMap frL
theorem frL_len {f : Fr} (h : FrOk f) : (frL f).length = 15 := by
  simp [frL, h.lo, h.stk]
def AllOk (fs : List Fr) : Prop := ∀ f ∈ fs, FrOk f
theorem allL_len {fs : List Fr} (h : AllOk fs) : (allL fs).length = fs.length * 15 := by
  induction fs with
  | nil => rfl
  | cons f r ih =>
    have h1 := frL_len (h f (by simp))
    have h2 := ih (fun g hg => h g (by simp [hg]))
    simp only [allL, List.flatMap_cons, List.length_append, List.length_cons] at *
    omega
theorem allL_at {fs : List Fr} (h : AllOk fs) {k j : Nat} {f : Fr} (hk : fs[k]? = some f) (hj : j < 15) : (allL fs)[k * 15 + j]? = (frL f)[j]? := by
  induction fs generalizing k with
  | nil => simp at hk
  | cons a r ih =>
    have h1 := frL_len (h a (by simp))
    have e : allL (a :: r) = frL a ++ allL r := rfl
    cases k with
    | zero =>
      simp only [List.getElem?_cons_zero, Option.some.injEq] at hk
      subst hk
      rw [e, List.getElem?_append_left (by omega)]
      simp
    | succ k =>
      rw [e, List.getElem?_append_right (by omega)]
      rw [show (k + 1) * 15 + j - (frL a).length = k * 15 + j by omega]
      exact ih (fun g hg => h g (by simp [hg])) (by simpa using hk)
/-- Writing v into cell j of frame k, again and again: the row of fifteen that is left. -/
def putL (l : List Value) (o : Nat) : List Value → List Value
  | [] => l
  | v :: r => putL (l.set o v) (o + 1) r
theorem putL_append (a b : List Value) (vs : List Value) (o : Nat) : putL (a ++ b) (a.length + o) vs = a ++ putL b o vs := by
  induction vs generalizing b o with
  | nil => rfl
  | cons v r ih =>
    simp only [putL]
    rw [List.set_append_right _ _ (by omega), show a.length + o - a.length = o by omega, Nat.add_assoc]
    exact ih _ _
theorem putL_head (pre b vs : List Value) (o : Nat) (ho : o = pre.length) (h : vs.length ≤ b.length) : putL (pre ++ b) o vs = pre ++ (vs ++ b.drop vs.length) := by
  induction vs generalizing pre b o with
  | nil => simp [putL]
  | cons v r ih =>
    subst ho
    cases b with
    | nil => simp at h
    | cons c b =>
      simp only [putL]
      rw [List.set_append_right _ _ (by omega)]
      simp only [Nat.sub_self, List.set_cons_zero]
      have e : pre ++ v :: b = (pre ++ [v]) ++ b := by simp
      rw [e, ih (pre ++ [v]) b (pre.length + 1) (by simp) (by simpa using h)]
      simp
theorem allL_put {fs : List Fr} (h : AllOk fs) {k : Nat} (hk : k < fs.length) {f : Fr} (hf : FrOk f) : putL (allL fs) (k * 15) (frL f) = allL (fs.set k f) := by
  induction fs generalizing k with
  | nil => simp at hk
  | cons a r ih =>
    have h1 := frL_len (h a (by simp))
    have h2 := frL_len hf
    have e : allL (a :: r) = frL a ++ allL r := rfl
    cases k with
    | zero =>
      rw [e]
      have := putL_head [] (frL a ++ allL r) (frL f) 0 rfl (by simp; omega)
      simp only [List.nil_append] at this
      rw [show 0 * 15 = 0 from rfl, this, h2, List.drop_append_of_le_length (by omega), List.drop_of_length_le (by omega)]
      rfl
    | succ k =>
      have e2 : (k + 1) * 15 = (frL a).length + k * 15 := by omega
      rw [e, e2, putL_append, ih (fun g hg => h g (by simp [hg])) (by simpa using hk)]
      rfl
theorem AllOk.set {fs : List Fr} (h : AllOk fs) {f : Fr} (hf : FrOk f) (k : Nat) : AllOk (fs.set k f) := by
  intro g hg
  rcases List.mem_or_eq_of_mem_set hg with h1 | h1
  · exact h g h1
  · rw [h1]; exact hf

/-- All frames lie in block b. -/
def AllAt (w : World) (b : Nat) (fs : List Fr) : Prop := w.heap[b]? = some (.cells (allL fs).toArray 48)
theorem AllAt.cell {w : World} {b k j : Nat} {fs : List Fr} {f : Fr} (h : AllAt w b fs) (ha : AllOk fs) (hk : fs[k]? = some f) (hj : j < 15) : w.cell? ⟨b, k * 15 + j, none⟩ = (frL f)[j]? := by
  rw [cell_of_row w b (k * 15 + j) _ _ _ h]
  simp only [List.getElem?_toArray]
  exact allL_at ha hk hj
theorem AllAt.frozen {w : World} {b : Nat} {fs : List Fr} (h : AllAt w b fs) (j : Nat) : w.frozen? ⟨b, j, none⟩ = false := frozen_of_row w b j _ _ h

theorem put15 {w : World} {b : Nat} {t : TypeId} {l : List Value} (o : Nat) (h : w.heap[b]? = some (.cells l.toArray t)) (v0 v1 v2 v3 v4 v5 v6 v7 v8 v9 v10 v11 v12 v13 v14 : Value) :
    (((((((((((((((w.setCell ⟨b, o, none⟩ v0).setCell ⟨b, o + 1, none⟩ v1).setCell ⟨b, o + 2, none⟩ v2).setCell ⟨b, o + 3, none⟩ v3).setCell ⟨b, o + 4, none⟩ v4).setCell ⟨b, o + 5, none⟩ v5).setCell ⟨b, o + 6, none⟩ v6).setCell ⟨b, o + 7, none⟩ v7).setCell ⟨b, o + 8, none⟩ v8).setCell ⟨b, o + 9, none⟩ v9).setCell ⟨b, o + 10, none⟩ v10).setCell ⟨b, o + 11, none⟩ v11).setCell ⟨b, o + 12, none⟩ v12).setCell ⟨b, o + 13, none⟩ v13).setCell ⟨b, o + 14, none⟩ v14).heap[b]? = some (.cells (putL l o [v0, v1, v2, v3, v4, v5, v6, v7, v8, v9, v10, v11, v12, v13, v14]).toArray t) := by
  have := (setCell_row (o + 14) v14 (setCell_row (o + 13) v13 (setCell_row (o + 12) v12 (setCell_row (o + 11) v11 (setCell_row (o + 10) v10 (setCell_row (o + 9) v9 (setCell_row (o + 8) v8 (setCell_row (o + 7) v7 (setCell_row (o + 6) v6 (setCell_row (o + 5) v5 (setCell_row (o + 4) v4 (setCell_row (o + 3) v3 (setCell_row (o + 2) v2 (setCell_row (o + 1) v1 (setCell_row (o) v0 h)))))))))))))))
  simpa [putL, Nat.add_assoc] using this
theorem same15 {w : World} {b c : Nat} (o : Nat) (hc : c ≠ b) (v0 v1 v2 v3 v4 v5 v6 v7 v8 v9 v10 v11 v12 v13 v14 : Value) : (((((((((((((((w.setCell ⟨b, o, none⟩ v0).setCell ⟨b, o + 1, none⟩ v1).setCell ⟨b, o + 2, none⟩ v2).setCell ⟨b, o + 3, none⟩ v3).setCell ⟨b, o + 4, none⟩ v4).setCell ⟨b, o + 5, none⟩ v5).setCell ⟨b, o + 6, none⟩ v6).setCell ⟨b, o + 7, none⟩ v7).setCell ⟨b, o + 8, none⟩ v8).setCell ⟨b, o + 9, none⟩ v9).setCell ⟨b, o + 10, none⟩ v10).setCell ⟨b, o + 11, none⟩ v11).setCell ⟨b, o + 12, none⟩ v12).setCell ⟨b, o + 13, none⟩ v13).setCell ⟨b, o + 14, none⟩ v14).heap[c]? = w.heap[c]? := by
  iterate 15 rw [Below.heap_setCell _ _ _ _ hc]
theorem size15 {w : World} {b : Nat} (o : Nat) (v0 v1 v2 v3 v4 v5 v6 v7 v8 v9 v10 v11 v12 v13 v14 : Value) : (((((((((((((((w.setCell ⟨b, o, none⟩ v0).setCell ⟨b, o + 1, none⟩ v1).setCell ⟨b, o + 2, none⟩ v2).setCell ⟨b, o + 3, none⟩ v3).setCell ⟨b, o + 4, none⟩ v4).setCell ⟨b, o + 5, none⟩ v5).setCell ⟨b, o + 6, none⟩ v6).setCell ⟨b, o + 7, none⟩ v7).setCell ⟨b, o + 8, none⟩ v8).setCell ⟨b, o + 9, none⟩ v9).setCell ⟨b, o + 10, none⟩ v10).setCell ⟨b, o + 11, none⟩ v11).setCell ⟨b, o + 12, none⟩ v12).setCell ⟨b, o + 13, none⟩ v13).setCell ⟨b, o + 14, none⟩ v14).heap.size = w.heap.size := by
  simp [World.setCell]
end Go.Proofs.YteocjidfbbekfaaDoor
