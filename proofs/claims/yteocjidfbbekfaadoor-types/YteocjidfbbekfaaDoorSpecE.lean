/- What an image's error is, in full; an image without an error ahead of its types has good instructions. Nothing of a program stands here. -/
import Derived.Test.YteocjidfbbekfaaDoorSpecD
namespace Go.Proofs.YteocjidfbbekfaaDoor
open Go.RowKit

theorem errOf_zero {s : ByteArray} (h : errOf s = 0) : shapedP s = true ∧ dec (textOf s) (byteAt s 1) 0 = some (codeOf s) ∧ jumpsOk (codeOf s) = true ∧ endsOk (codeOf s) = true := by
  unfold errOf at h
  cases hs : shapedP s
  · rw [hs] at h; simp at h
  · rw [hs] at h
    simp only [Bool.true_eq_false, if_false] at h
    cases hd : dec (textOf s) (byteAt s 1) 0 with
    | none => rw [hd] at h; simp at h
    | some l =>
      rw [hd] at h
      simp only at h
      have hc : codeOf s = l := by unfold codeOf; rw [hd]; rfl
      rw [hc]
      cases hj : jumpsOk l
      · rw [hj] at h; simp at h
      · cases he : endsOk l
        · rw [hj, he] at h; simp at h
        · exact ⟨rfl, rfl, rfl, rfl⟩

theorem wf_of {s : ByteArray} (h : errOf s = 0) : Wf (codeOf s) (byteAt s 1) := by
  obtain ⟨hs, hd, hj, he⟩ := errOf_zero h
  obtain ⟨⟨⟨h3, h4⟩, _⟩, h1⟩ : ((3 ≤ s.size ∧ s.size ≤ 122) ∧ byteAt s 0 = 84) ∧ byteAt s 1 ≤ 4 := by simpa [shapedP] using hs
  have hsz : (textOf s).size = s.size - 2 := by simp [textOf]
  obtain ⟨hg, hl⟩ := dec_good hd
  refine ⟨?_, by omega, h1, fun i hi => ?_, fun i hi => (hg i hi).2.1, fun i hi h => ?_, fun i hi h => ?_, he⟩
  · rcases Nat.eq_zero_or_pos (codeOf s).length with h | h
    · exfalso
      rw [List.length_eq_zero_iff.1 h] at he
      simp [endsOk, lastOp] at he
    · exact h
  · have := (hg i hi).1; omega
  · have := (hg i hi).2.2.2
    simp only [badN, Bool.or_eq_false_iff, Bool.and_eq_false_iff, decide_eq_false_iff_not, beq_eq_false_iff_ne] at this
    rcases this.1 with ⟨a, b⟩ | a
    · rcases h with h | h
      · exact absurd h a
      · exact absurd h b
    · omega
  · unfold jumpsOk at hj
    rw [List.all_eq_true] at hj
    have := hj i hi
    simp only [h, Bool.not_true, Bool.false_or, decide_eq_true_eq] at this
    exact this

/-- r is the error of the image. -/
def IsErr (s : ByteArray) (r : Nat) : Prop := (errOf s ≠ 0 ∧ r = errOf s) ∨ (errOf s = 0 ∧ WT (codeOf s) (byteAt s 1) ∧ r = 0) ∨ (errOf s = 0 ∧ ¬ WT (codeOf s) (byteAt s 1) ∧ r = 5)
theorem IsErr.unique {s : ByteArray} {r r' : Nat} (h : IsErr s r) (h' : IsErr s r') : r = r' := by
  rcases h with ⟨a, b⟩ | ⟨a, b, c⟩ | ⟨a, b, c⟩ <;> rcases h' with ⟨a', b'⟩ | ⟨a', b', c'⟩ | ⟨a', b', c'⟩
  · omega
  · exact absurd a' a
  · exact absurd a' a
  · exact absurd a a'
  · omega
  · exact absurd b b'
  · exact absurd a a'
  · exact absurd b' b
  · omega
end Go.Proofs.YteocjidfbbekfaaDoor
