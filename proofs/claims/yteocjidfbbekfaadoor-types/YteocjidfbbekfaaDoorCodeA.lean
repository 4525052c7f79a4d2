/- The contracts of the program's shaped, hasOperand, operandFits, indexOf. -/
import Derived.Test.YteocjidfbbekfaaDoorSpecC
import Derived.WalkSpells
import Derived.WalkLawsBesides
import Derived.WalkSmall
namespace Go.Proofs.YteocjidfbbekfaaDoor
open Go.RowKit

set_option maxHeartbeats 400000 in
theorem shaped_any (s : ByteArray) (w : World) (hs : s.size ≤ maxLen) :
    Calls Tryd.prog 26 #[.string s] w fun e w' => e = .returned (.bool (shapedP s)) ∧ w' = w := by
  unfold maxLen at hs
  generalize hS : shapedP s = S
  have HS := hid hS
  clear hS
  have b0 := byteAt_lt s 0
  have b1 := byteAt_lt s 1
  by_cases h3 : s.size < 3
  · have HF : Hid (S = false) := hid (by rw [← HS.out]; simp [shapedP]; omega)
    go_enter Tryd.func26, Tryd.ntmps26
    go_wp2
    go_ret
    exact ⟨ret_bool HF.out.symm, rfl⟩
  by_cases h4 : 122 < s.size
  · have HF : Hid (S = false) := hid (by rw [← HS.out]; simp [shapedP]; omega)
    go_enter Tryd.func26, Tryd.ntmps26
    go_wp2
    go_ret
    exact ⟨ret_bool HF.out.symm, rfl⟩
  have e0 := byteAt_eq s 0 (by omega)
  have e1 := byteAt_eq s 1 (by omega)
  have d1 : decide ((s.size : Int) ≤ 2) = false := by simp; omega
  have d2 : decide (122 < (s.size : Int)) = false := by simp; omega
  by_cases h5 : byteAt s 0 = 84
  · have h5' : (((byteAt s 0 : Nat) : Int) == 84) = true := by simp; omega
    have HF : Hid (S = decide ((byteAt s 1 : Int) ≤ 4)) := hid (by
      rw [← HS.out, Bool.eq_iff_iff]; simp [shapedP, h5]; omega)
    clear h5
    go_enter Tryd.func26, Tryd.ntmps26
    go_wp2
    go_ret
    exact ⟨ret_bool HF.out.symm, rfl⟩
  · have h5' : (((byteAt s 0 : Nat) : Int) == 84) = false := by simp; omega
    have HF : Hid (S = false) := hid (by rw [← HS.out]; simp [shapedP, h5])
    clear h5
    go_enter Tryd.func26, Tryd.ntmps26
    go_wp2
    go_ret
    exact ⟨ret_bool HF.out.symm, rfl⟩

set_option maxHeartbeats 400000 in
theorem hasOperand_any (k : Nat) (w : World) :
    Calls Tryd.prog 32 #[.int .i64 k] w fun e w' => e = .returned (.bool (takesB k)) ∧ w' = w := by
  generalize hS : takesB k = S
  have HS := hid hS
  clear hS
  go_enter Tryd.func32, Tryd.ntmps32
  go_wp2
  all_goals go_ret
  all_goals simp only [beq_iff_eq, beq_eq_false_iff_ne, ne_eq] at *
  all_goals exact ⟨ret_bool (by rw [← HS.out]; simp [takesB]; omega), by first | rfl | trivial⟩

set_option maxHeartbeats 400000 in
theorem operandFits_any (pl tg x : Int) (op n locals : Nat) (w : World) (hx : x = (n : Int)) :
    Calls Tryd.prog 33 #[.agg #[.int .i64 pl, .int .i64 op, .int .i64 x, .int .i64 tg], .int .i64 locals] w fun e w' => e = .returned (.bool (!badN op n locals)) ∧ Below w.heap.size w w' := by
  subst hx
  generalize hS : badN op n locals = S
  have HS := hid hS
  clear hS
  by_cases h1 : op = 7 ∨ op = 8
  · have HF : Hid ((!S) = decide (n < locals)) := hid (by
      rw [← HS.out, Bool.eq_iff_iff]; simp [badN]; omega)
    go_enter Tryd.func33, Tryd.ntmps33
    go_wp2
    all_goals go_ret
    all_goals exact ⟨ret_bool (by rw [HF.out]), (Below.refl _ _).alloc (Nat.le_refl _) _⟩
  by_cases h2 : op = 14 ∨ op = 15
  · have HF : Hid ((!S) = decide ((n : Int) ≤ 1)) := hid (by
      rw [← HS.out, Bool.eq_iff_iff]; simp [badN]; omega)
    go_enter Tryd.func33, Tryd.ntmps33
    go_wp2
    all_goals go_ret
    all_goals exact ⟨ret_bool (by rw [HF.out]), (Below.refl _ _).alloc (Nat.le_refl _) _⟩
  · have HF : Hid ((!S) = true) := hid (by rw [← HS.out]; simp [badN]; omega)
    go_enter Tryd.func33, Tryd.ntmps33
    go_wp2
    all_goals go_ret
    all_goals exact ⟨ret_bool (by rw [HF.out]), (Below.refl _ _).alloc (Nat.le_refl _) _⟩
end Go.Proofs.YteocjidfbbekfaaDoor
