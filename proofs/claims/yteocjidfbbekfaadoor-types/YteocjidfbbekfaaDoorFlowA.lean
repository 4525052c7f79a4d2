/- The contracts of the program's pop and push. -/
import Derived.Test.YteocjidfbbekfaaDoorSpecH
import Derived.WalkSpells
import Derived.WalkLawsBesides
import Derived.WalkSmall
import Derived.BigRegion
import Derived.Deep.QuietTactic
import Derived.BigQuiet
namespace Go.Proofs.YteocjidfbbekfaaDoor
open Go.RowKit

set_option maxHeartbeats 400000 in
theorem pop_ok (b : Nat) (cs : Array Value) (e k : Nat) (w : World) (hr : RowAt w b cs) (h5 : cs[5]? = some (.int .i64 ((e + 1 : Nat) : Int))) (he : e < 8) (hk : cs[6 + e]? = some (.int .i64 k)) :
    Calls Tryd.prog 40 #[.pointer (some ⟨b, 0, none⟩)] w fun x w' => x = .returned (.int .i64 k) ∧ RowAt w' b ((cs.setIfInBounds 5 (.int .i64 e)).setIfInBounds (6 + e) (.int .i64 0)) ∧ Only b w w' := by
  have c5 := (hr.cell 5).trans h5
  have c6 := (hr.cell (6 + e)).trans hk
  have f5 := hr.frozen 5
  have f6 := hr.frozen (6 + e)
  have hcs : 6 + e < cs.size := (Array.getElem?_eq_some_iff.1 hk).1
  have r1 := hr.set 5 (.int .i64 e)
  have d5 := r1.cell 5
  have d6 := r1.cell (6 + e)
  have g6 := r1.frozen (6 + e)
  rw [Array.getElem?_setIfInBounds_self_of_lt (by omega)] at d5
  rw [Array.getElem?_setIfInBounds_ne (by omega), hk] at d6
  have R1 := hid r1
  have i0 : (0 : Int) ≤ (e : Int) := by omega
  have i1 : (e : Int) < 8 := by omega
  have HH5 := hid h5
  have HHK := hid hk
  clear r1 h5 hk
  go_enter Tryd.func40, Tryd.ntmps40
  go_wp2
  go_quiet (fail)
  go_wp2
  go_region
  all_goals go_wp2
  go_ret
  exact ⟨rfl, (R1.out.drewN _).set _ _, (((Only.refl _ _).set _ _).drewN _).set _ _⟩

set_option maxHeartbeats 400000 in
theorem pop_bad (b : Nat) (cs : Array Value) (u : Bool) (w : World) (hr : RowAt w b cs) (h5 : cs[5]? = some (.int .i64 0)) (h14 : cs[14]? = some (.bool u)) :
    Calls Tryd.prog 40 #[.pointer (some ⟨b, 0, none⟩)] w fun x w' => x = .returned (.int .i64 0) ∧ RowAt w' b (cs.setIfInBounds 14 (.bool true)) ∧ Only b w w' := by
  have c5 := (hr.cell 5).trans h5
  have c14 := (hr.cell 14).trans h14
  have f14 := hr.frozen 14
  go_enter Tryd.func40, Tryd.ntmps40
  go_wp2
  go_ret
  exact ⟨rfl, hr.set _ _, (Only.refl _ _).set _ _⟩

set_option maxHeartbeats 400000 in
theorem push_ok (b : Nat) (cs : Array Value) (d k : Nat) (v : Value) (w : World) (hr : RowAt w b cs) (h5 : cs[5]? = some (.int .i64 (d : Nat))) (hd : d < 8) (hk : cs[6 + d]? = some v) :
    Calls Tryd.prog 41 #[.pointer (some ⟨b, 0, none⟩), .int .i64 k] w fun x w' => x = .returned (.tuple #[]) ∧ RowAt w' b ((cs.setIfInBounds (6 + d) (.int .i64 k)).setIfInBounds 5 (.int .i64 ((d : Int) + 1))) ∧ Only b w w' := by
  have c5 := (hr.cell 5).trans h5
  have c6 := (hr.cell (6 + d)).trans hk
  have f5 := hr.frozen 5
  have f6 := hr.frozen (6 + d)
  have hcs : 6 + d < cs.size := (Array.getElem?_eq_some_iff.1 hk).1
  have r1 := hr.set (6 + d) (.int .i64 k)
  have d5 := r1.cell 5
  have g5 := r1.frozen 5
  rw [Array.getElem?_setIfInBounds_ne (by omega), h5] at d5
  have R1 := hid r1
  have i0 : (0 : Int) ≤ (d : Int) := by omega
  have i1 : (d : Int) < 8 := by omega
  clear r1 h5 hk
  go_enter Tryd.func41, Tryd.ntmps41
  go_wp2
  go_region
  all_goals go_wp2
  go_end0
  exact ⟨rfl, (show RowAt _ b _ from R1.out).set _ _, ((Only.refl _ _).set _ _).drew.set _ _⟩

set_option maxHeartbeats 400000 in
theorem push_full (b : Nat) (cs : Array Value) (u : Bool) (k : Nat) (w : World) (hr : RowAt w b cs) (h5 : cs[5]? = some (.int .i64 8)) (h14 : cs[14]? = some (.bool u)) :
    Calls Tryd.prog 41 #[.pointer (some ⟨b, 0, none⟩), .int .i64 k] w fun x w' => x = .returned (.tuple #[]) ∧ RowAt w' b (cs.setIfInBounds 14 (.bool true)) ∧ Only b w w' := by
  have c5 := (hr.cell 5).trans h5
  have c14 := (hr.cell 14).trans h14
  have f14 := hr.frozen 14
  go_enter Tryd.func41, Tryd.ntmps41
  go_wp2
  exact bodyPost_ret (v := .tuple #[]) (by simp [results, Tryd.results41, go_sem]) rfl ⟨rfl, hr.set _ _, (Only.refl _ _).set _ _⟩
end Go.Proofs.YteocjidfbbekfaaDoor
