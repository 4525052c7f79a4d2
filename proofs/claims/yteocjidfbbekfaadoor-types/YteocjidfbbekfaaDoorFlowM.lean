/- The contract of the program's reach, whole. -/
import Derived.Test.YteocjidfbbekfaaDoorFlowK
import Derived.Test.YteocjidfbbekfaaDoorFlowL
namespace Go.Proofs.YteocjidfbbekfaaDoor
open Go.RowKit

/-- What a way that leads to instruction k makes of the frames: the frames, have they changed, does the way agree. -/
def reachF (fs : List Fr) (k : Nat) (way : Fr) : List Fr × Bool × Bool :=
  match fs[k]? with
  | none => (fs, false, false)
  | some known =>
    if known.reached = false then (fs.set k { way with reached := true }, true, true)
    else if known.depth ≠ way.depth ∨ known.stk ≠ way.stk then (fs, false, false)
    else if known.lo = List.zipWith joinN known.lo way.lo then (fs, false, true)
    else (fs.set k { way with reached := true, lo := List.zipWith joinN known.lo way.lo }, true, true)
theorem reachF_ok {fs : List Fr} {k : Nat} {way : Fr} (h : AllOk fs) (hw : FrOk way) : AllOk (reachF fs k way).1 := by
  unfold reachF
  cases hk : fs[k]? with
  | none => exact h
  | some known =>
    have hkn := h known (List.mem_of_getElem? hk)
    simp only
    split
    · exact h.set (f := { way with reached := true }) ⟨hw.lo, hw.stk, hw.depth⟩ k
    split
    · exact h
    split
    · exact h
    · exact h.set (f := { way with reached := true, lo := List.zipWith joinN known.lo way.lo }) ⟨by simp [hkn.lo, hw.lo], hw.stk, hw.depth⟩ k
theorem reachF_len (fs : List Fr) (k : Nat) (way : Fr) : (reachF fs k way).1.length = fs.length := by
  unfold reachF
  cases hk : fs[k]? with
  | none => rfl
  | some known =>
    simp only
    split
    · simp
    split
    · rfl
    split
    · rfl
    · simp

theorem reach_any (bw bf cap k : Nat) (fs : List Fr) (way : Fr) (ch : Bool) (lv : Value) (w : World) (hall : AllAt w bf fs) (hok : AllOk fs) (hk : k < fs.length) (hway : FrOk way)
    (hwalk : WalkAt w bw lv bf fs.length cap ch) (hne : bw ≠ bf) :
    Calls Tryd.prog 30 #[.pointer (some ⟨bw, 0, none⟩), .int .i64 k, .agg (frL way).toArray] w fun e w' =>
      e = .returned (.bool (reachF fs k way).2.2) ∧ AllAt w' bf (reachF fs k way).1 ∧ WalkAt w' bw lv bf fs.length cap (ch || (reachF fs k way).2.1) ∧ Two bw bf w w' := by
  obtain ⟨known, hkn⟩ : ∃ f, fs[k]? = some f := ⟨_, List.getElem?_eq_getElem hk⟩
  have hbw : bw < w.heap.size := (Array.getElem?_eq_some_iff.1 hwalk).1
  have hbf : bf < w.heap.size := (Array.getElem?_eq_some_iff.1 hall).1
  have stay : ∀ w', Below w.heap.size w w' → AllAt w' bf fs ∧ WalkAt w' bw lv bf fs.length cap (ch || false) ∧ Two bw bf w w' := fun w' hb =>
    ⟨(hb.block bf hbf).trans hall, by rw [Bool.or_false]; exact (hb.block bw hbw).trans hwalk, .of_below hb⟩
  cases hr : known.reached
  · have e : reachF fs k way = (fs.set k { way with reached := true }, true, true) := by simp [reachF, hkn, hr]
    rw [e]
    refine (reach_new bw bf cap k fs way known ch lv w hall hok hkn hway hwalk hne hr).mono ?_
    rintro x w' ⟨h1, h2, h3, h4⟩
    exact ⟨h1, h2, by rw [Bool.or_true]; exact h3, h4⟩
  by_cases hd : known.depth = way.depth
  · by_cases hst : known.stk = way.stk
    · refine (reach_join bw bf cap k fs way known ch lv w hall hok hkn hway hwalk hr hne hd hst).mono ?_
      rintro x w' ⟨h1, h4, h5⟩
      rcases h5 with ⟨h5, h2, h3⟩ | ⟨h5, h2, h3⟩
      · have e : reachF fs k way = (fs, false, true) := by
          unfold reachF; rw [hkn]; simp only
          rw [if_neg (by simp [hr]), if_neg (by simp [hd, hst]), if_pos h5]
        rw [e]
        exact ⟨h1, h2, by rw [Bool.or_false]; exact h3, h4⟩
      · have e : reachF fs k way = (fs.set k { way with reached := true, lo := List.zipWith joinN known.lo way.lo }, true, true) := by
          unfold reachF; rw [hkn]; simp only
          rw [if_neg (by simp [hr]), if_neg (by simp [hd, hst]), if_neg h5]
        rw [e]
        exact ⟨h1, h2, by rw [Bool.or_true]; exact h3, h4⟩
    · have e : reachF fs k way = (fs, false, false) := by simp [reachF, hkn, hr, hst]
      rw [e]
      refine (reach_stack bw bf cap k fs way known ch lv w hall hok hkn hway hwalk hr hd hst).mono ?_
      rintro x w' ⟨h1, hb⟩
      exact ⟨h1, stay w' hb⟩
  · have e : reachF fs k way = (fs, false, false) := by simp [reachF, hkn, hr, hd]
    rw [e]
    refine (reach_old bw bf cap k fs way known ch lv w hall hok hkn hway hwalk hr hd).mono ?_
    rintro x w' ⟨h1, hb⟩
    exact ⟨h1, stay w' hb⟩
end Go.Proofs.YteocjidfbbekfaaDoor
