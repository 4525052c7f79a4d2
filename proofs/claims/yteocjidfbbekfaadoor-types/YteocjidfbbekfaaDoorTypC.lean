/- A list of what is told of each instruction, in memory. -/
import Derived.Test.YteocjidfbbekfaaDoorTypB
namespace Go.Proofs.YteocjidfbbekfaaDoor
open Go.RowKit

/-- The cells of a list of points, their own lists in blocks of which P holds. -/
def PtsIn (w : World) (P : Nat → Prop) : List Value → List MP → Prop
  | [], [] => True
  | a :: b :: c :: d :: r, m :: ms => a = .int .i64 m.place ∧ b = .bool m.reached ∧ IntsAt w P c m.lo ∧ IntsAt w P d m.st ∧ PtsIn w P r ms
  | _, _ => False
theorem PtsIn.keep {w w' : World} {P P' : Nat → Prop} (hP : ∀ g, P g → P' g ∧ w'.heap[g]? = w.heap[g]?) : ∀ (cs : List Value) (ms : List MP), PtsIn w P cs ms → PtsIn w' P' cs ms
  | [], [], _ => trivial
  | _ :: _ :: _ :: _ :: r, _ :: ms, ⟨h1, h2, h3, h4, h5⟩ => ⟨h1, h2, h3.keep hP, h4.keep hP, PtsIn.keep hP r ms h5⟩
  | [], _ :: _, h => h.elim
  | [_], [], h => h.elim
  | [_], _ :: _, h => h.elim
  | [_, _], [], h => h.elim
  | [_, _], _ :: _, h => h.elim
  | [_, _, _], [], h => h.elim
  | [_, _, _], _ :: _, h => h.elim
  | _ :: _ :: _ :: _ :: _, [], h => h.elim
theorem PtsIn.snoc {w : World} {P : Nat → Prop} {m : MP} {v1 v2 : Value} (h1 : IntsAt w P v1 m.lo) (h2 : IntsAt w P v2 m.st) : ∀ (cs : List Value) (ms : List MP), PtsIn w P cs ms → PtsIn w P (cs ++ [.int .i64 m.place, .bool m.reached, v1, v2]) (ms ++ [m])
  | [], [], _ => ⟨rfl, rfl, h1, h2, trivial⟩
  | _ :: _ :: _ :: _ :: r, _ :: ms, ⟨a1, a2, a3, a4, a5⟩ => ⟨a1, a2, a3, a4, PtsIn.snoc h1 h2 r ms a5⟩
  | [], _ :: _, h => h.elim
  | [_], [], h => h.elim
  | [_], _ :: _, h => h.elim
  | [_, _], [], h => h.elim
  | [_, _], _ :: _, h => h.elim
  | [_, _, _], [], h => h.elim
  | [_, _, _], _ :: _, h => h.elim
  | _ :: _ :: _ :: _ :: _, [], h => h.elim
theorem PtsIn.at {w : World} {P : Nat → Prop} : ∀ (cs : List Value) (ms : List MP), PtsIn w P cs ms → ∀ (k : Nat) (m : MP), ms[k]? = some m →
    cs[k * 4]? = some (.int .i64 m.place) ∧ cs[k * 4 + 1]? = some (.bool m.reached) ∧ ∃ v1 v2, cs[k * 4 + 2]? = some v1 ∧ cs[k * 4 + 3]? = some v2 ∧ IntsAt w P v1 m.lo ∧ IntsAt w P v2 m.st
  | [], [], _, k, m, h => by simp at h
  | a :: b :: c :: d :: r, m0 :: ms, ⟨a1, a2, a3, a4, a5⟩, k, m, h => by
    cases k with
    | zero =>
      simp only [List.getElem?_cons_zero, Option.some.injEq] at h
      subst h
      exact ⟨by rw [a1]; rfl, by rw [a2]; rfl, c, d, rfl, rfl, a3, a4⟩
    | succ k =>
      have := PtsIn.at r ms a5 k m (by simpa using h)
      have hc : ∀ j, (a :: b :: c :: d :: r)[j + 4]? = r[j]? := fun j => by simp
      rw [show (k + 1) * 4 = k * 4 + 4 by omega, show k * 4 + 4 + 1 = k * 4 + 1 + 4 by omega, show k * 4 + 4 + 2 = k * 4 + 2 + 4 by omega, show k * 4 + 4 + 3 = k * 4 + 3 + 4 by omega, hc, hc, hc, hc]
      exact this
  | [], _ :: _, h, _, _, _ => h.elim
  | [_], [], h, _, _, _ => h.elim
  | [_], _ :: _, h, _, _, _ => h.elim
  | [_, _], [], h, _, _, _ => h.elim
  | [_, _], _ :: _, h, _, _, _ => h.elim
  | [_, _, _], [], h, _, _, _ => h.elim
  | [_, _, _], _ :: _, h, _, _, _ => h.elim
  | _ :: _ :: _ :: _ :: _, [], h, _, _, _ => h.elim

/-- v is a list of points, all of it in blocks of its own from base on. -/
def OwnPts (w : World) (base : Nat) (v : Value) (ms : List MP) : Prop :=
  ∃ cs, w.ownsRow base 51 4 v ms.length cs ∧ PtsIn w (fun g => base ≤ g ∧ g < w.heap.size ∧ v.ownBlock ≠ some g) cs ms
theorem OwnPts.nil (w : World) (base : Nat) : OwnPts w base (.slice none 0 0) [] := ⟨[], World.ownsRow_nil _ _ _ _, trivial⟩
theorem OwnPts.below {w w' : World} {B base : Nat} {v : Value} {ms : List MP} (h : OwnPts w base v ms) (hb : Below B w w') (hB : w.heap.size ≤ B) : OwnPts w' base v ms := by
  obtain ⟨cs, h1, h2⟩ := h
  have hz := hb.size
  exact ⟨cs, owns_below h1 hb (fun g hg => by have := (h1.lt g hg).2; omega), PtsIn.keep (fun g hg => ⟨⟨hg.1, by omega, hg.2.2⟩, hb.block g (by omega)⟩) _ _ h2⟩
theorem pointInfo : (Tryd.prog.info? 51).map (fun i => (i.zero, i.size, i.bytes)) = some (some (.agg #[.int .i64 0, .bool false, .slice none 0 0, .slice none 0 0]), 4, 64) := by kernel_rfl
/-- One point more, by an append. -/
theorem OwnPts.push {w w' : World} {base gg cap n : Nat} {v v1 v2 : Value} {ms : List MP} {m : MP} {cs : List Value} (hn : n = ms.length) (hp : PtsIn w (fun g => base ≤ g ∧ g < w.heap.size ∧ v.ownBlock ≠ some g) cs ms)
    (h1 : IntsAt w (fun g => base ≤ g ∧ g < w.heap.size ∧ v.ownBlock ≠ some g) v1 m.lo) (h2 : IntsAt w (fun g => base ≤ g ∧ g < w.heap.size ∧ v.ownBlock ≠ some g) v2 m.st)
    (hown : w'.ownsRow base 51 4 (.slice (some ⟨gg, 0, none⟩) (n + 1) cap) (n + 1) (cs ++ [.int .i64 m.place, .bool m.reached, v1, v2])) (hgrow : w.grownBy w' v.ownBlock) (hat : v.ownBlock = some gg ∨ gg = w.heap.size) :
    OwnPts w' base (.slice (some ⟨gg, 0, none⟩) (ms ++ [m]).length cap) (ms ++ [m]) := by
  subst hn
  refine ⟨_, by rw [List.length_append]; exact hown, ?_⟩
  refine PtsIn.keep (fun g hg => ?_) _ _ (PtsIn.snoc h1 h2 _ _ hp)
  refine ⟨⟨hg.1, Nat.lt_of_lt_of_le hg.2.1 hgrow.size, ?_⟩, hgrow.block g hg.2.1 (fun e => hg.2.2 e.symm)⟩
  intro e
  simp only [Value.ownBlock, Option.some.injEq] at e
  rcases hat with h | h
  · exact hg.2.2 (h.trans (by rw [e]))
  · omega
end Go.Proofs.YteocjidfbbekfaaDoor
