/- The plain mathematics of points: a list of points, one more joined to it. Nothing of a program stands here. -/
import Derived.Test.YteocjidfbbekfaaDoorSpecB
namespace Go.Proofs.YteocjidfbbekfaaDoor
open Go.RowKit

/-- A point: an instruction that a way leads to, with the types there. -/
structure Pt where
  at_ : Nat
  lo : ByteArray
  st : ByteArray

def ptCells (l : List Pt) : List Value := l.flatMap fun i => [.int .i64 i.at_, .string i.lo, .string i.st]
theorem ptCells_len (l : List Pt) : (ptCells l).length = l.length * 3 := by
  induction l with
  | nil => rfl
  | cons a r ih => simp only [ptCells, List.flatMap_cons, List.length_append, List.length_cons, List.length_nil] at *; omega
theorem ptCells_snoc (l : List Pt) (i : Pt) : ptCells (l ++ [i]) = ptCells l ++ [.int .i64 i.at_, .string i.lo, .string i.st] := by simp [ptCells]
theorem ptCells_at (l : List Pt) (k : Nat) (h : k < l.length) : (ptCells l)[k * 3]? = some (.int .i64 l[k].at_) ∧ (ptCells l)[k * 3 + 1]? = some (.string l[k].lo) ∧ (ptCells l)[k * 3 + 2]? = some (.string l[k].st) := by
  induction l generalizing k with
  | nil => simp at h
  | cons a r ih =>
    cases k with
    | zero => simp [ptCells]
    | succ k =>
      have := ih k (by simpa using h)
      have e0 : (k + 1) * 3 = k * 3 + 3 := by omega
      have e1 : (k + 1) * 3 + 1 = k * 3 + 1 + 3 := by omega
      have e2 : (k + 1) * 3 + 2 = k * 3 + 2 + 3 := by omega
      have hc : ∀ j, (ptCells (a :: r))[j + 3]? = (ptCells r)[j]? := fun j => by simp [ptCells]
      rw [e2, e1, e0, hc, hc, hc]
      simpa using this

/-- The cells of a list of points lie at block g. -/
def PtAt (w : World) (g : Nat) (l : List Pt) : Prop :=
  ∀ (i : Nat) (h : i < l.length), w.cell? ⟨g, i * 3, none⟩ = some (.int .i64 l[i].at_) ∧ w.cell? ⟨g, i * 3 + 1, none⟩ = some (.string l[i].lo) ∧ w.cell? ⟨g, i * 3 + 2, none⟩ = some (.string l[i].st)
theorem PtAt.below {w w' : World} {g B : Nat} {l : List Pt} (h : PtAt w g l) (hb : Below B w w') (hg : g < B) : PtAt w' g l := by
  intro i hi
  obtain ⟨h0, h1, h2⟩ := h i hi
  exact ⟨(hb.cell (p := ⟨g, i * 3, none⟩) hg).trans h0, (hb.cell (p := ⟨g, i * 3 + 1, none⟩) hg).trans h1, (hb.cell (p := ⟨g, i * 3 + 2, none⟩) hg).trans h2⟩
theorem PtAt.of_owns {w : World} {base e g n cap : Nat} {l : List Pt} (h : w.ownsRow base e 3 (.slice (some ⟨g, 0, none⟩) n cap) l.length (ptCells l)) : PtAt w g l := by
  intro i hi
  have hc := h.cells (g := g) rfl
  obtain ⟨a0, a1, a2⟩ := ptCells_at l i hi
  have h0 := hc _ _ a0
  have h1 := hc _ _ a1
  have h2 := hc _ _ a2
  rw [addr_add] at h0 h1 h2
  exact ⟨h0, h1, h2⟩

/-- Two points that do not go together, where instruction i is. -/
def clashB (i : Ins) (p q : Pt) : Bool := q.at_ == p.at_ && (!decide (q.st = p.st) || i.op == 7 && !(byteAt q.lo i.n == byteAt p.lo i.n))
def knownB (p q : Pt) : Bool := q.at_ == p.at_ && decide (q.lo = p.lo)
/-- A point more, if it is new; false: it does not go together with those that are known. -/
def joinedP (i : Ins) (all : List Pt) (p : Pt) : List Pt × Bool :=
  if all.any (clashB i p) = true then (all, false) else if all.any (knownB p) = true then (all, true) else (all ++ [p], true)
theorem joinedP_clash {i : Ins} {all : List Pt} {p : Pt} {k : Nat} (hk : k < all.length) (h : clashB i p all[k] = true) : joinedP i all p = (all, false) := by
  unfold joinedP
  rw [if_pos]
  rw [List.any_eq_true]
  exact ⟨all[k], List.getElem_mem hk, h⟩
theorem any_take_succ {α : Type} (f : α → Bool) (l : List α) (k : Nat) (h : k < l.length) : (l.take (k + 1)).any f = ((l.take k).any f || f l[k]) := by
  rw [List.take_succ_eq_append_getElem h, List.any_append]
  simp

/-- All blocks but g are as they were. -/
def Keeps (g : Nat) (w w' : World) : Prop := ∀ b, b < w.heap.size → b ≠ g → w'.heap[b]? = w.heap[b]?
theorem Keeps.of_below {g : Nat} {w w' : World} (h : Below w.heap.size w w') : Keeps g w w' := fun b hb _ => h.block b hb
theorem Keeps.cell {g : Nat} {w w' : World} (h : Keeps g w w') {b o : Nat} (hb : b < w.heap.size) (hg : b ≠ g) : w'.cell? ⟨b, o, none⟩ = w.cell? ⟨b, o, none⟩ := World.cell?_of_block (a := ⟨b, o, none⟩) (h b hb hg)
def JoinPost (i : Ins) (all : List Pt) (p : Pt) (base g : Nat) (w : World) (e : Ending) (w' : World) : Prop :=
  Below base w w' ∧ Keeps g w w' ∧ ∃ v, e = .returned (.tuple #[v, .bool (joinedP i all p).2]) ∧ (∀ g', v.ownBlock = some g' → g' = g ∨ w.heap.size ≤ g') ∧ w'.ownsRow base 67 3 v (joinedP i all p).1.length (ptCells (joinedP i all p).1)
theorem joinPost_mk {i : Ins} {all all' : List Pt} {p : Pt} {b : Bool} {base g : Nat} {w w' : World} {v : Value} (hb : Below base w w') (hk : Keeps g w w') (hv : ∀ g', v.ownBlock = some g' → g' = g ∨ w.heap.size ≤ g') (h : joinedP i all p = (all', b)) {n : Nat} {xs : List Value} (hn : n = all'.length) (hx : xs = ptCells all') (ho : w'.ownsRow base 67 3 v n xs) :
    JoinPost i all p base g w (.returned (.tuple #[v, .bool b])) w' := by
  subst hn; subst hx
  unfold JoinPost; rw [h]; exact ⟨hb, hk, v, rfl, hv, ho⟩

/-- What is owned stays owned where nothing below B turns. -/
theorem owns_below {w w' : World} {B base e size n : Nat} {v : Value} {xs : List Value} (h : w.ownsRow base e size v n xs) (hb : Below B w w') (hlt : ∀ g, v.ownBlock = some g → g < B) : w'.ownsRow base e size v n xs := by
  refine ⟨h.1, ?_⟩
  rcases h.2 with h2 | ⟨g, cap, cur, hv, hg, hh, r⟩
  · exact .inl h2
  · refine .inr ⟨g, cap, cur, hv, hg, ?_, r⟩
    rw [hb.block g (hlt g (by rw [hv]; rfl))]
    exact hh
end Go.Proofs.YteocjidfbbekfaaDoor
