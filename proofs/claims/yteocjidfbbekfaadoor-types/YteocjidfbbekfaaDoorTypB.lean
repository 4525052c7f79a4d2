/- Lists of numbers in memory; the contract of the program's point. -/
import Derived.Test.YteocjidfbbekfaaDoorTypA
import Derived.Test.YteocjidfbbekfaaDoorFlowD
namespace Go.Proofs.YteocjidfbbekfaaDoor
open Go.RowKit

/-- What is told of an instruction. -/
structure MP where
  place : Nat
  reached : Bool
  lo : List Nat
  st : List Nat
/-- v is a list of these numbers, in a block of which P holds. -/
def IntsAt (w : World) (P : Nat → Prop) (v : Value) (l : List Nat) : Prop :=
  (v = .slice none 0 0 ∧ l = []) ∨ ∃ g cap, v = .slice (some ⟨g, 0, none⟩) l.length cap ∧ P g ∧ ∀ (j n : Nat), l[j]? = some n → w.cell? ⟨g, j, none⟩ = some (numV n)
theorem IntsAt.nil (w : World) (P : Nat → Prop) : IntsAt w P (.slice none 0 0) [] := .inl ⟨rfl, rfl⟩
theorem IntsAt.slice {w : World} {P : Nat → Prop} {v : Value} {l : List Nat} (h : IntsAt w P v l) : ∃ p cap, v = .slice p l.length cap := by
  rcases h with ⟨h1, h2⟩ | ⟨g, cap, hv, _⟩
  · exact ⟨none, 0, by rw [h1, h2]; rfl⟩
  · exact ⟨_, cap, hv⟩
theorem IntsAt.keep {w w' : World} {P P' : Nat → Prop} {v : Value} {l : List Nat} (h : IntsAt w P v l) (hP : ∀ g, P g → P' g ∧ w'.heap[g]? = w.heap[g]?) : IntsAt w' P' v l := by
  rcases h with h | ⟨g, cap, hv, hg, hc⟩
  · exact .inl h
  · exact .inr ⟨g, cap, hv, (hP g hg).1, fun j n hj => (World.cell?_of_block (a := ⟨g, j, none⟩) (hP g hg).2).trans (hc j n hj)⟩
theorem IntsAt.of_owns {w : World} {base : Nat} {v : Value} {l : List Nat} (h : w.ownsRow base 3 1 v l.length (l.map numV)) : IntsAt w (fun g => base ≤ g ∧ g < w.heap.size) v l := by
  have hh := h
  rcases h.2 with ⟨h1, h2⟩ | ⟨g, cap, cur, hv, hg, r⟩
  · exact .inl ⟨h1, List.length_eq_zero_iff.1 h2⟩
  · subst hv
    refine .inr ⟨g, cap, rfl, ⟨hg, (Array.getElem?_eq_some_iff.1 r.1).1⟩, fun j n hj => ?_⟩
    have := hh.cells (g := g) rfl j (numV n) (by rw [List.getElem?_map, hj]; rfl)
    rw [addr_add] at this
    simpa using this
theorem heap_two_first (w : World) (a b : Obj) : ((w.alloc a).alloc b).heap[w.heap.size]? = some a := by
  rw [Below.heap_alloc _ _ _ (by simp), heap_alloc_new]
theorem owns_slice {w : World} {base e size n : Nat} {v : Value} {xs : List Value} (h : w.ownsRow base e size v n xs) : ∃ p cap, v = .slice p n cap := by
  rcases h.2 with ⟨h1, h2⟩ | ⟨g, cap, cur, hv, _⟩
  · exact ⟨none, 0, by rw [h1, h2]⟩
  · exact ⟨_, cap, hv⟩
def ptF (place : Nat) (f : Fr) (L : Nat) : MP := if f.reached = true then ⟨place, true, f.lo.take L, f.stk.take f.depth⟩ else ⟨place, false, [], []⟩
def PointPost (m : MP) (w : World) (e : Ending) (w' : World) : Prop :=
  Below w.heap.size w w' ∧ ∃ v1 v2, e = .returned (.agg #[.int .i64 m.place, .bool m.reached, v1, v2]) ∧ IntsAt w' (fun g => w.heap.size ≤ g ∧ g < w'.heap.size) v1 m.lo ∧ IntsAt w' (fun g => w.heap.size ≤ g ∧ g < w'.heap.size) v2 m.st

set_option maxRecDepth 100000 in
set_option maxHeartbeats 1000000 in
theorem point_any (place L : Nat) (f : Fr) (w : World) (hf : FrOk f) (hL : L ≤ 4) :
    Calls Tryd.prog 14 #[.int .i64 place, .agg (frL f).toArray, .int .i64 L] w (PointPost (ptF place f L) w) := by
  have hlt := hid (fun W => localTypes_any f L W hf hL)
  have hsk := hid (fun W => stackTypes_any f W hf)
  obtain ⟨r, lo, d, st, wr⟩ := f
  obtain ⟨h1, h2, h3⟩ := hf
  simp only at h1 h2
  obtain ⟨a, b, c, e, rfl⟩ := four h1
  obtain ⟨s0, s1, s2, s3, s4, s5, s6, s7, rfl⟩ := eight h2
  simp only [frL, List.map_cons, List.map_nil, List.cons_append, List.nil_append, numV] at hlt hsk ⊢
  cases r
  · have HF : Hid (ptF place ⟨false, [a, b, c, e], d, [s0, s1, s2, s3, s4, s5, s6, s7], wr⟩ L = ⟨place, false, [], []⟩) := hid rfl
    clear hlt hsk
    go_enter Tryd.func14, Tryd.ntmps14
    go_wp2_with fail
    exact bodyPost_ret (v := .agg #[.int .i64 place, .bool false, .slice none 0 0, .slice none 0 0]) (by simp [results, Tryd.results14, go_sem]) rfl ⟨((Below.refl _ _).alloc (Nat.le_refl _) _).alloc (by simp) _, _, _, by rw [HF.out], by rw [HF.out]; exact .nil _ _, by rw [HF.out]; exact .nil _ _⟩
  · have HF : Hid (ptF place ⟨true, [a, b, c, e], d, [s0, s1, s2, s3, s4, s5, s6, s7], wr⟩ L = ⟨place, true, [a, b, c, e].take L, [s0, s1, s2, s3, s4, s5, s6, s7].take d⟩) := hid rfl
    generalize [a, b, c, e].take L = l1 at *
    generalize [s0, s1, s2, s3, s4, s5, s6, s7].take d = l2 at *
    generalize ptF place ⟨true, [a, b, c, e], d, [s0, s1, s2, s3, s4, s5, s6, s7], wr⟩ L = M at *
    go_enter Tryd.func14, Tryd.ntmps14
    go_wp2_with fail
    refine (hlt.out _).mono ?_
    clear hlt
    intro x w2 hp
    obtain ⟨hb2, v1, hx, ho1⟩ := hp
    obtain ⟨p1, c1, hv1⟩ := owns_slice ho1
    subst x
    subst hv1
    have hrow : w2.heap[w.heap.size]? = some (.cells #[.bool true, .int .i64 a, .int .i64 b, .int .i64 c, .int .i64 e, .int .i64 d, .int .i64 s0, .int .i64 s1, .int .i64 s2, .int .i64 s3, .int .i64 s4, .int .i64 s5, .int .i64 s6, .int .i64 s7, .bool wr] 48) := by
      rw [hb2.block _ (by simp; omega)]; exact heap_two_first w _ _
    have m0 := cell_of_row w2 w.heap.size 0 _ _ _ hrow
    have m1 := cell_of_row w2 w.heap.size 1 _ _ _ hrow
    have m2 := cell_of_row w2 w.heap.size 2 _ _ _ hrow
    have m3 := cell_of_row w2 w.heap.size 3 _ _ _ hrow
    have m4 := cell_of_row w2 w.heap.size 4 _ _ _ hrow
    have m5 := cell_of_row w2 w.heap.size 5 _ _ _ hrow
    have m6 := cell_of_row w2 w.heap.size 6 _ _ _ hrow
    have m7 := cell_of_row w2 w.heap.size 7 _ _ _ hrow
    have m8 := cell_of_row w2 w.heap.size 8 _ _ _ hrow
    have m9 := cell_of_row w2 w.heap.size 9 _ _ _ hrow
    have m10 := cell_of_row w2 w.heap.size 10 _ _ _ hrow
    have m11 := cell_of_row w2 w.heap.size 11 _ _ _ hrow
    have m12 := cell_of_row w2 w.heap.size 12 _ _ _ hrow
    have m13 := cell_of_row w2 w.heap.size 13 _ _ _ hrow
    have m14 := cell_of_row w2 w.heap.size 14 _ _ _ hrow
    simp only [List.getElem?_toArray, List.getElem?_cons_zero, List.getElem?_cons_succ] at m0 m1 m2 m3 m4 m5 m6 m7 m8 m9 m10 m11 m12 m13 m14
    have HB2 := hid hb2
    have HO1 := hid ho1
    clear hrow hb2 ho1
    go_wp2_with fail
    refine (hsk.out _).mono ?_
    clear hsk m0 m1 m2 m3 m4 m5 m6 m7 m8 m9 m10 m11 m12 m13 m14
    intro x w3 hp
    obtain ⟨hb3, v2, hx, ho2⟩ := hp
    obtain ⟨p2, c2, hv2⟩ := owns_slice ho2
    subst x
    subst hv2
    have hz2 := HB2.out.size
    simp only [World.alloc, Array.size_push] at hz2
    have hrow : w3.heap[w.heap.size + 1]? = some (.cells #[.int .i64 0, .bool false, .slice none 0 0, .slice none 0 0] 51) := by
      rw [hb3.block _ (by omega), HB2.out.block _ (by simp)]; exact heap_two_new w _ _
    have m0 := cell_of_row w3 (w.heap.size + 1) 0 _ _ _ hrow
    have m1 := cell_of_row w3 (w.heap.size + 1) 1 _ _ _ hrow
    have m2 := cell_of_row w3 (w.heap.size + 1) 2 _ _ _ hrow
    have m3 := cell_of_row w3 (w.heap.size + 1) 3 _ _ _ hrow
    simp only [List.getElem?_toArray, List.getElem?_cons_zero, List.getElem?_cons_succ] at m0 m1 m2 m3
    have f0 := frozen_of_row w3 (w.heap.size + 1) 0 _ _ hrow
    have f1 := frozen_of_row w3 (w.heap.size + 1) 1 _ _ hrow
    have f2 := frozen_of_row w3 (w.heap.size + 1) 2 _ _ hrow
    have f3 := frozen_of_row w3 (w.heap.size + 1) 3 _ _ hrow
    have HB3 := hid hb3
    have HO2 := hid ho2
    clear hrow hb3 ho2
    have HFK : Hid (∀ (u0 u1 u2 u3 : Value) k, k ≠ w.heap.size + 1 → ((((w3.setCell ⟨w.heap.size + 1, 0, none⟩ u0).setCell ⟨w.heap.size + 1, 1, none⟩ u1).setCell ⟨w.heap.size + 1, 2, none⟩ u2).setCell ⟨w.heap.size + 1, 3, none⟩ u3).heap[k]? = w3.heap[k]?) := hid (fun u0 u1 u2 u3 k hk => by
      rw [Below.heap_setCell _ _ _ _ hk, Below.heap_setCell _ _ _ _ hk, Below.heap_setCell _ _ _ _ hk, Below.heap_setCell _ _ _ _ hk])
    have hz3 := HB3.out.size
    go_wp2_with fail
    have hw3 : Below w.heap.size w w3 := ((((Below.refl _ _).alloc (Nat.le_refl _) _).alloc (by simp) _).trans (HB2.out.mono (by simp; omega))).trans (HB3.out.mono (by omega))
    refine bodyPost_ret (v := .agg #[.int .i64 place, .bool true, .slice p1 l1.length c1, .slice p2 l2.length c2]) (by simp [results, Tryd.results14, go_sem, m0, m1, m2, m3]) rfl ⟨(((hw3.setCell (by simp) _).setCell (by simp) _).setCell (by simp) _).setCell (by simp) _, _, _, by rw [HF.out], ?_, ?_⟩
    · rw [HF.out]
      refine (IntsAt.of_owns HO1.out).keep (fun g hg => ?_)
      simp only [World.alloc, Array.size_push] at hg
      refine ⟨⟨by omega, by simp [World.setCell]; omega⟩, ?_⟩
      rw [HFK.out _ _ _ _ _ (by omega), HB3.out.block _ (by omega)]
    · rw [HF.out]
      refine (IntsAt.of_owns HO2.out).keep (fun g hg => ?_)
      refine ⟨⟨by omega, by simp [World.setCell]; omega⟩, ?_⟩
      rw [HFK.out _ _ _ _ _ (by omega)]
end Go.Proofs.YteocjidfbbekfaaDoor
