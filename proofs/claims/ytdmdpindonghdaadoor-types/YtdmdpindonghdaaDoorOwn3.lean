/- tintlaw.Types is true of every image: what the program's Maps tells of each instruction is what the document's answer (tintref.Maps) tells; conditions: the five listed variables hold what the program's text lays in them. -/
import Derived.Test.YtdmdpindonghdaaDoorRows
import Derived.Test.YtdmdpindonghdaaDoorTie
import Derived.Test.YtdmdpindonghdaaDoorCards
import Derived.Test.YtdmdpindonghdaaDoorOwn2
import Derived.WalkKit
import Derived.WalkSpells
import Derived.WalkLawsBesides
import Derived.Deep.AppendLies
import Derived.OwnWalk
import Derived.BigRegion
import Derived.Deep.QuietTactic
import Derived.BigQuiet
import Derived.WalkSmall
import Derived.Deep.RegionHeld3
import Derived.Deep.DeepCutAuto
import Derived.Deep.LoopGhost
import Derived.Laws.StructEq
import Derived.Laws.MakeOwn
import Derived.ProofKit
import Derived.OpenShut
import Derived.Lay
import Derived.SevenTiedAt
import Derived.Stop.Joined
import Derived.Deep.DeepMust
import Derived.Deep.RegionLaw
namespace Go.Proofs.YtdmdpindonghdaaDoor
open Go.RowKit
theorem intInfo : (Tryd.prog.info? 3).map (fun i => (i.zero, i.size, i.bytes)) = some (some (.int .i64 0), 1, 8) := by kernel_rfl
theorem take_snoc {l : List Nat} {k : Nat} (h : k < l.length) : (l.take (k + 1)).map numV = (l.take k).map numV ++ [numV (l.getD k 0)] := by
  rw [List.take_succ_eq_append_getElem h, List.map_append]
  simp [List.getD_eq_getElem?_getD, List.getElem?_eq_getElem h]
theorem owns_mono {w : World} {base base' e size n : Nat} {v : Value} {xs : List Value} (h : w.ownsRow base e size v n xs) (hb : base' ≤ base) : w.ownsRow base' e size v n xs := by
  refine ⟨h.1, ?_⟩
  rcases h.2 with h2 | ⟨g, cap, cur, hv, hg, r⟩
  · exact .inl h2
  · exact .inr ⟨g, cap, cur, hv, Nat.le_trans hb hg, r⟩
def ListPost (l : List Nat) (w : World) (e : Ending) (w' : World) : Prop :=
  Below w.heap.size w w' ∧ ∃ v, e = .returned v ∧ w'.ownsRow w.heap.size 3 1 v l.length (l.map numV)
set_option maxRecDepth 100000 in
set_option maxHeartbeats 1000000 in
theorem localTypes_any (f : Fr) (L : Nat) (w : World) (hf : FrOk f) (hL : L ≤ 4) :
    Calls Tryd.prog 55 #[.agg (frL f).toArray, .int .i64 L] w (ListPost (f.lo.take L) w) := by
  obtain ⟨i0, hi0, hz0, hz1, hz2⟩ := info_parts intInfo
  have hlen := hf.lo
  have HF := hid hf
  clear hf
  generalize hF : (frL f).toArray = F
  have HFR := hid hF
  clear hF
  go_enter Tryd.func55, Tryd.ntmps55
  go_wp2_with fail
  go_loopg [5, 6] L (fun g l i w' => ∃ k : Nat, k ≤ L ∧ g = L - k ∧ i = .int .i64 k ∧ w'.ownsRow (w.heap.size + 1) 3 1 l k ((f.lo.take k).map numV) ∧ Below (w.heap.size + 1) (w.alloc (.cells F 93)) w')
  case atStart => exact ⟨0, by omega, by omega, rfl, World.ownsRow_nil _ _ _ _, Below.refl _ _⟩
  case round =>
    obtain ⟨k, hk, hg, rfl, hown, hbel⟩ := hrel
    obtain ⟨bx, bo, hz⟩ := box_cells hbel
    have HB := hid hbel
    clear hbel bo
    rcases Nat.lt_or_ge k L with hlt | hge
    · have d1 : (k : Int) < (L : Int) := by omega
      have d2 : (k : Int) < 4 := by omega
      have d0 : (0 : Int) ≤ (k : Int) := by omega
      have c0 := (bx (1 + k)).trans ((congrArg (fun x => x[1 + k]?) HFR.out.symm).trans (fr_lo HF.out (i := k) (by omega)))
      clear bx
      unfold numV at c0
      go_wp2_with (at_builtin; go_must (refine wpList_append_lies _ (by rfl) _ _ _ (by rfl) (w.heap.size + 1) 3 i0 _ 1 8 Tryd.underlying33 hi0 hz0 hz1 hz2 rfl (by omega) _ k ((f.lo.take k).map numV) (by rfl) (hown.alloc _) ⟨_, 0, none⟩ 1 1 [.int .i64 (f.lo.getD k 0 : Nat)] (by rfl) (by rfl) (World.news_of_block (cs := #[.int .i64 (f.lo.getD k 0 : Nat)]) (t := 3) (fr := (0, 0)) (heap_alloc_new _ _)) (by simp [Value.oneCell']) (by omega) (by unfold maxLen; omega) (by omega) (by simp; omega) _ rfl ?_); intro gg cap w3 hown3 hgrow hat hlt2)
      go_roundg (L - (k + 1))
      case measure => omega
      case rel => exact ⟨k + 1, by omega, rfl, by go_num, by rw [take_snoc (by omega)]; exact hown3, (HB.out.alloc (by omega) _).grown hgrow (by simp; omega) (fun k hk => (hown.lt k hk).1)⟩
    · have d1 : ¬ (k : Int) < (L : Int) := by omega
      have hkL : k = L := by omega
      clear bx
      go_wp2_with fail
      go_ret
      exact ⟨box_below (Nat.le_refl _) HB.out, _, rfl, by rw [List.length_take, Nat.min_eq_left (by omega), ← hkL]; exact owns_mono hown (by omega)⟩
set_option maxRecDepth 100000 in
set_option maxHeartbeats 1000000 in
theorem stackTypes_any (f : Fr) (w : World) (hf : FrOk f) :
    Calls Tryd.prog 57 #[.agg (frL f).toArray] w (ListPost (f.stk.take f.depth) w) := by
  obtain ⟨i0, hi0, hz0, hz1, hz2⟩ := info_parts intInfo
  have hlen := hf.stk
  have hL := hf.depth
  have HF := hid hf
  have HD := hid (fr_get hf).2.1
  clear hf
  generalize f.depth = L at *
  generalize hF : (frL f).toArray = F
  have HFR := hid hF
  clear hF
  go_enter Tryd.func57, Tryd.ntmps57
  go_wp2_with fail
  go_loopg [3, 4] L (fun g l i w' => ∃ k : Nat, k ≤ L ∧ g = L - k ∧ i = .int .i64 k ∧ w'.ownsRow (w.heap.size + 1) 3 1 l k ((f.stk.take k).map numV) ∧ Below (w.heap.size + 1) (w.alloc (.cells F 93)) w')
  case atStart => exact ⟨0, by omega, by omega, rfl, World.ownsRow_nil _ _ _ _, Below.refl _ _⟩
  case round =>
    obtain ⟨k, hk, hg, rfl, hown, hbel⟩ := hrel
    obtain ⟨bx, bo, hz⟩ := box_cells hbel
    have HB := hid hbel
    clear hbel bo
    rcases Nat.lt_or_ge k L with hlt | hge
    · have d1 : (k : Int) < (L : Int) := by omega
      have d2 : (k : Int) < 8 := by omega
      have d0 : (0 : Int) ≤ (k : Int) := by omega
      have c0 := (bx (6 + k)).trans ((congrArg (fun x => x[6 + k]?) HFR.out.symm).trans (fr_stk HF.out (i := k) (by omega)))
      have c1 := (bx 5).trans ((congrArg (fun x => x[5]?) HFR.out.symm).trans HD.out)
      clear bx
      unfold numV at c0 c1
      go_wp2_with (at_builtin; go_must (refine wpList_append_lies _ (by rfl) _ _ _ (by rfl) (w.heap.size + 1) 3 i0 _ 1 8 Tryd.underlying33 hi0 hz0 hz1 hz2 rfl (by omega) _ k ((f.stk.take k).map numV) (by rfl) (hown.alloc _) ⟨_, 0, none⟩ 1 1 [.int .i64 (f.stk.getD k 0 : Nat)] (by rfl) (by rfl) (World.news_of_block (cs := #[.int .i64 (f.stk.getD k 0 : Nat)]) (t := 3) (fr := (0, 0)) (heap_alloc_new _ _)) (by simp [Value.oneCell']) (by omega) (by unfold maxLen; omega) (by omega) (by simp; omega) _ rfl ?_); intro gg cap w3 hown3 hgrow hat hlt2)
      go_roundg (L - (k + 1))
      case measure => omega
      case rel => exact ⟨k + 1, by omega, rfl, by go_num, by rw [take_snoc (by omega)]; exact hown3, (HB.out.alloc (by omega) _).grown hgrow (by simp; omega) (fun k hk => (hown.lt k hk).1)⟩
    · have d1 : ¬ (k : Int) < (L : Int) := by omega
      have hkL : k = L := by omega
      have c1 := (bx 5).trans ((congrArg (fun x => x[5]?) HFR.out.symm).trans HD.out)
      clear bx
      unfold numV at c1
      go_wp2_with fail
      go_ret
      exact ⟨box_below (Nat.le_refl _) HB.out, _, rfl, by rw [List.length_take, Nat.min_eq_left (by omega), ← hkL]; exact owns_mono hown (by omega)⟩
end Go.Proofs.YtdmdpindonghdaaDoor
namespace Go.Proofs.YtdmdpindonghdaaDoor
open Go.RowKit
/-- What is told of an instruction. -/
structure MP where
  place : Nat
  reached : Bool
  lo : List Nat
  st : List Nat
/-- v is a list of these numbers, in a block of which P holds. -/
def IntsAt (w : World) (P : Nat → Prop) (v : Value) (l : List Nat) : Prop :=
  (v = .slice none 0 0 ∧ l = []) ∨ ∃ g cap, v = .slice (some ⟨g, 0, none⟩) l.length cap ∧ P g ∧ ∀ (j n : Nat), l[j]? = some n → w.cell? ⟨g, j, none⟩ = some (numV n)
theorem IntsAt.nil (w : World) (P : Nat → Prop) : IntsAt w P (.slice none 0 0) [] := .inl ⟨rfl, rfl⟩
theorem IntsAt.slice {w : World} {P : Nat → Prop} {v : Value} {l : List Nat} (h : IntsAt w P v l) : ∃ p cap, v = .slice p l.length cap := by
  rcases h with ⟨h1, h2⟩ | ⟨g, cap, hv, _⟩
  · exact ⟨none, 0, by rw [h1, h2]; rfl⟩
  · exact ⟨_, cap, hv⟩
theorem IntsAt.keep {w w' : World} {P P' : Nat → Prop} {v : Value} {l : List Nat} (h : IntsAt w P v l) (hP : ∀ g, P g → P' g ∧ w'.heap[g]? = w.heap[g]?) : IntsAt w' P' v l := by
  rcases h with h | ⟨g, cap, hv, hg, hc⟩
  · exact .inl h
  · exact .inr ⟨g, cap, hv, (hP g hg).1, fun j n hj => (World.cell?_of_block (a := ⟨g, j, none⟩) (hP g hg).2).trans (hc j n hj)⟩
theorem IntsAt.of_owns {w : World} {base : Nat} {v : Value} {l : List Nat} (h : w.ownsRow base 3 1 v l.length (l.map numV)) : IntsAt w (fun g => base ≤ g ∧ g < w.heap.size) v l := by
  have hh := h
  rcases h.2 with ⟨h1, h2⟩ | ⟨g, cap, cur, hv, hg, r⟩
  · exact .inl ⟨h1, List.length_eq_zero_iff.1 h2⟩
  · subst hv
    refine .inr ⟨g, cap, rfl, ⟨hg, (Array.getElem?_eq_some_iff.1 r.1).1⟩, fun j n hj => ?_⟩
    have := hh.cells (g := g) rfl j (numV n) (by rw [List.getElem?_map, hj]; rfl)
    rw [addr_add] at this
    simpa using this
theorem heap_two_first (w : World) (a b : Obj) : ((w.alloc a).alloc b).heap[w.heap.size]? = some a := by
  rw [Below.heap_alloc _ _ _ (by simp), heap_alloc_new]
theorem owns_slice {w : World} {base e size n : Nat} {v : Value} {xs : List Value} (h : w.ownsRow base e size v n xs) : ∃ p cap, v = .slice p n cap := by
  rcases h.2 with ⟨h1, h2⟩ | ⟨g, cap, cur, hv, _⟩
  · exact ⟨none, 0, by rw [h1, h2]⟩
  · exact ⟨_, cap, hv⟩
def ptF (place : Nat) (f : Fr) (L : Nat) : MP := if f.reached = true then ⟨place, true, f.lo.take L, f.stk.take f.depth⟩ else ⟨place, false, [], []⟩
def PointPost (m : MP) (w : World) (e : Ending) (w' : World) : Prop :=
  Below w.heap.size w w' ∧ ∃ v1 v2, e = .returned (.agg #[.int .i64 m.place, .bool m.reached, v1, v2]) ∧ IntsAt w' (fun g => w.heap.size ≤ g ∧ g < w'.heap.size) v1 m.lo ∧ IntsAt w' (fun g => w.heap.size ≤ g ∧ g < w'.heap.size) v2 m.st
set_option maxRecDepth 100000 in
set_option maxHeartbeats 1000000 in
theorem point_any (place L : Nat) (f : Fr) (w : World) (hf : FrOk f) (hL : L ≤ 4) :
    Calls Tryd.prog 41 #[.int .i64 place, .agg (frL f).toArray, .int .i64 L] w (PointPost (ptF place f L) w) := by
  have hlt := hid (fun W => localTypes_any f L W hf hL)
  have hsk := hid (fun W => stackTypes_any f W hf)
  obtain ⟨r, lo, d, st, wr⟩ := f
  obtain ⟨h1, h2, h3⟩ := hf
  simp only at h1 h2
  obtain ⟨a, b, c, e, rfl⟩ := four h1
  obtain ⟨s0, s1, s2, s3, s4, s5, s6, s7, rfl⟩ := eight h2
  simp only [frL, List.map_cons, List.map_nil, List.cons_append, List.nil_append, numV] at hlt hsk ⊢
  cases r
  · have HF : Hid (ptF place ⟨false, [a, b, c, e], d, [s0, s1, s2, s3, s4, s5, s6, s7], wr⟩ L = ⟨place, false, [], []⟩) := hid rfl
    clear hlt hsk
    go_enter Tryd.func41, Tryd.ntmps41
    go_wp2_with fail
    exact bodyPost_ret (v := .agg #[.int .i64 place, .bool false, .slice none 0 0, .slice none 0 0]) (by simp [results, Tryd.results41, go_sem]) rfl ⟨((Below.refl _ _).alloc (Nat.le_refl _) _).alloc (by simp) _, _, _, by rw [HF.out], by rw [HF.out]; exact .nil _ _, by rw [HF.out]; exact .nil _ _⟩
  · have HF : Hid (ptF place ⟨true, [a, b, c, e], d, [s0, s1, s2, s3, s4, s5, s6, s7], wr⟩ L = ⟨place, true, [a, b, c, e].take L, [s0, s1, s2, s3, s4, s5, s6, s7].take d⟩) := hid rfl
    generalize [a, b, c, e].take L = l1 at *
    generalize [s0, s1, s2, s3, s4, s5, s6, s7].take d = l2 at *
    generalize ptF place ⟨true, [a, b, c, e], d, [s0, s1, s2, s3, s4, s5, s6, s7], wr⟩ L = M at *
    go_enter Tryd.func41, Tryd.ntmps41
    go_wp2_with fail
    refine (hlt.out _).mono ?_
    clear hlt
    intro x w2 hp
    obtain ⟨hb2, v1, hx, ho1⟩ := hp
    obtain ⟨p1, c1, hv1⟩ := owns_slice ho1
    subst x
    subst hv1
    have hrow : w2.heap[w.heap.size]? = some (.cells #[.bool true, .int .i64 a, .int .i64 b, .int .i64 c, .int .i64 e, .int .i64 d, .int .i64 s0, .int .i64 s1, .int .i64 s2, .int .i64 s3, .int .i64 s4, .int .i64 s5, .int .i64 s6, .int .i64 s7, .bool wr] 93) := by
      rw [hb2.block _ (by simp; omega)]; exact heap_two_first w _ _
    have m0 := cell_of_row w2 w.heap.size 0 _ _ _ hrow
    have m1 := cell_of_row w2 w.heap.size 1 _ _ _ hrow
    have m2 := cell_of_row w2 w.heap.size 2 _ _ _ hrow
    have m3 := cell_of_row w2 w.heap.size 3 _ _ _ hrow
    have m4 := cell_of_row w2 w.heap.size 4 _ _ _ hrow
    have m5 := cell_of_row w2 w.heap.size 5 _ _ _ hrow
    have m6 := cell_of_row w2 w.heap.size 6 _ _ _ hrow
    have m7 := cell_of_row w2 w.heap.size 7 _ _ _ hrow
    have m8 := cell_of_row w2 w.heap.size 8 _ _ _ hrow
    have m9 := cell_of_row w2 w.heap.size 9 _ _ _ hrow
    have m10 := cell_of_row w2 w.heap.size 10 _ _ _ hrow
    have m11 := cell_of_row w2 w.heap.size 11 _ _ _ hrow
    have m12 := cell_of_row w2 w.heap.size 12 _ _ _ hrow
    have m13 := cell_of_row w2 w.heap.size 13 _ _ _ hrow
    have m14 := cell_of_row w2 w.heap.size 14 _ _ _ hrow
    simp only [List.getElem?_toArray, List.getElem?_cons_zero, List.getElem?_cons_succ] at m0 m1 m2 m3 m4 m5 m6 m7 m8 m9 m10 m11 m12 m13 m14
    have HB2 := hid hb2
    have HO1 := hid ho1
    clear hrow hb2 ho1
    go_wp2_with fail
    refine (hsk.out _).mono ?_
    clear hsk m0 m1 m2 m3 m4 m5 m6 m7 m8 m9 m10 m11 m12 m13 m14
    intro x w3 hp
    obtain ⟨hb3, v2, hx, ho2⟩ := hp
    obtain ⟨p2, c2, hv2⟩ := owns_slice ho2
    subst x
    subst hv2
    have hz2 := HB2.out.size
    simp only [World.alloc, Array.size_push] at hz2
    have hrow : w3.heap[w.heap.size + 1]? = some (.cells #[.int .i64 0, .bool false, .slice none 0 0, .slice none 0 0] 95) := by
      rw [hb3.block _ (by omega), HB2.out.block _ (by simp)]; exact heap_two_new w _ _
    have m0 := cell_of_row w3 (w.heap.size + 1) 0 _ _ _ hrow
    have m1 := cell_of_row w3 (w.heap.size + 1) 1 _ _ _ hrow
    have m2 := cell_of_row w3 (w.heap.size + 1) 2 _ _ _ hrow
    have m3 := cell_of_row w3 (w.heap.size + 1) 3 _ _ _ hrow
    simp only [List.getElem?_toArray, List.getElem?_cons_zero, List.getElem?_cons_succ] at m0 m1 m2 m3
    have f0 := frozen_of_row w3 (w.heap.size + 1) 0 _ _ hrow
    have f1 := frozen_of_row w3 (w.heap.size + 1) 1 _ _ hrow
    have f2 := frozen_of_row w3 (w.heap.size + 1) 2 _ _ hrow
    have f3 := frozen_of_row w3 (w.heap.size + 1) 3 _ _ hrow
    have HB3 := hid hb3
    have HO2 := hid ho2
    clear hrow hb3 ho2
    have HFK : Hid (∀ (u0 u1 u2 u3 : Value) k, k ≠ w.heap.size + 1 → ((((w3.setCell ⟨w.heap.size + 1, 0, none⟩ u0).setCell ⟨w.heap.size + 1, 1, none⟩ u1).setCell ⟨w.heap.size + 1, 2, none⟩ u2).setCell ⟨w.heap.size + 1, 3, none⟩ u3).heap[k]? = w3.heap[k]?) := hid (fun u0 u1 u2 u3 k hk => by
      rw [Below.heap_setCell _ _ _ _ hk, Below.heap_setCell _ _ _ _ hk, Below.heap_setCell _ _ _ _ hk, Below.heap_setCell _ _ _ _ hk])
    have hz3 := HB3.out.size
    go_wp2_with fail
    have hw3 : Below w.heap.size w w3 := ((((Below.refl _ _).alloc (Nat.le_refl _) _).alloc (by simp) _).trans (HB2.out.mono (by simp; omega))).trans (HB3.out.mono (by omega))
    refine bodyPost_ret (v := .agg #[.int .i64 place, .bool true, .slice p1 l1.length c1, .slice p2 l2.length c2]) (by simp [results, Tryd.results41, go_sem, m0, m1, m2, m3]) rfl ⟨(((hw3.setCell (by simp) _).setCell (by simp) _).setCell (by simp) _).setCell (by simp) _, _, _, by rw [HF.out], ?_, ?_⟩
    · rw [HF.out]
      refine (IntsAt.of_owns HO1.out).keep (fun g hg => ?_)
      simp only [World.alloc, Array.size_push] at hg
      refine ⟨⟨by omega, by simp [World.setCell]; omega⟩, ?_⟩
      rw [HFK.out _ _ _ _ _ (by omega), HB3.out.block _ (by omega)]
    · rw [HF.out]
      refine (IntsAt.of_owns HO2.out).keep (fun g hg => ?_)
      refine ⟨⟨by omega, by simp [World.setCell]; omega⟩, ?_⟩
      rw [HFK.out _ _ _ _ _ (by omega)]
end Go.Proofs.YtdmdpindonghdaaDoor
namespace Go.Proofs.YtdmdpindonghdaaDoor
open Go.RowKit
/-- The cells of a list of points, their own lists in blocks of which P holds. -/
def PtsIn (w : World) (P : Nat → Prop) : List Value → List MP → Prop
  | [], [] => True
  | a :: b :: c :: d :: r, m :: ms => a = .int .i64 m.place ∧ b = .bool m.reached ∧ IntsAt w P c m.lo ∧ IntsAt w P d m.st ∧ PtsIn w P r ms
  | _, _ => False
theorem PtsIn.keep {w w' : World} {P P' : Nat → Prop} (hP : ∀ g, P g → P' g ∧ w'.heap[g]? = w.heap[g]?) : ∀ (cs : List Value) (ms : List MP), PtsIn w P cs ms → PtsIn w' P' cs ms
  | [], [], _ => trivial
  | _ :: _ :: _ :: _ :: r, _ :: ms, ⟨h1, h2, h3, h4, h5⟩ => ⟨h1, h2, h3.keep hP, h4.keep hP, PtsIn.keep hP r ms h5⟩
  | [], _ :: _, h => h.elim
  | [_], [], h => h.elim
  | [_], _ :: _, h => h.elim
  | [_, _], [], h => h.elim
  | [_, _], _ :: _, h => h.elim
  | [_, _, _], [], h => h.elim
  | [_, _, _], _ :: _, h => h.elim
  | _ :: _ :: _ :: _ :: _, [], h => h.elim
theorem PtsIn.snoc {w : World} {P : Nat → Prop} {m : MP} {v1 v2 : Value} (h1 : IntsAt w P v1 m.lo) (h2 : IntsAt w P v2 m.st) : ∀ (cs : List Value) (ms : List MP), PtsIn w P cs ms → PtsIn w P (cs ++ [.int .i64 m.place, .bool m.reached, v1, v2]) (ms ++ [m])
  | [], [], _ => ⟨rfl, rfl, h1, h2, trivial⟩
  | _ :: _ :: _ :: _ :: r, _ :: ms, ⟨a1, a2, a3, a4, a5⟩ => ⟨a1, a2, a3, a4, PtsIn.snoc h1 h2 r ms a5⟩
  | [], _ :: _, h => h.elim
  | [_], [], h => h.elim
  | [_], _ :: _, h => h.elim
  | [_, _], [], h => h.elim
  | [_, _], _ :: _, h => h.elim
  | [_, _, _], [], h => h.elim
  | [_, _, _], _ :: _, h => h.elim
  | _ :: _ :: _ :: _ :: _, [], h => h.elim
theorem PtsIn.at {w : World} {P : Nat → Prop} : ∀ (cs : List Value) (ms : List MP), PtsIn w P cs ms → ∀ (k : Nat) (m : MP), ms[k]? = some m →
    cs[k * 4]? = some (.int .i64 m.place) ∧ cs[k * 4 + 1]? = some (.bool m.reached) ∧ ∃ v1 v2, cs[k * 4 + 2]? = some v1 ∧ cs[k * 4 + 3]? = some v2 ∧ IntsAt w P v1 m.lo ∧ IntsAt w P v2 m.st
  | [], [], _, k, m, h => by simp at h
  | a :: b :: c :: d :: r, m0 :: ms, ⟨a1, a2, a3, a4, a5⟩, k, m, h => by
    cases k with
    | zero =>
      simp only [List.getElem?_cons_zero, Option.some.injEq] at h
      subst h
      exact ⟨by rw [a1]; rfl, by rw [a2]; rfl, c, d, rfl, rfl, a3, a4⟩
    | succ k =>
      have := PtsIn.at r ms a5 k m (by simpa using h)
      have hc : ∀ j, (a :: b :: c :: d :: r)[j + 4]? = r[j]? := fun j => by simp
      rw [show (k + 1) * 4 = k * 4 + 4 by omega, show k * 4 + 4 + 1 = k * 4 + 1 + 4 by omega, show k * 4 + 4 + 2 = k * 4 + 2 + 4 by omega, show k * 4 + 4 + 3 = k * 4 + 3 + 4 by omega, hc, hc, hc, hc]
      exact this
  | [], _ :: _, h, _, _, _ => h.elim
  | [_], [], h, _, _, _ => h.elim
  | [_], _ :: _, h, _, _, _ => h.elim
  | [_, _], [], h, _, _, _ => h.elim
  | [_, _], _ :: _, h, _, _, _ => h.elim
  | [_, _, _], [], h, _, _, _ => h.elim
  | [_, _, _], _ :: _, h, _, _, _ => h.elim
  | _ :: _ :: _ :: _ :: _, [], h, _, _, _ => h.elim
/-- v is a list of points, all of it in blocks of its own from base on. -/
def OwnPts (w : World) (base : Nat) (v : Value) (ms : List MP) : Prop :=
  ∃ cs, w.ownsRow base 95 4 v ms.length cs ∧ PtsIn w (fun g => base ≤ g ∧ g < w.heap.size ∧ v.ownBlock ≠ some g) cs ms
theorem OwnPts.nil (w : World) (base : Nat) : OwnPts w base (.slice none 0 0) [] := ⟨[], World.ownsRow_nil _ _ _ _, trivial⟩
theorem OwnPts.below {w w' : World} {B base : Nat} {v : Value} {ms : List MP} (h : OwnPts w base v ms) (hb : Below B w w') (hB : w.heap.size ≤ B) : OwnPts w' base v ms := by
  obtain ⟨cs, h1, h2⟩ := h
  have hz := hb.size
  exact ⟨cs, owns_below h1 hb (fun g hg => by have := (h1.lt g hg).2; omega), PtsIn.keep (fun g hg => ⟨⟨hg.1, by omega, hg.2.2⟩, hb.block g (by omega)⟩) _ _ h2⟩
theorem pointInfo : (Tryd.prog.info? 95).map (fun i => (i.zero, i.size, i.bytes)) = some (some (.agg #[.int .i64 0, .bool false, .slice none 0 0, .slice none 0 0]), 4, 64) := by kernel_rfl
/-- One point more, by an append. -/
theorem OwnPts.push {w w' : World} {base gg cap n : Nat} {v v1 v2 : Value} {ms : List MP} {m : MP} {cs : List Value} (hn : n = ms.length) (hp : PtsIn w (fun g => base ≤ g ∧ g < w.heap.size ∧ v.ownBlock ≠ some g) cs ms)
    (h1 : IntsAt w (fun g => base ≤ g ∧ g < w.heap.size ∧ v.ownBlock ≠ some g) v1 m.lo) (h2 : IntsAt w (fun g => base ≤ g ∧ g < w.heap.size ∧ v.ownBlock ≠ some g) v2 m.st)
    (hown : w'.ownsRow base 95 4 (.slice (some ⟨gg, 0, none⟩) (n + 1) cap) (n + 1) (cs ++ [.int .i64 m.place, .bool m.reached, v1, v2])) (hgrow : w.grownBy w' v.ownBlock) (hat : v.ownBlock = some gg ∨ gg = w.heap.size) :
    OwnPts w' base (.slice (some ⟨gg, 0, none⟩) (ms ++ [m]).length cap) (ms ++ [m]) := by
  subst hn
  refine ⟨_, by rw [List.length_append]; exact hown, ?_⟩
  refine PtsIn.keep (fun g hg => ?_) _ _ (PtsIn.snoc h1 h2 _ _ hp)
  refine ⟨⟨hg.1, Nat.lt_of_lt_of_le hg.2.1 hgrow.size, ?_⟩, hgrow.block g hg.2.1 (fun e => hg.2.2 e.symm)⟩
  intro e
  simp only [Value.ownBlock, Option.some.injEq] at e
  rcases hat with h | h
  · exact hg.2.2 (h.trans (by rw [e]))
  · omega
end Go.Proofs.YtdmdpindonghdaaDoor
namespace Go.Proofs.YtdmdpindonghdaaDoor
open Go.RowKit
theorem row5 {wr w5 : World} {o o' : Obj} {base n : Nat} {v : Value} {cs : List Value} (h : wr.ownsRow base 95 4 v n cs) (hb : Below (wr.alloc o).drew.heap.size (wr.alloc o).drew w5) : (w5.alloc o').ownsRow base 95 4 v n cs := by
  have hb' : Below wr.heap.size wr w5 := ((Below.refl _ _).alloc (Nat.le_refl _) o).trans (⟨hb.os, hb.tape, hb.output, hb.size, fun k hk => hb.block k (by simp [World.drew]; omega)⟩)
  exact (owns_below h hb' (fun g hg => (h.lt g hg).2)).alloc _
theorem below5 {wr w5 : World} {o : Obj} (hb : Below (wr.alloc o).drew.heap.size (wr.alloc o).drew w5) : Below wr.heap.size wr w5 :=
  ((Below.refl _ _).alloc (Nat.le_refl _) o).trans (⟨hb.os, hb.tape, hb.output, hb.size, fun k hk => hb.block k (by simp [World.drew]; omega)⟩)
theorem OwnPts.mono {w : World} {base base' : Nat} {v : Value} {ms : List MP} (h : OwnPts w base v ms) (hb : base' ≤ base) : OwnPts w base' v ms := by
  obtain ⟨cs, h1, h2⟩ := h
  exact ⟨cs, owns_mono h1 hb, PtsIn.keep (fun g hg => ⟨⟨Nat.le_trans hb hg.1, hg.2⟩, rfl⟩) _ _ h2⟩
def mapsF (l : List Ins) (fs : List Fr) (L : Nat) : List MP := List.zipWith (fun i f => ptF i.place f L) l fs
def TMapsPost (s : ByteArray) (w : World) (e : Ending) (w' : World) : Prop :=
  Below w.heap.size w w' ∧ ((∃ r : Nat, r ≠ 0 ∧ IsErr s r ∧ e = .returned (.tuple #[.slice none 0 0, .int .i64 r])) ∨
    (∃ v fs, e = .returned (.tuple #[v, .int .i64 0]) ∧ errOf s = 0 ∧ SetInv (codeOf s) (byteAt s 1) fs ∧ Still (codeOf s) fs ∧ OwnPts w' w.heap.size v (mapsF (codeOf s) fs (byteAt s 1))))
set_option maxRecDepth 100000 in
set_option maxHeartbeats 1000000 in
theorem tmaps_any (s : ByteArray) (w : World) (hs : s.size ≤ maxLen) (htab : FlowTab w) :
    Calls Tryd.prog 13 #[.string s] w (TMapsPost s w) := by
  obtain ⟨i0, hi0, hz0, hz1, hz2⟩ := info_parts pointInfo
  have hld := hid (tload_any s w hs htab)
  clear hs htab
  go_enter Tryd.func13, Tryd.ntmps13
  go_wp2_with fail
  refine hld.out.mono ?_
  clear hld
  intro x w2 hp
  obtain ⟨hb, hp⟩ := hp
  have hz := hb.size
  have HB := hid hb
  clear hb
  rcases hp with ⟨r, hr, he, rfl⟩ | ⟨g, cap, bf, fs, rfl, hLd⟩
  · have HE := hid he
    have HR := hid hr
    have hne : ((r : Int) != 0) = true := by simp; omega
    clear he hr
    go_wp2_with fail
    exact bodyPost_ret (v := .tuple #[.slice none 0 0, .int .i64 r]) (by simp [results, Tryd.results13, go_sem]) rfl ⟨HB.out.alloc hz _, .inl ⟨r, HR.out, HE.out, rfl⟩⟩
  · have HLD := hid hLd
    have hgl : g < w2.heap.size := hLd.g2
    have hL : byteAt s 1 ≤ 4 := (wf_of hLd.err).loc
    have hlen := hLd.inv.len
    have h120 := (wf_of hLd.err).len
    clear hLd
    generalize hLL : byteAt s 1 = L at *
    have HLL := hid hLL
    generalize hl : codeOf s = l at *
    have HL := hid hl
    clear hl hLL
    have hf0 := HLD.out.b1
    go_wp2_with fail
    go_loopg [7, 21] l.length (fun gk v i w' => ∃ k : Nat, k ≤ l.length ∧ gk = l.length - k ∧ i = .int .i64 k ∧ OwnPts w' (w2.heap.size + 1) v ((mapsF l fs L).take k) ∧ Below (w2.heap.size + 1) (w2.alloc (.cells #[.int .i64 L, .slice (some ⟨g, 0, none⟩) l.length cap] 80)) w')
    case atStart => exact ⟨0, by omega, by omega, rfl, OwnPts.nil _ _, Below.refl _ _⟩
    case round =>
      obtain ⟨k, hk, hg, rfl, hown, hbel⟩ := hrel
      have hz2' := hbel.size
      rw [alloc_size] at hz2'
      have HBEL := hid hbel
      have HOWN := hid hown
      rcases Nat.lt_or_ge k l.length with hlt | hge
      · have d1 : (k : Int) < (l.length : Int) := by omega
        have d0 : (0 : Int) ≤ (k : Int) := by omega
        have hbfz : bf < w2.heap.size := (Array.getElem?_eq_some_iff.1 HLD.out.all).1
        have hall : AllAt wr bf fs := ((hbel.block bf (by omega)).trans (Below.heap_alloc w2 _ _ hbfz)).trans HLD.out.all
        have hok := HLD.out.inv.ok
        have hci : CiAt wr g (aims l) := by
          have := HLD.out.ci
          rw [HL.out] at this
          exact this.same ((hbel.block g (by omega)).trans (Below.heap_alloc w2 _ _ hgl))
        obtain ⟨bx, bo, _⟩ := box_cells hbel
        have y0 := bx 0
        have y1 := bx 1
        simp only [List.getElem?_toArray, List.getElem?_cons_zero, List.getElem?_cons_succ] at y0 y1
        have hi : l[k]? = some l[k] := List.getElem?_eq_getElem hlt
        have hfk : fs[k]? = some (fs[k]'(by omega)) := List.getElem?_eq_getElem (by omega)
        obtain ⟨p0, _, _, _⟩ := hci k _ (aims_get hi)
        have HNX : Hid ((mapsF l fs L).take (k + 1) = (mapsF l fs L).take k ++ [ptF l[k].place (fs[k]'(by omega)) L]) := hid (by
          have hkm : k < (mapsF l fs L).length := by simp [mapsF]; omega
          rw [List.take_succ_eq_append_getElem hkm]
          simp [mapsF])
        have hfok := hok _ (List.mem_of_getElem? hfk)
        have hpt := hid (fun W => point_any l[k].place L (fs[k]'(by omega)) W hfok hL)
        have HFK := hid hfk
        generalize fs[k]'(by omega) = f at *
        generalize l[k].place = pl at *
        have c0 := hall.cell hok HFK.out (j := 0) (by omega)
        have c1 := hall.cell hok HFK.out (j := 1) (by omega)
        have c2 := hall.cell hok HFK.out (j := 2) (by omega)
        have c3 := hall.cell hok HFK.out (j := 3) (by omega)
        have c4 := hall.cell hok HFK.out (j := 4) (by omega)
        have c5 := hall.cell hok HFK.out (j := 5) (by omega)
        have c6 := hall.cell hok HFK.out (j := 6) (by omega)
        have c7 := hall.cell hok HFK.out (j := 7) (by omega)
        have c8 := hall.cell hok HFK.out (j := 8) (by omega)
        have c9 := hall.cell hok HFK.out (j := 9) (by omega)
        have c10 := hall.cell hok HFK.out (j := 10) (by omega)
        have c11 := hall.cell hok HFK.out (j := 11) (by omega)
        have c12 := hall.cell hok HFK.out (j := 12) (by omega)
        have c13 := hall.cell hok HFK.out (j := 13) (by omega)
        have c14 := hall.cell hok HFK.out (j := 14) (by omega)
        have HM := hid (rfl : ptF pl f L = ptF pl f L)
        generalize hM : ptF pl f L = M at hpt HNX HM
        clear HM hM
        obtain ⟨fr, flo, d, fst, fw⟩ := f
        obtain ⟨h1, h2, h3⟩ := hfok
        simp only at h1 h2
        obtain ⟨a, b, c, e, rfl⟩ := four h1
        obtain ⟨s0, s1, s2, s3, s4, s5, s6, s7, rfl⟩ := eight h2
        simp only [frL, List.map_cons, List.map_nil, List.cons_append, List.nil_append, numV, List.getElem?_cons_zero, List.getElem?_cons_succ] at c0 c1 c2 c3 c4 c5 c6 c7 c8 c9 c10 c11 c12 c13 c14 hpt
        rw [Nat.add_zero] at c0
        obtain ⟨cs, hrow, hpts⟩ := hown
        rw [List.length_take, Nat.min_eq_left (by simp [mapsF]; omega)] at hrow
        have hgz : g < wr.heap.size := by omega
        have hwz : w2.heap.size < wr.heap.size := by omega
        have HPTS := hid hpts
        have hfar : ∀ b, b ≤ w2.heap.size ∨ wr.heap.size ≤ b → some b ≠ u7.ownBlock := fun b hb e => by
          have := hrow.lt b e.symm
          omega
        clear hall hci hbel bx bo hi hfk hok HOWN hpts
        go_upto_region 9 with fail
        go_region_held3 (fun w' => w'.cell? ⟨w2.heap.size, 0, none⟩ = some (.int .i64 L) ∧ w'.cell? ⟨w2.heap.size, 1, none⟩ = some (.slice (some ⟨g, 0, none⟩) l.length cap) ∧ w'.cell? ⟨g, k * 4, none⟩ = some (.int .i64 pl) ∧ w'.cell? ⟨wr.heap.size, 0, none⟩ = some (.bool fr) ∧ w'.cell? ⟨wr.heap.size, 1, none⟩ = some (.int .i64 a) ∧ w'.cell? ⟨wr.heap.size, 2, none⟩ = some (.int .i64 b) ∧ w'.cell? ⟨wr.heap.size, 3, none⟩ = some (.int .i64 c) ∧ w'.cell? ⟨wr.heap.size, 4, none⟩ = some (.int .i64 e) ∧ w'.cell? ⟨wr.heap.size, 5, none⟩ = some (.int .i64 d) ∧ w'.cell? ⟨wr.heap.size, 6, none⟩ = some (.int .i64 s0) ∧ w'.cell? ⟨wr.heap.size, 7, none⟩ = some (.int .i64 s1) ∧ w'.cell? ⟨wr.heap.size, 8, none⟩ = some (.int .i64 s2) ∧ w'.cell? ⟨wr.heap.size, 9, none⟩ = some (.int .i64 s3) ∧ w'.cell? ⟨wr.heap.size, 10, none⟩ = some (.int .i64 s4) ∧ w'.cell? ⟨wr.heap.size, 11, none⟩ = some (.int .i64 s5) ∧ w'.cell? ⟨wr.heap.size, 12, none⟩ = some (.int .i64 s6) ∧ w'.cell? ⟨wr.heap.size, 13, none⟩ = some (.int .i64 s7) ∧ w'.cell? ⟨wr.heap.size, 14, none⟩ = some (.bool fw))
          (first
            | go_keep
            | (go_split_ands
               refine ⟨?_, ?_, ?_, ?_, ?_, ?_, ?_, ?_, ?_, ?_, ?_, ?_, ?_, ?_, ?_, ?_, ?_, ?_⟩ <;> first | (exact hgrow6.cell (by assumption) (hfar _ (by simp <;> omega))) | (rw [hb5.cell (by simp <;> omega)]; assumption)))
          ((first
            | (go_at_call 41; refine (hpt.out _).mono ?_; intro x w5 hpost; obtain ⟨hb5, v1, v2, hx5, hi1, hi2⟩ := hpost; obtain ⟨p1, q1, hv1⟩ := hi1.slice; obtain ⟨p2, q2, hv2⟩ := hi2.slice; subst hv1; subst hv2; subst hx5; have hz5 : wr.heap.size + 1 ≤ w5.heap.size := by simpa using hb5.size)
            | (refine step_append_lies _ (by rfl) _ _ _ (by rfl) (w2.heap.size + 1) 95 i0 _ 4 64 Tryd.underlying27 hi0 hz0 hz1 hz2 rfl (by omega) _ k cs (by rfl) (row5 hrow hb5)
                ⟨w5.heap.size, 0, none⟩ 1 1 [.int .i64 M.place, .bool M.reached, .slice p1 M.lo.length q1, .slice p2 M.st.length q2] (by rfl) (by rfl) (World.news_of_block (cs := #[.int .i64 M.place, .bool M.reached, .slice p1 M.lo.length q1, .slice p2 M.st.length q2]) (t := 95) (fr := (0, 0)) (heap_alloc_new w5 _)) (by simp [Value.oneCell'])
                (by omega) (by unfold maxLen; omega) (by omega) (by simp; omega) (w5.heap.size + 1) (by simp) ?_; intro gg gcap w6 hown6 hgrow6 hat6 hlt6)))
        have HROW := hid hrow
        have HI1 := hid hi1
        have HI2 := hid hi2
        have HB5 := hid (below5 hb5)
        have HO6 := hid hown6
        have HG6 := hid hgrow6
        have HAT6 := hid hat6
        clear hrow hi1 hi2 hb5 hown6 hgrow6 hat6 y0 y1 p0 c0 c1 c2 c3 c4 c5 c6 c7 c8 c9 c10 c11 c12 c13 c14 hpt
        go_wp2_with fail
        go_roundg (l.length - (k + 1))
        case measure => omega
        case rel =>
          have hlt7 : ∀ g', u7.ownBlock = some g' → g' < wr.heap.size := fun g' hg' => (HROW.out.lt g' hg').2
          have hmk : k + 1 = ((mapsF l fs L).take (k + 1)).length := by rw [List.length_take, Nat.min_eq_left (by simp [mapsF]; omega)]
          refine ⟨k + 1, by omega, rfl, by go_num, ?_, ?_⟩
          · have hps : PtsIn (w5.alloc (.cells #[.int .i64 M.place, .bool M.reached, .slice p1 M.lo.length q1, .slice p2 M.st.length q2] 95)) (fun g' => w2.heap.size + 1 ≤ g' ∧ g' < (w5.alloc (.cells #[.int .i64 M.place, .bool M.reached, .slice p1 M.lo.length q1, .slice p2 M.st.length q2] 95)).heap.size ∧ u7.ownBlock ≠ some g') cs ((mapsF l fs L).take k) :=
              PtsIn.keep (fun g' hg' => ⟨⟨hg'.1, by rw [alloc_size]; omega, hg'.2.2⟩, (Below.heap_alloc _ _ _ (by omega)).trans (HB5.out.block g' hg'.2.1)⟩) _ _ HPTS.out
            have hk1 : ∀ (v : Value) (x : List Nat), IntsAt w5 (fun g' => wr.heap.size + 1 ≤ g' ∧ g' < w5.heap.size) v x → IntsAt (w5.alloc (.cells #[.int .i64 M.place, .bool M.reached, .slice p1 M.lo.length q1, .slice p2 M.st.length q2] 95)) (fun g' => w2.heap.size + 1 ≤ g' ∧ g' < (w5.alloc (.cells #[.int .i64 M.place, .bool M.reached, .slice p1 M.lo.length q1, .slice p2 M.st.length q2] 95)).heap.size ∧ u7.ownBlock ≠ some g') v x := fun v x h =>
              h.keep (fun g' hg' => ⟨⟨by omega, by rw [alloc_size]; omega, fun e => by have := hlt7 g' e; omega⟩, Below.heap_alloc _ _ _ hg'.2⟩)
            have := OwnPts.push (m := M) (by rw [List.length_take, Nat.min_eq_left (by simp [mapsF]; omega)]) hps (hk1 _ _ (by simpa using HI1.out)) (hk1 _ _ (by simpa using HI2.out)) HO6.out HG6.out (by rw [alloc_size]; exact HAT6.out)
            rw [← HNX.out, ← hmk] at this
            exact this
          · have h1 : Below (w2.heap.size + 1) (w2.alloc (.cells #[.int .i64 L, .slice (some ⟨g, 0, none⟩) l.length cap] 80)) w5 := HBEL.out.trans (HB5.out.mono hz2')
            exact (h1.alloc (by omega) _).grown HG6.out (by rw [alloc_size]; omega) (fun k hk => (HROW.out.lt k hk).1)
      · have d1 : ¬ (k : Int) < (l.length : Int) := by omega
        have hkl : k = l.length := by omega
        clear hbel hown
        go_wp2_with fail
        refine bodyPost_ret (v := .tuple #[u7, .int .i64 0]) (by simp [results, Tryd.results13, go_sem]) rfl ⟨HB.out.trans ((box_below (Nat.le_refl _) HBEL.out).mono hz), .inr ⟨u7, fs, rfl, HLD.out.err, HLD.out.inv, HLD.out.still, ?_⟩⟩
        have := HOWN.out
        rw [hkl, List.take_of_length_le (by simp [mapsF]; omega)] at this
        rw [HL.out, HLL.out]
        exact this.mono (by omega)
end Go.Proofs.YtdmdpindonghdaaDoor
namespace Go.Proofs.YtdmdpindonghdaaDoor
open Go.RowKit
theorem kind_any (c : Nat) (w : World) : Calls Tryd.prog 68 #[.int .u8 c] w fun x w' => x = .returned (.int .i64 (kindN c : Nat)) ∧ w' = w := by
  by_cases h : c = 114
  · have h' : ((c : Int) == 114) = true := by simp; omega
    have HE : Hid (kindN c = 1) := hid (by simp [kindN, h])
    clear h
    go_enter Tryd.func68, Tryd.ntmps68
    go_wp2
    go_ret
    exact ⟨ret_int (by rw [HE.out]; rfl), rfl⟩
  · have h' : ((c : Int) == 114) = false := by simp; omega
    have HE : Hid (kindN c = 0) := hid (by simp [kindN, h])
    clear h
    go_enter Tryd.func68, Tryd.ntmps68
    go_wp2
    go_ret
    exact ⟨ret_int (by rw [HE.out]; rfl), rfl⟩
def codes (b : ByteArray) : List Nat := (tl b).map code8
theorem codes_len (b : ByteArray) : (codes b).length = b.size := by simp [codes, tl_len]
theorem codes_get {b : ByteArray} {n : Nat} (h : n < b.size) : (codes b).getD n 0 = kindN (byteAt b n) := by
  obtain ⟨c, c1, c2, _⟩ := tl_get h
  unfold codes
  rw [List.getD_eq_getElem?_getD, List.getElem?_map, c1, c2]
  rfl
/-- What is told so far: reached, locals, stack. -/
structure Ac where
  r : Bool
  lo : List Nat
  st : List Nat
def baseA (a : Ac) (p : Pt) : List Nat × List Nat := if a.r = true then (a.lo, a.st) else (codes p.lo, codes p.st)
def toldS (i : Nat) (a : Ac) (p : Pt) : Ac := if p.at_ = i then ⟨true, List.zipWith joinN (baseA a p).1 (codes p.lo), (baseA a p).2⟩ else a
def toldF (i : Nat) (all : List Pt) : Ac := all.foldl (toldS i) ⟨false, [], []⟩
theorem toldF_snoc (i : Nat) (all : List Pt) (k : Nat) (h : k < all.length) : toldF i (all.take (k + 1)) = toldS i (toldF i (all.take k)) all[k] := by
  unfold toldF
  rw [List.take_succ_eq_append_getElem h, List.foldl_append]; rfl
theorem toldF_len {L : Nat} (i : Nat) (all : List Pt) (h : ∀ p ∈ all, p.lo.size = L) : (toldF i all).r = true → (toldF i all).lo.length = L := by
  suffices hs : ∀ (all : List Pt) (a : Ac), (∀ p ∈ all, p.lo.size = L) → (a.r = true → a.lo.length = L) → (all.foldl (toldS i) a).r = true → (all.foldl (toldS i) a).lo.length = L from hs all _ h (by simp)
  intro all
  induction all with
  | nil => intro a _ ha; exact ha
  | cons p r ih =>
    intro a hp ha
    simp only [List.foldl_cons]
    refine ih _ (fun q hq => hp q (by simp [hq])) ?_
    have hpL := hp p (by simp)
    unfold toldS
    by_cases e : p.at_ = i
    · rw [if_pos e]
      intro _
      simp only [List.length_zipWith, codes_len, hpL]
      unfold baseA
      by_cases hr : a.r = true
      · rw [if_pos hr, ha hr]; simp
      · rw [if_neg hr]; simp [codes_len, hpL]
    · rw [if_neg e]; exact ha
/-- The point that is being told lies in block b. -/
def OutAt (w : World) (b : Nat) (place : Nat) (r : Bool) (v1 v2 : Value) : Prop := w.heap[b]? = some (.cells #[.int .i64 place, .bool r, v1, v2] 95)
structure ToldAt (w w' : World) (place : Nat) (a : Ac) (v1 v2 : Value) : Prop where
  below : Below w.heap.size w w'
  res : OutAt w' w.heap.size 0 false (.slice none 0 0) (.slice none 0 0)
  out : OutAt w' (w.heap.size + 1) place a.r v1 v2
  o1 : w'.ownsRow (w.heap.size + 2) 3 1 v1 a.lo.length (a.lo.map numV)
  o2 : w'.ownsRow (w.heap.size + 2) 3 1 v2 a.st.length (a.st.map numV)
  ne : ∀ g, v1.ownBlock = some g → v2.ownBlock ≠ some g
structure InAt (w w' : World) (B place : Nat) (a : Ac) (v1 v2 : Value) (p : Pt) : Prop extends ToldAt w w' place a v1 v2 where
  box : w'.heap[B]? = some (.cells #[.int .i64 p.at_, .string p.lo, .string p.st] 132)
  b1 : v1.ownBlock ≠ some B
  b2 : v2.ownBlock ≠ some B
  hB : w.heap.size + 2 ≤ B
theorem owns_keep {w w' : World} {base e size n : Nat} {v : Value} {xs : List Value} (h : w.ownsRow base e size v n xs) (hk : ∀ g, v.ownBlock = some g → w'.heap[g]? = w.heap[g]?) : w'.ownsRow base e size v n xs := by
  refine ⟨h.1, ?_⟩
  rcases h.2 with h2 | ⟨g, cap, cur, hv, hg, hh, r⟩
  · exact .inl h2
  · exact .inr ⟨g, cap, cur, hv, hg, by rw [hk g (by rw [hv]; rfl)]; exact hh, r⟩
/-- Nothing that is asked has turned. -/
theorem ToldAt.same {w w1 w2 : World} {place : Nat} {a : Ac} {v1 v2 : Value} (h : ToldAt w w1 place a v1 v2) (hb : Below w1.heap.size w1 w2) : ToldAt w w2 place a v1 v2 := by
  have hz := h.below.size
  have ho : w.heap.size + 1 < w1.heap.size := (Array.getElem?_eq_some_iff.1 h.out).1
  exact ⟨h.below.trans (hb.mono hz), (hb.block _ (by omega)).trans h.res, (hb.block _ ho).trans h.out, owns_keep h.o1 (fun g hg => hb.block g (h.o1.lt g hg).2), owns_keep h.o2 (fun g hg => hb.block g (h.o2.lt g hg).2), h.ne⟩
theorem InAt.start {w w1 : World} {place : Nat} {a : Ac} {v1 v2 : Value} (h : ToldAt w w1 place a v1 v2) (p : Pt) : InAt w (w1.alloc (.cells #[.int .i64 p.at_, .string p.lo, .string p.st] 132)) w1.heap.size place a v1 v2 p := by
  have ho : w.heap.size + 1 < w1.heap.size := (Array.getElem?_eq_some_iff.1 h.out).1
  exact ⟨h.same ((Below.refl _ _).alloc (Nat.le_refl _) _), heap_alloc_new _ _, fun e => by have := (h.o1.lt _ e).2; omega, fun e => by have := (h.o2.lt _ e).2; omega, by omega⟩
theorem InAt.same {w w1 w2 : World} {B place : Nat} {a : Ac} {v1 v2 : Value} {p : Pt} (h : InAt w w1 B place a v1 v2 p) (hb : Below w1.heap.size w1 w2) : InAt w w2 B place a v1 v2 p :=
  ⟨h.toToldAt.same hb, (hb.block _ (Array.getElem?_eq_some_iff.1 h.box).1).trans h.box, h.b1, h.b2, h.hB⟩
theorem out_set {w : World} {b place j : Nat} {r : Bool} {v1 v2 u : Value} (h : OutAt w b place r v1 v2) : (w.setCell ⟨b, j, none⟩ u).heap[b]? = some (.cells ((#[.int .i64 place, .bool r, v1, v2] : Array Value).setIfInBounds j u) 95) := setCell_row j u h
/-- The locals have grown. -/
theorem InAt.push1 {w W w3 : World} {B place n c gg cap : Nat} {r : Bool} {x y : List Nat} {v1 v2 : Value} {p : Pt} (h : InAt w W B place ⟨r, x, y⟩ v1 v2 p) (hn : n = x.length)
    (hown : w3.ownsRow (w.heap.size + 2) 3 1 (.slice (some ⟨gg, 0, none⟩) (n + 1) cap) (n + 1) (x.map numV ++ [.int .i64 c])) (hgrow : W.grownBy w3 v1.ownBlock) (hat : v1.ownBlock = some gg ∨ gg = W.heap.size) :
    InAt w (w3.setCell ⟨w.heap.size + 1, 2, none⟩ (.slice (some ⟨gg, 0, none⟩) (n + 1) cap)) B place ⟨r, x ++ [c], y⟩ (.slice (some ⟨gg, 0, none⟩) (n + 1) cap) v2 p := by
  subst hn
  have ho : w.heap.size + 1 < W.heap.size := (Array.getElem?_eq_some_iff.1 h.out).1
  have hBz : B < W.heap.size := (Array.getElem?_eq_some_iff.1 h.box).1
  have far : ∀ k, k < W.heap.size → k < w.heap.size + 2 → some k ≠ v1.ownBlock := fun k _ hk e => by have := (h.o1.lt k e.symm).1; omega
  have hO3 : OutAt w3 (w.heap.size + 1) place r v1 v2 := (hgrow.block _ ho (far _ ho (by omega))).trans h.out
  have hset : ∀ k, k ≠ w.heap.size + 1 → (w3.setCell ⟨w.heap.size + 1, 2, none⟩ (.slice (some ⟨gg, 0, none⟩) (x.length + 1) cap)).heap[k]? = w3.heap[k]? := fun k hk => Below.heap_setCell _ _ _ _ hk
  have hgg : w.heap.size + 2 ≤ gg := (hown.lt gg rfl).1
  have hsz := hgrow.size
  refine ⟨⟨?_, ?_, ?_, ?_, ?_, ?_⟩, ?_, ?_, h.b2, h.hB⟩
  · refine (h.below.trans ⟨hgrow.os, hgrow.tape, hgrow.output, hgrow.size, fun k hk => hgrow.block k (by omega) (far k (by omega) (by omega))⟩).setCell (by simp) _
  · exact (hset _ (by omega)).trans ((hgrow.block _ (by omega) (far _ (by omega) (by omega))).trans h.res)
  · exact out_set hO3
  · rw [List.length_append, List.map_append]
    exact owns_keep hown (fun g hg => by
      have e : gg = g := by simpa [Value.ownBlock] using hg
      exact hset _ (by omega))
  · refine owns_keep h.o2 (fun g hg => ?_)
    have := h.o2.lt g hg
    rw [hset _ (by omega)]
    exact hgrow.block g this.2 (fun e => h.ne g e.symm hg)
  · intro g hg e
    have e2 : gg = g := by simpa [Value.ownBlock] using hg
    subst e2
    rcases hat with h1 | h1
    · exact h.ne _ h1 e
    · have := (h.o2.lt _ e).2; omega
  · rw [hset _ (by have := h.hB; omega)]
    exact (hgrow.block _ hBz (fun e => h.b1 e.symm)).trans h.box
  · intro e
    have e2 : gg = B := by simpa [Value.ownBlock] using e
    subst e2
    rcases hat with h1 | h1
    · exact h.b1 h1
    · omega
/-- The stack has grown. -/
theorem InAt.push2 {w W w3 : World} {B place n c gg cap : Nat} {r : Bool} {x y : List Nat} {v1 v2 : Value} {p : Pt} (h : InAt w W B place ⟨r, x, y⟩ v1 v2 p) (hn : n = y.length)
    (hown : w3.ownsRow (w.heap.size + 2) 3 1 (.slice (some ⟨gg, 0, none⟩) (n + 1) cap) (n + 1) (y.map numV ++ [.int .i64 c])) (hgrow : W.grownBy w3 v2.ownBlock) (hat : v2.ownBlock = some gg ∨ gg = W.heap.size) :
    InAt w (w3.setCell ⟨w.heap.size + 1, 3, none⟩ (.slice (some ⟨gg, 0, none⟩) (n + 1) cap)) B place ⟨r, x, y ++ [c]⟩ v1 (.slice (some ⟨gg, 0, none⟩) (n + 1) cap) p := by
  subst hn
  have ho : w.heap.size + 1 < W.heap.size := (Array.getElem?_eq_some_iff.1 h.out).1
  have hBz : B < W.heap.size := (Array.getElem?_eq_some_iff.1 h.box).1
  have far : ∀ k, k < W.heap.size → k < w.heap.size + 2 → some k ≠ v2.ownBlock := fun k _ hk e => by have := (h.o2.lt k e.symm).1; omega
  have hO3 : OutAt w3 (w.heap.size + 1) place r v1 v2 := (hgrow.block _ ho (far _ ho (by omega))).trans h.out
  have hset : ∀ k, k ≠ w.heap.size + 1 → (w3.setCell ⟨w.heap.size + 1, 3, none⟩ (.slice (some ⟨gg, 0, none⟩) (y.length + 1) cap)).heap[k]? = w3.heap[k]? := fun k hk => Below.heap_setCell _ _ _ _ hk
  have hgg : w.heap.size + 2 ≤ gg := (hown.lt gg rfl).1
  have hsz := hgrow.size
  refine ⟨⟨?_, ?_, ?_, ?_, ?_, ?_⟩, ?_, h.b1, ?_, h.hB⟩
  · refine (h.below.trans ⟨hgrow.os, hgrow.tape, hgrow.output, hgrow.size, fun k hk => hgrow.block k (by omega) (far k (by omega) (by omega))⟩).setCell (by simp) _
  · exact (hset _ (by omega)).trans ((hgrow.block _ (by omega) (far _ (by omega) (by omega))).trans h.res)
  · exact out_set hO3
  · refine owns_keep h.o1 (fun g hg => ?_)
    have := h.o1.lt g hg
    rw [hset _ (by omega)]
    exact hgrow.block g this.2 (fun e => h.ne g hg e.symm)
  · rw [List.length_append, List.map_append]
    exact owns_keep hown (fun g hg => by
      have e : gg = g := by simpa [Value.ownBlock] using hg
      exact hset _ (by omega))
  · intro g hg e
    have e2 : gg = g := by simpa [Value.ownBlock] using e
    subst e2
    rcases hat with h1 | h1
    · exact h.ne _ hg h1
    · have := (h.o1.lt _ hg).2; omega
  · rw [hset _ (by have := h.hB; omega)]
    exact (hgrow.block _ hBz (fun e => h.b2 e.symm)).trans h.box
  · intro e
    have e2 : gg = B := by simpa [Value.ownBlock] using e
    subst e2
    rcases hat with h1 | h1
    · exact h.b2 h1
    · omega
/-- The point is reached. -/
theorem InAt.mark {w W : World} {B place : Nat} {r : Bool} {x y : List Nat} {v1 v2 : Value} {p : Pt} (h : InAt w W B place ⟨r, x, y⟩ v1 v2 p) : InAt w (W.setCell ⟨w.heap.size + 1, 1, none⟩ (.bool true)) B place ⟨true, x, y⟩ v1 v2 p := by
  have hset : ∀ k, k ≠ w.heap.size + 1 → (W.setCell ⟨w.heap.size + 1, 1, none⟩ (.bool true)).heap[k]? = W.heap[k]? := fun k hk => Below.heap_setCell _ _ _ _ hk
  have hB := h.hB
  exact ⟨⟨h.below.setCell (by simp) _, (hset _ (by omega)).trans h.res, out_set h.out, owns_keep h.o1 (fun g hg => hset _ (by have := (h.o1.lt g hg).1; omega)), owns_keep h.o2 (fun g hg => hset _ (by have := (h.o2.lt g hg).1; omega)), h.ne⟩, (hset _ (by omega)).trans h.box, h.b1, h.b2, hB⟩
theorem owns_put {w : World} {base N n c : Nat} {g cap : Nat} {x : List Nat} (h : w.ownsRow base 3 1 (.slice (some ⟨g, 0, none⟩) N cap) N (x.map numV)) : (w.setCell ⟨g, n, none⟩ (numV c)).ownsRow base 3 1 (.slice (some ⟨g, 0, none⟩) N cap) N ((x.set n c).map numV) := by
  have h1 := h.1
  refine ⟨by simpa using h1, ?_⟩
  rcases h.2 with ⟨h2, _⟩ | ⟨g', cap', cur, hv, hg, hh, r1, r2, r3, r4⟩
  · cases h2
  · cases hv
    refine .inr ⟨g, cap, cur.setIfInBounds n (numV c), rfl, hg, setCell_row n _ hh, r1, r2, by simpa using r3, ?_⟩
    rw [Array.toList_setIfInBounds, List.take_set, r4, List.map_set]
/-- One of the locals becomes Mixed. -/
theorem InAt.mixed {w W : World} {B place n g cap : Nat} {r : Bool} {x y : List Nat} {N : Nat} {v2 : Value} {p : Pt} (h : InAt w W B place ⟨r, x, y⟩ (.slice (some ⟨g, 0, none⟩) N cap) v2 p) (c : Nat) :
    InAt w (W.setCell ⟨g, n, none⟩ (.int .i64 c)) B place ⟨r, x.set n c, y⟩ (.slice (some ⟨g, 0, none⟩) N cap) v2 p := by
  have hset : ∀ k, k ≠ g → (W.setCell ⟨g, n, none⟩ (.int .i64 c)).heap[k]? = W.heap[k]? := fun k hk => Below.heap_setCell _ _ _ _ hk
  have hg := h.o1.lt g rfl
  have hN : N = x.length := by
    obtain ⟨p1, c1, e1⟩ := owns_slice h.o1
    cases e1; rfl
  subst hN
  refine ⟨⟨h.below.setCell (by simp; omega) _, (hset _ (by omega)).trans h.res, (hset _ (by omega)).trans h.out, ?_, owns_keep h.o2 (fun g' hg' => hset _ (fun e => h.ne g rfl (by rw [← e]; exact hg'))), h.ne⟩, (hset _ (fun e => h.b1 (by rw [e]; rfl))).trans h.box, h.b1, h.b2, h.hB⟩
  rw [List.length_set]
  exact owns_put h.o1
end Go.Proofs.YtdmdpindonghdaaDoor
namespace Go.Proofs.YtdmdpindonghdaaDoor
open Go.RowKit
theorem toldF_none (i : Nat) (all : List Pt) : (toldF i all).r = false → (toldF i all).lo = [] ∧ (toldF i all).st = [] := by
  suffices hs : ∀ (all : List Pt) (a : Ac), (a.r = false → a.lo = [] ∧ a.st = []) → (all.foldl (toldS i) a).r = false → (all.foldl (toldS i) a).lo = [] ∧ (all.foldl (toldS i) a).st = [] from hs all _ (fun _ => ⟨rfl, rfl⟩)
  intro all
  induction all with
  | nil => intro a ha; exact ha
  | cons p r ih =>
    intro a ha
    simp only [List.foldl_cons]
    refine ih _ ?_
    unfold toldS
    by_cases e : p.at_ = i
    · rw [if_pos e]; intro h; cases h
    · rw [if_neg e]; exact ha
theorem cell6 {wr w6 : World} {o : Obj} {b : Nat} {row : Option Nat} (hgrow : (wr.alloc o).drew.grownBy w6 row) (hz : b < wr.heap.size) (hne : some b ≠ row) (j : Nat) : w6.cell? ⟨b, j, none⟩ = wr.cell? ⟨b, j, none⟩ ∧ w6.frozen? ⟨b, j, none⟩ = wr.frozen? ⟨b, j, none⟩ := by
  have h : w6.heap[b]? = wr.heap[b]? := (hgrow.block b (by simp [World.drew]; omega) hne).trans (Below.heap_alloc wr o b hz)
  exact ⟨World.cell?_of_block (a := ⟨b, j, none⟩) h, World.frozen?_of_block (a := ⟨b, j, none⟩) h⟩
def mixL (X C : List Nat) (n : Nat) : List Nat := (List.zipWith joinN X C).take n ++ X.drop n
theorem mix_zero (X C : List Nat) : mixL X C 0 = X := by simp [mixL]
theorem mix_end {X C : List Nat} {n : Nat} (hX : X.length = n) (hC : C.length = n) : mixL X C n = List.zipWith joinN X C := by
  unfold mixL
  rw [List.take_of_length_le (by simp; omega), List.drop_of_length_le (by omega), List.append_nil]
theorem mix_len {X C : List Nat} {n N : Nat} (hX : X.length = N) (hC : C.length = N) (h : n ≤ N) : (mixL X C n).length = N := by
  simp [mixL, hX, hC]; omega
theorem mix_get {X C : List Nat} {n N : Nat} (hX : X.length = N) (hC : C.length = N) (h : n < N) : (mixL X C n)[n]? = some (X.getD n 0) := by
  unfold mixL
  rw [List.getElem?_append_right (by simp; omega), List.length_take, List.length_zipWith, hX, hC, Nat.min_self, Nat.min_eq_left (by omega), Nat.sub_self, List.getElem?_drop, Nat.add_zero, List.getD_eq_getElem?_getD, List.getElem?_eq_getElem (by omega)]
  rfl
theorem mix_next {X C : List Nat} {n N : Nat} (hX : X.length = N) (hC : C.length = N) (h : n < N) : mixL X C (n + 1) = (mixL X C n).set n (joinN (X.getD n 0) (C.getD n 0)) := by
  have h1 : n < (List.zipWith joinN X C).length := by simp; omega
  have h2 : n < X.length := by omega
  have h3 : n < C.length := by omega
  unfold mixL
  rw [List.take_succ_eq_append_getElem h1, List.drop_eq_getElem_cons h2, List.set_append_right _ _ (by simp; omega), List.append_assoc]
  simp only [List.length_take, List.length_zipWith, hX, hC, Nat.min_self, Nat.min_eq_left (Nat.le_of_lt h), Nat.sub_self, List.set_cons_zero, List.getElem_zipWith]
  simp [List.getD_eq_getElem?_getD, List.getElem?_eq_getElem h2, List.getElem?_eq_getElem h3]
theorem mix_eq {X C : List Nat} {n N : Nat} (hX : X.length = N) (hC : C.length = N) (h : n < N) (e : X.getD n 0 = C.getD n 0) : mixL X C (n + 1) = mixL X C n := by
  rw [mix_next hX hC h, joinN_eq e]
  have := mix_get hX hC h
  obtain ⟨h1, h2⟩ := List.getElem?_eq_some_iff.1 this
  rw [← h2, List.set_getElem_self]
theorem mix_ne {X C : List Nat} {n N : Nat} (hX : X.length = N) (hC : C.length = N) (h : n < N) (e : ¬ X.getD n 0 = C.getD n 0) : mixL X C (n + 1) = (mixL X C n).set n 2 := by
  rw [mix_next hX hC h, joinN_ne e]
theorem owns_some {w : World} {base e n : Nat} {v : Value} {xs : List Value} (h : w.ownsRow base e 1 v n xs) (hn : 0 < n) : ∃ g cap, v = .slice (some ⟨g, 0, none⟩) n cap := by
  rcases h.2 with ⟨_, h2⟩ | ⟨g, cap, cur, hv, _⟩
  · omega
  · exact ⟨g, cap, hv⟩
theorem ToldAt.mark {w W : World} {place : Nat} {r : Bool} {x y : List Nat} {v1 v2 : Value} (h : ToldAt w W place ⟨r, x, y⟩ v1 v2) : ToldAt w (W.setCell ⟨w.heap.size + 1, 1, none⟩ (.bool true)) place ⟨true, x, y⟩ v1 v2 := by
  have hset : ∀ k, k ≠ w.heap.size + 1 → (W.setCell ⟨w.heap.size + 1, 1, none⟩ (.bool true)).heap[k]? = W.heap[k]? := fun k hk => Below.heap_setCell _ _ _ _ hk
  exact ⟨h.below.setCell (by simp) _, (hset _ (by omega)).trans h.res, out_set h.out, owns_keep h.o1 (fun g hg => hset _ (by have := (h.o1.lt g hg).1; omega)), owns_keep h.o2 (fun g hg => hset _ (by have := (h.o2.lt g hg).1; omega)), h.ne⟩
theorem told_start (w : World) (pl i : Nat) : ToldAt w ((w.alloc (.cells #[.int .i64 0, .bool false, .slice none 0 0, .slice none 0 0] 95)).alloc (.cells #[.int .i64 pl, .bool false, .slice none 0 0, .slice none 0 0] 95)) pl (toldF i []) (.slice none 0 0) (.slice none 0 0) :=
  ⟨((Below.refl _ _).alloc (Nat.le_refl _) _).alloc (by simp) _, heap_two_first w _ _, heap_two_new w _ _, World.ownsRow_nil _ _ _ _, World.ownsRow_nil _ _ _ _, fun _ h => by cases h⟩
theorem out_cells {w : World} {b place : Nat} {r : Bool} {v1 v2 : Value} (h : OutAt w b place r v1 v2) : w.cell? ⟨b, 0, none⟩ = some (.int .i64 place) ∧ w.cell? ⟨b, 1, none⟩ = some (.bool r) ∧ w.cell? ⟨b, 2, none⟩ = some v1 ∧ w.cell? ⟨b, 3, none⟩ = some v2 := by
  refine ⟨?_, ?_, ?_, ?_⟩
  · rw [cell_of_row w b 0 _ _ _ h]; rfl
  · rw [cell_of_row w b 1 _ _ _ h]; rfl
  · rw [cell_of_row w b 2 _ _ _ h]; rfl
  · rw [cell_of_row w b 3 _ _ _ h]; rfl
theorem box_cells3 {w : World} {b : Nat} {p : Pt} (h : w.heap[b]? = some (.cells #[.int .i64 p.at_, .string p.lo, .string p.st] 132)) : w.cell? ⟨b, 0, none⟩ = some (.int .i64 p.at_) ∧ w.cell? ⟨b, 1, none⟩ = some (.string p.lo) ∧ w.cell? ⟨b, 2, none⟩ = some (.string p.st) := by
  refine ⟨?_, ?_, ?_⟩
  · rw [cell_of_row w b 0 _ _ _ h]; rfl
  · rw [cell_of_row w b 1 _ _ _ h]; rfl
  · rw [cell_of_row w b 2 _ _ _ h]; rfl
set_option maxRecDepth 100000 in
set_option maxHeartbeats 1000000 in
theorem told_any (l : List Ins) (all : List Pt) (i L gi ci g ca : Nat) (w : World) (hins : InsAt w gi l) (hgi : gi < w.heap.size) (hpt : PtAt w g all) (hg : g < w.heap.size) (hi : i < l.length)
    (hlo : ∀ p ∈ all, p.lo.size = L) (hL : L ≤ 4) (hst : ∀ p ∈ all, p.st.size ≤ 8) (hln : all.length ≤ 10000) :
    Calls Tryd.prog 42 #[.slice (some ⟨gi, 0, none⟩) l.length ci, .slice (some ⟨g, 0, none⟩) all.length ca, .int .i64 i] w (PointPost ⟨l[i].place, (toldF i all).r, (toldF i all).lo, (toldF i all).st⟩ w) := by
  obtain ⟨i0, hi0, hz0, hz1, hz2⟩ := info_parts intInfo
  obtain ⟨_, _, q2⟩ := hins i hi
  have i1 : (0 : Int) ≤ (i : Int) := by omega
  have i2 : (i : Int) < (l.length : Int) := by omega
  generalize l[i].place = pl at *
  have HPT := hid hpt
  have HLO := hid hlo
  have HST := hid hst
  clear hins hpt hlo hst
  go_enter Tryd.func42, Tryd.ntmps42
  go_wp2_with fail
  go_loopg [8] all.length (fun gk x w' => ∃ (k : Nat) (v1 v2 : Value), k ≤ all.length ∧ gk = all.length - k ∧ x = .int .i64 k ∧ ToldAt w w' pl (toldF i (all.take k)) v1 v2)
  case atStart => exact ⟨0, .slice none 0 0, .slice none 0 0, by omega, by omega, rfl, told_start w pl i⟩
  case round =>
    obtain ⟨k, v1, v2, hk, hgk, rfl, hT⟩ := hrel
    rcases Nat.lt_or_ge k all.length with hlt | hge
    · have d1 : (k : Int) < (all.length : Int) := by omega
      have d0 : (0 : Int) ≤ (k : Int) := by omega
      obtain ⟨p0, p1, p2⟩ := HPT.out k hlt
      have HSN := hid (toldF_snoc i all k hlt)
      have HN := hid (toldF_none i (all.take k))
      have hpL := HLO.out all[k] (List.getElem_mem hlt)
      have hpS := HST.out all[k] (List.getElem_mem hlt)
      have hbel := hT.below
      rw [← hbel.cell (p := ⟨g, k * 3, none⟩) hg] at p0
      rw [← hbel.cell (p := ⟨g, k * 3 + 1, none⟩) hg] at p1
      rw [← hbel.cell (p := ⟨g, k * 3 + 2, none⟩) hg] at p2
      have hlen : (toldF i (all.take k)).r = true → (toldF i (all.take k)).lo.length = L := toldF_len i (all.take k) (fun p hp => HLO.out p (List.mem_of_mem_take hp))
      have HLN := hid hlen
      have hgz : g < wr.heap.size := Nat.lt_of_lt_of_le hg hbel.size
      have hIn := InAt.start hT all[k]
      generalize all[k] = p at *
      generalize toldF i (all.take k) = A at *
      have HIN := hid hIn
      have HTT := hid hT
      clear hIn hT hbel hlen q2
      by_cases ha : p.at_ = i
      · have ha' : (((p.at_ : Nat) : Int) != (i : Int)) = false := by simp; omega
        obtain ⟨r, alo, ast⟩ := A
        obtain ⟨o0, o1, o2, o3⟩ := out_cells HTT.out.out
        have hOz : w.heap.size + 1 < wr.heap.size := (Array.getElem?_eq_some_iff.1 HTT.out.out).1
        have hf1 := frozen_of_row wr (w.heap.size + 1) 1 _ _ HTT.out.out
        cases r
        · obtain ⟨e1, e2⟩ := HN.out rfl
          simp only at e1 e2
          subst e1
          subst e2
          have HAT := hid ha
          clear ha
          go_wp2_with fail
          generalize hBB : wr.heap.size = B at *
          have HBB := hid hBB
          clear hBB
          go_loopg [10] p.lo.size (fun gk2 x w' => ∃ (n : Nat) (u1 : Value), n ≤ p.lo.size ∧ gk2 = p.lo.size - n ∧ x = .int .i64 n ∧ InAt w w' B pl ⟨false, (codes p.lo).take n, []⟩ u1 v2 p)
          case atStart => exact ⟨0, v1, by omega, by omega, rfl, HIN.out⟩
          case round =>
            obtain ⟨n, u1, hn, hgk2, rfl, hI⟩ := hrel
            have HI := hid hI
            have hown := hI.o1
            simp only [List.length_take, codes_len] at hown
            rw [Nat.min_eq_left hn] at hown
            obtain ⟨o0', o1', o2', o3'⟩ := out_cells hI.out
            obtain ⟨b0, b1, b2⟩ := box_cells3 hI.box
            have hzz : w.heap.size + 2 ≤ wr.heap.size := by
              have h1 := (Array.getElem?_eq_some_iff.1 hI.out).1
              omega
            have fo := frozen_of_row wr (w.heap.size + 1) 2 _ _ hI.out
            have ne1 := World.new_ne wr ⟨w.heap.size + 1, 2, none⟩ o2'
            have ne2 := World.new_ne wr ⟨B, 1, none⟩ b1
            have hfar : some (w.heap.size + 1) ≠ u1.ownBlock := fun e => by
              have := (hown.lt _ e.symm).1
              omega
            clear hI
            rcases Nat.lt_or_ge n p.lo.size with hnl | hnl
            · have n0 : (0 : Int) ≤ (n : Int) := by omega
              have n1 : (n : Int) < (p.lo.size : Int) := by omega
              have e0 := byteAt_eq p.lo n hnl
              have hb2 := byteAt_lt p.lo n
              have hkd := hid (fun W => kind_any (byteAt p.lo n) W)
              have HCG := hid (codes_get hnl)
              have HTK := hid (take_snoc (l := codes p.lo) (k := n) (by rw [codes_len]; exact hnl))
              have HT1 : Hid ((codes p.lo).take (n + 1) = (codes p.lo).take n ++ [(codes p.lo).getD n 0]) := hid (by
                have h1 : n < (codes p.lo).length := by rw [codes_len]; exact hnl
                rw [List.take_succ_eq_append_getElem h1]
                simp [List.getD_eq_getElem?_getD, List.getElem?_eq_getElem h1])
              generalize byteAt p.lo n = c at *
              have a1 : (wr.alloc (.cells #[.int .i64 (kindN c : Nat)] 3)).cell? ⟨w.heap.size + 1, 2, none⟩ = some u1 := (World.cell?_alloc_past _ _ _ (by omega)).trans o2'
              go_upto_region 11 with fail
              go_region_law
                ((first
                  | (refine step_append_lies _ (by rfl) _ _ _ (by rfl) (w.heap.size + 2) 3 i0 _ 1 8 Tryd.underlying33 hi0 hz0 hz1 hz2 rfl (by omega) _ n (((codes p.lo).take n).map numV) (by rfl) ((hown.alloc _).drew)
                      ⟨wr.heap.size, 0, none⟩ 1 1 [.int .i64 (kindN c : Nat)] (by rfl) (by rfl) (World.news_of_block (cs := #[.int .i64 (kindN c : Nat)]) (t := 3) (fr := (0, 0)) (heap_alloc_new wr _)) (by simp [Value.oneCell'])
                      (by omega) (by unfold maxLen; omega) (by omega) (by simp; omega) (wr.heap.size + 1) (by simp) ?_; intro gg gcap w6 hown6 hgrow6 hat6 hlt6; obtain ⟨c6, f6⟩ := cell6 hgrow6 (b := w.heap.size + 1) (by omega) hfar 2; rw [o2'] at c6; rw [fo] at f6)
                  | (go_simp; go_at_call 68; refine (hkd.out _).mono ?_; intro x w9 hh; obtain ⟨hx9, hw9⟩ := hh; subst hx9; subst hw9; dsimp only)))
              all_goals
                have HO6 := hid hown6
                have HG6 := hid hgrow6
                have HA6 := hid hat6
                clear hown6 hgrow6 hat6 hown o0' o1' o2' o3' b0 b1 b2 fo a1 c6 f6 hkd p0 p1 p2 o0 o1 o2 o3
                go_wp2_with fail
                go_roundg (p.lo.size - (n + 1))
                case measure => omega
                case rel =>
                  refine ⟨n + 1, .slice (some ⟨gg, 0, none⟩) (n + 1) gcap, by omega, rfl, by go_num, ?_⟩
                  rw [HT1.out, HCG.out]
                  exact InAt.push1 (HI.out.same (((Below.refl _ _).alloc (Nat.le_refl _) _).drew)) (by rw [List.length_take, codes_len, Nat.min_eq_left hn]) HO6.out HG6.out (by simpa using HA6.out)
            · have n1 : ¬ (n : Int) < (p.lo.size : Int) := by omega
              have hnn : n = p.lo.size := by omega
              have HIA : Hid (InAt w wr B pl ⟨false, codes p.lo, []⟩ u1 v2 p) := hid (by
                have := HI.out
                rw [List.take_of_length_le (by rw [codes_len]; omega)] at this
                exact this)
              clear HI hown
              go_wp2_with fail
              go_loopg [11] p.st.size (fun gk2 x w' => ∃ (n : Nat) (u2 : Value), n ≤ p.st.size ∧ gk2 = p.st.size - n ∧ x = .int .i64 n ∧ InAt w w' B pl ⟨false, codes p.lo, (codes p.st).take n⟩ u1 u2 p)
              case atStart => exact ⟨0, v2, by omega, by omega, rfl, HIA.out⟩
              case round =>
                obtain ⟨n, u2, hn, hgk2, rfl, hI⟩ := hrel
                have HI := hid hI
                have hown := hI.o2
                simp only [List.length_take, codes_len] at hown
                rw [Nat.min_eq_left hn] at hown
                obtain ⟨o0', o1', o2', o3'⟩ := out_cells hI.out
                obtain ⟨b0, b1, b2⟩ := box_cells3 hI.box
                have hzz : w.heap.size + 2 ≤ wr.heap.size := by
                  have h1 := (Array.getElem?_eq_some_iff.1 hI.out).1
                  omega
                have fo := frozen_of_row wr (w.heap.size + 1) 3 _ _ hI.out
                have ne1 := World.new_ne wr ⟨w.heap.size + 1, 3, none⟩ o3'
                have ne2 := World.new_ne wr ⟨B, 2, none⟩ b2
                have hfar : some (w.heap.size + 1) ≠ u2.ownBlock := fun e => by
                  have := (hown.lt _ e.symm).1
                  omega
                clear hI
                rcases Nat.lt_or_ge n p.st.size with hnl | hnl
                · have n0 : (0 : Int) ≤ (n : Int) := by omega
                  have n1 : (n : Int) < (p.st.size : Int) := by omega
                  have e0 := byteAt_eq p.st n hnl
                  have hb2 := byteAt_lt p.st n
                  have hkd := hid (fun W => kind_any (byteAt p.st n) W)
                  have HCG := hid (codes_get hnl)
                  have HTK := hid (take_snoc (l := codes p.st) (k := n) (by rw [codes_len]; exact hnl))
                  have HT1 : Hid ((codes p.st).take (n + 1) = (codes p.st).take n ++ [(codes p.st).getD n 0]) := hid (by
                    have h1 : n < (codes p.st).length := by rw [codes_len]; exact hnl
                    rw [List.take_succ_eq_append_getElem h1]
                    simp [List.getD_eq_getElem?_getD, List.getElem?_eq_getElem h1])
                  generalize byteAt p.st n = c at *
                  have a1 : (wr.alloc (.cells #[.int .i64 (kindN c : Nat)] 3)).cell? ⟨w.heap.size + 1, 3, none⟩ = some u2 := (World.cell?_alloc_past _ _ _ (by omega)).trans o3'
                  go_upto_region 15 with fail
                  go_region_law
                    ((first
                      | (refine step_append_lies _ (by rfl) _ _ _ (by rfl) (w.heap.size + 2) 3 i0 _ 1 8 Tryd.underlying33 hi0 hz0 hz1 hz2 rfl (by omega) _ n (((codes p.st).take n).map numV) (by rfl) ((hown.alloc _).drew)
                          ⟨wr.heap.size, 0, none⟩ 1 1 [.int .i64 (kindN c : Nat)] (by rfl) (by rfl) (World.news_of_block (cs := #[.int .i64 (kindN c : Nat)]) (t := 3) (fr := (0, 0)) (heap_alloc_new wr _)) (by simp [Value.oneCell'])
                          (by omega) (by unfold maxLen; omega) (by omega) (by simp; omega) (wr.heap.size + 1) (by simp) ?_; intro gg gcap w6 hown6 hgrow6 hat6 hlt6; obtain ⟨c6, f6⟩ := cell6 hgrow6 (b := w.heap.size + 1) (by omega) hfar 3; rw [o3'] at c6; rw [fo] at f6)
                      | (go_simp; go_at_call 68; refine (hkd.out _).mono ?_; intro x w9 hh; obtain ⟨hx9, hw9⟩ := hh; subst hx9; subst hw9; dsimp only)))
                  all_goals
                    have HO6 := hid hown6
                    have HG6 := hid hgrow6
                    have HA6 := hid hat6
                    clear hown6 hgrow6 hat6 hown o0' o1' o3' o2' b0 b2 b1 fo a1 c6 f6 hkd p0 p1 p2 o0 o1 o2 o3
                    go_wp2_with fail
                    go_roundg (p.st.size - (n + 1))
                    case measure => omega
                    case rel =>
                      refine ⟨n + 1, .slice (some ⟨gg, 0, none⟩) (n + 1) gcap, by omega, rfl, by go_num, ?_⟩
                      rw [HT1.out, HCG.out]
                      exact InAt.push2 (HI.out.same (((Below.refl _ _).alloc (Nat.le_refl _) _).drew)) (by rw [List.length_take, codes_len, Nat.min_eq_left hn]) HO6.out HG6.out (by simpa using HA6.out)
                · have n1 : ¬ (n : Int) < (p.st.size : Int) := by omega
                  have HIB : Hid (InAt w wr B pl ⟨false, codes p.lo, codes p.st⟩ u1 u2 p) := hid (by
                    have := HI.out
                    rw [List.take_of_length_le (by rw [codes_len]; omega)] at this
                    exact this)
                  have HMK := hid (HIB.out.mark)
                  have f1' := frozen_of_row wr (w.heap.size + 1) 1 _ _ HIB.out.out
                  have HX := hid (codes_len p.lo)
                  have HS : Hid (toldF i (all.take (k + 1)) = ⟨true, List.zipWith joinN (codes p.lo) (codes p.lo), codes p.st⟩) := hid (by rw [HSN.out]; unfold toldS; rw [if_pos HAT.out]; rfl)
                  clear HI hown HN HLN
                  go_wp2_with fail
                  go_loopg [12] p.lo.size (fun gk2 x w' => ∃ (n : Nat), n ≤ p.lo.size ∧ gk2 = p.lo.size - n ∧ x = .int .i64 n ∧ InAt w w' B pl ⟨true, mixL (codes p.lo) (codes p.lo) n, codes p.st⟩ u1 u2 p)
                  case atStart => exact ⟨0, by omega, by omega, rfl, by rw [mix_zero]; exact HMK.out⟩
                  case round =>
                    obtain ⟨n, hn, hgk2, rfl, hI⟩ := hrel
                    obtain ⟨o0', o1', o2', o3'⟩ := out_cells hI.out
                    obtain ⟨b0, b1, b2⟩ := box_cells3 hI.box
                    have HI := hid hI
                    rcases Nat.lt_or_ge n p.lo.size with hnl | hnl
                    · have n0 : (0 : Int) ≤ (n : Int) := by omega
                      have n1 : (n : Int) < (p.lo.size : Int) := by omega
                      have hml := mix_len HX.out (codes_len p.lo) hn
                      have hown := hI.o1
                      simp only [hml] at hown
                      obtain ⟨g1, cp1, hz1e⟩ := owns_some hown (by omega)
                      have hcell := hown.cells (g := g1) (by rw [hz1e]; rfl) n (numV ((codes p.lo).getD n 0)) (by rw [List.getElem?_map, mix_get HX.out (codes_len p.lo) hnl]; rfl)
                      rw [addr_add] at hcell
                      unfold numV at hcell
                      have hfz1 : wr.frozen? ⟨g1, n, none⟩ = false := World.ownsRow.frozenAt (hz1e ▸ hown) n
                      have HZE := hid hz1e
                      rw [hz1e] at o2'
                      have e0 := byteAt_eq p.lo n hnl
                      have hb2 := byteAt_lt p.lo n
                      have hkd := hid (fun W => kind_any (byteAt p.lo n) W)
                      have HCG := hid (codes_get hnl)
                      have HEQ := hid (mix_eq (X := codes p.lo) (C := codes p.lo) HX.out (codes_len p.lo) hnl)
                      have HNE := hid (mix_ne (X := codes p.lo) (C := codes p.lo) HX.out (codes_len p.lo) hnl)
                      have n2 : (n : Int) < (p.lo.size : Int) := n1
                      clear hI hml hown hz1e
                      generalize byteAt p.lo n = c at *
                      generalize hxn : (codes p.lo).getD n 0 = xn at *
                      have hxc : xn = kindN c := HCG.out
                      have hx' : ((xn : Int) != ((kindN c : Nat) : Int)) = false := by simp; omega
                      have HM : Hid (mixL (codes p.lo) (codes p.lo) (n + 1) = mixL (codes p.lo) (codes p.lo) n) := hid (HEQ.out rfl)
                      clear hxc HEQ HNE hxn
                      go_upto_region 20 with fail
                      go_quiet ((go_at_call 68; refine Calls.quiet_of_same (hkd.out _)))
                      clear hkd o0' o1' o2' o3' b0 b1 b2 hcell
                      go_wp2_with fail
                      go_roundg (p.lo.size - (n + 1))
                      case measure => omega
                      case rel => exact ⟨n + 1, by omega, rfl, by go_num, by rw [HM.out]; exact HI.out.same (below_drewN (Below.refl _ _) _)⟩
                    · have n1 : ¬ (n : Int) < (p.lo.size : Int) := by omega
                      have hnn : n = p.lo.size := by omega
                      have HDN : Hid (ToldAt w wr pl (toldF i (all.take (k + 1))) u1 u2) := hid (by
                        have := hI.toToldAt
                        rw [hnn, mix_end HX.out (codes_len p.lo)] at this
                        rw [HS.out]
                        exact this)
                      clear hI HI
                      go_wp2_with fail
                      go_roundg (all.length - (k + 1))
                      case measure => omega
                      case rel => exact ⟨k + 1, u1, u2, by omega, rfl, by go_num, HDN.out⟩
        · have HX : Hid (alo.length = p.lo.size) := hid (by rw [hpL]; exact HLN.out rfl)
          have HMK := hid (InAt.start HTT.out.mark p)
          rw [show (wr.setCell ⟨w.heap.size + 1, 1, none⟩ (.bool true)).heap.size = wr.heap.size by simp [World.setCell]] at HMK
          have HS : Hid (toldF i (all.take (k + 1)) = ⟨true, List.zipWith joinN alo (codes p.lo), ast⟩) := hid (by rw [HSN.out]; unfold toldS; rw [if_pos ha]; rfl)
          clear ha HN HLN
          go_wp2_with fail
          generalize hBB : wr.heap.size = B at *
          have HBB := hid hBB
          clear hBB
          go_loopg [12] p.lo.size (fun gk2 x w' => ∃ (n : Nat), n ≤ p.lo.size ∧ gk2 = p.lo.size - n ∧ x = .int .i64 n ∧ InAt w w' B pl ⟨true, mixL alo (codes p.lo) n, ast⟩ v1 v2 p)
          case atStart => exact ⟨0, by omega, by omega, rfl, by rw [mix_zero]; exact HMK.out⟩
          case round =>
            obtain ⟨n, hn, hgk2, rfl, hI⟩ := hrel
            obtain ⟨o0', o1', o2', o3'⟩ := out_cells hI.out
            obtain ⟨b0, b1, b2⟩ := box_cells3 hI.box
            have HI := hid hI
            rcases Nat.lt_or_ge n p.lo.size with hnl | hnl
            · have n0 : (0 : Int) ≤ (n : Int) := by omega
              have n1 : (n : Int) < (p.lo.size : Int) := by omega
              have hml := mix_len HX.out (codes_len p.lo) hn
              have hown := hI.o1
              simp only [hml] at hown
              obtain ⟨g1, cp1, hz1e⟩ := owns_some hown (by omega)
              have hcell := hown.cells (g := g1) (by rw [hz1e]; rfl) n (numV (alo.getD n 0)) (by rw [List.getElem?_map, mix_get HX.out (codes_len p.lo) hnl]; rfl)
              rw [addr_add] at hcell
              unfold numV at hcell
              have hfz1 : wr.frozen? ⟨g1, n, none⟩ = false := World.ownsRow.frozenAt (hz1e ▸ hown) n
              have HZE := hid hz1e
              rw [hz1e] at o2'
              have e0 := byteAt_eq p.lo n hnl
              have hb2 := byteAt_lt p.lo n
              have hkd := hid (fun W => kind_any (byteAt p.lo n) W)
              have HCG := hid (codes_get hnl)
              have HEQ := hid (mix_eq (X := alo) (C := codes p.lo) HX.out (codes_len p.lo) hnl)
              have HNE := hid (mix_ne (X := alo) (C := codes p.lo) HX.out (codes_len p.lo) hnl)
              have n2 : (n : Int) < (p.lo.size : Int) := n1
              clear hI hml hown hz1e
              generalize byteAt p.lo n = c at *
              generalize alo.getD n 0 = xn at *
              by_cases hxc : xn = kindN c
              · have hx' : ((xn : Int) != ((kindN c : Nat) : Int)) = false := by simp; omega
                have HM : Hid (mixL alo (codes p.lo) (n + 1) = mixL alo (codes p.lo) n) := hid (HEQ.out (by rw [HCG.out]; exact hxc))
                clear hxc HEQ HNE
                go_upto_region 20 with fail
                go_quiet ((go_at_call 68; refine Calls.quiet_of_same (hkd.out _)))
                clear hkd o0' o1' o2' o3' b0 b1 b2 hcell
                go_wp2_with fail
                go_roundg (p.lo.size - (n + 1))
                case measure => omega
                case rel => exact ⟨n + 1, by omega, rfl, by go_num, by rw [HM.out]; exact HI.out.same (below_drewN (Below.refl _ _) _)⟩
              · have hx' : ((xn : Int) != ((kindN c : Nat) : Int)) = true := by simp; omega
                have HM : Hid (mixL alo (codes p.lo) (n + 1) = (mixL alo (codes p.lo) n).set n 2) := hid (HNE.out (by rw [HCG.out]; exact hxc))
                clear hxc HEQ HNE
                go_upto_region 20 with fail
                go_quiet ((go_at_call 68; refine Calls.quiet_of_same (hkd.out _)))
                go_wp2_with fail
                go_roundg (p.lo.size - (n + 1))
                case measure => omega
                case rel =>
                  refine ⟨n + 1, by omega, rfl, by go_num, ?_⟩
                  have h := HI.out
                  rw [HZE.out] at h ⊢
                  rw [HM.out]
                  exact (h.same (below_drewN (Below.refl _ _) _)).mixed 2
            · have n1 : ¬ (n : Int) < (p.lo.size : Int) := by omega
              have hnn : n = p.lo.size := by omega
              have HDN : Hid (ToldAt w wr pl (toldF i (all.take (k + 1))) v1 v2) := hid (by
                have := hI.toToldAt
                rw [hnn, mix_end HX.out (codes_len p.lo)] at this
                rw [HS.out]
                exact this)
              clear hI HI
              go_wp2_with fail
              go_roundg (all.length - (k + 1))
              case measure => omega
              case rel => exact ⟨k + 1, v1, v2, by omega, rfl, by go_num, HDN.out⟩
      · have ha' : (((p.at_ : Nat) : Int) != (i : Int)) = true := by simp; omega
        have HS : Hid (toldF i (all.take (k + 1)) = A) := hid (by rw [HSN.out]; unfold toldS; rw [if_neg ha])
        clear ha
        go_wp2_with fail
        go_roundg (all.length - (k + 1))
        case measure => omega
        case rel => exact ⟨k + 1, v1, v2, by omega, rfl, by go_num, by rw [HS.out]; exact HIN.out.toToldAt⟩
    · have d1 : ¬ (k : Int) < (all.length : Int) := by omega
      have hkl : k = all.length := by omega
      have hT2 := hT
      rw [hkl, List.take_length] at hT2
      have HTT := hid hT2
      obtain ⟨o0, o1, o2, o3⟩ := out_cells hT.out
      obtain ⟨r0, r1, r2, r3⟩ := out_cells hT.res
      have f0 := frozen_of_row wr w.heap.size 0 _ _ hT.res
      have f1 := frozen_of_row wr w.heap.size 1 _ _ hT.res
      have f2 := frozen_of_row wr w.heap.size 2 _ _ hT.res
      have f3 := frozen_of_row wr w.heap.size 3 _ _ hT.res
      obtain ⟨s1, c1, hv1⟩ := owns_slice hT.o1
      obtain ⟨s2, c2, hv2⟩ := owns_slice hT.o2
      rw [hkl, List.take_length] at o1 hv1 hv2
      generalize toldF i all = A at *
      generalize toldF i (all.take k) = A' at *
      obtain ⟨ar, alo, ast⟩ := A
      simp only at o1 hv1 hv2
      subst hv1
      subst hv2
      clear hT hT2
      have hOz : w.heap.size + 1 < wr.heap.size := (Array.getElem?_eq_some_iff.1 HTT.out.out).1
      go_wp2_with fail
      have hset : ∀ (u0 u1 u2 u3 : Value) j, j ≠ w.heap.size → ((((wr.setCell ⟨w.heap.size, 0, none⟩ u0).setCell ⟨w.heap.size, 1, none⟩ u1).setCell ⟨w.heap.size, 2, none⟩ u2).setCell ⟨w.heap.size, 3, none⟩ u3).heap[j]? = wr.heap[j]? := fun u0 u1 u2 u3 j hj => by
        rw [Below.heap_setCell _ _ _ _ hj, Below.heap_setCell _ _ _ _ hj, Below.heap_setCell _ _ _ _ hj, Below.heap_setCell _ _ _ _ hj]
      refine bodyPost_ret (v := .agg #[.int .i64 pl, .bool ar, .slice s1 alo.length c1, .slice s2 ast.length c2]) (by simp [results, Tryd.results42, go_sem, r0, r1, r2, r3]) rfl ⟨(((HTT.out.below.setCell (by simp) _).setCell (by simp) _).setCell (by simp) _).setCell (by simp) _, _, _, rfl, ?_, ?_⟩
      · refine (IntsAt.of_owns HTT.out.o1).keep (fun g' hg' => ⟨⟨by omega, by simp [World.setCell]; omega⟩, hset _ _ _ _ _ (by omega)⟩)
      · refine (IntsAt.of_owns HTT.out.o2).keep (fun g' hg' => ⟨⟨by omega, by simp [World.setCell]; omega⟩, hset _ _ _ _ _ (by omega)⟩)
end Go.Proofs.YtdmdpindonghdaaDoor
namespace Go.Proofs.YtdmdpindonghdaaDoor
open Go.RowKit
def toldM (l : List Ins) (all : List Pt) (i : Nat) : MP := ⟨(l.getD i ⟨0, 0, 0⟩).place, (toldF i all).r, (toldF i all).lo, (toldF i all).st⟩
def toldAll (l : List Ins) (all : List Pt) : List MP := (List.range l.length).map (toldM l all)
def RMapsPost (s : ByteArray) (w : World) (e : Ending) (w' : World) : Prop :=
  Below w.heap.size w w' ∧ ((∃ r : Nat, r ≠ 0 ∧ IsErr s r ∧ e = .returned (.tuple #[.slice none 0 0, .int .i64 r])) ∨
    (∃ v all, e = .returned (.tuple #[v, .int .i64 0]) ∧ errOf s = 0 ∧ WT (codeOf s) (byteAt s 1) ∧ (∀ p, Reach (codeOf s) (byteAt s 1) p ↔ p ∈ all) ∧ OwnPts w' w.heap.size v (toldAll (codeOf s) all)))
set_option maxRecDepth 100000 in
set_option maxHeartbeats 1000000 in
theorem refMaps_any (s : ByteArray) (w : World) (hs : s.size ≤ maxLen) (ht : TakesTab w) (htt : TypeTab w) :
    Calls Tryd.prog 14 #[.string s] w (RMapsPost s w) := by
  obtain ⟨i0, hi0, hz0, hz1, hz2⟩ := info_parts pointInfo
  have hc := hid (code_any s w hs ht)
  have HTT := hid htt
  clear hs ht htt
  go_enter Tryd.func14, Tryd.ntmps14
  go_wp2_with fail
  refine hc.out.mono ?_
  clear hc
  intro e w1 hp
  obtain ⟨hb, hp⟩ := hp
  have HB := hid hb
  have hz := hb.size
  rcases hp with ⟨he, rfl⟩ | ⟨he, g, cap, rfl, h1, h2, h3⟩
  · have he' : (((errOf s : Nat) : Int) != 0) = true := by simp; omega
    have HE := hid he
    clear he hb
    go_wp2_with fail
    exact bodyPost_ret (v := .tuple #[.slice none 0 0, .int .i64 (errOf s : Nat)]) (by simp [results, Tryd.results14, go_sem]) rfl ⟨HB.out, .inl ⟨errOf s, HE.out, .inl ⟨HE.out, rfl⟩, rfl⟩⟩
  · have HE := hid he
    have hw := hid (wf_of he)
    have hwy := hid (ways_any (codeOf s) (byteAt s 1) g cap w1 hw.out h3 h2 (HTT.out.below hb))
    have HIN := hid h3
    have h120 := hw.out.len
    have hL := hw.out.loc
    generalize hLL : byteAt s 1 = L at *
    have HLL := hid hLL
    generalize hl : codeOf s = l at *
    have HL := hid hl
    clear he hb h3 hLL hl
    go_wp2_with fail
    refine hwy.out.mono ?_
    clear hwy
    intro e w2 hp
    obtain ⟨hb2, hp⟩ := hp
    have HBB : Hid (Below w.heap.size w w2) := hid (HB.out.trans (hb2.mono hz))
    have hz2b := hb2.size
    rcases hp with ⟨hwt, g2, cap2, all, rfl, hg2, hg3, hpt, hbase, hall⟩ | ⟨hwt, rfl⟩
    · have HWT := hid hwt
      have HPT := hid hpt
      have HALL := hid hall
      have HBASE := hid hbase
      have hal := hbase.len hw.out
      have HIN2 := hid (HIN.out.below hb2 h2)
      clear hwt hpt hall hbase hb2
      go_wp2_with fail
      go_loopg [9, 10] l.length (fun gk v x w' => ∃ k : Nat, k ≤ l.length ∧ gk = l.length - k ∧ x = .int .i64 k ∧ OwnPts w' w2.heap.size v ((toldAll l all).take k) ∧ Below w2.heap.size w2 w')
      case atStart => exact ⟨0, by omega, by omega, rfl, OwnPts.nil _ _, Below.refl _ _⟩
      case round =>
        obtain ⟨k, hk, hgk, rfl, hown, hbel⟩ := hrel
        have hzr := hbel.size
        have HOWN := hid hown
        have HBEL := hid hbel
        rcases Nat.lt_or_ge k l.length with hlt | hge
        · have d1 : (k : Int) < (l.length : Int) := by omega
          have htd := hid (told_any l all k L g cap g2 cap2 wr (HIN2.out.below hbel (by omega)) (by omega) (HPT.out.below hbel hg3) (by omega) hlt (fun p hp => (HBASE.out.ok p hp).lo) hL (fun p hp => (HBASE.out.ok p hp).st) (by omega))
          have HNX : Hid ((toldAll l all).take (k + 1) = (toldAll l all).take k ++ [⟨l[k].place, (toldF k all).r, (toldF k all).lo, (toldF k all).st⟩]) := hid (by
            have hkm : k < (toldAll l all).length := by simp [toldAll]; omega
            rw [List.take_succ_eq_append_getElem hkm]
            simp [toldAll, toldM, List.getD_eq_getElem?_getD, hlt])
          generalize (⟨l[k].place, (toldF k all).r, (toldF k all).lo, (toldF k all).st⟩ : MP) = M at htd HNX
          obtain ⟨cs, hrow, hpts⟩ := hown
          rw [List.length_take, Nat.min_eq_left (by simp [toldAll]; omega)] at hrow
          have HPTS := hid hpts
          clear hbel hpts HOWN
          go_wp2_with fail
          refine htd.out.mono ?_
          clear htd
          intro x w5 hpost
          obtain ⟨hb5, v1, v2, hx5, hi1, hi2⟩ := hpost
          obtain ⟨p1, q1, hv1⟩ := hi1.slice
          obtain ⟨p2, q2, hv2⟩ := hi2.slice
          subst hv1
          subst hv2
          subst x
          have hz5 := hb5.size
          have hrow5 := owns_keep hrow (fun g' hg' => hb5.block g' (hrow.lt g' hg').2)
          have HB5 := hid hb5
          have HI1 := hid hi1
          have HI2 := hid hi2
          have HROW := hid hrow
          clear hb5 hi1 hi2 hrow
          go_wp2_with (at_builtin; go_must (refine wpList_append_lies _ (by rfl) _ _ _ (by rfl) w2.heap.size 95 i0 _ 4 64 Tryd.underlying27 hi0 hz0 hz1 hz2 rfl (by omega) _ k cs (by rfl) ((hrow5.alloc _).alloc _) ⟨w5.heap.size + 1, 0, none⟩ 1 1 [.int .i64 M.place, .bool M.reached, .slice p1 M.lo.length q1, .slice p2 M.st.length q2] (by rfl) (by rfl) (World.news_of_block (cs := #[.int .i64 M.place, .bool M.reached, .slice p1 M.lo.length q1, .slice p2 M.st.length q2]) (t := 95) (fr := (0, 0)) (heap_two_new w5 _ _)) (by simp [Value.oneCell']) (by omega) (by unfold maxLen; omega) (by omega) (by simp; omega) (w5.heap.size + 1 + 1) (by simp) ?_); intro gg gcap w6 hown6 hgrow6 hat6 hlt6)
          go_roundg (l.length - (k + 1))
          case measure => omega
          case rel =>
            have hlt7 : ∀ g', u9.ownBlock = some g' → g' < wr.heap.size := fun g' hg' => (HROW.out.lt g' hg').2
            have hmk : k + 1 = ((toldAll l all).take (k + 1)).length := by rw [List.length_take, Nat.min_eq_left (by simp [toldAll]; omega)]
            refine ⟨k + 1, by omega, rfl, by go_num, ?_, ?_⟩
            · have hblk : ∀ g' o o', g' < w5.heap.size → ((w5.alloc o).alloc o').heap[g']? = w5.heap[g']? := fun g' o o' h => by
                rw [Below.heap_alloc _ _ _ (by rw [alloc_size]; omega), Below.heap_alloc _ _ _ h]
              have := OwnPts.push (m := M) (v := u9) (by rw [List.length_take, Nat.min_eq_left (by simp [toldAll]; omega)])
                (PtsIn.keep (fun g' hg' => ⟨⟨hg'.1, by rw [alloc_size, alloc_size]; omega, hg'.2.2⟩, (hblk _ _ _ (by omega)).trans (HB5.out.block g' hg'.2.1)⟩) _ _ HPTS.out)
                (HI1.out.keep (fun g' hg' => ⟨⟨by omega, by rw [alloc_size, alloc_size]; omega, fun e => by have := hlt7 g' e; omega⟩, hblk _ _ _ hg'.2⟩))
                (HI2.out.keep (fun g' hg' => ⟨⟨by omega, by rw [alloc_size, alloc_size]; omega, fun e => by have := hlt7 g' e; omega⟩, hblk _ _ _ hg'.2⟩)) hown6 hgrow6 (by rw [alloc_size, alloc_size]; exact hat6)
              rw [← HNX.out, ← hmk] at this
              exact this
            · exact (((HBEL.out.trans (HB5.out.mono hzr)).alloc (by omega) _).alloc (by rw [alloc_size]; omega) _).grown hgrow6 (by rw [alloc_size, alloc_size]; omega) (fun j hj => (HROW.out.lt j hj).1)
        · have d1 : ¬ (k : Int) < (l.length : Int) := by omega
          have hkl : k = l.length := by omega
          clear hbel hown
          go_wp2_with fail
          refine bodyPost_ret (v := .tuple #[u9, .int .i64 0]) (by simp [results, Tryd.results14, go_sem]) rfl ⟨HBB.out.trans (HBEL.out.mono (by omega)), .inr ⟨u9, all, rfl, HE.out, by rw [HL.out, HLL.out]; exact HWT.out, by rw [HL.out, HLL.out]; exact HALL.out, ?_⟩⟩
          have := HOWN.out
          rw [hkl, List.take_of_length_le (by simp [toldAll])] at this
          rw [HL.out]
          obtain ⟨cs, a1, a2⟩ := this
          exact ⟨cs, owns_mono a1 (by omega), PtsIn.keep (fun g' hg' => ⟨⟨by omega, hg'.2⟩, rfl⟩) _ _ a2⟩
    · have HE5 : Hid (IsErr s 5) := hid (.inr (.inr ⟨HE.out, by rw [HL.out, HLL.out]; exact hwt, rfl⟩))
      clear hwt hb2
      go_wp2_with fail
      exact bodyPost_ret (v := .tuple #[.slice none 0 0, .int .i64 5]) (by simp [results, Tryd.results14, go_sem]) rfl ⟨HBB.out, .inl ⟨5, by decide, HE5.out, rfl⟩⟩
end Go.Proofs.YtdmdpindonghdaaDoor
namespace Go.Proofs.YtdmdpindonghdaaDoor
open Go.RowKit
theorem lk_le (b : ByteArray) (j : Nat) : lk b j ≤ 1 := by unfold lk kindN; split <;> omega
theorem codes_lk {b : ByteArray} {j : Nat} (h : j < b.size) : (codes b).getD j 0 = lk b j := codes_get h
theorem zip_getL {a b : List Nat} {L j : Nat} (ha : a.length = L) (hb : b.length = L) (hj : j < L) : (List.zipWith joinN a b).getD j 0 = joinN (a.getD j 0) (b.getD j 0) := by
  have h1 : j < a.length := by omega
  have h2 : j < b.length := by omega
  simp [List.getD_eq_getElem?_getD, List.getElem?_zipWith, List.getElem?_eq_getElem h1, List.getElem?_eq_getElem h2]
theorem list_ext {a b : List Nat} {L : Nat} (ha : a.length = L) (hb : b.length = L) (h : ∀ j, j < L → a.getD j 0 = b.getD j 0) : a = b := by
  apply List.ext_getElem (by omega)
  intro j h1 h2
  have := h j (by omega)
  simpa [List.getD_eq_getElem?_getD, List.getElem?_eq_getElem h1, List.getElem?_eq_getElem h2] using this
structure TS (k L : Nat) (all : List Pt) (a : Ac) : Prop where
  no : a.r = false → ∀ p ∈ all, p.at_ ≠ k
  len : a.r = true → a.lo.length = L
  st : a.r = true → ∃ p ∈ all, p.at_ = k ∧ a.st = codes p.st
  wit : a.r = true → ∀ j, j < L → (∃ p ∈ all, p.at_ = k ∧ a.lo.getD j 0 = lk p.lo j) ∨ (a.lo.getD j 0 = 2 ∧ ∃ p ∈ all, ∃ q ∈ all, p.at_ = k ∧ q.at_ = k ∧ lk p.lo j ≠ lk q.lo j)
  cov : a.r = true → ∀ j, j < L → ∀ p ∈ all, p.at_ = k → a.lo.getD j 0 = lk p.lo j ∨ a.lo.getD j 0 = 2
theorem TS.step {k L : Nat} {all : List Pt} {a : Ac} (h : TS k L all a) {p : Pt} (hp : p.lo.size = L) : TS k L (all ++ [p]) (toldS k a p) := by
  unfold toldS
  by_cases e : p.at_ = k
  · rw [if_pos e]
    have hcl : (codes p.lo).length = L := by rw [codes_len, hp]
    unfold baseA
    cases hr : a.r
    · rw [if_neg (by simp)]
      have hno := h.no hr
      have hg : ∀ j, j < L → (List.zipWith joinN (codes p.lo) (codes p.lo)).getD j 0 = lk p.lo j := fun j hj => by
        rw [zip_getL hcl hcl hj, joinN_eq rfl, codes_lk (by omega)]
      refine ⟨fun h => by (cases h), fun _ => by simp [hcl], fun _ => ⟨p, by simp, e, rfl⟩, fun _ j hj => .inl ⟨p, by simp, e, hg j hj⟩, fun _ j hj q hq hqk => ?_⟩
      rw [List.mem_append, List.mem_singleton] at hq
      rcases hq with hq | rfl
      · exact absurd hqk (hno q hq)
      · exact .inl (hg j hj)
    · rw [if_pos rfl]
      have hal := h.len hr
      have hg : ∀ j, j < L → (List.zipWith joinN a.lo (codes p.lo)).getD j 0 = joinN (a.lo.getD j 0) (lk p.lo j) := fun j hj => by
        rw [zip_getL hal hcl hj, codes_lk (by omega)]
      refine ⟨fun h => by (cases h), fun _ => by simp [hcl, hal], fun _ => ?_, fun _ j hj => ?_, fun _ j hj q hq hqk => ?_⟩
      · obtain ⟨q, hq, h1, h2⟩ := h.st hr
        exact ⟨q, by simp [hq], h1, h2⟩
      · simp only
        rw [hg j hj]
        by_cases ej : a.lo.getD j 0 = lk p.lo j
        · rw [joinN_eq ej]
          exact .inl ⟨p, by simp, e, ej⟩
        · rw [joinN_ne ej]
          refine .inr ⟨rfl, ?_⟩
          rcases h.wit hr j hj with ⟨q, hq, h1, h2⟩ | ⟨_, q, hq, q', hq', h1, h2, h3⟩
          · exact ⟨q, by simp [hq], p, by simp, h1, e, by rw [← h2]; exact ej⟩
          · exact ⟨q, by simp [hq], q', by simp [hq'], h1, h2, h3⟩
      · simp only
        rw [hg j hj]
        rw [List.mem_append, List.mem_singleton] at hq
        by_cases ej : a.lo.getD j 0 = lk p.lo j
        · rw [joinN_eq ej]
          rcases hq with hq | rfl
          · exact h.cov hr j hj q hq hqk
          · exact .inl ej
        · rw [joinN_ne ej]; exact .inr rfl
  · rw [if_neg e]
    refine ⟨fun hr q hq => ?_, h.len, fun hr => ?_, fun hr j hj => ?_, fun hr j hj q hq hqk => ?_⟩
    · rw [List.mem_append, List.mem_singleton] at hq
      rcases hq with hq | rfl
      · exact h.no hr q hq
      · exact e
    · obtain ⟨q, hq, h1, h2⟩ := h.st hr
      exact ⟨q, by simp [hq], h1, h2⟩
    · rcases h.wit hr j hj with ⟨q, hq, h1, h2⟩ | ⟨h0, q, hq, q', hq', h1, h2, h3⟩
      · exact .inl ⟨q, by simp [hq], h1, h2⟩
      · exact .inr ⟨h0, q, by simp [hq], q', by simp [hq'], h1, h2, h3⟩
    · rw [List.mem_append, List.mem_singleton] at hq
      rcases hq with hq | rfl
      · exact h.cov hr j hj q hq hqk
      · exact absurd hqk e
theorem ts_all {k L : Nat} (all : List Pt) (h : ∀ p ∈ all, p.lo.size = L) : TS k L all (toldF k all) := by
  suffices hs : ∀ (rest pre : List Pt) (a : Ac), (∀ p ∈ rest, p.lo.size = L) → TS k L pre a → TS k L (pre ++ rest) (rest.foldl (toldS k) a) from by
    have := hs all [] ⟨false, [], []⟩ h ⟨fun _ p hp => by simp at hp, fun h => by (cases h), fun h => by (cases h), fun h => by (cases h), fun h => by (cases h)⟩
    rw [List.nil_append] at this
    exact this
  intro rest
  induction rest with
  | nil => intro pre a _ h; simpa using h
  | cons p r ih =>
    intro pre a hp h
    have := ih (pre ++ [p]) (toldS k a p) (fun q hq => hp q (by simp [hq])) (h.step (hp p (by simp)))
    simpa using this
theorem stk_codes {f : Fr} {st : ByteArray} (h : Stk f (tl st)) : f.stk.take f.depth = codes st := by
  rw [h.stk, h.depth, List.take_append_of_le_length (by simp), List.take_of_length_le (by simp)]
  rfl
theorem told_same {l : List Ins} {L : Nat} (hw : Wf l L) {fs : List Fr} (hinv : SetInv l L fs) (hst : Still l fs) (hwt : WT l L) {all : List Pt} (hall : ∀ p, Reach l L p ↔ p ∈ all) {k : Nat} {i : Ins} {f : Fr} (hi : l[k]? = some i) (hf : fs[k]? = some f) (pl : Nat) :
    ptF pl f L = ⟨pl, (toldF k all).r, (toldF k all).lo, (toldF k all).st⟩ := by
  have hts : TS k L all (toldF k all) := ts_all all (fun p hp => (reach_ok hw ((hall p).2 hp)).lo)
  have hnone := toldF_none k all
  have hfo := hinv.ok f (List.mem_of_getElem? hf)
  have hL := hw.loc
  have hcov : ∀ lo st, At l L k lo st → Cov f lo st := fun lo st h => by
    obtain ⟨f', h1, h2⟩ := still_all hw hinv.ok hst hinv.cov h
    have : some f' = some f := h1.symm.trans hf
    cases this
    exact h2
  have hin : ∀ p ∈ all, p.at_ = k → At l L k p.lo p.st := fun p hp e => by
    have := (hall p).2 hp
    obtain ⟨a, b, c⟩ := p
    simp only at e
    subst e
    exact this
  have hout : ∀ lo st, At l L k lo st → (⟨k, lo, st⟩ : Pt) ∈ all := fun lo st h => (hall _).1 h
  generalize toldF k all = A at *
  unfold ptF
  cases hr : f.reached
  · rw [if_neg (by simp)]
    have har : A.r = false := by
      cases e : A.r
      · rfl
      · obtain ⟨p, hp, h1, _⟩ := hts.st e
        have := (hcov _ _ (hin p hp h1)).reached
        rw [hr] at this; cases this
    obtain ⟨e1, e2⟩ := hnone har
    rw [har, e1, e2]
  · rw [if_pos rfl]
    have hwit := hinv.sound hwt k f hf hr
    obtain ⟨lo0, st0, h0, hs0⟩ := hwit.one
    have har : A.r = true := by
      cases e : A.r
      · exact absurd rfl (hts.no e _ (hout _ _ h0))
      · rfl
    have est : f.stk.take f.depth = A.st := by
      obtain ⟨p, hp, h1, h2⟩ := hts.st har
      rw [h2, stk_codes hs0]
      have := (calm_st (p := ⟨k, lo0, st0⟩) (q := ⟨k, p.lo, p.st⟩) (hwt.2 _ _ i h0 (hin p hp h1) rfl hi) rfl).1
      simp only at this
      rw [this]
    have elo : f.lo.take L = A.lo := by
      refine list_ext (L := L) (by rw [List.length_take, hfo.lo]; omega) (hts.len har) (fun j hj => ?_)
      have e0 : (f.lo.take L).getD j 0 = f.lo.getD j 0 := by simp [List.getD_eq_getElem?_getD, hj]
      rw [e0]
      rcases hwit.lo j (by omega) with ⟨lo1, st1, h1, e1⟩ | ⟨e1, lo1, st1, lo2, st2, h1, h2, e2⟩
      · rcases hts.cov har j hj _ (hout _ _ h1) rfl with h | h
        · rw [e1]; exact h.symm
        · exfalso
          have l1 := lk_le lo1 j
          rcases hts.wit har j hj with ⟨p, _, _, h3⟩ | ⟨_, p, hp, q, hq, hpk, hqk, h3⟩
          · have := lk_le p.lo j; omega
          · apply h3
            have cp := (hcov _ _ (hin p hp hpk)).lo j (by omega)
            have cq := (hcov _ _ (hin q hq hqk)).lo j (by omega)
            rcases cp with cp | cp
            · rcases cq with cq | cq
              · rw [← cp, ← cq]
              · omega
            · omega
      · rw [e1]
        rcases hts.cov har j hj _ (hout _ _ h1) rfl with h | h
        · rcases hts.cov har j hj _ (hout _ _ h2) rfl with h' | h'
          · exact absurd (h.symm.trans h') e2
          · exact h'.symm
        · exact h.symm
    rw [har, est, elo]
theorem maps_same {l : List Ins} {L : Nat} (hw : Wf l L) {fs : List Fr} (hinv : SetInv l L fs) (hst : Still l fs) (hwt : WT l L) {all : List Pt} (hall : ∀ p, Reach l L p ↔ p ∈ all) : mapsF l fs L = toldAll l all := by
  have hlen := hinv.len
  apply List.ext_getElem
  · simp [mapsF, toldAll]; omega
  · intro k h1 h2
    have hk : k < l.length := by simpa [toldAll] using h2
    have hk2 : k < fs.length := by omega
    simp only [mapsF, List.getElem_zipWith, toldAll, List.getElem_map, List.getElem_range, toldM]
    rw [told_same hw hinv hst hwt hall (List.getElem?_eq_getElem hk) (List.getElem?_eq_getElem hk2) l[k].place]
    simp [List.getD_eq_getElem?_getD, hk]
end Go.Proofs.YtdmdpindonghdaaDoor
namespace Go.Proofs.YtdmdpindonghdaaDoor
open Go.RowKit
set_option maxRecDepth 100000 in
set_option maxHeartbeats 1000000 in
theorem sameInts_any (l : List Nat) (va vb : Value) (P Q : Nat → Prop) (w : World) (ha : IntsAt w P va l) (hb : IntsAt w Q vb l) (hl : l.length ≤ 1000) :
    Calls Tryd.prog 43 #[va, vb] w fun e w' => e = .returned (.bool true) ∧ ∃ n, w' = w.drewN n := by
  obtain ⟨pa, ca, ea⟩ := ha.slice
  obtain ⟨pb, cb, eb⟩ := hb.slice
  subst ea
  subst eb
  have HA := hid ha
  have HB := hid hb
  clear ha hb
  go_enter Tryd.func43, Tryd.ntmps43
  go_wp2_with fail
  go_loopg [5] l.length (fun gk x w' => ∃ k : Nat, k ≤ l.length ∧ gk = l.length - k ∧ x = .int .i64 k ∧ ∃ n, w' = w.drewN n)
  case atStart => exact ⟨0, by omega, by omega, rfl, 0, rfl⟩
  case round =>
    obtain ⟨k, hk, hgk, rfl, n, rfl⟩ := hrel
    rcases Nat.lt_or_ge k l.length with hlt | hge
    · have d0 : (0 : Int) ≤ (k : Int) := by omega
      have d1 : (k : Int) < (l.length : Int) := by omega
      have hk2 : l[k]? = some l[k] := List.getElem?_eq_getElem hlt
      rcases HA.out with ⟨_, h0⟩ | ⟨ga, c1, e1, _, hca⟩
      · rw [h0] at hlt; simp at hlt
      rcases HB.out with ⟨_, h0⟩ | ⟨gb, c2, e2, _, hcb⟩
      · rw [h0] at hlt; simp at hlt
      have x1 := hca k _ hk2
      have x2 := hcb k _ hk2
      unfold numV at x1 x2
      cases e1
      cases e2
      generalize l[k] = c at *
      have hne : ((c : Int) != (c : Int)) = false := by simp
      clear hca hcb hk2
      go_wp2_with fail
      go_quiet (fail)
      go_wp2_with fail
      go_roundg (l.length - (k + 1))
      case measure => omega
      case rel => exact ⟨k + 1, by omega, rfl, by go_num, ⟨_, rfl⟩⟩
    · have d1 : ¬ (k : Int) < (l.length : Int) := by omega
      go_wp2_with fail
      go_ret
      exact ⟨rfl, n, rfl⟩
/-- The cells of point k of a list of points. -/
theorem pts_cells {w : World} {base : Nat} {v : Value} {ms : List MP} (h : OwnPts w base v ms) {k : Nat} {m : MP} (hk : ms[k]? = some m) : ∃ g cap v1 v2, v = .slice (some ⟨g, 0, none⟩) ms.length cap ∧ w.cell? ⟨g, k * 4, none⟩ = some (.int .i64 m.place) ∧ w.cell? ⟨g, k * 4 + 1, none⟩ = some (.bool m.reached) ∧
    w.cell? ⟨g, k * 4 + 2, none⟩ = some v1 ∧ w.cell? ⟨g, k * 4 + 3, none⟩ = some v2 ∧ IntsAt w (fun g' => base ≤ g' ∧ g' < w.heap.size ∧ v.ownBlock ≠ some g') v1 m.lo ∧ IntsAt w (fun g' => base ≤ g' ∧ g' < w.heap.size ∧ v.ownBlock ≠ some g') v2 m.st := by
  obtain ⟨cs, h1, h2⟩ := h
  obtain ⟨a0, a1, v1, v2, a2, a3, i1, i2⟩ := PtsIn.at cs ms h2 k m hk
  have hlt := (List.getElem?_eq_some_iff.1 hk).1
  rcases h1.2 with ⟨_, h0⟩ | ⟨g, cap, cur, hv, _⟩
  · omega
  · subst hv
    have hc := h1.cells (g := g) rfl
    have c0 := hc _ _ a0
    have c1 := hc _ _ a1
    have c2 := hc _ _ a2
    have c3 := hc _ _ a3
    rw [addr_add] at c0 c1 c2 c3
    exact ⟨g, cap, v1, v2, rfl, c0, c1, c2, c3, i1, i2⟩
theorem pts_slice {w : World} {base : Nat} {v : Value} {ms : List MP} (h : OwnPts w base v ms) : ∃ p cap, v = .slice p ms.length cap := by
  obtain ⟨cs, h1, _⟩ := h
  exact owns_slice h1
theorem IntsAt.heap {w W : World} {P : Nat → Prop} {v : Value} {l : List Nat} (h : IntsAt w P v l) (e : W.heap = w.heap) : IntsAt W P v l := h.keep (fun _ hg => ⟨hg, by rw [e]⟩)
theorem OwnPts.heap {w W : World} {base : Nat} {v : Value} {ms : List MP} (h : OwnPts w base v ms) (e : W.heap = w.heap) : OwnPts W base v ms := by
  obtain ⟨cs, h1, h2⟩ := h
  exact ⟨cs, owns_keep h1 (fun _ _ => by rw [e]), PtsIn.keep (fun g hg => ⟨⟨hg.1, by rw [e]; exact hg.2.1, hg.2.2⟩, by rw [e]⟩) _ _ h2⟩
set_option maxRecDepth 100000 in
set_option maxHeartbeats 1000000 in
theorem sameMaps_any (ms : List MP) (va vb : Value) (ba bb : Nat) (w : World) (ha : OwnPts w ba va ms) (hb : OwnPts w bb vb ms) (hl : ms.length ≤ 1000) (hml : ∀ m ∈ ms, m.lo.length ≤ 1000 ∧ m.st.length ≤ 1000) :
    Calls Tryd.prog 15 #[va, vb] w fun e w' => e = .returned (.bool true) ∧ ∃ n, w' = w.drewN n := by
  obtain ⟨pa, ca, ea⟩ := pts_slice ha
  obtain ⟨pb, cb, eb⟩ := pts_slice hb
  have HA := hid ha
  have HB := hid hb
  have HML := hid hml
  subst ea
  subst eb
  clear ha hb hml
  go_enter Tryd.func15, Tryd.ntmps15
  go_wp2_with fail
  go_loopg [5] ms.length (fun gk x w' => ∃ k : Nat, k ≤ ms.length ∧ gk = ms.length - k ∧ x = .int .i64 k ∧ ∃ n, w' = w.drewN n)
  case atStart => exact ⟨0, by omega, by omega, rfl, 0, rfl⟩
  case round =>
    obtain ⟨k, hk, hgk, rfl, hwn⟩ := hrel
    have hh : wr.heap = w.heap := by
      obtain ⟨n, rfl⟩ := hwn
      rfl
    have HWN := hid hwn
    clear hwn
    rcases Nat.lt_or_ge k ms.length with hlt | hge
    · have d0 : (0 : Int) ≤ (k : Int) := by omega
      have d1 : (k : Int) < (ms.length : Int) := by omega
      obtain ⟨ga, c1, v1, v2, e1, x0, x1, x2, x3, i1, i2⟩ := pts_cells (HA.out.heap hh) (List.getElem?_eq_getElem hlt)
      obtain ⟨gb, c2, u1, u2, e2, y0, y1, y2, y3, j1, j2⟩ := pts_cells (HB.out.heap hh) (List.getElem?_eq_getElem hlt)
      obtain ⟨q1, q2⟩ := HML.out _ (List.getElem_mem hlt)
      cases e1
      cases e2
      generalize ms[k] = m at *
      have hs1 := hid (fun (W : World) (e : W.heap = wr.heap) => sameInts_any m.lo v1 u1 _ _ W (i1.heap e) (j1.heap e) q1)
      have hs2 := hid (fun (W : World) (e : W.heap = wr.heap) => sameInts_any m.st v2 u2 _ _ W (i2.heap e) (j2.heap e) q2)
      have hne : ((m.place : Int) != (m.place : Int)) = false := by simp
      have hne2 : (m.reached != m.reached) = false := by simp
      clear i1 i2 j1 j2 q1 q2 hh
      go_upto_region 6 with fail
      go_quiet ((go_at_call 43; refine Calls.quiet_of (hs1.out _ rfl)))
      have x0' : (wr.drewN nq).cell? ⟨ga, k * 4, none⟩ = some (.int .i64 m.place) := x0
      have x1' : (wr.drewN nq).cell? ⟨ga, k * 4 + 1, none⟩ = some (.bool m.reached) := x1
      have x3' : (wr.drewN nq).cell? ⟨ga, k * 4 + 3, none⟩ = some v2 := x3
      have y0' : (wr.drewN nq).cell? ⟨gb, k * 4, none⟩ = some (.int .i64 m.place) := y0
      have y1' : (wr.drewN nq).cell? ⟨gb, k * 4 + 1, none⟩ = some (.bool m.reached) := y1
      have y3' : (wr.drewN nq).cell? ⟨gb, k * 4 + 3, none⟩ = some u2 := y3
      have hs2' := hid (fun (W : World) (e : W.heap = (wr.drewN nq).heap) => hs2.out W e)
      have HWN7 : Hid (∃ n, wr.drewN nq = w.drewN n) := hid (by
        obtain ⟨n, hn⟩ := HWN.out
        exact ⟨n + nq, by rw [hn, World.drewN_drewN]⟩)
      clear x0 x1 x2 x3 y0 y1 y2 y3 hs1 hs2 HWN
      generalize wr.drewN nq = W7 at *
      go_upto_region 7 with fail
      go_quiet ((go_at_call 43; refine Calls.quiet_of (hs2'.out _ rfl)))
      go_upto_region 8 with fail
      go_quiet (fail)
      go_wp2_with fail
      go_roundg (ms.length - (k + 1))
      case measure => omega
      case rel =>
        obtain ⟨n, hn⟩ := HWN7.out
        exact ⟨k + 1, by omega, rfl, by go_num, by rw [hn]; simp only [World.drewN_drewN]; exact ⟨_, rfl⟩⟩
    · have d1 : ¬ (k : Int) < (ms.length : Int) := by omega
      clear hh
      go_wp2_with fail
      go_ret
      exact ⟨rfl, HWN.out⟩
end Go.Proofs.YtdmdpindonghdaaDoor
namespace Go.Proofs.YtdmdpindonghdaaDoor
open Go.RowKit
theorem toldAll_small {l : List Ins} {L : Nat} (hw : Wf l L) {fs : List Fr} (hinv : SetInv l L fs) : (mapsF l fs L).length ≤ 1000 ∧ ∀ m ∈ mapsF l fs L, m.lo.length ≤ 1000 ∧ m.st.length ≤ 1000 := by
  have h1 := hw.len
  refine ⟨by simp [mapsF]; omega, fun m hm => ?_⟩
  unfold mapsF at hm
  obtain ⟨k, hk, rfl⟩ := List.getElem_of_mem hm
  simp only [List.length_zipWith] at hk
  have hfo := hinv.ok (fs[k]'(by omega)) (List.getElem_mem _)
  rw [List.getElem_zipWith]
  unfold ptF
  split
  · have h4 := hfo.lo
    have h8 := hfo.stk
    simp only [List.length_take]
    omega
  · simp
/-- What both calls of Maps leave. -/
theorem maps_meet {s : ByteArray} {w w2 w3 : World} {x y : Ending} (ha : TMapsPost s w x w2) (hb : RMapsPost s w2 y w3) :
    Below w.heap.size w w3 ∧ ∃ (r : Nat) (va vb : Value) (ms : List MP) (ba bb : Nat), x = .returned (.tuple #[va, .int .i64 r]) ∧ y = .returned (.tuple #[vb, .int .i64 r]) ∧ OwnPts w3 ba va ms ∧ OwnPts w3 bb vb ms ∧ ms.length ≤ 1000 ∧ ∀ m ∈ ms, m.lo.length ≤ 1000 ∧ m.st.length ≤ 1000 := by
  obtain ⟨hb1, ha⟩ := ha
  obtain ⟨hb2, hb⟩ := hb
  refine ⟨hb1.trans (hb2.mono hb1.size), ?_⟩
  rcases ha with ⟨r, hr, he, rfl⟩ | ⟨va, fs, rfl, he, hinv, hst, ho⟩
  · rcases hb with ⟨r', hr', he', rfl⟩ | ⟨vb, all, rfl, he', hwt, _, _⟩
    · have e := he.unique he'
      subst e
      exact ⟨r, _, _, [], 0, 0, rfl, rfl, OwnPts.nil _ _, OwnPts.nil _ _, by simp, fun m hm => by simp at hm⟩
    · exact absurd (he.unique (.inr (.inl ⟨he', hwt, rfl⟩))) hr
  · have hw := wf_of he
    have hwt := still_wt hw hinv.ok hst hinv.cov
    rcases hb with ⟨r', hr', he', rfl⟩ | ⟨vb, all, rfl, he', _, hall, ho'⟩
    · exact absurd (he'.unique (.inr (.inl ⟨he, hwt, rfl⟩))) hr'
    · obtain ⟨s1, s2⟩ := toldAll_small hw hinv
      rw [← maps_same hw hinv hst hwt hall] at ho'
      exact ⟨0, va, vb, _, _, _, rfl, rfl, ho.below hb2 (Nat.le_refl _), ho', s1, s2⟩
set_option maxRecDepth 100000 in
set_option maxHeartbeats 1000000 in
theorem types_any (s : ByteArray) (w : World) (hs : s.size ≤ maxLen) (hflow : FlowTab w) (htak : TakesTab w) (htyp : TypeTab w) :
    Calls Tryd.prog 4 #[.string s] w fun e w' => e = .returned (.bool true) ∧ Below w.heap.size w w' := by
  have hc := hid (tmaps_any s w hs hflow)
  have hr := hid (fun W (hb : Below w.heap.size w W) => refMaps_any s W hs (htak.below hb) (htyp.below hb))
  clear hs hflow htak htyp
  go_enter Tryd.func4, Tryd.ntmps4
  go_wp2_with fail
  refine hc.out.mono ?_
  clear hc
  intro x w2 hp
  have HP := hid hp
  have hrr := hid (hr.out w2 hp.1)
  have hx : ∃ va r, x = .returned (.tuple #[va, .int .i64 r]) := by
    obtain ⟨_, h⟩ := hp
    rcases h with ⟨r, _, _, h⟩ | ⟨va, fs, h, _⟩
    · exact ⟨_, _, h⟩
    · exact ⟨_, _, h⟩
  clear hp hr
  obtain ⟨va, r, hx⟩ := hx
  subst x
  go_wp2_with fail
  refine hrr.out.mono ?_
  clear hrr
  intro y w3 hp
  obtain ⟨hb, r2, va2, vb, ms, ba, bb, hx, hy, ho1, ho2, hl, hm⟩ := maps_meet HP.out hp
  simp only [Ending.returned.injEq, Value.tuple.injEq, Array.mk.injEq, List.cons.injEq, Value.int.injEq, true_and, and_true] at hx
  obtain ⟨hx1, hx2⟩ := hx
  subst hx1
  subst hx2
  subst y
  have hsm := hid (sameMaps_any ms va vb ba bb w3 ho1 ho2 hl hm)
  have hn := hid (fun W => num_any r2 W)
  have HB := hid hb
  clear hp HP ho1 ho2 hl hm hb
  go_wp2_with fail
  refine hsm.out.mono ?_
  clear hsm
  intro x w4 hh
  obtain ⟨hx, n, hw4⟩ := hh
  subst x
  subst w4
  go_wp2_with fail
  refine (hn.out _).mono ?_
  clear hn
  intro x w9 hh
  obtain ⟨hx, hw9⟩ := hh
  subst x
  subst w9
  go_wp2_with fail
  go_ret
  exact ⟨rfl, below_drewN HB.out _⟩
end Go.Proofs.YtdmdpindonghdaaDoor
namespace Go.Proofs.YtdmdpindonghdaaDoor
open Go.ChangeShapes Go.WideShapes Go.ChangeAt Go.ChangeMaps Go.RowKit
set_option maxRecDepth 100000 in
theorem types_lifted (os : Os) (started : os.Started) (H : Type) (enc : TypeId × Value → H) :
    ReturnsInHanded {} Tryd.checked os 4 .any (fun w args => (Rows.typesSpec.pre enc Tryd.prog Tryd.f4 Rows.typesRow.domain false w args ∧ laidMetH Tryd.prog Rows.typesRow.laid w) ∧ sizedMet enc Tryd.prog Tryd.f4 (OpenSpec.ofChange Rows.typesSpec) false w args)
      (Rows.typesSpec.post enc Tryd.prog Tryd.f4 false true false false) := by
  refine returnsInHanded_of_change_and (C := Tryd.checked) (X := fun w _ => laidMetH Tryd.prog Rows.typesRow.laid w) (fun _ _ _ hh h => h.of_heap hh) knobs started (by kernel_rfl) Tryd.func4
    (ChangeSpec.witness_shaped (enc := enc) (C := Tryd.checked) (os := os) (X := fun w _ => laidMetH Tryd.prog Rows.typesRow.laid w) false (World.laidAll Tryd.prog os Rows.typesRow.laid) #[.string ⟨#[]⟩] 8 (World.laidAll_os _ _ _)
      (World.shaped_of_ZipB (by kernel_rfl) (by kernel_rfl)) (by kernel_rfl) (by kernel_rfl) (by kernel_rfl)
      (by rw [MakeChecks.laidMetH_plain _ _ _ (by kernel_rfl)]; exact laidMet_laidAll _ (by kernel_rfl) (by kernel_rfl))) ?_
  intro W base args ds gs before hval0 hW _ _ hL _
  have hval : ∀ (j : Nat) t v, Tryd.f4.params[j]? = some t → args[j]? = some v → Value.okWide Tryd.prog W .any base t v := hval0
  have hW' := hW
  obtain ⟨p, q, hA0, hV, rfl, _, _⟩ := hW
  have hA : DataW.TrodAll enc Tryd.prog W 0 (fun _ => true) true Tryd.f4.params.toList args.toList ds p := hA0
  rw [Tryd.params4] at hA hval
  obtain ⟨v0, d0, rfl, rfl, h0⟩ := trodAll_one hA
  obtain ⟨rfl, rfl⟩ := trodVars_none hV
  obtain ⟨s, rfl, rfl, rfl, hs⟩ := open_string Tryd.underlying9 (hval 0 9 v0 rfl rfl) h0
  obtain ⟨t1, t2, t3⟩ := tabs_of_laid hL
  refine (types_any s W hs t1 t2 t3).mono fun e W' ⟨he, hb⟩ => ?_
  subst he
  exact ⟨_, rfl, _, _, _, [], [], [], hW', trodAll_mk1 (shut_bool Tryd.underlying4 _), trodAll_mk1 (shut_string Tryd.underlying9 hs), rfl, hb.frame _, fun h => by cases h⟩
theorem types_holds : Rows.TypesSaid :=
  OpenClaim.holds_of_wide 4 Tryd.f4 rfl rfl rfl rfl rfl rfl rfl ⟨rfl, rfl, rfl, rfl, rfl⟩ rfl rfl rfl rfl rfl (by kernel_rfl) Tryd.func4 (by kernel_rfl)
    (of_decide_eq_true (by kernel_rfl)) (by unfold Func.isWrapper; first | (rw [if_pos (by decide +kernel)]; kernel_rfl) | (rw [if_neg (by decide +kernel)]; exact ⟨rfl, rfl⟩))
    (fun os started H enc _ => types_lifted os started H enc)
theorem types_card_holds : Rows.TypesCardSaid :=
  Claim7.holds_tied_plain_at .later [] [.data, .data, .data, .data, .data] true Rows.typesCard.stood.harness false
    types_holds (fun _ h => by cases h) (by kernel_rfl) (fun _ h => by cases h) types_row_tie rfl ⟨rfl, rfl⟩ (by kernel_rfl) rfl
    (fun f fn hf hfn => by
      obtain rfl : f = 4 := Option.some.inj ((show Tryd.prog.funcNamed "tint/tintlaw.Types" = some 4 by kernel_rfl).symm.trans hf) |>.symm
      obtain rfl : fn = Tryd.f4 := (Option.some.inj (Tryd.func4.symm.trans hfn)).symm
      exact ⟨by kernel_rfl, fun j t ht => by
        rw [Tryd.params4] at ht
        have hm : t ∈ [9] := by simpa using Array.mem_of_getElem? ht
        have hall : ([9].all fun u => !Tryd.prog.wantsStandIn u) = true := by kernel_rfl
        exact (show Tryd.prog.wantsStandIn t = false by simpa using List.all_eq_true.1 hall t hm)⟩)
    (by kernel_rfl)
#print axioms types_card_holds
end Go.Proofs.YtdmdpindonghdaaDoor
