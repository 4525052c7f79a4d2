/- The contracts of the program's LocalTypes and StackTypes. -/
import Derived.Test.YteocjidfbbekfaaDoorSpecI
import Derived.Test.YteocjidfbbekfaaDoorSpecG
import Derived.Deep.AppendLies
import Derived.Deep.DeepMust
import Derived.Deep.LoopGhost
namespace Go.Proofs.YteocjidfbbekfaaDoor
open Go.RowKit

theorem intInfo : (Tryd.prog.info? 3).map (fun i => (i.zero, i.size, i.bytes)) = some (some (.int .i64 0), 1, 8) := by kernel_rfl
theorem take_snoc {l : List Nat} {k : Nat} (h : k < l.length) : (l.take (k + 1)).map numV = (l.take k).map numV ++ [numV (l.getD k 0)] := by
  rw [List.take_succ_eq_append_getElem h, List.map_append]
  simp [List.getD_eq_getElem?_getD, List.getElem?_eq_getElem h]
theorem owns_mono {w : World} {base base' e size n : Nat} {v : Value} {xs : List Value} (h : w.ownsRow base e size v n xs) (hb : base' ≤ base) : w.ownsRow base' e size v n xs := by
  refine ⟨h.1, ?_⟩
  rcases h.2 with h2 | ⟨g, cap, cur, hv, hg, r⟩
  · exact .inl h2
  · exact .inr ⟨g, cap, cur, hv, Nat.le_trans hb hg, r⟩
def ListPost (l : List Nat) (w : World) (e : Ending) (w' : World) : Prop :=
  Below w.heap.size w w' ∧ ∃ v, e = .returned v ∧ w'.ownsRow w.heap.size 3 1 v l.length (l.map numV)

set_option maxRecDepth 100000 in
set_option maxHeartbeats 1000000 in
theorem localTypes_any (f : Fr) (L : Nat) (w : World) (hf : FrOk f) (hL : L ≤ 4) :
    Calls Tryd.prog 23 #[.agg (frL f).toArray, .int .i64 L] w (ListPost (f.lo.take L) w) := by
  obtain ⟨i0, hi0, hz0, hz1, hz2⟩ := info_parts intInfo
  have hlen := hf.lo
  have HF := hid hf
  clear hf
  generalize hF : (frL f).toArray = F
  have HFR := hid hF
  clear hF
  go_enter Tryd.func23, Tryd.ntmps23
  go_wp2_with fail
  go_loopg [5, 6] L (fun g l i w' => ∃ k : Nat, k ≤ L ∧ g = L - k ∧ i = .int .i64 k ∧ w'.ownsRow (w.heap.size + 1) 3 1 l k ((f.lo.take k).map numV) ∧ Below (w.heap.size + 1) (w.alloc (.cells F 48)) w')
  case atStart => exact ⟨0, by omega, by omega, rfl, World.ownsRow_nil _ _ _ _, Below.refl _ _⟩
  case round =>
    obtain ⟨k, hk, hg, rfl, hown, hbel⟩ := hrel
    obtain ⟨bx, bo, hz⟩ := box_cells hbel
    have HB := hid hbel
    clear hbel bo
    rcases Nat.lt_or_ge k L with hlt | hge
    · have d1 : (k : Int) < (L : Int) := by omega
      have d2 : (k : Int) < 4 := by omega
      have d0 : (0 : Int) ≤ (k : Int) := by omega
      have c0 := (bx (1 + k)).trans ((congrArg (fun x => x[1 + k]?) HFR.out.symm).trans (fr_lo HF.out (i := k) (by omega)))
      clear bx
      unfold numV at c0
      go_wp2_with (at_builtin; go_must (refine wpList_append_lies _ (by rfl) _ _ _ (by rfl) (w.heap.size + 1) 3 i0 _ 1 8 Tryd.underlying49 hi0 hz0 hz1 hz2 rfl (by omega) _ k ((f.lo.take k).map numV) (by rfl) (hown.alloc _) ⟨_, 0, none⟩ 1 1 [.int .i64 (f.lo.getD k 0 : Nat)] (by rfl) (by rfl) (World.news_of_block (cs := #[.int .i64 (f.lo.getD k 0 : Nat)]) (t := 3) (fr := (0, 0)) (heap_alloc_new _ _)) (by simp [Value.oneCell']) (by omega) (by unfold maxLen; omega) (by omega) (by simp; omega) _ rfl ?_); intro gg cap w3 hown3 hgrow hat hlt2)
      go_roundg (L - (k + 1))
      case measure => omega
      case rel => exact ⟨k + 1, by omega, rfl, by go_num, by rw [take_snoc (by omega)]; exact hown3, (HB.out.alloc (by omega) _).grown hgrow (by simp; omega) (fun k hk => (hown.lt k hk).1)⟩
    · have d1 : ¬ (k : Int) < (L : Int) := by omega
      have hkL : k = L := by omega
      clear bx
      go_wp2_with fail
      go_ret
      exact ⟨box_below (Nat.le_refl _) HB.out, _, rfl, by rw [List.length_take, Nat.min_eq_left (by omega), ← hkL]; exact owns_mono hown (by omega)⟩
set_option maxRecDepth 100000 in
set_option maxHeartbeats 1000000 in
theorem stackTypes_any (f : Fr) (w : World) (hf : FrOk f) :
    Calls Tryd.prog 24 #[.agg (frL f).toArray] w (ListPost (f.stk.take f.depth) w) := by
  obtain ⟨i0, hi0, hz0, hz1, hz2⟩ := info_parts intInfo
  have hlen := hf.stk
  have hL := hf.depth
  have HF := hid hf
  have HD := hid (fr_get hf).2.1
  clear hf
  generalize f.depth = L at *
  generalize hF : (frL f).toArray = F
  have HFR := hid hF
  clear hF
  go_enter Tryd.func24, Tryd.ntmps24
  go_wp2_with fail
  go_loopg [3, 4] L (fun g l i w' => ∃ k : Nat, k ≤ L ∧ g = L - k ∧ i = .int .i64 k ∧ w'.ownsRow (w.heap.size + 1) 3 1 l k ((f.stk.take k).map numV) ∧ Below (w.heap.size + 1) (w.alloc (.cells F 48)) w')
  case atStart => exact ⟨0, by omega, by omega, rfl, World.ownsRow_nil _ _ _ _, Below.refl _ _⟩
  case round =>
    obtain ⟨k, hk, hg, rfl, hown, hbel⟩ := hrel
    obtain ⟨bx, bo, hz⟩ := box_cells hbel
    have HB := hid hbel
    clear hbel bo
    rcases Nat.lt_or_ge k L with hlt | hge
    · have d1 : (k : Int) < (L : Int) := by omega
      have d2 : (k : Int) < 8 := by omega
      have d0 : (0 : Int) ≤ (k : Int) := by omega
      have c0 := (bx (6 + k)).trans ((congrArg (fun x => x[6 + k]?) HFR.out.symm).trans (fr_stk HF.out (i := k) (by omega)))
      have c1 := (bx 5).trans ((congrArg (fun x => x[5]?) HFR.out.symm).trans HD.out)
      clear bx
      unfold numV at c0 c1
      go_wp2_with (at_builtin; go_must (refine wpList_append_lies _ (by rfl) _ _ _ (by rfl) (w.heap.size + 1) 3 i0 _ 1 8 Tryd.underlying49 hi0 hz0 hz1 hz2 rfl (by omega) _ k ((f.stk.take k).map numV) (by rfl) (hown.alloc _) ⟨_, 0, none⟩ 1 1 [.int .i64 (f.stk.getD k 0 : Nat)] (by rfl) (by rfl) (World.news_of_block (cs := #[.int .i64 (f.stk.getD k 0 : Nat)]) (t := 3) (fr := (0, 0)) (heap_alloc_new _ _)) (by simp [Value.oneCell']) (by omega) (by unfold maxLen; omega) (by omega) (by simp; omega) _ rfl ?_); intro gg cap w3 hown3 hgrow hat hlt2)
      go_roundg (L - (k + 1))
      case measure => omega
      case rel => exact ⟨k + 1, by omega, rfl, by go_num, by rw [take_snoc (by omega)]; exact hown3, (HB.out.alloc (by omega) _).grown hgrow (by simp; omega) (fun k hk => (hown.lt k hk).1)⟩
    · have d1 : ¬ (k : Int) < (L : Int) := by omega
      have hkL : k = L := by omega
      have c1 := (bx 5).trans ((congrArg (fun x => x[5]?) HFR.out.symm).trans HD.out)
      clear bx
      unfold numV at c1
      go_wp2_with fail
      go_ret
      exact ⟨box_below (Nat.le_refl _) HB.out, _, rfl, by rw [List.length_take, Nat.min_eq_left (by omega), ← hkL]; exact owns_mono hown (by omega)⟩
end Go.Proofs.YteocjidfbbekfaaDoor
