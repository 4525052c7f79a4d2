/- What the proofs of these statements stand on, part 6: PmR, KpC, KpD, GcF, KpE, LaidK, CardK. -/
import Derived.Test.YtdmdpindonghdabDoorRows
import Derived.Test.YtdmdpindonghdabDoorTie
import Derived.Test.YtdmdpindonghdabDoorCards
import Derived.Test.YtdmdpindonghdabDoorOwn5
import Derived.WalkKit
import Derived.WalkSmall
import Derived.Deep.AppendLies
import Derived.Deep.DeepMust
import Derived.Deep.LoopGhost
import Derived.WalkSpells
import Derived.WalkLawsBesides
import Derived.BigRegion
import Derived.Deep.QuietTactic
import Derived.BigQuiet
import Derived.Deep.RegionHeld3
import Derived.OwnWalk
import Derived.Laws.StructEq
import Derived.Deep.RegionLaw
import Derived.Deep.DeepCutAuto
import Derived.Laws.MakeOwn
import Derived.Laws.IdiomCopy
import Derived.Laws.BytesArg
import Derived.ProofKit
import Derived.OpenShut
import Derived.Lay
import Derived.SevenTiedAt
import Derived.Stop.Joined
import Derived.Carry
import Derived.Deep.SlicePairs
namespace Go.Proofs.YtdmdpindonghdabDoor
open Go.RowKit
/-- What a new machine of the program's is. -/
theorem PNew.pr {s : ByteArray} {zs : List Int} {n : Nat} {w w' : World} {K : PK} (h : PNew s zs n w w' K) (h1 : 1 ≤ n) (h2 : n ≤ 32) :
    PR w.heap.size w' K (startS (byteAt s 1) n) ∧ KE K (envOf s K.fs zs n) ∧ EnvOk (envOf s K.fs zs n) ∧ MInv (envOf s K.fs zs n) (startS (byteAt s 1) n) := by
  have hok : EnvOk (envOf s K.fs zs n) := env_ok h.err h.wt h.inv h.still h1 h2
  obtain ⟨vI, hm⟩ := h.m
  have hA := h.A
  refine ⟨⟨K.In (.slice none 0 0), ⟨vI, _, _, _, hm, fun _ h => h⟩, ?_, h.below.size⟩, ⟨h.l, h.L, h.z, ?_⟩, hok, start_inv_m hok⟩
  · rintro k (⟨h1, _⟩ | h1)
    · omega
    · cases h1
  · rw [h.l, h.L]; rfl
def endV (oc va k : Int) (v : Value) : Value := .agg #[.int .i64 oc, .int .i64 va, .int .i64 k, v]
/-- The error of Run. -/
def RunErr (s : ByteArray) (nz : Nat) (cells : Int) (us : List Int) (steps : Int) (r : Nat) : Prop :=
  (r ≠ 0 ∧ NewErr s nz cells r) ∨ (NewErr s nz cells 0 ∧ (us.all fitsB = false ∨ steps < 0 ∨ 2000 < steps) ∧ r = 8) ∨ (NewErr s nz cells 0 ∧ us.all fitsB = true ∧ 0 ≤ steps ∧ steps ≤ 2000 ∧ r = 0)
def RunBad (r : Nat) (w : World) (e : Ending) (w' : World) : Prop := e = .returned (.tuple #[endV 0 0 0 (.slice none 0 0), .int .i64 r]) ∧ Below w.heap.size w w'
def RunOk (s : ByteArray) (zs : List Int) (n : Nat) (us : List Int) (q : Nat) (w : World) (e : Ending) (w' : World) : Prop :=
  Below w.heap.size w w' ∧ ∃ fs v, errOf s = 0 ∧ WT (codeOf s) (byteAt s 1) ∧ SetInv (codeOf s) (byteAt s 1) fs ∧ Still (codeOf s) fs ∧
    e = .returned (.tuple #[endV (runS (envOf s fs zs n) us q 0 (startS (byteAt s 1) n)).2.oc (runS (envOf s fs zs n) us q 0 (startS (byteAt s 1) n)).2.va (runS (envOf s fs zs n) us q 0 (startS (byteAt s 1) n)).1 v, .int .i64 0]) ∧
    w'.ownsRow w.heap.size 3 1 v (runS (envOf s fs zs n) us q 0 (startS (byteAt s 1) n)).2.out.length ((runS (envOf s fs zs n) us q 0 (startS (byteAt s 1) n)).2.out.map (.int .i64))
theorem newErr_range {s : ByteArray} {n : Nat} {cells : Int} (h : NewErr s n cells 0) : 1 ≤ cells ∧ cells ≤ 32 ∧ n ≤ 64 := by
  rcases h with ⟨h, _⟩ | ⟨_, _, h⟩ | ⟨_, _, _, _, h⟩ | ⟨_, h2, h3, h4, _⟩
  · exact absurd rfl h
  · cases h
  · cases h
  · exact ⟨h2, h3, h4⟩
theorem run_out (E : Env) (us : List Int) : ∀ (f k : Nat) (s : MS), s.out.length ≤ k → (runS E us f k s).2.out.length ≤ k + f
  | 0, k, s, h => by simp only [runS]; omega
  | f + 1, k, s, h => by
    simp only [runS]
    split
    · have h1 := stepS_out E (preS E us k s)
      rw [(pre_oc E us k s).2] at h1
      have := run_out E us f (k + 1) (stepS E (preS E us k s)) (by omega)
      omega
    · simp only; omega
theorem PR.va {B : Nat} {w : World} {K : PK} {s : MS} (h : PR B w K s) : w.cell? ⟨K.b, 6, none⟩ = some (.int .i64 s.va) := by
  obtain ⟨F, ⟨vI, vO, lo4, st8, hm, _⟩, _⟩ := h
  have m6 := hm.get 6
  simpa [PK.row] using m6
theorem pr_output {B : Nat} {w : World} {K : PK} {s : MS} (h : PR B w K s) (hn : s.out.length ≤ 8796093022208) :
    Calls Tryd.prog 19 #[.pointer (some ⟨K.b, 0, none⟩)] w (CopyPost s.out w) := by
  obtain ⟨F, ⟨vI, vO, lo4, st8, hm, _⟩, _⟩ := h
  exact poutput_any hm hn
theorem ArgInts.keep {w w' : World} {v : Value} {zs : List Int} (h : ArgInts w v zs) (hb : Below w.heap.size w w') : ArgInts w' v zs := by
  rcases h with h1 | ⟨a, cap, hv, hc, hl⟩
  · exact .inl h1
  · refine .inr ⟨a, cap, hv, fun j x hj => ?_, fun hp => Nat.lt_of_lt_of_le (hl hp) hb.size⟩
    have hz : 0 < zs.length := by have := (List.getElem?_eq_some_iff.1 hj).1; omega
    refine (hb.cell (p := a.add j) ?_).trans (hc j x hj)
    have := hl hz
    unfold Addr.add
    split <;> exact this
theorem endRow {w : World} {b : Nat} {x0 x1 x2 x3 : Value} {t : TypeId} (h : w.heap[b]? = some (.cells #[x0, x1, x2, x3] t)) (v0 v1 v2 v3 : Value) :
    ((((w.setCell ⟨b, 0, none⟩ v0).setCell ⟨b, 1, none⟩ v1).setCell ⟨b, 2, none⟩ v2).setCell ⟨b, 3, none⟩ v3).heap[b]? = some (.cells #[v0, v1, v2, v3] t) ∧
    Only b w ((((w.setCell ⟨b, 0, none⟩ v0).setCell ⟨b, 1, none⟩ v1).setCell ⟨b, 2, none⟩ v2).setCell ⟨b, 3, none⟩ v3) := by
  have h0 := setCell_row 0 v0 h
  have h1 := setCell_row 1 v1 h0
  have h2 := setCell_row 2 v2 h1
  have h3 := setCell_row 3 v3 h2
  refine ⟨?_, ((((Only.refl _ _).set _ _).set _ _).set _ _).set _ _⟩
  rw [h3]
  simp
def endBox (w : World) : World := w.alloc (.cells #[.int .i64 0, .int .i64 0, .int .i64 0, .slice none 0 0] 55)
set_option maxRecDepth 100000 in
set_option maxHeartbeats 1000000 in
theorem pRun_bad (s : ByteArray) (vi vu : Value) (zs us : List Int) (cells steps : Int) (w : World) (hs : s.size ≤ maxLen) (ht : FlowTab w) (hv : ArgInts w vi zs) (hu : ArgInts w vu us) (r : Nat) (hr : r ≠ 0) (he : NewErr s zs.length cells r) :
    Calls Tryd.prog 22 #[.string s, vi, .int .i64 cells, vu, .int .i64 steps] w (RunBad r w) := by
  have hb0 : Below w.heap.size w (endBox w) := (Below.refl _ _).alloc (Nat.le_refl _) _
  have hn := hid (pnew_bad s vi zs cells (endBox w) hs (ht.below hb0) (hv.zs hb0) r hr he)
  have HB0 := hid hb0
  obtain ⟨p0, c0, e0⟩ := hv.slice
  subst e0
  obtain ⟨p1, c1, e1⟩ := hu.slice
  subst e1
  have q0 : ((r : Int) != 0) = true := by simp; omega
  have hbx := heap_alloc_new w (.cells #[.int .i64 0, .int .i64 0, .int .i64 0, .slice none 0 0] 55)
  unfold endBox at *
  have HBX := hid hbx
  clear hs ht hv hu he hr hb0 hbx
  go_enter Tryd.func22, Tryd.ntmps22
  go_wp2_with fail
  refine hn.out.mono ?_
  clear hn
  intro e w1 hp
  obtain ⟨hx, hb⟩ := hp
  subst e
  have hrow := (hb.block w.heap.size (by simp)).trans HBX.out
  have HB := hid (HB0.out.trans (hb.mono HB0.out.size))
  have k0 := cell_of_row w1 w.heap.size 0 _ _ _ hrow
  have k1 := cell_of_row w1 w.heap.size 1 _ _ _ hrow
  have k2 := cell_of_row w1 w.heap.size 2 _ _ _ hrow
  have k3 := cell_of_row w1 w.heap.size 3 _ _ _ hrow
  have f0 := frozen_of_row w1 w.heap.size 0 _ _ hrow
  have f1 := frozen_of_row w1 w.heap.size 1 _ _ hrow
  have f2 := frozen_of_row w1 w.heap.size 2 _ _ hrow
  have f3 := frozen_of_row w1 w.heap.size 3 _ _ hrow
  simp only [List.getElem?_toArray, List.getElem?_cons_zero, List.getElem?_cons_succ] at k0 k1 k2 k3
  have hz : w.heap.size < w1.heap.size := (Array.getElem?_eq_some_iff.1 hrow).1
  have HR := hid hrow
  clear hb HBX HB0 hrow
  go_wp2_with fail
  clear k0 k1 k2 k3 f0 f1 f2 f3
  obtain ⟨hr4, ho4⟩ := endRow HR.out (.int .i64 0) (.int .i64 0) (.int .i64 0) (.slice none 0 0)
  generalize ((((w1.setCell ⟨w.heap.size, 0, none⟩ (.int .i64 0)).setCell ⟨w.heap.size, 1, none⟩ (.int .i64 0)).setCell ⟨w.heap.size, 2, none⟩ (.int .i64 0)).setCell ⟨w.heap.size, 3, none⟩ (.slice none 0 0)) = WF at *
  have z0 := cell_of_row WF w.heap.size 0 _ _ _ hr4
  have z1 := cell_of_row WF w.heap.size 1 _ _ _ hr4
  have z2 := cell_of_row WF w.heap.size 2 _ _ _ hr4
  have z3 := cell_of_row WF w.heap.size 3 _ _ _ hr4
  simp only [List.getElem?_toArray, List.getElem?_cons_zero, List.getElem?_cons_succ] at z0 z1 z2 z3
  refine bodyPost_ret (v := .tuple #[endV 0 0 0 (.slice none 0 0), .int .i64 r]) (by simp [results, Tryd.results22, go_sem, z0, z1, z2, z3, endV]) rfl ?_
  exact ⟨rfl, HB.out.trans (ho4.below (Nat.le_refl _))⟩
set_option maxRecDepth 100000 in
set_option maxHeartbeats 1000000 in
theorem pRun_unfit (s : ByteArray) (vi vu : Value) (zs us : List Int) (n : Nat) (steps : Int) (w : World) (hs : s.size ≤ maxLen) (ht : FlowTab w) (hv : ArgInts w vi zs) (hu : ArgInts w vu us) (hul : us.length ≤ 17592186044416) (he : NewErr s zs.length (n : Int) 0) (hf : us.all fitsB = false) :
    Calls Tryd.prog 22 #[.string s, vi, .int .i64 n, vu, .int .i64 steps] w (RunBad 8 w) := by
  have hb0 : Below w.heap.size w (endBox w) := (Below.refl _ _).alloc (Nat.le_refl _) _
  have hn := hid (pnew_ok s vi zs n (endBox w) hs (ht.below hb0) (hv.keep hb0) he)
  have HU := hid (fun (W : World) (hb : Below (endBox w).heap.size (endBox w) W) => hu.keep (hb0.trans (hb.mono hb0.size)))
  have HB0 := hid hb0
  obtain ⟨p0, c0, e0⟩ := hv.slice
  subst e0
  obtain ⟨p1, c1, e1⟩ := hu.slice
  subst e1
  have hbx := heap_alloc_new w (.cells #[.int .i64 0, .int .i64 0, .int .i64 0, .slice none 0 0] 55)
  unfold endBox at *
  have HBX := hid hbx
  clear hs ht hv hu he hb0 hbx
  go_enter Tryd.func22, Tryd.ntmps22
  go_wp2_with fail
  refine hn.out.mono ?_
  clear hn
  intro e w1 hp
  obtain ⟨K, hx, hN⟩ := hp
  subst e
  have hrow := (hN.below.block w.heap.size (by simp)).trans HBX.out
  have HB := hid (HB0.out.trans (hN.below.mono HB0.out.size))
  have k0 := cell_of_row w1 w.heap.size 0 _ _ _ hrow
  have k1 := cell_of_row w1 w.heap.size 1 _ _ _ hrow
  have k2 := cell_of_row w1 w.heap.size 2 _ _ _ hrow
  have k3 := cell_of_row w1 w.heap.size 3 _ _ _ hrow
  have f0 := frozen_of_row w1 w.heap.size 0 _ _ hrow
  have f1 := frozen_of_row w1 w.heap.size 1 _ _ hrow
  have f2 := frozen_of_row w1 w.heap.size 2 _ _ hrow
  have f3 := frozen_of_row w1 w.heap.size 3 _ _ hrow
  simp only [List.getElem?_toArray, List.getElem?_cons_zero, List.getElem?_cons_succ] at k0 k1 k2 k3
  have hz : w.heap.size < w1.heap.size := (Array.getElem?_eq_some_iff.1 hrow).1
  have hfa := hid (allFit_any _ us w1 (HU.out w1 hN.below) hul)
  rw [hf] at hfa
  clear hN HBX HB0 HU hf
  go_wp2_with fail
  refine hfa.out.mono ?_
  clear hfa
  intro e w2 hp
  obtain ⟨hx, hw⟩ := hp
  subst e
  subst w2
  have HR := hid hrow
  clear hrow
  go_wp2_with fail
  clear k0 k1 k2 k3 f0 f1 f2 f3
  obtain ⟨hr4, ho4⟩ := endRow HR.out (.int .i64 0) (.int .i64 0) (.int .i64 0) (.slice none 0 0)
  generalize ((((w1.setCell ⟨w.heap.size, 0, none⟩ (.int .i64 0)).setCell ⟨w.heap.size, 1, none⟩ (.int .i64 0)).setCell ⟨w.heap.size, 2, none⟩ (.int .i64 0)).setCell ⟨w.heap.size, 3, none⟩ (.slice none 0 0)) = WF at *
  have z0 := cell_of_row WF w.heap.size 0 _ _ _ hr4
  have z1 := cell_of_row WF w.heap.size 1 _ _ _ hr4
  have z2 := cell_of_row WF w.heap.size 2 _ _ _ hr4
  have z3 := cell_of_row WF w.heap.size 3 _ _ _ hr4
  simp only [List.getElem?_toArray, List.getElem?_cons_zero, List.getElem?_cons_succ] at z0 z1 z2 z3
  refine bodyPost_ret (v := .tuple #[endV 0 0 0 (.slice none 0 0), .int .i64 8]) (by simp [results, Tryd.results22, go_sem, z0, z1, z2, z3, endV]) rfl ?_
  exact ⟨rfl, HB.out.trans (ho4.below (Nat.le_refl _))⟩
set_option maxRecDepth 100000 in
set_option maxHeartbeats 1000000 in
theorem pRun_neg (s : ByteArray) (vi vu : Value) (zs us : List Int) (n : Nat) (steps : Int) (w : World) (hs : s.size ≤ maxLen) (ht : FlowTab w) (hv : ArgInts w vi zs) (hu : ArgInts w vu us) (hul : us.length ≤ 17592186044416) (he : NewErr s zs.length (n : Int) 0) (hf : us.all fitsB = true) (hst : steps < 0) :
    Calls Tryd.prog 22 #[.string s, vi, .int .i64 n, vu, .int .i64 steps] w (RunBad 8 w) := by
  have hb0 : Below w.heap.size w (endBox w) := (Below.refl _ _).alloc (Nat.le_refl _) _
  have hn := hid (pnew_ok s vi zs n (endBox w) hs (ht.below hb0) (hv.keep hb0) he)
  have HU := hid (fun (W : World) (hb : Below (endBox w).heap.size (endBox w) W) => hu.keep (hb0.trans (hb.mono hb0.size)))
  have HB0 := hid hb0
  obtain ⟨p0, c0, e0⟩ := hv.slice
  subst e0
  obtain ⟨p1, c1, e1⟩ := hu.slice
  subst e1
  have hbx := heap_alloc_new w (.cells #[.int .i64 0, .int .i64 0, .int .i64 0, .slice none 0 0] 55)
  unfold endBox at *
  have HBX := hid hbx
  clear hs ht hv hu he hb0 hbx
  go_enter Tryd.func22, Tryd.ntmps22
  go_wp2_with fail
  refine hn.out.mono ?_
  clear hn
  intro e w1 hp
  obtain ⟨K, hx, hN⟩ := hp
  subst e
  have hrow := (hN.below.block w.heap.size (by simp)).trans HBX.out
  have HB := hid (HB0.out.trans (hN.below.mono HB0.out.size))
  have k0 := cell_of_row w1 w.heap.size 0 _ _ _ hrow
  have k1 := cell_of_row w1 w.heap.size 1 _ _ _ hrow
  have k2 := cell_of_row w1 w.heap.size 2 _ _ _ hrow
  have k3 := cell_of_row w1 w.heap.size 3 _ _ _ hrow
  have f0 := frozen_of_row w1 w.heap.size 0 _ _ hrow
  have f1 := frozen_of_row w1 w.heap.size 1 _ _ hrow
  have f2 := frozen_of_row w1 w.heap.size 2 _ _ hrow
  have f3 := frozen_of_row w1 w.heap.size 3 _ _ hrow
  simp only [List.getElem?_toArray, List.getElem?_cons_zero, List.getElem?_cons_succ] at k0 k1 k2 k3
  have hz : w.heap.size < w1.heap.size := (Array.getElem?_eq_some_iff.1 hrow).1
  have hfa := hid (allFit_any _ us w1 (HU.out w1 hN.below) hul)
  rw [hf] at hfa
  clear hN HBX HB0 HU hf
  go_wp2_with fail
  refine hfa.out.mono ?_
  clear hfa
  intro e w2 hp
  obtain ⟨hx, hw⟩ := hp
  subst e
  subst w2
  have HR := hid hrow
  clear hrow
  go_wp2_with fail
  clear k0 k1 k2 k3 f0 f1 f2 f3
  obtain ⟨hr4, ho4⟩ := endRow HR.out (.int .i64 0) (.int .i64 0) (.int .i64 0) (.slice none 0 0)
  generalize ((((w1.setCell ⟨w.heap.size, 0, none⟩ (.int .i64 0)).setCell ⟨w.heap.size, 1, none⟩ (.int .i64 0)).setCell ⟨w.heap.size, 2, none⟩ (.int .i64 0)).setCell ⟨w.heap.size, 3, none⟩ (.slice none 0 0)) = WF at *
  have z0 := cell_of_row WF w.heap.size 0 _ _ _ hr4
  have z1 := cell_of_row WF w.heap.size 1 _ _ _ hr4
  have z2 := cell_of_row WF w.heap.size 2 _ _ _ hr4
  have z3 := cell_of_row WF w.heap.size 3 _ _ _ hr4
  simp only [List.getElem?_toArray, List.getElem?_cons_zero, List.getElem?_cons_succ] at z0 z1 z2 z3
  refine bodyPost_ret (v := .tuple #[endV 0 0 0 (.slice none 0 0), .int .i64 8]) (by simp [results, Tryd.results22, go_sem, z0, z1, z2, z3, endV]) rfl ?_
  exact ⟨rfl, HB.out.trans (ho4.below (Nat.le_refl _))⟩
set_option maxRecDepth 100000 in
set_option maxHeartbeats 1000000 in
theorem pRun_far (s : ByteArray) (vi vu : Value) (zs us : List Int) (n : Nat) (steps : Int) (w : World) (hs : s.size ≤ maxLen) (ht : FlowTab w) (hv : ArgInts w vi zs) (hu : ArgInts w vu us) (hul : us.length ≤ 17592186044416) (he : NewErr s zs.length (n : Int) 0) (hf : us.all fitsB = true) (hst : ¬ steps < 0) (hst2 : 2000 < steps) :
    Calls Tryd.prog 22 #[.string s, vi, .int .i64 n, vu, .int .i64 steps] w (RunBad 8 w) := by
  have hb0 : Below w.heap.size w (endBox w) := (Below.refl _ _).alloc (Nat.le_refl _) _
  have hn := hid (pnew_ok s vi zs n (endBox w) hs (ht.below hb0) (hv.keep hb0) he)
  have HU := hid (fun (W : World) (hb : Below (endBox w).heap.size (endBox w) W) => hu.keep (hb0.trans (hb.mono hb0.size)))
  have HB0 := hid hb0
  obtain ⟨p0, c0, e0⟩ := hv.slice
  subst e0
  obtain ⟨p1, c1, e1⟩ := hu.slice
  subst e1
  have hbx := heap_alloc_new w (.cells #[.int .i64 0, .int .i64 0, .int .i64 0, .slice none 0 0] 55)
  unfold endBox at *
  have HBX := hid hbx
  clear hs ht hv hu he hb0 hbx
  go_enter Tryd.func22, Tryd.ntmps22
  go_wp2_with fail
  refine hn.out.mono ?_
  clear hn
  intro e w1 hp
  obtain ⟨K, hx, hN⟩ := hp
  subst e
  have hrow := (hN.below.block w.heap.size (by simp)).trans HBX.out
  have HB := hid (HB0.out.trans (hN.below.mono HB0.out.size))
  have k0 := cell_of_row w1 w.heap.size 0 _ _ _ hrow
  have k1 := cell_of_row w1 w.heap.size 1 _ _ _ hrow
  have k2 := cell_of_row w1 w.heap.size 2 _ _ _ hrow
  have k3 := cell_of_row w1 w.heap.size 3 _ _ _ hrow
  have f0 := frozen_of_row w1 w.heap.size 0 _ _ hrow
  have f1 := frozen_of_row w1 w.heap.size 1 _ _ hrow
  have f2 := frozen_of_row w1 w.heap.size 2 _ _ hrow
  have f3 := frozen_of_row w1 w.heap.size 3 _ _ hrow
  simp only [List.getElem?_toArray, List.getElem?_cons_zero, List.getElem?_cons_succ] at k0 k1 k2 k3
  have hz : w.heap.size < w1.heap.size := (Array.getElem?_eq_some_iff.1 hrow).1
  have hfa := hid (allFit_any _ us w1 (HU.out w1 hN.below) hul)
  rw [hf] at hfa
  clear hN HBX HB0 HU hf
  go_wp2_with fail
  refine hfa.out.mono ?_
  clear hfa
  intro e w2 hp
  obtain ⟨hx, hw⟩ := hp
  subst e
  subst w2
  have HR := hid hrow
  clear hrow
  go_wp2_with fail
  clear k0 k1 k2 k3 f0 f1 f2 f3
  obtain ⟨hr4, ho4⟩ := endRow HR.out (.int .i64 0) (.int .i64 0) (.int .i64 0) (.slice none 0 0)
  generalize ((((w1.setCell ⟨w.heap.size, 0, none⟩ (.int .i64 0)).setCell ⟨w.heap.size, 1, none⟩ (.int .i64 0)).setCell ⟨w.heap.size, 2, none⟩ (.int .i64 0)).setCell ⟨w.heap.size, 3, none⟩ (.slice none 0 0)) = WF at *
  have z0 := cell_of_row WF w.heap.size 0 _ _ _ hr4
  have z1 := cell_of_row WF w.heap.size 1 _ _ _ hr4
  have z2 := cell_of_row WF w.heap.size 2 _ _ _ hr4
  have z3 := cell_of_row WF w.heap.size 3 _ _ _ hr4
  simp only [List.getElem?_toArray, List.getElem?_cons_zero, List.getElem?_cons_succ] at z0 z1 z2 z3
  refine bodyPost_ret (v := .tuple #[endV 0 0 0 (.slice none 0 0), .int .i64 8]) (by simp [results, Tryd.results22, go_sem, z0, z1, z2, z3, endV]) rfl ?_
  exact ⟨rfl, HB.out.trans (ho4.below (Nat.le_refl _))⟩
theorem ArgInts.argB {w : World} {B : Nat} {v : Value} {zs : List Int} (h : ArgInts w v zs) (hB : w.heap.size ≤ B) {w' : World} (hb : Below w.heap.size w w') : ArgB B w' v zs := by
  refine ⟨h.keep hb, ?_⟩
  intro a n c hv hn
  rcases h with ⟨h1, _⟩ | ⟨a', cap, hv', _, hl⟩
  · rw [h1] at hv; cases hv
  · rw [hv'] at hv
    cases hv
    have := hl hn
    omega
theorem PR.turn {B : Nat} {w w' : World} {K : PK} {s : MS} (h : PR B w K s) {b : Nat} (ho : Only b w w') (hb : b < B) : PR B w' K s := by
  obtain ⟨F, h1, h2, h3⟩ := h
  refine ⟨F, h1.keep (by rw [ho.size]; exact Nat.le_refl _) (fun k _ hk => ho.block k ?_), h2, by rw [ho.size]; exact h3⟩
  have := h2 k hk
  omega
theorem prun_any {B : Nat} {K : PK} {E : Env} {s : MS} (vu : Value) (us : List Int) (most : Nat) (w : World) (h : PR B w K s) (hke : KE K E) (he : EnvOk E) (hi : MInv E s) (hz : E.zs.length ≤ 64) (hlen : s.out.length = 0) (hu : ArgB B w vu us) (hl : us.length ≤ 17592186044416) (hf : us.all fitsB = true) (hm : most ≤ 2000) :
    Calls Tryd.prog 43 #[.pointer (some ⟨K.b, 0, none⟩), vu, .int .i64 most] w fun e w' => e = .returned (.int .i64 (runS E us most 0 s).1) ∧ PR B w' K (runS E us most 0 s).2 ∧ Below B w w' := by
  rcases Nat.eq_zero_or_pos us.length with h0 | h0
  · have : us = [] := List.length_eq_zero_iff.1 h0
    subst this
    exact prun_nil vu most w h hke he hi hz hlen hu hm
  · exact prun_some vu us most w h hke he hi hz hlen hu hl hf h0 hm
set_option maxRecDepth 100000 in
set_option maxHeartbeats 1000000 in
theorem pRun_good (s : ByteArray) (vi vu : Value) (zs us : List Int) (n q : Nat) (w : World) (hs : s.size ≤ maxLen) (ht : FlowTab w) (hv : ArgInts w vi zs) (hu : ArgInts w vu us) (hul : us.length ≤ 17592186044416) (he : NewErr s zs.length (n : Int) 0) (hf : us.all fitsB = true) (hq : q ≤ 2000) :
    Calls Tryd.prog 22 #[.string s, vi, .int .i64 n, vu, .int .i64 q] w (RunOk s zs n us q w) := by
  have hb0 : Below w.heap.size w (endBox w) := (Below.refl _ _).alloc (Nat.le_refl _) _
  have hn := hid (pnew_ok s vi zs n (endBox w) hs (ht.below hb0) (hv.keep hb0) he)
  have HU := hid (fun (W : World) (hb : Below (endBox w).heap.size (endBox w) W) => hu.keep (hb0.trans (hb.mono hb0.size)))
  have HB0 := hid hb0
  obtain ⟨p0, c0, e0⟩ := hv.slice
  subst e0
  obtain ⟨p1, c1, e1⟩ := hu.slice
  subst e1
  have hbx := heap_alloc_new w (.cells #[.int .i64 0, .int .i64 0, .int .i64 0, .slice none 0 0] 55)
  unfold endBox at *
  have HBX := hid hbx
  have HUB := hid (fun (W : World) (hb : Below (endBox w).heap.size (endBox w) W) => hu.argB (B := (endBox w).heap.size) (by simp [endBox]) (hb0.trans (hb.mono hb0.size)))
  unfold endBox at HUB
  obtain ⟨r1, r2, r3⟩ := newErr_range he
  clear hs ht hv hu he hb0 hbx
  go_enter Tryd.func22, Tryd.ntmps22
  go_wp2_with fail
  refine hn.out.mono ?_
  clear hn
  intro e w1 hp
  obtain ⟨K, hx, hN⟩ := hp
  subst e
  obtain ⟨hP, hke, hok, hinv⟩ := hN.pr (by omega) (by omega)
  have hrow := (hN.below.block w.heap.size (by simp)).trans HBX.out
  have HB := hid (HB0.out.trans (hN.below.mono HB0.out.size))
  have hfa := hid (allFit_any _ us w1 (HU.out w1 hN.below) hul)
  rw [hf] at hfa
  have hrn := hid (prun_any _ us q w1 hP hke hok hinv r3 rfl (HUB.out w1 hN.below) hul hf hq)
  have HN := hid (show errOf s = 0 ∧ WT (codeOf s) (byteAt s 1) ∧ SetInv (codeOf s) (byteAt s 1) K.fs ∧ Still (codeOf s) K.fs from ⟨hN.err, hN.wt, hN.inv, hN.still⟩)
  have hol := run_out (envOf s K.fs zs n) us q 0 (startS (byteAt s 1) n) (Nat.le_refl _)
  obtain ⟨R, hR⟩ : ∃ R, R = runS (envOf s K.fs zs n) us q 0 (startS (byteAt s 1) n) := ⟨_, rfl⟩
  rw [← hR] at hrn hol
  have HR := hid hR
  have qs : ¬ (q : Int) < 0 := by omega
  have qt : ¬ (2000 : Int) < (q : Int) := by omega
  clear hN HBX HB0 HU HUB hf hP hke hok hinv hR
  go_wp2_with fail
  refine hfa.out.mono ?_
  clear hfa
  intro e w2 hp
  obtain ⟨hx, hw⟩ := hp
  subst e
  subst w2
  go_wp2_with fail
  refine hrn.out.mono ?_
  clear hrn
  intro e w2 hp
  obtain ⟨hx, hP2, hB2⟩ := hp
  subst e
  have hou := hid (pr_output hP2 (by omega))
  have ho5 := hP2.oc
  have ho6 := hP2.va
  have hbz : K.b < w2.heap.size := World.block_lt_of_cell? w2 _ ho5
  have hrow2 := (hB2.block w.heap.size (by simp)).trans hrow
  have hz2 : w.heap.size < w2.heap.size := (Array.getElem?_eq_some_iff.1 hrow2).1
  have HB2 := hid (HB.out.trans (hB2.mono (by simp)))
  have HO5 := hid ho5
  have HO6 := hid ho6
  clear hP2 hB2 hrow HB ho5 ho6
  go_wp2_with fail
  refine hou.out.mono ?_
  clear hou
  intro e w3 hp
  obtain ⟨hb3, v, hx, hown⟩ := hp
  subst e
  obtain ⟨p3, c3, e3⟩ := owns_slice hown
  subst e3
  have o5 := (hb3.cell (p := ⟨K.b, 5, none⟩) hbz).trans HO5.out
  have o6 := (hb3.cell (p := ⟨K.b, 6, none⟩) hbz).trans HO6.out
  have hrow3 := (hb3.block w.heap.size hz2).trans hrow2
  have k0 := cell_of_row w3 w.heap.size 0 _ _ _ hrow3
  have k1 := cell_of_row w3 w.heap.size 1 _ _ _ hrow3
  have k2 := cell_of_row w3 w.heap.size 2 _ _ _ hrow3
  have k3 := cell_of_row w3 w.heap.size 3 _ _ _ hrow3
  have f0 := frozen_of_row w3 w.heap.size 0 _ _ hrow3
  have f1 := frozen_of_row w3 w.heap.size 1 _ _ hrow3
  have f2 := frozen_of_row w3 w.heap.size 2 _ _ hrow3
  have f3 := frozen_of_row w3 w.heap.size 3 _ _ hrow3
  simp only [List.getElem?_toArray, List.getElem?_cons_zero, List.getElem?_cons_succ] at k0 k1 k2 k3
  have hz3 : w.heap.size < w3.heap.size := (Array.getElem?_eq_some_iff.1 hrow3).1
  have HB3 := hid (HB2.out.trans (hb3.mono (by omega)))
  have HW := hid hown
  have HR3 := hid hrow3
  clear hb3 hown hrow3 hrow2 HO5 HO6 HB2
  go_wp2_with fail
  go_region
  clear k0 k1 k2 k3 f0 f1 f2 f3 o5 o6
  obtain ⟨hr4, ho4⟩ := endRow HR3.out (.int .i64 R.2.oc) (.int .i64 R.2.va) (.int .i64 R.1) (.slice p3 R.2.out.length c3)
  generalize ((((w3.setCell ⟨w.heap.size, 0, none⟩ (.int .i64 R.2.oc)).setCell ⟨w.heap.size, 1, none⟩ (.int .i64 R.2.va)).setCell ⟨w.heap.size, 2, none⟩ (.int .i64 R.1)).setCell ⟨w.heap.size, 3, none⟩ (.slice p3 R.2.out.length c3)) = WF at *
  have hbd : Below WF.heap.size WF WF.drew := (Below.refl _ _).drew
  have hr5 : WF.drew.heap[w.heap.size]? = _ := (hbd.block w.heap.size (by rw [ho4.size]; exact hz3)).trans hr4
  have HF : Hid (RunOk s zs n us q w (.returned (.tuple #[endV R.2.oc R.2.va R.1 (.slice p3 R.2.out.length c3), .int .i64 0])) WF.drew) := hid (by
    refine ⟨(HB3.out.trans (ho4.below (Nat.le_refl _))).trans (hbd.mono (by rw [ho4.size]; omega)), K.fs, .slice p3 R.2.out.length c3, HN.out.1, HN.out.2.1, HN.out.2.2.1, HN.out.2.2.2, ?_, ?_⟩
    · rw [← HR.out]
    · rw [← HR.out]
      have h1 := owns_keep HW.out (w' := WF) (fun g hg => ho4.block g (by have := (HW.out.lt g hg).1; omega))
      have h2 := owns_keep h1 (w' := WF.drew) (fun g hg => hbd.block g (h1.lt g hg).2)
      exact owns_mono h2 (by omega))
  generalize WF.drew = WG at *
  have z0 := cell_of_row WG w.heap.size 0 _ _ _ hr5
  have z1 := cell_of_row WG w.heap.size 1 _ _ _ hr5
  have z2 := cell_of_row WG w.heap.size 2 _ _ _ hr5
  have z3 := cell_of_row WG w.heap.size 3 _ _ _ hr5
  simp only [List.getElem?_toArray, List.getElem?_cons_zero, List.getElem?_cons_succ] at z0 z1 z2 z3
  clear hr4 ho4 hr5 hbd HR3
  go_wp2_with fail
  refine bodyPost_ret (v := .tuple #[endV R.2.oc R.2.va R.1 (.slice p3 R.2.out.length c3), .int .i64 0]) (by simp [results, Tryd.results22, go_sem, z0, z1, z2, z3, endV]) rfl ?_
  exact HF.out
/-- Run, whole. -/
theorem pRun_any (s : ByteArray) (vi vu : Value) (zs us : List Int) (cells steps : Int) (w : World) (hs : s.size ≤ maxLen) (ht : FlowTab w) (hv : ArgInts w vi zs) (hu : ArgInts w vu us) (hul : us.length ≤ 17592186044416) (r : Nat) (he : RunErr s zs.length cells us steps r) :
    Calls Tryd.prog 22 #[.string s, vi, .int .i64 cells, vu, .int .i64 steps] w fun e w' => (r ≠ 0 ∧ RunBad r w e w') ∨ (r = 0 ∧ ∃ n q : Nat, cells = (n : Int) ∧ steps = (q : Int) ∧ q ≤ 2000 ∧ us.all fitsB = true ∧ NewErr s zs.length (n : Int) 0 ∧ RunOk s zs n us q w e w') := by
  rcases he with ⟨h1, h2⟩ | ⟨h1, h2, rfl⟩ | ⟨h1, h2, h3, h4, rfl⟩
  · exact (pRun_bad s vi vu zs us cells steps w hs ht hv hu r h1 h2).mono (fun e w' h => .inl ⟨h1, h⟩)
  · obtain ⟨r1, r2, _⟩ := newErr_range h1
    obtain ⟨n, rfl⟩ : ∃ n : Nat, cells = (n : Int) := ⟨cells.toNat, by omega⟩
    by_cases hf : us.all fitsB = true
    · by_cases hn : steps < 0
      · exact (pRun_neg s vi vu zs us n steps w hs ht hv hu hul h1 hf hn).mono (fun e w' h => .inl ⟨by omega, h⟩)
      · have hfar : 2000 < steps := by
          rcases h2 with h | h | h
          · rw [hf] at h; cases h
          · omega
          · exact h
        exact (pRun_far s vi vu zs us n steps w hs ht hv hu hul h1 hf hn hfar).mono (fun e w' h => .inl ⟨by omega, h⟩)
    · exact (pRun_unfit s vi vu zs us n steps w hs ht hv hu hul h1 (by simpa using hf)).mono (fun e w' h => .inl ⟨by omega, h⟩)
  · obtain ⟨r1, r2, _⟩ := newErr_range h1
    obtain ⟨n, rfl⟩ : ∃ n : Nat, cells = (n : Int) := ⟨cells.toNat, by omega⟩
    obtain ⟨q, rfl⟩ : ∃ q : Nat, steps = (q : Int) := ⟨steps.toNat, by omega⟩
    exact (pRun_good s vi vu zs us n q w hs ht hv hu hul h1 h2 (by omega)).mono (fun e w' h => .inr ⟨rfl, n, q, rfl, rfl, by omega, h2, h1, h⟩)
theorem runErr_all (s : ByteArray) (nz : Nat) (cells : Int) (us : List Int) (steps : Int) (h : ∃ r, NewErr s nz cells r) : ∃ r, RunErr s nz cells us steps r := by
  obtain ⟨r, hr⟩ := h
  by_cases h0 : r = 0
  · subst h0
    by_cases hf : us.all fitsB = true
    · by_cases h1 : 0 ≤ steps
      · by_cases h2 : steps ≤ 2000
        · exact ⟨0, .inr (.inr ⟨hr, hf, h1, h2, rfl⟩)⟩
        · exact ⟨8, .inr (.inl ⟨hr, .inr (.inr (by omega)), rfl⟩)⟩
      · exact ⟨8, .inr (.inl ⟨hr, .inr (.inl (by omega)), rfl⟩)⟩
    · exact ⟨8, .inr (.inl ⟨hr, .inl (by simpa using hf), rfl⟩)⟩
  · exact ⟨r, .inl ⟨h0, hr⟩⟩
end Go.Proofs.YtdmdpindonghdabDoor
namespace Go.Proofs.YtdmdpindonghdabDoor
open Go.RowKit
/-- Which of n things a raw number speaks of. -/
def pickN (c : Int) (n : Nat) : Nat := (if c < 0 then -(c + 1) else c).toNat % n
theorem pickN_lt (c : Int) {n : Nat} (h : 0 < n) : pickN c n < n := Nat.mod_lt _ h
set_option maxRecDepth 100000 in
theorem pick_any (c : Int) (n : Nat) (w : World) (h1 : -9223372036854775808 ≤ c) (h2 : c ≤ 9223372036854775807) (hn : 0 < n) (hn2 : n ≤ 1000) :
    Calls Tryd.prog 16 #[.int .i64 c, .int .i64 n] w fun e w' => e = .returned (.int .i64 (pickN c n)) ∧ w' = w := by
  have d0 : (n : Int) ≠ 0 := by omega
  by_cases h0 : c < 0
  · have HP : Hid ((pickN c n : Int) = -((c + 1).tmod n)) := hid (by
      unfold pickN
      rw [if_pos h0, ← Int.neg_tmod, Int.tmod_eq_emod_of_nonneg (by omega)]
      have : ((-(c + 1)).toNat : Int) = -(c + 1) := by omega
      rw [← this]
      rfl)
    go_enter Tryd.func16, Tryd.ntmps16
    go_wp2_with fail
    go_ret
    refine ⟨?_, rfl⟩
    rw [HP.out]
    rfl
  · have HP : Hid ((pickN c n : Int) = c % n) := hid (by
      unfold pickN
      rw [if_neg h0]
      have : (c.toNat : Int) = c := by omega
      rw [← this]
      rfl)
    go_enter Tryd.func16, Tryd.ntmps16
    go_wp2_with fail
    go_ret
    refine ⟨?_, rfl⟩
    rw [HP.out]
    rfl
def roomN (c : Int) : Nat := 1 + pickN c 32
theorem roomN_le (c : Int) : 1 ≤ roomN c ∧ roomN c ≤ 32 := by
  have := pickN_lt c (n := 32) (by omega)
  unfold roomN
  omega
set_option maxRecDepth 100000 in
theorem room_any (c : Int) (w : World) (h1 : -9223372036854775808 ≤ c) (h2 : c ≤ 9223372036854775807) :
    Calls Tryd.prog 8 #[.int .i64 c] w fun e w' => e = .returned (.int .i64 (roomN c)) ∧ w' = w := by
  have hp := hid (pick_any c 32 w h1 h2 (by omega) (by omega))
  have hlt := pickN_lt c (n := 32) (by omega)
  have HR : Hid ((roomN c : Int) = 1 + (pickN c 32 : Int)) := hid (by unfold roomN; omega)
  go_enter Tryd.func8, Tryd.ntmps8
  go_wp2_with fail
  refine hp.out.mono ?_
  clear hp
  intro e w1 hh
  obtain ⟨hx, hw⟩ := hh
  subst e
  subst w1
  go_wp2_with fail
  go_ret
  refine ⟨?_, rfl⟩
  rw [HR.out]
  rfl
set_option maxRecDepth 100000 in
theorem within_any (v lo hi : Int) (w : World) : Calls Tryd.prog 31 #[.int .i64 v, .int .i64 lo, .int .i64 hi] w fun e w' => e = .returned (.bool (decide (lo ≤ v) && decide (v ≤ hi))) ∧ w' = w := by
  by_cases h0 : lo ≤ v
  · by_cases h1 : v ≤ hi
    · rw [decide_eq_true h0, decide_eq_true h1]
      go_enter Tryd.func31, Tryd.ntmps31
      go_wp2_with fail
      go_ret
      exact ⟨rfl, rfl⟩
    · rw [decide_eq_true h0, decide_eq_false h1]
      go_enter Tryd.func31, Tryd.ntmps31
      go_wp2_with fail
      go_ret
      exact ⟨rfl, rfl⟩
  · rw [decide_eq_false h0]
    go_enter Tryd.func31, Tryd.ntmps31
    go_wp2_with fail
    go_ret
    exact ⟨rfl, rfl⟩
theorem take_args {w : World} {p : Option Addr} {c : Nat} {zs : List Int} (h : ArgInts w (.slice p zs.length c) zs) (k : Nat) (hk : k < zs.length) : ArgInts w (.slice p k c) (zs.take k) := by
  have hl : (zs.take k).length = k := by rw [List.length_take]; omega
  rcases h with ⟨h1, h2⟩ | ⟨a, cap, hv, hc, hb⟩
  · rw [h2] at hk; simp at hk
  · cases hv
    refine .inr ⟨a, c, by rw [hl], fun j x hj => ?_, fun _ => hb (by omega)⟩
    have hjl := (List.getElem?_eq_some_iff.1 hj).1
    rw [hl] at hjl
    rw [List.getElem?_take, if_pos hjl] at hj
    exact hc j x hj
set_option maxRecDepth 100000 in
set_option maxHeartbeats 1000000 in
theorem some_any (vi : Value) (zs : List Int) (w : World) (hv : ArgInts w vi zs) (hcap : ∀ p n c, vi = .slice p n c → n ≤ c ∧ c ≤ maxLen) :
    Calls Tryd.prog 11 #[vi] w fun e w' => (∃ v, e = .returned v ∧ ArgInts w v (zs.take 64)) ∧ w' = w := by
  obtain ⟨p0, c0, e0⟩ := hv.slice
  subst e0
  obtain ⟨k1, k2⟩ := hcap _ _ _ rfl
  have HV := hid hv
  have HT : Hid (64 < zs.length → ArgInts w (.slice p0 64 c0) (zs.take 64)) := hid (fun h => take_args hv 64 h)
  have hmx : maxLen = 9223372036854775807 := rfl
  rw [hmx] at k2
  clear hv hcap hmx
  by_cases h64 : (64 : Int) < (zs.length : Int)
  · have h64n : 64 < zs.length := by omega
    have d1 : (64 : Int) ≤ (c0 : Int) := by omega
    obtain ⟨a, ha⟩ : ∃ a, p0 = some a := by
      rcases HV.out with ⟨h1, h2⟩ | ⟨a, cap, hv, _⟩
      · rw [h2] at h64n; simp at h64n
      · cases hv; exact ⟨_, rfl⟩
    subst ha
    have HT2 := hid (HT.out h64n)
    clear HT
    go_enter Tryd.func11, Tryd.ntmps11
    go_wp2_with fail
    go_ret
    exact ⟨⟨_, rfl, HT2.out⟩, rfl⟩
  · have HE : Hid (zs.take 64 = zs) := hid (List.take_of_length_le (by omega))
    go_enter Tryd.func11, Tryd.ntmps11
    go_wp2_with fail
    go_ret
    exact ⟨⟨_, rfl, by rw [HE.out]; exact HV.out⟩, rfl⟩
/-- What made leaves: a machine of the image. -/
structure Made (s : ByteArray) (zs : List Int) (n : Nat) (w w' : World) (K : PK) : Prop where
  below : Below w.heap.size w w'
  pr : PR w.heap.size w' K (startS (byteAt s 1) n)
  ke : KE K (envOf s K.fs zs n)
  ok : EnvOk (envOf s K.fs zs n)
  inv : MInv (envOf s K.fs zs n) (startS (byteAt s 1) n)
  wt : WT (codeOf s) (byteAt s 1)
  set : SetInv (codeOf s) (byteAt s 1) K.fs
  still : Still (codeOf s) K.fs
def MadePost (s : ByteArray) (zs : List Int) (n : Nat) (w : World) (e : Ending) (w' : World) : Prop := ∃ K, e = .returned (.tuple #[.pointer (some ⟨K.b, 0, none⟩), .bool true]) ∧ Made s zs n w w' K
theorem PR.mono {B B' : Nat} {w : World} {K : PK} {s : MS} (h : PR B w K s) (hb : B' ≤ B) : PR B' w K s := by
  obtain ⟨F, h1, h2, h3⟩ := h
  exact ⟨F, h1, fun k hk => Nat.le_trans hb (h2 k hk), Nat.le_trans hb h3⟩
set_option maxRecDepth 100000 in
set_option maxHeartbeats 1000000 in
theorem made_any (s : ByteArray) (vi : Value) (zs : List Int) (n : Nat) (w : World) (hs : s.size ≤ maxLen) (ht : FlowTab w) (hv : ArgInts w vi zs) (hz : zs.length ≤ 64) (h1 : 1 ≤ n) (h2 : n ≤ 32) (he : errOf s = 0) (hwt : WT (codeOf s) (byteAt s 1)) :
    Calls Tryd.prog 10 #[.string s, vi, .int .i64 n] w (MadePost s zs n w) := by
  have h0 : IsErr s 0 := .inr (.inl ⟨he, hwt, rfl⟩)
  have hne : NewErr s zs.length (n : Int) 0 := .inr (.inr (.inr ⟨h0, by omega, by omega, hz, rfl⟩))
  have hck := hid (tcheck_any s w hs ht)
  have hnw := hid (fun (W : World) (hb : Below w.heap.size w W) => pnew_ok s vi zs n W hs (ht.below hb) (hv.keep hb) hne)
  have H0 := hid h0
  obtain ⟨p0, c0, e0⟩ := hv.slice
  subst e0
  clear hs ht hv he hwt hne h0
  go_enter Tryd.func10, Tryd.ntmps10
  go_wp2_with fail
  refine hck.out.mono ?_
  clear hck
  intro e w1 hh
  obtain ⟨hb1, r, hx, hr⟩ := hh
  obtain rfl := IsErr.unique hr H0.out
  subst e
  have hn1 := hid (hnw.out w1 hb1)
  have HB1 := hid hb1
  clear hnw hb1 hr H0
  go_wp2_with fail
  refine hn1.out.mono ?_
  clear hn1
  intro e w2 hh
  obtain ⟨K, hx, hN⟩ := hh
  subst e
  obtain ⟨q1, q2, q3, q4⟩ := hN.pr h1 h2
  have HM : Hid (Made s zs n w w2 K) := hid ⟨HB1.out.trans (hN.below.mono HB1.out.size), q1.mono HB1.out.size, q2, q3, q4, hN.wt, hN.inv, hN.still⟩
  clear hN q1 q2 q3 q4 HB1
  go_wp2_with fail
  exact bodyPost_ret (v := .tuple #[.pointer (some ⟨K.b, 0, none⟩), .bool true]) (by simp [results, Tryd.results10, go_sem]) rfl ⟨K, rfl, HM.out⟩
end Go.Proofs.YtdmdpindonghdabDoor
namespace Go.Proofs.YtdmdpindonghdabDoor
open Go.RowKit
/-- What one step of a script makes of a machine. -/
def opK (E : Env) (k a : Int) (s : MS) : MS := if k = 1 then (if s.oc = 0 then stepS E s else s) else if k = 2 then (if 0 ≤ a ∧ a ≤ 1000 then collS E a.toNat s else s) else s
theorem MInv.opK {E : Env} (he : EnvOk E) {s : MS} (h : MInv E s) (k a : Int) : MInv E (opK E k a s) := by
  unfold Go.Proofs.YtdmdpindonghdabDoor.opK
  split
  · split
    · exact h.step he
    · exact h
  split
  · split
    · exact h.coll _
    · exact h
  · exact h
theorem opK_out (E : Env) (k a : Int) (s : MS) : (opK E k a s).out.length ≤ s.out.length + 1 := by
  have h0 : s.out.length ≤ s.out.length + 1 := by omega
  unfold opK
  simp only [apply_ite MS.out]
  exact out_le (out_le (stepS_out _ _) h0) (out_le (out_le h0 h0) h0)
def PlayPost (K : PK) (F : Nat → Prop) (t : MS) (w : World) (e : Ending) (w' : World) : Prop := e = .returned (.bool true) ∧ PX w' K (Grown F w w') t ∧ Touch F w w'
theorem px_state {w : World} {K : PK} {E : Env} {F : Nat → Prop} {s : MS} (h : PX w K F s) (hke : KE K E) (he : EnvOk E) (hi : MInv E s) :
    Calls Tryd.prog 17 #[.pointer (some ⟨K.b, 0, none⟩)] w fun e w' => ∃ pl, PStatePost s.oc s.va pl s.hs.2.1 s.hs.2.2 (locsS E s) (stkS E s) w e w' := by
  obtain ⟨i, hc⟩ := hi.can he
  obtain ⟨vI, vO, lo4, st8, hm, _⟩ := h
  exact (pstate_m hm hke he hi hc.get).mono (fun e w' q => ⟨_, q⟩)
/-- A call that leaves the machine as it is, then one that moves it. -/
theorem px_then {K : PK} {F : Nat → Prop} {t : MS} {w w1 w2 : World} (hb : Below w.heap.size w w1) (hp : PX w2 K (Grown F w1 w2) t) (ht : Touch F w1 w2) : PX w2 K (Grown F w w2) t ∧ Touch F w w2 := by
  refine ⟨hp.mono ?_, (Touch.below (F := F) hb).trans ht (fun _ _ h => h)⟩
  rintro k (h | h)
  · exact .inl h
  · exact .inr ⟨Nat.le_trans hb.size h.1, h.2⟩
theorem px_last {K : PK} {F : Nat → Prop} {t : MS} {w w1 w2 : World} (hp : PX w1 K (Grown F w w1) t) (ht : Touch F w w1) (hb : Below w1.heap.size w1 w2) : PX w2 K (Grown F w w2) t ∧ Touch F w w2 := by
  refine ⟨(hp.below hb).mono ?_, ht.trans (Touch.below (F := F) hb) (fun _ _ h => h)⟩
  rintro k (h | h)
  · exact .inl h
  · exact .inr ⟨h.1, Nat.lt_of_lt_of_le h.2 hb.size⟩
def opBox (k a : Int) : Obj := .cells #[.int .i64 k, .int .i64 a] 34
def stBox (oc va pl ph hd : Int) (v1 v2 : Value) : Obj := .cells #[.int .i64 oc, .int .i64 va, .int .i64 pl, .int .i64 ph, .int .i64 hd, v1, v2] 47
/-- What a call of the machine answers, and what it leaves. -/
def CallP (K : PK) (F : Nat → Prop) (x : Int) (y : Nat) (t : MS) (w : World) (e : Ending) (w' : World) : Prop := e = .returned (.tuple #[.int .i64 x, .int .i64 y]) ∧ PX w' K (Grown F w w') t ∧ Touch F w w'
set_option maxRecDepth 100000 in
set_option maxHeartbeats 1000000 in
theorem play_1 {w : World} {K : PK} {E : Env} {F : Nat → Prop} {s t : MS} (a x : Int) (y : Nat) (h : PX w K F s) (hke : KE K E) (he : EnvOk E) (hi : MInv E s) (hit : MInv E t) (hF : ∀ k, F k → k < w.heap.size)
    (hp : ∀ W, PX W K F s → Calls Tryd.prog 25 #[.pointer (some ⟨K.b, 0, none⟩)] W (CallP K F x y t W))
    (hxy : (s.oc ≠ 0 ∧ x = 0 ∧ y = 9) ∨ (s.oc = 0 ∧ x = t.oc ∧ y = 0)) :
    Calls Tryd.prog 13 #[.pointer (some ⟨K.b, 0, none⟩), .agg #[.int .i64 1, .int .i64 a]] w (PlayPost K F t w) := by
  have hb0 : Below w.heap.size w (w.alloc (opBox 1 a)) := (Below.refl _ _).alloc (Nat.le_refl _) _
  have hs1 := hid (px_state (h.below hb0) hke he hi)
  have hP := hid (fun (W : World) (hb : Below w.heap.size w W) => hp W (h.below hb))
  have hS2 := hid (fun (W : World) (G : Nat → Prop) (hW : PX W K G t) => px_state hW hke he hit)
  have hoc : t.oc ≤ 5 := hit.oc
  have hoc2 : s.oc ≤ 5 := hi.oc
  have HB0 := hid hb0
  have hwi := hid (fun (v : Int) (W : World) => within_any v 0 5 W)
  have HF := hid hF
  have rO := hid (heap_alloc_new w (opBox 1 a))
  unfold opBox at hs1 HB0 rO
  clear h hp hb0 hF
  go_enter Tryd.func13, Tryd.ntmps13
  go_wp2_with fail
  refine hs1.out.mono ?_
  clear hs1
  intro e w1 hh
  obtain ⟨pl, hb1, v1, v2, hx, o1, o2, _⟩ := hh
  subst e
  obtain ⟨q1, k1, e1⟩ := owns_slice o1
  obtain ⟨q2, k2, e2⟩ := owns_slice o2
  subst e1
  subst e2
  generalize (locsS E s).length = n1 at *
  generalize (stkS E s).length = n2 at *
  have hb2 : Below w1.heap.size w1 (w1.alloc (stBox s.oc s.va pl s.hs.2.1 s.hs.2.2 (.slice q1 n1 k1) (.slice q2 n2 k2))) := (Below.refl _ _).alloc (Nat.le_refl _) _
  have hb02 := (HB0.out.trans (hb1.mono HB0.out.size)).trans (hb2.mono (Nat.le_trans HB0.out.size hb1.size))
  have hst := hid (hP.out _ hb02)
  have rO2 := (hb2.block w.heap.size (by have := hb1.size; simp at this; omega)).trans ((hb1.block w.heap.size (by simp)).trans rO.out)
  have c0 := cell_of_row _ w.heap.size 0 _ _ _ rO2
  simp only [List.getElem?_toArray, List.getElem?_cons_zero] at c0
  have rS := hid (heap_alloc_new w1 (stBox s.oc s.va pl s.hs.2.1 s.hs.2.2 (.slice q1 n1 k1) (.slice q2 n2 k2)))
  have HB2 := hid hb02
  have hz1 := hb1.size
  unfold stBox at hst c0 rS HB2
  clear hb1 o1 o2 hb2 hb02 rO2 rO hP HB0
  go_wp2_with fail
  refine hst.out.mono ?_
  clear hst
  intro e w3 hh
  obtain ⟨hx, hX3, hT3⟩ := hh
  subst e
  have hs4 := hid (hS2.out w3 _ hX3)
  have hz3 := hT3.size
  have hzS : (w1.alloc (stBox s.oc s.va pl s.hs.2.1 s.hs.2.2 (.slice q1 n1 k1) (.slice q2 n2 k2))).heap.size = w1.heap.size + 1 := by simp
  have hz3' : w1.heap.size + 1 ≤ w3.heap.size := by rw [← hzS]; unfold stBox; exact hz3
  have hzw : w.heap.size ≤ w1.heap.size := by have := hz1; simp at this; omega
  have rS3 := (hT3.block w1.heap.size (by simp) (fun hf => by have := HF.out _ hf; omega)).trans rS.out
  have RS3 := hid rS3
  obtain ⟨hX4, hT4⟩ := px_then HB2.out hX3 hT3
  have HX4 := hid hX4
  have HT4 := hid hT4
  clear hX3 hT3 rS rS3 hX4 hT4 HB2 hS2 c0 hz3 hzS
  go_wp2_with fail
  refine hs4.out.mono ?_
  clear hs4
  intro e w5 hh
  obtain ⟨pl2, hb5, v3, v4, hx, o3, o4, _⟩ := hh
  subst e
  obtain ⟨q3, k3, e3⟩ := owns_slice o3
  obtain ⟨q4, k4, e4⟩ := owns_slice o4
  subst e3
  subst e4
  generalize (locsS E t).length = n3 at *
  generalize (stkS E t).length = n4 at *
  have hb6 : Below w5.heap.size w5 (w5.alloc (stBox t.oc t.va pl2 t.hs.2.1 t.hs.2.2 (.slice q3 n3 k3) (.slice q4 n4 k4))) := (Below.refl _ _).alloc (Nat.le_refl _) _
  have hb36 := hb5.trans (hb6.mono hb5.size)
  obtain ⟨hX6, hT6⟩ := px_last HX4.out HT4.out hb36
  have rS6 := (hb36.block w1.heap.size (by omega)).trans RS3.out
  have s0 := cell_of_row _ w1.heap.size 0 _ _ _ rS6
  simp only [List.getElem?_toArray, List.getElem?_cons_zero] at s0
  have HFN : Hid (PlayPost K F t w (.returned (.bool true)) (w5.alloc (stBox t.oc t.va pl2 t.hs.2.1 t.hs.2.2 (.slice q3 n3 k3) (.slice q4 n4 k4)))) := hid ⟨rfl, hX6, hT6⟩
  have hw7 := hid (hwi.out x (w5.alloc (stBox t.oc t.va pl2 t.hs.2.1 t.hs.2.2 (.slice q3 n3 k3) (.slice q4 n4 k4))))
  unfold stBox at s0 HFN hw7
  have hz5 := hb5.size
  clear hb5 hb6 hb36 o3 o4 hX6 hT6 rS6 RS3 HX4 HT4 hwi
  rcases hxy with ⟨g1, g2, g3⟩ | ⟨g1, g2, g3⟩
  · subst g2
    subst g3
    have d0 : ((s.oc : Int) != 0) = true := by simp; omega
    clear hw7
    go_wp2_with fail
    exact bodyPost_ret (v := .bool true) (by simp [results, Tryd.results13, go_sem]) rfl HFN.out
  · subst g2
    subst g3
    rw [g1] at s0
    have d5 : (decide ((0 : Int) ≤ (t.oc : Int)) && decide ((t.oc : Int) ≤ 5)) = true := by simp; omega
    rw [d5] at hw7
    clear d5
    go_wp2_with fail
    refine hw7.out.mono ?_
    clear hw7
    intro e w7 hh
    obtain ⟨hx, hw⟩ := hh
    subst e
    subst w7
    go_wp2_with fail
    exact bodyPost_ret (v := .bool true) (by simp [results, Tryd.results13, go_sem]) rfl HFN.out
set_option maxRecDepth 100000 in
set_option maxHeartbeats 1000000 in
theorem play_2 {w : World} {K : PK} {E : Env} {F : Nat → Prop} {s t : MS} (a x : Int) (y : Nat) (h : PX w K F s) (hke : KE K E) (he : EnvOk E) (hi : MInv E s) (hit : MInv E t) (hF : ∀ k, F k → k < w.heap.size)
    (hp : ∀ W, PX W K F s → Calls Tryd.prog 24 #[.pointer (some ⟨K.b, 0, none⟩), .int .i64 a] W (CallP K F x y t W))
    (hxy : (¬ (0 ≤ a ∧ a ≤ 1000) ∧ x = 0 ∧ y = 8) ∨ ((0 ≤ a ∧ a ≤ 1000) ∧ x = t.hs.2.1 ∧ y = 0)) :
    Calls Tryd.prog 13 #[.pointer (some ⟨K.b, 0, none⟩), .agg #[.int .i64 2, .int .i64 a]] w (PlayPost K F t w) := by
  have hb0 : Below w.heap.size w (w.alloc (opBox 2 a)) := (Below.refl _ _).alloc (Nat.le_refl _) _
  have hs1 := hid (px_state (h.below hb0) hke he hi)
  have hP := hid (fun (W : World) (hb : Below w.heap.size w W) => hp W (h.below hb))
  have hS2 := hid (fun (W : World) (G : Nat → Prop) (hW : PX W K G t) => px_state hW hke he hit)
  have HB0 := hid hb0
  have hwi := hid (fun (v : Int) (W : World) => within_any v 0 2 W)
  have hwa := hid (fun (W : World) => within_any a 0 1000 W)
  have hph : t.hs.2.1 ≤ 2 := hit.hok.phz
  have HF := hid hF
  have rO := hid (heap_alloc_new w (opBox 2 a))
  unfold opBox at hs1 HB0 rO
  clear h hp hb0 hF
  go_enter Tryd.func13, Tryd.ntmps13
  go_wp2_with fail
  refine hs1.out.mono ?_
  clear hs1
  intro e w1 hh
  obtain ⟨pl, hb1, v1, v2, hx, o1, o2, _⟩ := hh
  subst e
  obtain ⟨q1, k1, e1⟩ := owns_slice o1
  obtain ⟨q2, k2, e2⟩ := owns_slice o2
  subst e1
  subst e2
  generalize (locsS E s).length = n1 at *
  generalize (stkS E s).length = n2 at *
  have hb2 : Below w1.heap.size w1 (w1.alloc (stBox s.oc s.va pl s.hs.2.1 s.hs.2.2 (.slice q1 n1 k1) (.slice q2 n2 k2))) := (Below.refl _ _).alloc (Nat.le_refl _) _
  have hb02 := (HB0.out.trans (hb1.mono HB0.out.size)).trans (hb2.mono (Nat.le_trans HB0.out.size hb1.size))
  have hst := hid (hP.out _ hb02)
  have rO2 := (hb2.block w.heap.size (by have := hb1.size; simp at this; omega)).trans ((hb1.block w.heap.size (by simp)).trans rO.out)
  have c0 := cell_of_row _ w.heap.size 0 _ _ _ rO2
  have c1 := cell_of_row _ w.heap.size 1 _ _ _ rO2
  simp only [List.getElem?_toArray, List.getElem?_cons_zero, List.getElem?_cons_succ] at c0 c1
  have RO2 := hid rO2
  have rS := hid (heap_alloc_new w1 (stBox s.oc s.va pl s.hs.2.1 s.hs.2.2 (.slice q1 n1 k1) (.slice q2 n2 k2)))
  have HB2 := hid hb02
  have hz1 := hb1.size
  unfold stBox at hst c0 c1 rS HB2 RO2
  clear hb1 o1 o2 hb2 hb02 rO2 rO hP HB0
  go_wp2_with fail
  refine hst.out.mono ?_
  clear hst
  intro e w3 hh
  obtain ⟨hx, hX3, hT3⟩ := hh
  subst e
  have hs4 := hid (hS2.out w3 _ hX3)
  have hz3 := hT3.size
  have hzS : (w1.alloc (stBox s.oc s.va pl s.hs.2.1 s.hs.2.2 (.slice q1 n1 k1) (.slice q2 n2 k2))).heap.size = w1.heap.size + 1 := by simp
  have hz3' : w1.heap.size + 1 ≤ w3.heap.size := by rw [← hzS]; unfold stBox; exact hz3
  have hzw : w.heap.size ≤ w1.heap.size := by have := hz1; simp at this; omega
  have rS3 := (hT3.block w1.heap.size (by simp) (fun hf => by have := HF.out _ hf; omega)).trans rS.out
  have rO3 := (hT3.block w.heap.size (by have := hzw; simp; omega) (fun hf => by have := HF.out _ hf; omega)).trans RO2.out
  have RO3 := hid rO3
  obtain ⟨hX4, hT4⟩ := px_then HB2.out hX3 hT3
  have HX4 := hid hX4
  have HT4 := hid hT4
  clear hX3 hT3 rS rS3 hX4 hT4 HB2 hS2 c0 c1 hz3 hzS RO2 rO3
  go_wp2_with fail
  refine hs4.out.mono ?_
  clear hs4
  intro e w5 hh
  obtain ⟨pl2, hb5, v3, v4, hx, o3, o4, _⟩ := hh
  subst e
  obtain ⟨q3, k3, e3⟩ := owns_slice o3
  obtain ⟨q4, k4, e4⟩ := owns_slice o4
  subst e3
  subst e4
  generalize (locsS E t).length = n3 at *
  generalize (stkS E t).length = n4 at *
  have hb6 : Below w5.heap.size w5 (w5.alloc (stBox t.oc t.va pl2 t.hs.2.1 t.hs.2.2 (.slice q3 n3 k3) (.slice q4 n4 k4))) := (Below.refl _ _).alloc (Nat.le_refl _) _
  have hb36 := hb5.trans (hb6.mono hb5.size)
  obtain ⟨hX6, hT6⟩ := px_last HX4.out HT4.out hb36
  have rO6 := (hb36.block w.heap.size (by omega)).trans RO3.out
  have s0 := cell_of_row _ w.heap.size 1 _ _ _ rO6
  simp only [List.getElem?_toArray, List.getElem?_cons_zero, List.getElem?_cons_succ] at s0
  have ha7 := hid (hwa.out (w5.alloc (stBox t.oc t.va pl2 t.hs.2.1 t.hs.2.2 (.slice q3 n3 k3) (.slice q4 n4 k4))))
  have HFN : Hid (PlayPost K F t w (.returned (.bool true)) (w5.alloc (stBox t.oc t.va pl2 t.hs.2.1 t.hs.2.2 (.slice q3 n3 k3) (.slice q4 n4 k4)))) := hid ⟨rfl, hX6, hT6⟩
  have hw7 := hid (hwi.out x (w5.alloc (stBox t.oc t.va pl2 t.hs.2.1 t.hs.2.2 (.slice q3 n3 k3) (.slice q4 n4 k4))))
  unfold stBox at s0 HFN hw7 ha7
  have hz5 := hb5.size
  clear hwa hb5 hb6 hb36 o3 o4 hX6 hT6 rO6 RO3 HX4 HT4 hwi
  rcases hxy with ⟨g1, g2, g3⟩ | ⟨g1, g2, g3⟩
  · subst g2
    subst g3
    have d5 : (decide ((0 : Int) ≤ a) && decide (a ≤ 1000)) = false := by
      cases hd : (decide ((0 : Int) ≤ a) && decide (a ≤ 1000)) with
      | false => rfl
      | true => exfalso; apply g1; simpa using hd
    rw [d5] at ha7
    clear hw7 d5 g1
    go_wp2_with fail
    refine ha7.out.mono ?_
    clear ha7
    intro e w7 hh
    obtain ⟨hx, hw⟩ := hh
    subst e
    subst w7
    go_wp2_with fail
    exact bodyPost_ret (v := .bool true) (by simp [results, Tryd.results13, go_sem]) rfl HFN.out
  · subst g2
    subst g3
    have d5 : (decide ((0 : Int) ≤ a) && decide (a ≤ 1000)) = true := by simp; exact g1
    rw [d5] at ha7
    have d6 : (decide ((0 : Int) ≤ (t.hs.2.1 : Int)) && decide ((t.hs.2.1 : Int) ≤ 2)) = true := by simp; omega
    rw [d6] at hw7
    clear d5 d6 g1
    go_wp2_with fail
    refine ha7.out.mono ?_
    clear ha7
    intro e w7 hh
    obtain ⟨hx, hw⟩ := hh
    subst e
    subst w7
    go_wp2_with fail
    refine hw7.out.mono ?_
    clear hw7
    intro e w7 hh
    obtain ⟨hx, hw⟩ := hh
    subst e
    subst w7
    go_wp2_with fail
    exact bodyPost_ret (v := .bool true) (by simp [results, Tryd.results13, go_sem]) rfl HFN.out
set_option maxRecDepth 100000 in
set_option maxHeartbeats 1000000 in
theorem play_0 {w : World} {K : PK} {E : Env} {F : Nat → Prop} {s : MS} (k a : Int) (h1 : k ≠ 1) (h2 : k ≠ 2) (h : PX w K F s) (hke : KE K E) (he : EnvOk E) (hi : MInv E s) :
    Calls Tryd.prog 13 #[.pointer (some ⟨K.b, 0, none⟩), .agg #[.int .i64 k, .int .i64 a]] w (PlayPost K F s w) := by
  have hb0 : Below w.heap.size w (w.alloc (opBox k a)) := (Below.refl _ _).alloc (Nat.le_refl _) _
  have hs1 := hid (px_state (h.below hb0) hke he hi)
  have HB0 := hid hb0
  have HH := hid h
  have rO := hid (heap_alloc_new w (opBox k a))
  have y1 : (k == 1) = false := by simp [h1]
  have y2 : (k == 2) = false := by simp [h2]
  unfold opBox at hs1 HB0 rO
  clear h hb0
  go_enter Tryd.func13, Tryd.ntmps13
  go_wp2_with fail
  refine hs1.out.mono ?_
  clear hs1
  intro e w1 hh
  obtain ⟨pl, hb1, v1, v2, hx, o1, o2, _⟩ := hh
  subst e
  obtain ⟨q1, k1, e1⟩ := owns_slice o1
  obtain ⟨q2, k2, e2⟩ := owns_slice o2
  subst e1
  subst e2
  generalize (locsS E s).length = n1 at *
  generalize (stkS E s).length = n2 at *
  have hb2 : Below w1.heap.size w1 (w1.alloc (stBox s.oc s.va pl s.hs.2.1 s.hs.2.2 (.slice q1 n1 k1) (.slice q2 n2 k2))) := (Below.refl _ _).alloc (Nat.le_refl _) _
  have hb02 := (HB0.out.trans (hb1.mono HB0.out.size)).trans (hb2.mono (Nat.le_trans HB0.out.size hb1.size))
  have rO2 := (hb2.block w.heap.size (by have := hb1.size; simp at this; omega)).trans ((hb1.block w.heap.size (by simp)).trans rO.out)
  have c0 := cell_of_row _ w.heap.size 0 _ _ _ rO2
  simp only [List.getElem?_toArray, List.getElem?_cons_zero] at c0
  have HFN : Hid (PlayPost K F s w (.returned (.bool true)) (w1.alloc (stBox s.oc s.va pl s.hs.2.1 s.hs.2.2 (.slice q1 n1 k1) (.slice q2 n2 k2)))) := hid ⟨rfl, (HH.out.below hb02).mono (fun _ h => .inl h), Touch.below hb02⟩
  unfold stBox at c0 HFN
  clear hb1 o1 o2 hb2 hb02 rO2 rO HB0 HH
  go_wp2_with fail
  exact bodyPost_ret (v := .bool true) (by simp [results, Tryd.results13, go_sem]) rfl HFN.out
/-- One step of a script, whatever it is. -/
theorem play_any {w : World} {K : PK} {E : Env} {F : Nat → Prop} {s : MS} (k a : Int) (h : PX w K F s) (hke : KE K E) (he : EnvOk E) (hi : MInv E s) (hz : E.zs.length ≤ 64) (hlen : s.out.length ≤ 8796093022208) (hF : ∀ k, F k → k < w.heap.size) :
    Calls Tryd.prog 13 #[.pointer (some ⟨K.b, 0, none⟩), .agg #[.int .i64 k, .int .i64 a]] w (PlayPost K F (opK E k a s) w) := by
  have hit := hi.opK he k a
  by_cases h1 : k = 1
  · subst h1
    by_cases ho : s.oc = 0
    · have e : opK E 1 a s = stepS E s := by unfold opK; rw [if_pos rfl, if_pos ho]
      rw [e] at hit ⊢
      exact play_1 a _ 0 h hke he hi hit hF (fun W hW => pstep_x hW hke he hi ho hz hlen) (.inr ⟨ho, rfl, rfl⟩)
    · have e : opK E 1 a s = s := by unfold opK; rw [if_pos rfl, if_neg ho]
      rw [e] at hit ⊢
      refine play_1 a 0 9 h hke he hi hit hF (fun W hW => (pstep_done hW ho).mono ?_) (.inl ⟨ho, rfl, rfl⟩)
      rintro e w' ⟨g1, g2⟩
      subst g2
      exact ⟨g1, hW.mono (fun _ h => .inl h), Touch.refl _ _⟩
  by_cases h2 : k = 2
  · subst h2
    by_cases ha : 0 ≤ a ∧ a ≤ 1000
    · have e : opK E 2 a s = collS E a.toNat s := by unfold opK; rw [if_neg (by omega), if_pos rfl, if_pos ha]
      rw [e] at hit ⊢
      refine play_2 a _ 0 h hke he hi hit hF (fun W hW => ?_) (.inr ⟨ha, rfl, rfl⟩)
      have := pcollect_x hW hke he hi a.toNat (by omega)
      rw [show ((a.toNat : Nat) : Int) = a by omega] at this
      refine this.mono ?_
      rintro e w' ⟨g1, g2, g3⟩
      exact ⟨g1, g2.mono (fun _ h => .inl h), g3⟩
    · have e : opK E 2 a s = s := by unfold opK; rw [if_neg (by omega), if_pos rfl, if_neg ha]
      rw [e] at hit ⊢
      refine play_2 a 0 8 h hke he hi hit hF (fun W hW => (pcollect_bad K.b a W (by omega)).mono ?_) (.inl ⟨ha, rfl, rfl⟩)
      rintro e w' ⟨g1, g2⟩
      subst g2
      exact ⟨g1, hW.mono (fun _ h => .inl h), Touch.refl _ _⟩
  have e : opK E k a s = s := by unfold opK; rw [if_neg h1, if_neg h2]
  rw [e]
  exact play_0 k a h1 h2 h hke he hi
end Go.Proofs.YtdmdpindonghdabDoor
namespace Go.Proofs.YtdmdpindonghdabDoor
open Go.RowKit
theorem maps_det {l : List Ins} {L : Nat} {fs fs' : List Fr} (hw : Wf l L) (hwt : WT l L) (hd : Det l L) (hi : SetInv l L fs) (hs : Still l fs) (hi' : SetInv l L fs') (hs' : Still l fs') : mapsF l fs L = mapsF l fs' L := by
  apply List.ext_getElem?
  intro k
  unfold mapsF
  rw [List.getElem?_zipWith, List.getElem?_zipWith]
  rcases Nat.lt_or_ge k l.length with hk | hk
  · obtain ⟨f, hf⟩ : ∃ f, fs[k]? = some f := ⟨_, List.getElem?_eq_getElem (by rw [hi.len]; exact hk)⟩
    obtain ⟨f', hf'⟩ : ∃ f', fs'[k]? = some f' := ⟨_, List.getElem?_eq_getElem (by rw [hi'.len]; exact hk)⟩
    obtain ⟨i, hl⟩ : ∃ i, l[k]? = some i := ⟨_, List.getElem?_eq_getElem hk⟩
    rw [hf, hf', hl]
    simp only
    by_cases hr : ∃ p, Reach l L p ∧ p.at_ = k
    · obtain ⟨p, hp, rfl⟩ := hr
      obtain ⟨m, g1, g2, g3⟩ := noMix_ofL (zs := []) (n := 0) hw hwt hi hs hd p hp
      obtain ⟨m', g1', g2', g3'⟩ := noMix_ofL (zs := []) (n := 0) hw hwt hi' hs' hd p hp
      obtain ⟨_, hc1, hc2⟩ := still_all hw hi.ok hs hi.cov hp
      obtain ⟨_, hc1', hc2'⟩ := still_all hw hi'.ok hs' hi'.cov hp
      rw [hf] at hc1
      rw [hf'] at hc1'
      obtain rfl := Option.some.inj hc1
      obtain rfl := Option.some.inj hc1'
      unfold mapsF at g1 g1'
      simp only at g1 g1'
      rw [List.getElem?_zipWith, hf, hl] at g1
      rw [List.getElem?_zipWith, hf', hl] at g1'
      simp only [Option.some.injEq] at g1 g1'
      congr 1
      have e1 : (ptF i.place f L).lo = codes p.lo := by rw [g1]; exact g2
      have e2 : (ptF i.place f L).st = codes p.st := by rw [g1]; exact g3
      have e1' : (ptF i.place f' L).lo = codes p.lo := by rw [g1']; exact g2'
      have e2' : (ptF i.place f' L).st = codes p.st := by rw [g1']; exact g3'
      unfold ptF at e1 e2 e1' e2' ⊢
      rw [if_pos hc2.reached] at e1 e2 ⊢
      rw [if_pos hc2'.reached] at e1' e2' ⊢
      simp only at e1 e2 e1' e2'
      rw [e1, e2, e1', e2']
    · have none : ∀ {gs : List Fr} {g : Fr}, SetInv l L gs → gs[k]? = some g → g.reached = false := by
        intro gs g hg h
        cases hq : g.reached with
        | false => rfl
        | true =>
          exfalso
          obtain ⟨lo, st, hat, _⟩ := (hg.sound hwt k g h hq).one
          exact hr ⟨⟨k, lo, st⟩, hat, rfl⟩
      have n1 := none hi hf
      have n2 := none hi' hf'
      congr 1
      unfold ptF
      rw [n1, n2]
      rfl
  · rw [List.getElem?_eq_none hk]
theorem env_det {s : ByteArray} {zs : List Int} {n : Nat} {fs fs' : List Fr} (he : errOf s = 0) (hwt : WT (codeOf s) (byteAt s 1)) (hd : Det (codeOf s) (byteAt s 1)) (hi : SetInv (codeOf s) (byteAt s 1) fs) (hs : Still (codeOf s) fs) (hi' : SetInv (codeOf s) (byteAt s 1) fs') (hs' : Still (codeOf s) fs') : envOf s fs' zs n = envOf s fs zs n := by
  unfold envOf
  rw [maps_det (wf_of he) hwt hd hi' hs' hi hs]
end Go.Proofs.YtdmdpindonghdabDoor
namespace Go.Proofs.YtdmdpindonghdabDoor
open Go.RowKit
/-- A script that is handed in. -/
def ArgSc (w : World) (v : Value) (ops : List (Int × Int)) : Prop :=
  (v = .slice none 0 0 ∧ ops = []) ∨ ∃ a cap, v = .slice (some a) ops.length cap ∧ (∀ (j : Nat) (x : Int × Int), ops[j]? = some x → w.cell? (a.add (j * 2)) = some (.int .i64 x.1) ∧ w.cell? (a.add (j * 2 + 1)) = some (.int .i64 x.2)) ∧ (0 < ops.length → a.block < w.heap.size)
theorem ArgSc.slice {w : World} {v : Value} {ops : List (Int × Int)} (h : ArgSc w v ops) : ∃ p cap, v = .slice p ops.length cap := by
  rcases h with ⟨h1, h2⟩ | ⟨a, cap, hv, _⟩
  · exact ⟨none, 0, by rw [h1, h2]; rfl⟩
  · exact ⟨some a, cap, hv⟩
theorem addK_block (a : Addr) (k : Nat) : (a.add k).block = a.block := by unfold Addr.add; split <;> rfl
theorem addK_none (g o k : Nat) : (⟨g, o, none⟩ : Addr).add k = ⟨g, o + k, none⟩ := by unfold Addr.add; split <;> simp_all
theorem plainK {w : World} {a : Addr} {v : Value} (h : w.cell? a = some v) : ∃ g o, a = ⟨g, o, none⟩ := by
  obtain ⟨g, o, sp⟩ := a
  cases sp with
  | none => exact ⟨g, o, rfl⟩
  | some b =>
    exfalso
    unfold World.cell? at h
    simp only at h
    split at h <;> simp_all
/-- A step of the script in memory. -/
theorem ArgSc.get {w W : World} {p : Option Addr} {cap : Nat} {ops : List (Int × Int)} (h : ArgSc w (.slice p ops.length cap) ops) (hb : Below w.heap.size w W) {j : Nat} (hj : j < ops.length) :
    ∃ g o, p = some ⟨g, o, none⟩ ∧ W.cell? ⟨g, o + j * 2, none⟩ = some (.int .i64 ops[j].1) ∧ W.cell? ⟨g, o + j * 2 + 1, none⟩ = some (.int .i64 ops[j].2) := by
  rcases h with ⟨_, h0⟩ | ⟨a, cap', hv, hcell, hbl⟩
  · rw [h0] at hj; simp at hj
  cases hv
  have hbz := hbl (by omega)
  obtain ⟨g, o, rfl⟩ : ∃ g o, a = ⟨g, o, none⟩ := by
    obtain ⟨q0, q1⟩ : ∃ x0, ops[0]? = some x0 := ⟨_, List.getElem?_eq_getElem (by omega)⟩
    have h0 := (hcell 0 _ q1).1
    exact plainK (a := a) (by simpa [Addr.add] using h0)
  obtain ⟨y0, y1⟩ := hcell j _ (List.getElem?_eq_getElem hj)
  refine ⟨g, o, rfl, ?_, ?_⟩
  · have := (hb.cell (p := (⟨g, o, none⟩ : Addr).add (j * 2)) (by rw [addK_block]; exact hbz)).trans y0
    rw [addK_none] at this
    exact this
  · have := (hb.cell (p := (⟨g, o, none⟩ : Addr).add (j * 2 + 1)) (by rw [addK_block]; exact hbz)).trans y1
    rw [addK_none] at this
    exact this
/-- Two machines lie above B, apart. -/
def Duo (B : Nat) (W : World) (K1 K2 : PK) (s t : MS) : Prop := ∃ F G, PX W K1 F s ∧ PX W K2 G t ∧ (∀ k, F k → ¬ G k) ∧ (∀ k, F k → B ≤ k ∧ k < W.heap.size) ∧ (∀ k, G k → B ≤ k ∧ k < W.heap.size) ∧ B ≤ W.heap.size
theorem Duo.keep {B : Nat} {w w' : World} {K1 K2 : PK} {s t : MS} (h : Duo B w K1 K2 s t) (hb : Below w.heap.size w w') : Duo B w' K1 K2 s t := by
  obtain ⟨F, G, h1, h2, h3, h4, h5, h6⟩ := h
  exact ⟨F, G, h1.below hb, h2.below hb, h3, fun k hk => ⟨(h4 k hk).1, Nat.lt_of_lt_of_le (h4 k hk).2 hb.size⟩, fun k hk => ⟨(h5 k hk).1, Nat.lt_of_lt_of_le (h5 k hk).2 hb.size⟩, Nat.le_trans h6 hb.size⟩
theorem Duo.swap {B : Nat} {w : World} {K1 K2 : PK} {s t : MS} (h : Duo B w K1 K2 s t) : Duo B w K2 K1 t s := by
  obtain ⟨F, G, h1, h2, h3, h4, h5, h6⟩ := h
  exact ⟨G, F, h2, h1, fun k hg hf => h3 k hf hg, h5, h4, h6⟩
theorem Duo.size {B : Nat} {w : World} {K1 K2 : PK} {s t : MS} (h : Duo B w K1 K2 s t) : B ≤ w.heap.size := by
  obtain ⟨F, G, h1, h2, h3, h4, h5, h6⟩ := h
  exact h6
theorem duo_play {B : Nat} {w : World} {K1 K2 : PK} {E : Env} {s t : MS} (k a : Int) (h : Duo B w K1 K2 s t) (hke : KE K1 E) (he : EnvOk E) (hi : MInv E s) (hz : E.zs.length ≤ 64) (hlen : s.out.length ≤ 8796093022208) :
    Calls Tryd.prog 13 #[.pointer (some ⟨K1.b, 0, none⟩), .agg #[.int .i64 k, .int .i64 a]] w fun e w' => e = .returned (.bool true) ∧ Duo B w' K1 K2 (opK E k a s) t ∧ Below B w w' := by
  obtain ⟨F, G, h1, h2, h3, h4, h5, h6⟩ := h
  refine (play_any k a h1 hke he hi hz hlen (fun k hk => (h4 k hk).2)).mono ?_
  rintro e w' ⟨g1, g2, g3⟩
  refine ⟨g1, ⟨Grown F w w', G, g2, h2.keep g3.size (fun k hk hg => g3.block k hk (fun hf => h3 k hf hg)), ?_, ?_, fun k hk => ⟨(h5 k hk).1, Nat.lt_of_lt_of_le (h5 k hk).2 g3.size⟩, Nat.le_trans h6 g3.size⟩, g3.sub (fun k hk => (h4 k hk).1) h6⟩
  · rintro k (hf | hf) hg
    · exact h3 k hf hg
    · have := (h5 k hg).2; omega
  · rintro k (hf | hf)
    · exact ⟨(h4 k hf).1, Nat.lt_of_lt_of_le (h4 k hf).2 g3.size⟩
    · exact ⟨by omega, hf.2⟩
theorem duo_state {B : Nat} {w : World} {K1 K2 : PK} {E : Env} {s t : MS} (h : Duo B w K1 K2 s t) (hke : KE K1 E) (he : EnvOk E) (hi : MInv E s) :
    Calls Tryd.prog 17 #[.pointer (some ⟨K1.b, 0, none⟩)] w fun e w' => ∃ pl, PStatePost s.oc s.va pl s.hs.2.1 s.hs.2.2 (locsS E s) (stkS E s) w e w' := by
  obtain ⟨F, G, h1, h2, h3, h4, h5, h6⟩ := h
  exact px_state h1 hke he hi
theorem duo_heap {B : Nat} {w : World} {K1 K2 : PK} {s t : MS} (h : Duo B w K1 K2 s t) (hn : s.hs.1.length ≤ 100) :
    Calls Tryd.prog 14 #[.pointer (some ⟨K1.b, 0, none⟩)] w (HeapPost (s.hs.1.map toldC) w) := by
  obtain ⟨F, G, ⟨vI, vO, lo4, st8, hm, _⟩, h2, h3, h4, h5, h6⟩ := h
  exact pheap_any hm hn
theorem PX.bound {w : World} {K : PK} {F : Nat → Prop} {s : MS} (h : PX w K F s) : PX w K (fun k => F k ∧ k < w.heap.size) s := by
  obtain ⟨vI, vO, lo4, st8, hm, hF⟩ := h
  refine ⟨vI, vO, lo4, st8, hm, fun k hk => ⟨hF k hk, ?_⟩⟩
  rcases hk with ⟨_, h2⟩ | h2
  · exact Nat.lt_of_lt_of_le h2 hm.z
  · exact (hm.out.lt k h2).2
theorem duo_of {B : Nat} {w1 w2 : World} {K1 K2 : PK} {s t : MS} (h : PR B w1 K1 s) (hb : Below w1.heap.size w1 w2) (h2 : PR w1.heap.size w2 K2 t) : Duo B w2 K1 K2 s t := by
  obtain ⟨F, f1, f2, f3⟩ := h
  obtain ⟨G, g1, g2, g3⟩ := h2
  refine ⟨_, _, f1.bound.below hb, g1.bound, ?_, ?_, ?_, Nat.le_trans f3 hb.size⟩
  · rintro k ⟨_, hk⟩ ⟨hg, _⟩
    have := g2 k hg; omega
  · rintro k ⟨hf, hk⟩
    exact ⟨f2 k hf, Nat.lt_of_lt_of_le hk hb.size⟩
  · rintro k ⟨hg, hk⟩
    have := g2 k hg
    exact ⟨by omega, hk⟩
/-- What a script makes of a machine. -/
def playS (E : Env) (ops : List (Int × Int)) (s : MS) : MS := ops.foldl (fun t x => opK E x.1 x.2 t) s
theorem playS_succ (E : Env) (ops : List (Int × Int)) (s : MS) (j : Nat) (h : j < ops.length) : playS E (ops.take (j + 1)) s = opK E ops[j].1 ops[j].2 (playS E (ops.take j) s) := by
  unfold playS
  rw [List.take_succ_eq_append_getElem h, List.foldl_append]
  rfl
theorem playS_inv {E : Env} (he : EnvOk E) (ops : List (Int × Int)) : ∀ s, MInv E s → MInv E (playS E ops s) := by
  unfold playS
  induction ops with
  | nil => intro s h; exact h
  | cons x r ih => intro s h; exact ih _ (h.opK he x.1 x.2)
theorem playS_out (E : Env) (ops : List (Int × Int)) : ∀ s, (playS E ops s).out.length ≤ s.out.length + ops.length := by
  unfold playS
  induction ops with
  | nil => intro s; simp
  | cons x r ih =>
    intro s
    have h1 := ih (opK E x.1 x.2 s)
    have h2 := opK_out E x.1 x.2 s
    simp only [List.foldl_cons, List.length_cons]
    omega
theorem unitsC_add (rs : List Int) (h : HSt) (a : Nat) : ∀ b, unitsC rs (a + b) h = unitsC rs b (unitsC rs a h)
  | 0 => rfl
  | b + 1 => by
    show stepC rs (unitsC rs (a + b) h) = stepC rs (unitsC rs b (unitsC rs a h))
    rw [unitsC_add rs h a b]
theorem collS_add (E : Env) (a b : Nat) (s : MS) : collS E (a + b) s = collS E b (collS E a s) := by
  unfold collS
  simp only [MS.mk.injEq, true_and]
  exact unitsC_add _ _ _ _
theorem opK_coll (E : Env) (n : Nat) (hn : n ≤ 1000) (s : MS) : opK E 2 n s = collS E n s := by
  unfold opK
  rw [if_neg (by omega), if_pos rfl, if_pos (by omega)]
  rfl
theorem KE.env {K : PK} {E E' : Env} (h : KE K E) (e : E = E') : KE K E' := e ▸ h
set_option maxRecDepth 100000 in
set_option maxHeartbeats 2000000 in
theorem units_any (raw : ByteArray) (vi vo : Value) (zs : List Int) (ops : List (Int × Int)) (cells a b : Int) (w : World) (hr : raw.size ≤ maxLen) (ht : FlowTab w) (hv : ArgInts w vi zs) (hcap : ∀ p n c, vi = .slice p n c → n ≤ c ∧ c ≤ maxLen) (ho : ArgSc w vo ops) (hol : ops.length ≤ 8796093022200)
    (hc1 : -9223372036854775808 ≤ cells) (hc2 : cells ≤ 9223372036854775807) (ha1 : -9223372036854775808 ≤ a) (ha2 : a ≤ 9223372036854775807) (hb1 : -9223372036854775808 ≤ b) (hb2 : b ≤ 9223372036854775807) :
    Calls Tryd.prog 4 #[.string raw, vi, .int .i64 cells, vo, .int .i64 a, .int .i64 b] w fun e w' => e = .returned (.bool true) ∧ Below w.heap.size w w' := by
  obtain ⟨q1, q2, q3, q4, q5⟩ := built_ok raw true
  obtain ⟨n1, n2⟩ := roomN_le cells
  have hsz : (builtS raw true).size ≤ maxLen := by
    have := (wf_of q1).len
    have h1 := (errOf_zero q1).1
    obtain ⟨⟨⟨h3, h4⟩, _⟩, _⟩ : ((3 ≤ (builtS raw true).size ∧ (builtS raw true).size ≤ 122) ∧ byteAt (builtS raw true) 0 = 84) ∧ byteAt (builtS raw true) 1 ≤ 4 := by simpa [shapedP] using h1
    have : maxLen = 9223372036854775807 := rfl
    omega
  have hzl : (zs.take 64).length ≤ 64 := by rw [List.length_take]; omega
  have hrm := hid (room_any cells w hc1 hc2)
  have hbu := hid (built_any raw true w hr)
  have hso := hid (fun (W : World) (hb : Below w.heap.size w W) => some_any vi zs W (hv.keep hb) hcap)
  obtain ⟨x, hx⟩ : ∃ x, x = builtS raw true := ⟨_, rfl⟩
  rw [← hx] at hbu q1 q2 q3 q4 q5 hsz
  have hmd := hid (fun (W : World) (hb : Below w.heap.size w W) (v : Value) (hv : ArgInts W v (zs.take 64)) => made_any x v (zs.take 64) (roomN cells) W hsz (ht.below hb) hv hzl n1 n2 q1 q4)
  have hpa := hid (fun (W : World) => pick_any a 200 W ha1 ha2 (by omega) (by omega))
  have hpb := hid (fun (W : World) => pick_any b 200 W hb1 hb2 (by omega) (by omega))
  have ha3 := pickN_lt a (n := 200) (by omega)
  have hb3 := pickN_lt b (n := 200) (by omega)
  have HO := hid ho
  have HX : Hid (errOf x = 0 ∧ WT (codeOf x) (byteAt x 1) ∧ Det (codeOf x) (byteAt x 1)) := hid ⟨q1, q4, q5⟩
  obtain ⟨p0, c0, e0⟩ := hv.slice
  subst e0
  obtain ⟨po, co, eo⟩ := ho.slice
  subst eo
  clear hr ht hv hcap ho hc1 hc2 ha1 ha2 hb1 hb2 q1 q2 q3 q4 q5 hsz hx
  go_enter Tryd.func4, Tryd.ntmps4
  go_wp2_with fail
  refine hrm.out.mono ?_
  clear hrm
  intro e w1 hh
  obtain ⟨hx, hw⟩ := hh
  subst e
  subst w1
  go_wp2_with fail
  refine hbu.out.mono ?_
  clear hbu
  intro e w1 hh
  obtain ⟨hx, hb1⟩ := hh
  subst e
  have hs1 := hid (hso.out w1 hb1)
  have HB1 := hid hb1
  clear hb1
  go_wp2_with fail
  refine hs1.out.mono ?_
  clear hs1
  intro e w2 hh
  obtain ⟨⟨v1, hx, hv1⟩, hw⟩ := hh
  subst e
  subst w2
  have hm1 := hid (hmd.out w1 HB1.out v1 hv1)
  clear hv1
  go_wp2_with fail
  refine hm1.out.mono ?_
  clear hm1
  intro e w2 hh
  obtain ⟨K1, hx, hM1⟩ := hh
  subst e
  have HB2 := hid (HB1.out.trans (hM1.below.mono HB1.out.size))
  have hs2 := hid (hso.out w2 HB2.out)
  have HM1 := hid hM1
  clear hM1 hso
  go_wp2_with fail
  refine hs2.out.mono ?_
  clear hs2
  intro e w3 hh
  obtain ⟨⟨v2, hx, hv2⟩, hw⟩ := hh
  subst e
  subst w3
  have hm2 := hid (hmd.out w2 HB2.out v2 hv2)
  clear hv2 hmd
  go_wp2_with fail
  refine hm2.out.mono ?_
  clear hm2
  intro e w3 hh
  obtain ⟨K2, hx, hM2⟩ := hh
  subst e
  have HB3 := hid (HB2.out.trans (hM2.below.mono HB2.out.size))
  obtain ⟨hxe, hxw, hxd⟩ := HX.out
  have hM1 := HM1.out
  have hE : envOf x K2.fs (zs.take 64) (roomN cells) = envOf x K1.fs (zs.take 64) (roomN cells) := env_det hxe hxw hxd hM1.set hM1.still hM2.set hM2.still
  have hD := duo_of hM1.pr hM2.below hM2.pr
  have hk1 := hM1.ke
  have hk2 := hM2.ke.env hE
  have hok := hM1.ok
  have hin := hM1.inv
  have hcn : (startS (byteAt x 1) (roomN cells)).hs.1.length ≤ 100 := by simp [startS]; omega
  obtain ⟨E, hEd⟩ : ∃ E, E = envOf x K1.fs (zs.take 64) (roomN cells) := ⟨_, rfl⟩
  obtain ⟨s0, hs0⟩ : ∃ s0, s0 = startS (byteAt x 1) (roomN cells) := ⟨_, rfl⟩
  have h00 : s0.out.length = 0 := by rw [hs0]; rfl
  have hEn : E.n = roomN cells := by rw [hEd]; rfl
  have hEz : E.zs.length ≤ 64 := by rw [hEd]; exact hzl
  rw [← hEd] at hk1 hk2 hok hin
  rw [← hs0] at hD hin
  have hD' := hD.keep (Below.refl _ _)
  have HBw : Hid (w.heap.size ≤ w1.heap.size) := hid HB1.out.size
  have HD := hid (show Duo w.heap.size w3 K1 K2 s0 s0 from by
    obtain ⟨F, G, d1, d2, d3, d4, d5, d6⟩ := hD
    have := HB1.out.size
    exact ⟨F, G, d1, d2, d3, fun k hk => ⟨by have := (d4 k hk).1; omega, (d4 k hk).2⟩, fun k hk => ⟨by have := (d5 k hk).1; omega, (d5 k hk).2⟩, by omega⟩)
  have hpa3 := hid (hpa.out w3)
  have hpb3 := hid (hpb.out w3)
  clear hM1 hM2 hE hD hD' HM1 HX hxe hxw hxd hEd hs0 hpa hpb hcn HB1 HB2
  go_wp2_with fail
  refine hpa3.out.mono ?_
  clear hpa3
  intro e w4 hh
  obtain ⟨hx, hw⟩ := hh
  subst e
  subst w4
  go_wp2_with fail
  refine hpb3.out.mono ?_
  clear hpb3
  intro e w4 hh
  obtain ⟨hx, hw⟩ := hh
  subst e
  subst w4
  generalize pickN a 200 = A at *
  generalize pickN b 200 = C at *
  have hpl := hid (fun (W : World) (Ka Kb : PK) (s t : MS) (k a : Int) (h : Duo w.heap.size W Ka Kb s t) (hke : KE Ka E) (hi : MInv E s) (hl : s.out.length ≤ 8796093022208) => duo_play k a h hke hok hi hEz hl)
  have hinv := hid (fun (l : List (Int × Int)) => playS_inv hok l s0 hin)
  have hout := hid (fun (l : List (Int × Int)) => playS_out E l s0)
  have HIN := hid hin
  clear hin
  go_wp2_with fail
  go_loopg [19, 16, 18] ops.length (fun gk x y z w' => ∃ j : Nat, j ≤ ops.length ∧ gk = ops.length - j ∧ x = .int .i64 j ∧ y = .bool true ∧ z = .bool true ∧ Duo w.heap.size w' K1 K2 (playS E (ops.take j) s0) (playS E (ops.take j) s0) ∧ Below w.heap.size w w')
  case atStart => exact ⟨0, by omega, by omega, rfl, rfl, rfl, HD.out, HB3.out⟩
  case round =>
    obtain ⟨j, hj, hgk, rfl, rfl, rfl, hD, hB⟩ := hrel
    rcases Nat.lt_or_ge j ops.length with hlt | hge
    · have d0 : (0 : Int) ≤ (j : Int) := by omega
      have d1 : (j : Int) < (ops.length : Int) := by omega
      have d2 : (j : Int) + 1 ≤ 17592186044416 := by omega
      have hol1 := hout.out (ops.take j)
      rw [List.length_take] at hol1
      have hp1 := hid (hpl.out wr K1 K2 _ _ ops[j].1 ops[j].2 hD hk1 (hinv.out _) (by omega))
      obtain ⟨g, o, e0, z0, z1⟩ := HO.out.get hB hlt
      have HO1 := hid (fun (W : World) (hb : Below w.heap.size w W) => HO.out.get hb hlt)
      have HSUC := hid (playS_succ E ops s0 j hlt)
      subst e0
      have HB := hid hB
      have HI2 := hid (hinv.out (ops.take j))
      clear hD hB
      generalize ops[j] = xx at *
      obtain ⟨x1, x2⟩ := xx
      simp only at z0 z1
      generalize playS E (ops.take j) s0 = sj at *
      go_wp2_with fail
      refine hp1.out.mono ?_
      clear hp1
      intro e w5 hh
      obtain ⟨hx, hD5, hB5⟩ := hh
      subst e
      have hB5' := HB.out.trans hB5
      have hp2 := hid (hpl.out w5 K2 K1 _ _ x1 x2 hD5.swap hk2 HI2.out (by omega))
      obtain ⟨g', o', e0, y0, y1⟩ := HO1.out w5 hB5'
      cases e0
      have HB5 := hid hB5'
      clear hD5 hB5 hB5' z0 z1 HB HO1
      go_wp2_with fail
      refine hp2.out.mono ?_
      clear hp2
      intro e w6 hh
      obtain ⟨hx, hD6, hB6⟩ := hh
      subst e
      have HB6 := hid (HB5.out.trans hB6)
      have HD6 := hid hD6.swap
      clear hD6 hB6 y0 y1 HB5
      go_wp2_with fail
      go_roundg (ops.length - (j + 1))
      case measure => omega
      case rel => exact ⟨j + 1, by omega, rfl, by go_num, rfl, rfl, by rw [HSUC.out]; exact HD6.out, HB6.out⟩
    · have d1 : ¬ (j : Int) < (ops.length : Int) := by omega
      have hol1 := hout.out (ops.take j)
      rw [List.length_take] at hol1
      have hp1 := hid (hpl.out wr K1 K2 _ _ 2 (A : Int) hD hk1 (hinv.out _) (by omega))
      have HI2 := hid (hinv.out (ops.take j))
      have HB := hid hB
      clear hD hB HO HD HB3 hinv hout HIN
      generalize playS E (ops.take j) s0 = sj at *
      go_wp2_with fail
      refine hp1.out.mono ?_
      clear hp1
      intro e w5 hh
      obtain ⟨hx, hD5, hB5⟩ := hh
      subst e
      rw [opK_coll E A (by omega)] at hD5
      have hp2 := hid (hpl.out w5 K1 K2 _ _ 2 (C : Int) hD5 hk1 (HI2.out.coll A) (by show sj.out.length ≤ _; omega))
      have HB5 := hid (HB.out.trans hB5)
      clear hD5 hB5 HB
      go_wp2_with fail
      refine hp2.out.mono ?_
      clear hp2
      intro e w6 hh
      obtain ⟨hx, hD6, hB6⟩ := hh
      subst e
      rw [opK_coll E C (by omega), ← collS_add] at hD6
      have hp3 := hid (hpl.out w6 K2 K1 _ _ 2 ((A : Int) + (C : Int)) hD6.swap hk2 HI2.out (by omega))
      have HB6 := hid (HB5.out.trans hB6)
      clear hD6 hB6 HB5 hpl
      go_wp2_with fail
      refine hp3.out.mono ?_
      clear hp3
      intro e w7 hh
      obtain ⟨hx, hD7, hB7⟩ := hh
      subst e
      rw [show ((A : Int) + (C : Int)) = ((A + C : Nat) : Int) by omega, opK_coll E (A + C) (by omega)] at hD7
      have hIT := HI2.out.coll (A + C)
      have hTn : (collS E (A + C) sj).hs.1.length = roomN cells := by rw [← hEn]; exact hIT.n
      generalize collS E (A + C) sj = T at *
      have hst := hid (duo_state hD7.swap hk1 hok hIT)
      have HD7 := hid hD7.swap
      have HB7 := hid (HB6.out.trans hB7)
      have HIT := hid hIT
      clear hD7 hB7 HB6 HI2 hIT
      go_wp2_with fail
      refine hst.out.mono ?_
      clear hst
      intro e w8 hh
      obtain ⟨pl1, hb8, y1, y2, hx, o1, o2, _⟩ := hh
      subst e
      obtain ⟨q1, k1, e1⟩ := owns_slice o1
      obtain ⟨q2, k2, e2⟩ := owns_slice o2
      subst e1
      subst e2
      have hb9 : Below w8.heap.size w8 (w8.alloc (stBox T.oc T.va pl1 T.hs.2.1 T.hs.2.2 (.slice q1 (locsS E T).length k1) (.slice q2 (stkS E T).length k2))) := (Below.refl _ _).alloc (Nat.le_refl _) _
      have hb79 := hb8.trans (hb9.mono hb8.size)
      have hst2 := hid (duo_state (HD7.out.keep hb79).swap hk2 hok HIT.out)
      have HD9 := hid (HD7.out.keep hb79)
      have HB9 := hid (HB7.out.trans (hb79.mono HB7.out.size))
      have RS1 := hid (heap_alloc_new w8 (stBox T.oc T.va pl1 T.hs.2.1 T.hs.2.2 (.slice q1 (locsS E T).length k1) (.slice q2 (stkS E T).length k2)))
      have hz9 : (w8.alloc (stBox T.oc T.va pl1 T.hs.2.1 T.hs.2.2 (.slice q1 (locsS E T).length k1) (.slice q2 (stkS E T).length k2))).heap.size = w8.heap.size + 1 := by simp
      unfold stBox at hst2 RS1 hz9 HD9 HB9
      generalize (locsS E T).length = n3 at *
      generalize (stkS E T).length = n4 at *
      clear hb8 hb9 hb79 o1 o2 HD7 HB7
      go_wp2_with fail
      refine hst2.out.mono ?_
      clear hst2
      intro e w10 hh
      obtain ⟨pl2, hb10, y3, y4, hx, o3, o4, _⟩ := hh
      subst e
      obtain ⟨q3, k3, e3⟩ := owns_slice o3
      obtain ⟨q4, k4, e4⟩ := owns_slice o4
      subst e3
      subst e4
      have hb11 : Below w10.heap.size w10 (w10.alloc (stBox T.oc T.va pl2 T.hs.2.1 T.hs.2.2 (.slice q3 (locsS E T).length k3) (.slice q4 (stkS E T).length k4))) := (Below.refl _ _).alloc (Nat.le_refl _) _
      have hbx := hb10.trans (hb11.mono hb10.size)
      have hD11 := HD9.out.keep hbx
      have hhp := hid (duo_heap hD11 (by omega))
      have hz10 := hb10.size
      rw [hz9] at hz10
      have RS2 := hid ((hbx.block w8.heap.size (by omega)).trans RS1.out)
      have RT2 := hid (heap_alloc_new w10 (stBox T.oc T.va pl2 T.hs.2.1 T.hs.2.2 (.slice q3 (locsS E T).length k3) (.slice q4 (stkS E T).length k4)))
      have HD11 := hid hD11
      have HB11 := hid (HB9.out.trans (hbx.mono HB9.out.size))
      have hz11 : (w10.alloc (stBox T.oc T.va pl2 T.hs.2.1 T.hs.2.2 (.slice q3 (locsS E T).length k3) (.slice q4 (stkS E T).length k4))).heap.size = w10.heap.size + 1 := by simp
      unfold stBox at hhp RS2 RT2 hz11 HD11 HB11
      generalize (locsS E T).length = n5 at *
      generalize (stkS E T).length = n6 at *
      clear hb10 hb11 hbx o3 o4 hD11 HD9 HB9 RS1
      go_wp2_with fail
      refine hhp.out.mono ?_
      clear hhp
      intro e w12 hh
      obtain ⟨hb12, vh, hx, oh⟩ := hh
      subst e
      obtain ⟨qh, kh, eh⟩ := owns_slice oh
      subst eh
      have hD12 := HD11.out.keep hb12
      have hhq := hid (duo_heap hD12.swap (by omega))
      have HB12 := hid (HB11.out.trans (hb12.mono HB11.out.size))
      have hz12 := hb12.size
      rw [hz11] at hz12
      have RS3 := hid ((hb12.block w8.heap.size (by omega)).trans RS2.out)
      have RT3 := hid ((hb12.block w10.heap.size (by omega)).trans RT2.out)
      have OH := hid oh
      clear hb12 oh hD12 HD11 HB11 RS2 RT2
      go_wp2_with fail
      refine hhq.out.mono ?_
      clear hhq
      intro e w13 hh
      obtain ⟨hb13, vg, hx, og⟩ := hh
      subst e
      obtain ⟨qg, kg, eg⟩ := owns_slice og
      subst eg
      have hz13 := hb13.size
      have rS := (hb13.block w8.heap.size (by omega)).trans RS3.out
      have rT := (hb13.block w10.heap.size (by omega)).trans RT3.out
      have s3 := cell_of_row _ w8.heap.size 3 _ _ _ rS
      have s4 := cell_of_row _ w8.heap.size 4 _ _ _ rS
      have t3 := cell_of_row _ w10.heap.size 3 _ _ _ rT
      have t4 := cell_of_row _ w10.heap.size 4 _ _ _ rT
      simp only [List.getElem?_toArray, List.getElem?_cons_zero, List.getElem?_cons_succ] at s3 s4 t3 t4
      have LH := hid (LsAt.of_owns (owns_keep OH.out (w' := w13) (fun g hg => hb13.block g (OH.out.lt g hg).2)))
      have LG := hid (LsAt.of_owns og)
      have HB13 := hid (HB12.out.trans (hb13.mono HB12.out.size))
      have hlen : (T.hs.1.map toldC).length = roomN cells := by rw [List.length_map]; exact hTn
      obtain ⟨cs, hcs⟩ : ∃ cs, cs = T.hs.1.map toldC := ⟨_, rfl⟩
      rw [← hcs] at LH LG hlen ⊢
      clear hb13 og OH rS rT RS3 RT3 HB12 hcs HIT
      go_wp2_with fail
      go_loopg [24] (roomN cells) (fun gk x w' => ∃ i : Nat, i ≤ roomN cells ∧ gk = roomN cells - i ∧ x = .int .i64 i ∧ ∃ nd, w' = w13.drewN nd)
      case atStart => exact ⟨0, by omega, by omega, rfl, 0, rfl⟩
      case round =>
        obtain ⟨i, hi, hgi, rfl, nd, rfl⟩ := hrel
        rcases Nat.lt_or_ge i (roomN cells) with hil | hig
        · have d0 : (0 : Int) ≤ (i : Int) := by omega
          have d1' : (i : Int) < (roomN cells : Int) := by omega
          have hil' : i < cs.length := by omega
          obtain ⟨ga, ca1, ea, _, hca⟩ := LH.out.some (by omega)
          obtain ⟨gb, cb1, eb, _, hcb⟩ := LG.out.some (by omega)
          have f0 := flat_at clCells 5 (fun _ => rfl) cs i 0 hil' (by omega)
          have f1 := flat_at clCells 5 (fun _ => rfl) cs i 1 hil' (by omega)
          have f2 := flat_at clCells 5 (fun _ => rfl) cs i 2 hil' (by omega)
          have f3 := flat_at clCells 5 (fun _ => rfl) cs i 3 hil' (by omega)
          have f4 := flat_at clCells 5 (fun _ => rfl) cs i 4 hil' (by omega)
          rw [Nat.add_zero] at f0
          have x0 := hca _ _ f0
          have x1 := hca _ _ f1
          have x2 := hca _ _ f2
          have x3 := hca _ _ f3
          have x4 := hca _ _ f4
          have y0 := hcb _ _ f0
          have y1 := hcb _ _ f1
          have y2 := hcb _ _ f2
          have y3 := hcb _ _ f3
          have y4 := hcb _ _ f4
          cases ea
          cases eb
          have d2' : (i : Int) < (cs.length : Int) := by omega
          generalize cs[i] = c at *
          obtain ⟨col, wk, ra, rb, nn⟩ := c
          simp only at x0 x1 x2 x3 x4 y0 y1 y2 y3 y4
          clear hca hcb f0 f1 f2 f3 f4
          go_wp2_with fail
          go_quiet (fail)
          go_wp2_with fail
          go_roundg (roomN cells - (i + 1))
          case measure => omega
          case rel => exact ⟨i + 1, by omega, rfl, by go_num, ⟨_, rfl⟩⟩
        · have d1' : ¬ (i : Int) < (roomN cells : Int) := by omega
          go_wp2_with fail
          go_ret
          refine ⟨rfl, HB13.out.trans ?_⟩
          exact ⟨rfl, rfl, rfl, Nat.le_refl _, fun _ _ => rfl⟩
end Go.Proofs.YtdmdpindonghdabDoor
namespace Go.Proofs.YtdmdpindonghdabDoor
open Go.ChangeShapes Go.WideShapes Go.ChangeAt Go.ChangeMaps Go.RowKit
theorem knobs : ownKnob Tryd.prog.godebug = none := by kernel_rfl
theorem arr_cell {α : Type} {cs : List α} {r : Nat} {v : α} (h : (cs.drop r).take 1 = [v]) : cs[r]? = some v := by
  have h0 : ((cs.drop r).take 1)[0]? = some v := by rw [h]; rfl
  simpa using h0
theorem arr_strings {W : World} {g : Nat} {name : String} {cs : Array Value} {fuel : Nat} {p : List MemPlace} {l : List (List UInt8)} {sp : Nat → Bool} {hd : Bool} {b : Nat} {enc : TypeId × Value → Unit}
    (hg : Tryd.prog.globalNamed name = some g) (hv : W.var? Tryd.prog name = some cs) (hl : l.length = 25)
    (h : DataW.trod enc Tryd.prog W b sp hd fuel 148 cs.toList = some (.agg (l.map fun x => .lit (.string x)), p)) (k : Nat) (hk : k < 25) : W.cell? ⟨g, k, none⟩ = some (.string ⟨(l.getD k []).toArray⟩) := by
  obtain ⟨xs, m, _, ex, _, hlx, hel⟩ := DataW.trod_array Tryd.underlying148 h
  have c9 : Tryd.prog.cellsOf 9 = 1 := by kernel_rfl
  have hE := hel k hk
  rw [c9, Nat.mul_one, List.getElem?_eq_getElem (by omega)] at hE
  obtain ⟨z, e1, e2, _⟩ := DataW.trod_string Tryd.underlying9 hE
  have e3 : (xs.map (·.1)) = l.map fun x => .lit (.string x) := (DataW.agg.inj (Prod.mk.inj ex).1).symm
  have e4 : (xs.map (·.1))[k]? = (l.map fun x => (DataW.lit (.string x) : DataW Unit))[k]? := by rw [e3]
  rw [List.getElem?_map, List.getElem?_map, List.getElem?_eq_getElem (by omega : k < xs.length), List.getElem?_eq_getElem (by omega : k < l.length), e2] at e4
  have hz : z.data.toList = l.getD k [] := by
    simp only [Option.map_some, Option.some.injEq, DataW.lit.injEq, Lit.string.injEq] at e4
    rw [e4, List.getD, List.getElem?_eq_getElem (by omega : k < l.length)]; rfl
  rw [World.var?_cell hg hv k, ← hz]
  simpa using arr_cell e1
def popsAll : List (List UInt8) := (List.range 25).map popsL
def pushesAll : List (List UInt8) := (List.range 25).map pushesL
theorem popsAll_get {k : Nat} (h : k < 25) : popsAll.getD k [] = popsL k := by simp [popsAll, List.getD_eq_getElem?_getD, h]
theorem pushesAll_get {k : Nat} (h : k < 25) : pushesAll.getD k [] = pushesL k := by simp [pushesAll, List.getD_eq_getElem?_getD, h]
theorem e1 : (Rows.laid_tint_flow_pops : DataW Unit) = .agg (popsAll.map fun x => .lit (.string x)) := by kernel_rfl
theorem e2 : (Rows.laid_tint_flow_pushes : DataW Unit) = .agg (pushesAll.map fun x => .lit (.string x)) := by kernel_rfl
theorem flow_of_laid {W : World} (h : laidMetH Tryd.prog [("tint/flow.pops", Rows.laid_tint_flow_pops), ("tint/flow.pushes", Rows.laid_tint_flow_pushes)] W) : FlowTab W := by
  rw [MakeChecks.laidMetH_plain _ _ _ (by kernel_rfl)] at h
  obtain ⟨ps, ⟨g0, t0, cs0, f0, p0, q0, hg0, ht0, hv0, hd0, ⟨g1, t1, cs1, f1, p1, q1, hg1, ht1, hv1, hd1, _, _⟩, _⟩, _, _⟩ := h
  obtain rfl := Option.some.inj ((show Tryd.prog.globalNamed "tint/flow.pops" = some 0 by kernel_rfl).symm.trans hg0)
  obtain rfl := Option.some.inj ((show Tryd.prog.globalNamed "tint/flow.pushes" = some 1 by kernel_rfl).symm.trans hg1)
  obtain rfl := Option.some.inj ((show (Tryd.prog.globals[0]?).map (·.type) = some 148 by kernel_rfl).symm.trans ht0)
  obtain rfl := Option.some.inj ((show (Tryd.prog.globals[1]?).map (·.type) = some 148 by kernel_rfl).symm.trans ht1)
  rw [e1] at hd0
  rw [e2] at hd1
  refine fun k hk => ⟨?_, ?_⟩
  · rw [arr_strings hg0 hv0 rfl hd0 k hk, popsAll_get hk]; rfl
  · rw [arr_strings hg1 hv1 rfl hd1 k hk, pushesAll_get hk]; rfl
end Go.Proofs.YtdmdpindonghdabDoor
namespace Go.Proofs.YtdmdpindonghdabDoor
open Go.ChangeShapes Go.WideShapes Go.ChangeAt Go.ChangeMaps Go.RowKit
theorem cellsInt : Tryd.prog.cellsOf 3 = 1 := by kernel_rfl
theorem bytesInt : Tryd.prog.bytesOf 3 = 8 := by kernel_rfl
theorem laidOutP : laidOutB Tryd.prog = true := by kernel_rfl
set_option maxRecDepth 100000 in
/-- A list of numbers that is handed in. -/
theorem ints_arg {H : Type} {enc : TypeId × Value → H} {W : World} {v : Value} {d : DataW H} {p : List MemPlace} {base : Nat} (hok : Value.okWide Tryd.prog W .any base 22 v) (h : DataW.Trod enc Tryd.prog W 0 (fun _ => true) true 22 v d p) (hlt : ∀ x ∈ p, x.block < W.heap.size) (hw : (d.weights Tryd.prog 22).all (· ≤ reachBytes) = true) :
    ∃ zs : List Int, ArgInts W v zs ∧ zs.length ≤ 17592186044416 ∧ ∀ p n c, v = .slice p n c → n ≤ c ∧ c ≤ maxLen := by
  obtain ⟨a0, len, cap, rfl⟩ := okWide_slice Tryd.underlying22 hok
  obtain ⟨fuel, hf⟩ := h
  rcases open_ints Tryd.underlying22 Tryd.underlying3 cellsInt hf with ⟨hcs, hx⟩ | ⟨a, len', cap', zs, hcs, _, hl, hm, hz, hx, hcell, _⟩
  · simp [Value.cells] at hcs
    obtain ⟨rfl, rfl, rfl⟩ := hcs
    exact ⟨[], .inl ⟨rfl, rfl⟩, by simp, fun p n c h => by cases h; exact ⟨Nat.le_refl _, Nat.zero_le _⟩⟩
  · simp [Value.cells] at hcs
    obtain ⟨rfl, rfl, rfl⟩ := hcs
    simp only [Prod.mk.injEq] at hx
    obtain ⟨rfl, rfl⟩ := hx
    simp only [if_true] at hz
    have hlz : (zs.take len).length = len := by rw [List.length_take]; omega
    refine ⟨zs.take len, .inr ⟨a, cap, by rw [hlz], ?_, ?_⟩, ?_, fun p n c h => by cases h; exact ⟨hl, hm⟩⟩
    · intro j x hj
      have hjl := (List.getElem?_eq_some_iff.1 hj).1
      rw [hlz] at hjl
      rw [List.getElem?_take, if_pos hjl] at hj
      rw [hcell j (by omega), List.getD_eq_getElem?_getD, hj]
      rfl
    · intro hp
      exact hlt (.cell a.block (a.off + 0)) (MemPlace.mem_row.2 ⟨0, by omega, rfl⟩)
    · rw [hlz]
      have := hw
      simp only [DataW.weights, Tryd.underlying22, List.all_cons, Bool.and_eq_true, decide_eq_true_eq, bytesInt] at this
      have h2 := this.1
      simp only [lits, List.length_map, hlz] at h2
      have : reachBytes = 140737488351232 := rfl
      omega
theorem cellsOp : Tryd.prog.cellsOf 34 = 2 := by kernel_rfl
theorem bytesOp : Tryd.prog.bytesOf 34 = 16 := by kernel_rfl
/-- The number that a value holds. -/
def vint (v : Value) : Int := match v with | .int _ x => x | _ => 0
set_option maxRecDepth 100000 in
/-- A script that is handed in. -/
theorem sc_arg {H : Type} {enc : TypeId × Value → H} {W : World} {v : Value} {d : DataW H} {p : List MemPlace} {base : Nat} (hok : Value.okWide Tryd.prog W .any base 23 v) (h : DataW.Trod enc Tryd.prog W 0 (fun _ => true) true 23 v d p) (hlt : ∀ x ∈ p, x.block < W.heap.size) (hw : (d.weights Tryd.prog 23).all (· ≤ reachBytes) = true) :
    ∃ ops : List (Int × Int), ArgSc W v ops ∧ ops.length ≤ 8796093022200 := by
  obtain ⟨a0, len, cap, rfl⟩ := okWide_slice Tryd.underlying23 hok
  obtain ⟨fuel, hf⟩ := h
  rcases Go.Deep.open_slice_pairs Tryd.underlying23 Tryd.underlying34 cellsOp rfl rfl cellsInt cellsInt hf with ⟨hcs, hx⟩ | ⟨a, len', cap', m, k, V0, V1, D0, D1, P0, P1, hcs, _, hl, hm, hmm, hx, hcell⟩
  · simp [Value.cells] at hcs
    obtain ⟨rfl, rfl, rfl⟩ := hcs
    exact ⟨[], .inl ⟨rfl, rfl⟩, by simp⟩
  · simp [Value.cells] at hcs
    obtain ⟨rfl, rfl, rfl⟩ := hcs
    simp only [Prod.mk.injEq] at hx
    obtain ⟨rfl, rfl⟩ := hx
    simp only [if_true] at hmm
    subst hmm
    refine ⟨(List.range len).map fun i => (vint (V0 i), vint (V1 i)), .inr ⟨a, m, by simp, ?_, ?_⟩, ?_⟩
    · intro j x hj
      have hjl := (List.getElem?_eq_some_iff.1 hj).1
      simp only [List.length_map, List.length_range] at hjl
      simp only [List.getElem?_map, List.getElem?_range hjl, Option.map_some, Option.some.injEq] at hj
      subst hj
      obtain ⟨c0, c1, g0, g1⟩ := hcell j (by omega)
      obtain ⟨n0, e0, _⟩ := DataW.trod_int Tryd.underlying3 g0
      obtain ⟨n1, e1, _⟩ := DataW.trod_int Tryd.underlying3 g1
      simp only [List.cons.injEq, and_true] at e0 e1
      rw [c0, c1, e0, e1]
      exact ⟨rfl, rfl⟩
    · intro hp
      simp only [List.length_map, List.length_range] at hp
      exact hlt (.cell a.block (a.off + 0)) (List.mem_append.2 (.inl (MemPlace.mem_row.2 ⟨0, by omega, rfl⟩)))
    · simp only [List.length_map, List.length_range]
      have := hw
      simp only [DataW.weights, Tryd.underlying23, List.all_cons, Bool.and_eq_true, decide_eq_true_eq, bytesOp] at this
      have h2 := this.1
      simp only [List.length_map, List.length_range] at h2
      have : reachBytes = 140737488351232 := rfl
      omega
theorem trodAll_five {H : Type} {enc : TypeId × Value → H} {P : Program} {w : World} {base : Nat} {spare : Nat → Bool} {held : Bool} {t t1 t2 t3 t4 : TypeId} {args : Array Value} {ds : List (DataW H)} {ps : List MemPlace} (h : DataW.TrodAll enc P w base spare held [t, t1, t2, t3, t4] args.toList ds ps) :
    ∃ v v1 v2 v3 v4 d d1 d2 d3 d4 p p1 p2 p3 p4, args = #[v, v1, v2, v3, v4] ∧ ds = [d, d1, d2, d3, d4] ∧ ps = p ++ (p1 ++ (p2 ++ (p3 ++ p4))) ∧ DataW.Trod enc P w base spare held t v d p ∧ DataW.Trod enc P w base spare held t1 v1 d1 p1 ∧ DataW.Trod enc P w base spare held t2 v2 d2 p2 ∧ DataW.Trod enc P w base spare held t3 v3 d3 p3 ∧ DataW.Trod enc P w base spare held t4 v4 d4 p4 := by
  obtain ⟨v, vs, d, ds', p, q, hargs, rfl, rfl, hd, hrest⟩ := trodAll_cons h
  obtain ⟨v1, vs1, d1, ds1, p1, q1, rfl, rfl, rfl, hd1, hrest1⟩ := trodAll_cons hrest
  obtain ⟨v2, vs2, d2, ds2, p2, q2, rfl, rfl, rfl, hd2, hrest2⟩ := trodAll_cons hrest1
  obtain ⟨v3, vs3, d3, ds3, p3, q3, rfl, rfl, rfl, hd3, hrest3⟩ := trodAll_cons hrest2
  obtain ⟨v4, vs4, d4, ds4, p4, q4, rfl, rfl, rfl, hd4, hrest4⟩ := trodAll_cons hrest3
  obtain ⟨rfl, rfl, rfl⟩ := trodAll_nil hrest4
  exact ⟨v, v1, v2, v3, v4, d, d1, d2, d3, d4, p, p1, p2, p3, p4, Array.toList_inj.1 hargs, rfl, by simp, hd, hd1, hd2, hd3, hd4⟩
theorem trodAll_mk5 {H : Type} {enc : TypeId × Value → H} {P : Program} {w : World} {base : Nat} {spare : Nat → Bool} {held : Bool} {t t1 t2 t3 t4 : TypeId} {v v1 v2 v3 v4 : Value} {d d1 d2 d3 d4 : DataW H} {p p1 p2 p3 p4 : List MemPlace} (h : DataW.Trod enc P w base spare held t v d p) (h1 : DataW.Trod enc P w base spare held t1 v1 d1 p1) (h2 : DataW.Trod enc P w base spare held t2 v2 d2 p2) (h3 : DataW.Trod enc P w base spare held t3 v3 d3 p3) (h4 : DataW.Trod enc P w base spare held t4 v4 d4 p4) : DataW.TrodAll enc P w base spare held [t, t1, t2, t3, t4] [v, v1, v2, v3, v4] [d, d1, d2, d3, d4] (p ++ (p1 ++ (p2 ++ (p3 ++ p4)))) := ⟨p, p1 ++ (p2 ++ (p3 ++ p4)), h, trodAll_mk4 h1 h2 h3 h4, rfl⟩
theorem trodAll_six {H : Type} {enc : TypeId × Value → H} {P : Program} {w : World} {base : Nat} {spare : Nat → Bool} {held : Bool} {t t1 t2 t3 t4 t5 : TypeId} {args : Array Value} {ds : List (DataW H)} {ps : List MemPlace} (h : DataW.TrodAll enc P w base spare held [t, t1, t2, t3, t4, t5] args.toList ds ps) :
    ∃ v v1 v2 v3 v4 v5 d d1 d2 d3 d4 d5 p p1 p2 p3 p4 p5, args = #[v, v1, v2, v3, v4, v5] ∧ ds = [d, d1, d2, d3, d4, d5] ∧ ps = p ++ (p1 ++ (p2 ++ (p3 ++ (p4 ++ p5)))) ∧ DataW.Trod enc P w base spare held t v d p ∧ DataW.Trod enc P w base spare held t1 v1 d1 p1 ∧ DataW.Trod enc P w base spare held t2 v2 d2 p2 ∧ DataW.Trod enc P w base spare held t3 v3 d3 p3 ∧ DataW.Trod enc P w base spare held t4 v4 d4 p4 ∧ DataW.Trod enc P w base spare held t5 v5 d5 p5 := by
  obtain ⟨v, vs, d, ds', p, q, hargs, rfl, rfl, hd, hrest⟩ := trodAll_cons h
  obtain ⟨v1, vs1, d1, ds1, p1, q1, rfl, rfl, rfl, hd1, hrest1⟩ := trodAll_cons hrest
  obtain ⟨v2, vs2, d2, ds2, p2, q2, rfl, rfl, rfl, hd2, hrest2⟩ := trodAll_cons hrest1
  obtain ⟨v3, vs3, d3, ds3, p3, q3, rfl, rfl, rfl, hd3, hrest3⟩ := trodAll_cons hrest2
  obtain ⟨v4, vs4, d4, ds4, p4, q4, rfl, rfl, rfl, hd4, hrest4⟩ := trodAll_cons hrest3
  obtain ⟨v5, vs5, d5, ds5, p5, q5, rfl, rfl, rfl, hd5, hrest5⟩ := trodAll_cons hrest4
  obtain ⟨rfl, rfl, rfl⟩ := trodAll_nil hrest5
  exact ⟨v, v1, v2, v3, v4, v5, d, d1, d2, d3, d4, d5, p, p1, p2, p3, p4, p5, Array.toList_inj.1 hargs, rfl, by simp, hd, hd1, hd2, hd3, hd4, hd5⟩
theorem trodAll_mk6 {H : Type} {enc : TypeId × Value → H} {P : Program} {w : World} {base : Nat} {spare : Nat → Bool} {held : Bool} {t t1 t2 t3 t4 t5 : TypeId} {v v1 v2 v3 v4 v5 : Value} {d d1 d2 d3 d4 d5 : DataW H} {p p1 p2 p3 p4 p5 : List MemPlace} (h : DataW.Trod enc P w base spare held t v d p) (h1 : DataW.Trod enc P w base spare held t1 v1 d1 p1) (h2 : DataW.Trod enc P w base spare held t2 v2 d2 p2) (h3 : DataW.Trod enc P w base spare held t3 v3 d3 p3) (h4 : DataW.Trod enc P w base spare held t4 v4 d4 p4) (h5 : DataW.Trod enc P w base spare held t5 v5 d5 p5) : DataW.TrodAll enc P w base spare held [t, t1, t2, t3, t4, t5] [v, v1, v2, v3, v4, v5] [d, d1, d2, d3, d4, d5] (p ++ (p1 ++ (p2 ++ (p3 ++ (p4 ++ p5))))) := ⟨p, p1 ++ (p2 ++ (p3 ++ (p4 ++ p5))), h, trodAll_mk5 h1 h2 h3 h4 h5, rfl⟩
theorem int_range {n : Int} (h : (Lit.int .i64 n).wf = true) : -9223372036854775808 ≤ n ∧ n ≤ 9223372036854775807 := by
  have h1 : (decide (IntKind.i64.min ≤ n) && decide (n ≤ IntKind.i64.max)) = true := h
  simp only [Bool.and_eq_true, decide_eq_true_eq] at h1
  exact h1
end Go.Proofs.YtdmdpindonghdabDoor
