/- tintlaw.Collects is true of every image, every list of inputs, every number of cells and every script: each call of the program's Step, Collect, State, Heap and Output answers what the document's answer (tintref) is; conditions: the five listed variables hold what the program's text lays in them. -/
import Derived.Test.YtdmdpindonghdaaGreatDoorRows
import Derived.Test.YtdmdpindonghdaaGreatDoorTie
import Derived.Test.YtdmdpindonghdaaGreatDoorCards
import Derived.Test.YtdmdpindonghdaaGreatDoorOwn9
import Derived.WalkKit
import Derived.WalkSmall
import Derived.Deep.AppendLies
import Derived.Deep.DeepMust
import Derived.Deep.LoopGhost
import Derived.WalkSpells
import Derived.WalkLawsBesides
import Derived.BigRegion
import Derived.Deep.QuietTactic
import Derived.BigQuiet
import Derived.Deep.RegionHeld3
import Derived.OwnWalk
import Derived.Laws.StructEq
import Derived.Deep.RegionLaw
import Derived.Deep.DeepCutAuto
import Derived.Laws.MakeOwn
import Derived.Laws.IdiomCopy
import Derived.ProofKit
import Derived.OpenShut
import Derived.Lay
import Derived.SevenTiedAt
import Derived.Stop.Joined
import Derived.Carry
import Derived.Deep.SlicePairs
namespace Go.Proofs.YtdmdpindonghdaaGreatDoor
open Go.RowKit
theorem Touch.under {F : Nat → Prop} {w w' : World} {B : Nat} (h : Touch F w w') (hF : ∀ k, F k → B ≤ k) (hB : B ≤ w.heap.size) : Below B w w' :=
  ⟨h.os, h.tape, h.output, h.size, fun k hk => h.block k (by omega) (fun hf => by have := hF k hf; omega)⟩
theorem LW.mid {E : Env} {w w1 : World} {q : Nat} {r : Array Value} {K : PK} {R : RK} {F G : Nat → Prop} {s : MS} (h : LW E w q r K R F G s) (ht : Touch F w w1) : RX w1 R G s := h.rm.keep ht.size (fun k hk hg => ht.block k hk (fun hf => h.fg k hf hg))
theorem LW.next {E : Env} {w w1 w2 : World} {q : Nat} {r : Array Value} {K : PK} {R : RK} {F G : Nat → Prop} {s t : MS} (h : LW E w q r K R F G s) (hp : PX w1 K (Grown F w w1) t) (t1 : Touch F w w1) (hr : RX w2 R (Grown G w1 w2) t) (t2 : Touch G w1 w2) (hinv : MInv E t) : LW E w2 q r K R (Grown F w w1) (Grown G w1 w2) t := by
  have hqz := (Array.getElem?_eq_some_iff.1 h.row).1
  have hz1 := t1.size
  have hz2 := t2.size
  have hne : ∀ k, Grown F w w1 k → ¬ G k := fun k hf hg => by
    rcases hf with hf | hf
    · exact h.fg k hf hg
    · have := h.gz k hg; omega
  have hlt : ∀ k, Grown F w w1 k → k < w1.heap.size := fun k hf => by
    rcases hf with hf | hf
    · have := h.fz k hf; omega
    · exact hf.2
  refine ⟨?_, h.r0, h.r1, hp.keep hz2 (fun k hk hf => t2.block k hk (hne k hf)), hr, h.ke, h.re, ?_, ?_, ?_, fun k hk => Nat.lt_of_lt_of_le (hlt k hk) hz2, ?_, hinv, h.ok⟩
  · exact (t2.block q (by omega) h.gq).trans ((t1.block q hqz h.fq).trans h.row)
  · rintro k hf (hg | hg)
    · exact hne k hf hg
    · have := hlt k hf; omega
  · rintro (hf | hf)
    · exact h.fq hf
    · omega
  · rintro (hg | hg)
    · exact h.gq hg
    · omega
  · rintro k (hg | hg)
    · have := h.gz k hg; omega
    · exact hg.2
/-- Both machines and the law's world lie above B. -/
def LS (E : Env) (B : Nat) (w : World) (q : Nat) (r : Array Value) (K : PK) (R : RK) (s : MS) : Prop := ∃ F G, LW E w q r K R F G s ∧ (∀ k, F k → B ≤ k) ∧ (∀ k, G k → B ≤ k) ∧ B ≤ q ∧ B ≤ w.heap.size
theorem LS.keep {E : Env} {B : Nat} {w w' : World} {q : Nat} {r : Array Value} {K : PK} {R : RK} {s : MS} (h : LS E B w q r K R s) (hb : Below w.heap.size w w') : LS E B w' q r K R s := by
  obtain ⟨F, G, h1, h2, h3, h4, h5⟩ := h
  exact ⟨F, G, h1.keep hb, h2, h3, h4, Nat.le_trans h5 hb.size⟩
theorem LS.next {E : Env} {B : Nat} {w w1 w2 : World} {q : Nat} {r : Array Value} {K : PK} {R : RK} {F G : Nat → Prop} {s t : MS} (h : LW E w q r K R F G s) (hF : ∀ k, F k → B ≤ k) (hG : ∀ k, G k → B ≤ k) (hq : B ≤ q) (hB : B ≤ w.heap.size) (hp : PX w1 K (Grown F w w1) t) (t1 : Touch F w w1) (hr : RX w2 R (Grown G w1 w2) t) (t2 : Touch G w1 w2) (hinv : MInv E t) : LS E B w2 q r K R t ∧ Below B w w2 := by
  have hz1 := t1.size
  have hz2 := t2.size
  refine ⟨⟨_, _, h.next hp t1 hr t2 hinv, ?_, ?_, hq, by omega⟩, (t1.under hF hB).trans (t2.under hG (by omega))⟩
  · rintro k (hf | hf)
    · exact hF k hf
    · omega
  · rintro k (hf | hf)
    · exact hG k hf
    · omega
/-- What one step of a script makes of a machine. -/
def opS (E : Env) (k a : Int) (s : MS) : MS := if k = 1 then (if s.oc = 0 then stepS E s else s) else if k = 2 then (if 0 ≤ a ∧ a ≤ 1000 then collS E a.toNat s else s) else s
def LStepPost (E : Env) (B : Nat) (q : Nat) (r : Array Value) (K : PK) (R : RK) (t : MS) (w : World) (e : Ending) (w' : World) : Prop :=
  e = .returned (.bool true) ∧ LS E B w' q r K R t ∧ Below B w w'
/-- What a call of the program's machine answers, and what it leaves. -/
def PCall (K : PK) (F : Nat → Prop) (x : Int) (y : Nat) (t : MS) (w : World) (e : Ending) (w' : World) : Prop := e = .returned (.tuple #[.int .i64 x, .int .i64 y]) ∧ PX w' K (Grown F w w') t ∧ Touch F w w'
def RCall (R : RK) (G : Nat → Prop) (x : Int) (y : Nat) (t : MS) (w : World) (e : Ending) (w' : World) : Prop := e = .returned (.tuple #[.int .i64 x, .int .i64 y]) ∧ RX w' R (Grown G w w') t ∧ Touch G w w'
set_option maxRecDepth 100000 in
set_option maxHeartbeats 1000000 in
theorem lstep_1 {E : Env} {B : Nat} {w : World} {q : Nat} {r : Array Value} {K : PK} {R : RK} {F G : Nat → Prop} {s t : MS} (h : LW E w q r K R F G s) (hF : ∀ k, F k → B ≤ k) (hG : ∀ k, G k → B ≤ k) (hq : B ≤ q) (hB : B ≤ w.heap.size) (hinv : MInv E t) (a x : Int) (y : Nat)
    (hp : ∀ W, PX W K F s → Calls Tryz.prog 34 #[.pointer (some ⟨K.b, 0, none⟩)] W (PCall K F x y t W))
    (hr : ∀ W, RX W R G s → Calls Tryz.prog 27 #[.pointer (some ⟨R.b, 0, none⟩)] W (RCall R G x y t W)) :
    Calls Tryz.prog 18 #[.pointer (some ⟨q, 0, none⟩), .agg #[.int .i64 1, .int .i64 a]] w (LStepPost E B q r K R t w) := by
  have hb0 : Below w.heap.size w (w.alloc (.cells #[.int .i64 1, .int .i64 a] 44)) := (Below.refl _ _).alloc (Nat.le_refl _) _
  have hA := h.keep hb0
  have hBA : B ≤ (w.alloc (.cells #[.int .i64 1, .int .i64 a] 44)).heap.size := Nat.le_trans hB hb0.size
  have HB0 := hid (hb0.mono hB)
  have hp1 := hid (hp _ hA.pm)
  have hr1 := hid (fun (w1 : World) (ht : Touch F (w.alloc (.cells #[.int .i64 1, .int .i64 a] 44)) w1) => hr w1 (hA.mid ht))
  have h0 := (cell_of_row _ q 0 _ _ _ hA.row).trans hA.r0
  have hrw := hid (fun (w1 : World) (ht : Touch F (w.alloc (.cells #[.int .i64 1, .int .i64 a] 44)) w1) => (cell_of_row w1 q 1 _ _ _ ((ht.block q (Array.getElem?_eq_some_iff.1 hA.row).1 hA.fq).trans hA.row)).trans hA.r1)
  have FIN := hid (fun (w1 w2 : World) => LS.next (w1 := w1) (w2 := w2) (t := t) hA hF hG hq hBA)
  have hnu := hid (fun W => num_any y W)
  clear h hA hb0 hp hr hB hBA
  go_enter Tryz.func18, Tryz.ntmps18
  go_wp2_with fail
  refine hp1.out.mono ?_
  clear hp1
  intro e w1 hh
  obtain ⟨hx, hP, hT⟩ := hh
  subst e
  have hr2 := hid (hr1.out w1 hT)
  have h1 := hrw.out w1 hT
  have HP := hid hP
  have HT := hid hT
  clear hr1 hrw hP hT h0
  go_wp2_with fail
  refine hr2.out.mono ?_
  clear hr2
  intro e w2 hh
  obtain ⟨hx, hR, hT2⟩ := hh
  subst e
  have HF := hid (FIN.out w1 w2 HP.out HT.out hR hT2 hinv)
  have hn2 := hid (hnu.out w2)
  clear hR hT2 FIN HP HT hnu h1
  go_wp2_with fail
  refine hn2.out.mono ?_
  clear hn2
  intro e w3 hh
  obtain ⟨hx, hw⟩ := hh
  subst e
  subst hw
  go_wp2_with fail
  exact bodyPost_ret (v := .bool true) (by simp [results, Tryz.results18, go_sem]) rfl ⟨rfl, HF.out.1, HB0.out.trans HF.out.2⟩
set_option maxRecDepth 100000 in
set_option maxHeartbeats 1000000 in
theorem lstep_2 {E : Env} {B : Nat} {w : World} {q : Nat} {r : Array Value} {K : PK} {R : RK} {F G : Nat → Prop} {s t : MS} (h : LW E w q r K R F G s) (hF : ∀ k, F k → B ≤ k) (hG : ∀ k, G k → B ≤ k) (hq : B ≤ q) (hB : B ≤ w.heap.size) (hinv : MInv E t) (a x : Int) (y : Nat)
    (hp : ∀ W, PX W K F s → Calls Tryz.prog 35 #[.pointer (some ⟨K.b, 0, none⟩), .int .i64 a] W (PCall K F x y t W))
    (hr : ∀ W, RX W R G s → Calls Tryz.prog 26 #[.pointer (some ⟨R.b, 0, none⟩), .int .i64 a] W (RCall R G x y t W)) :
    Calls Tryz.prog 18 #[.pointer (some ⟨q, 0, none⟩), .agg #[.int .i64 2, .int .i64 a]] w (LStepPost E B q r K R t w) := by
  have hb0 : Below w.heap.size w (w.alloc (.cells #[.int .i64 2, .int .i64 a] 44)).drew := ((Below.refl _ _).alloc (Nat.le_refl _) _).drew
  have hA := h.keep hb0
  have hBA : B ≤ (w.alloc (.cells #[.int .i64 2, .int .i64 a] 44)).drew.heap.size := Nat.le_trans hB hb0.size
  have HB0 := hid (hb0.mono hB)
  have hp1 := hid (hp _ hA.pm)
  have hpre : Hid (∀ w1, PX w1 K (Grown F (w.alloc (.cells #[.int .i64 2, .int .i64 a] 44)).drew w1) t → Touch F (w.alloc (.cells #[.int .i64 2, .int .i64 a] 44)).drew w1 → PX w1.drew K (Grown F (w.alloc (.cells #[.int .i64 2, .int .i64 a] 44)).drew w1.drew) t ∧ Touch F (w.alloc (.cells #[.int .i64 2, .int .i64 a] 44)).drew w1.drew) := hid (fun w1 h1 h2 => ⟨h1.below (Below.refl _ w1).drew, h2.trans (Touch.below (F := F) (Below.refl _ w1).drew) (fun _ _ h => h)⟩)
  have hr1 := hid (fun (w1 : World) (ht : Touch F (w.alloc (.cells #[.int .i64 2, .int .i64 a] 44)).drew w1.drew) => hr w1.drew (hA.mid ht))
  have h0 := (cell_of_row _ q 0 _ _ _ (h.keep ((Below.refl _ _).alloc (Nat.le_refl _) (.cells #[.int .i64 2, .int .i64 a] 44))).row).trans hA.r0
  have hrw := hid (fun (w1 : World) (ht : Touch F (w.alloc (.cells #[.int .i64 2, .int .i64 a] 44)).drew w1) => (cell_of_row w1 q 1 _ _ _ ((ht.block q (Array.getElem?_eq_some_iff.1 hA.row).1 hA.fq).trans hA.row)).trans hA.r1)
  have hbx := hid (fun (w1 : World) (ht : Touch F (w.alloc (.cells #[.int .i64 2, .int .i64 a] 44)).drew w1) => cell_of_row w1 w.heap.size 1 _ _ _ ((ht.block w.heap.size (by simp) (fun hf => Nat.lt_irrefl _ (h.fz _ hf))).trans (heap_alloc_new w _)))
  have FIN := hid (fun (w1 w2 : World) => LS.next (w1 := w1.drew) (w2 := w2) (t := t) hA hF hG hq hBA)
  have hnu := hid (fun W => num_any y W)
  clear h hA hb0 hp hr hB hBA
  go_enter Tryz.func18, Tryz.ntmps18
  go_wp2_with fail
  go_region_law ((go_simp; go_at_call 35; refine hp1.out.mono ?_; intro e w1 hh; obtain ⟨hx, hP, hT⟩ := hh; subst hx; have h1 := hrw.out w1 hT; have b1 := hbx.out w1 hT; simp only [List.getElem?_toArray, List.getElem?_cons_zero, List.getElem?_cons_succ] at b1; clear hp1; dsimp only))
  all_goals
    have HPT := hid (hpre.out w1 hP hT)
    have hr2 := hid (hr1.out w1 HPT.out.2)
    clear hr1 hrw hbx hpre hP hT h0
    go_wp2_with fail
    go_region_law ((go_simp; go_at_call 26; refine hr2.out.mono ?_; intro e w2 hh; obtain ⟨hx, hR, hT2⟩ := hh; subst hx; clear hr2; dsimp only))
  all_goals
    have HF := hid (FIN.out w1 w2 HPT.out.1 HPT.out.2 hR hT2 hinv)
    have hn2 := hid (hnu.out w2)
    clear hR hT2 FIN HPT hnu h1 b1
    go_wp2_with fail
    refine hn2.out.mono ?_
    clear hn2
    intro e w3 hh
    obtain ⟨hx, hw⟩ := hh
    subst e
    subst hw
    go_wp2_with fail
    exact bodyPost_ret (v := .bool true) (by simp [results, Tryz.results18, go_sem]) rfl ⟨rfl, HF.out.1, HB0.out.trans HF.out.2⟩
theorem LS.of {E : Env} {B : Nat} {w w' : World} {q : Nat} {r : Array Value} {K : PK} {R : RK} {s : MS} (h : LS E B w q r K R s) (hb : Below w.heap.size w w') : LS E B w' q r K R s ∧ Below B w w' := by
  have h2 := h.keep hb
  obtain ⟨F, G, _, _, _, _, h5⟩ := h
  exact ⟨h2, hb.mono h5⟩
set_option maxRecDepth 100000 in
set_option maxHeartbeats 1000000 in
theorem lstep_other {E : Env} {B : Nat} {w : World} {q : Nat} {r : Array Value} {K : PK} {R : RK} {s : MS} (h : LS E B w q r K R s) (k a : Int) (h1 : k ≠ 1) (h2 : k ≠ 2) (h6 : k ≠ 6) (hlen : s.out.length ≤ 8796093022208) :
    Calls Tryz.prog 18 #[.pointer (some ⟨q, 0, none⟩), .agg #[.int .i64 k, .int .i64 a]] w (LStepPost E B q r K R s w) := by
  have hb0 : Below w.heap.size w (w.alloc (.cells #[.int .i64 k, .int .i64 a] 44)) := (Below.refl _ _).alloc (Nat.le_refl _) _
  have hA := h.keep hb0
  have FIN := hid (fun (W : World) (hb : Below (w.alloc (.cells #[.int .i64 k, .int .i64 a] 44)).heap.size (w.alloc (.cells #[.int .i64 k, .int .i64 a] 44)) W) => h.of (hb0.trans (hb.mono hb0.size)))
  obtain ⟨F, G, hL, _⟩ := hA
  have hs := hid (lstate_any hL)
  have hh := hid (lheap_any hL)
  have ho := hid (loutput_any hL hlen)
  clear h hb0 hL
  have y1 : (k == 1) = false := by simp [h1]
  have y2 : (k == 2) = false := by simp [h2]
  have y6 : (k == 6) = false := by simp [h6]
  by_cases h3 : k = 3
  · subst h3
    go_enter Tryz.func18, Tryz.ntmps18
    go_wp2_with fail
    refine hs.out.mono ?_
    clear hs
    intro e w1 hp
    obtain ⟨hx, hb⟩ := hp
    subst e
    have HF := hid (FIN.out w1 hb)
    clear hb FIN
    go_wp2_with fail
    exact bodyPost_ret (v := .bool true) (by simp [results, Tryz.results18, go_sem]) rfl ⟨rfl, HF.out.1, HF.out.2⟩
  by_cases h4 : k = 4
  · subst h4
    go_enter Tryz.func18, Tryz.ntmps18
    go_wp2_with fail
    refine hh.out.mono ?_
    clear hh
    intro e w1 hp
    obtain ⟨hx, hb⟩ := hp
    subst e
    have HF := hid (FIN.out w1 hb)
    clear hb FIN
    go_wp2_with fail
    exact bodyPost_ret (v := .bool true) (by simp [results, Tryz.results18, go_sem]) rfl ⟨rfl, HF.out.1, HF.out.2⟩
  by_cases h5 : k = 5
  · subst h5
    go_enter Tryz.func18, Tryz.ntmps18
    go_wp2_with fail
    refine ho.out.mono ?_
    clear ho
    intro e w1 hp
    obtain ⟨hx, hb⟩ := hp
    subst e
    have HF := hid (FIN.out w1 hb)
    clear hb FIN
    go_wp2_with fail
    exact bodyPost_ret (v := .bool true) (by simp [results, Tryz.results18, go_sem]) rfl ⟨rfl, HF.out.1, HF.out.2⟩
  have y3 : (k == 3) = false := by simp [h3]
  have y4 : (k == 4) = false := by simp [h4]
  have y5 : (k == 5) = false := by simp [h5]
  clear hs hh ho
  go_enter Tryz.func18, Tryz.ntmps18
  go_wp2_with fail
  have HF := hid (FIN.out _ (Below.refl _ _))
  exact bodyPost_ret (v := .bool true) (by simp [results, Tryz.results18, go_sem]) rfl ⟨rfl, HF.out.1, HF.out.2⟩
theorem MInv.op {E : Env} (he : EnvOk E) {s : MS} (h : MInv E s) (k a : Int) : MInv E (opS E k a s) := by
  unfold opS
  split
  · split
    · exact h.step he
    · exact h
  split
  · split
    · exact h.coll _
    · exact h
  · exact h
theorem lstep_any {E : Env} {B : Nat} {w : World} {q : Nat} {r : Array Value} {K : PK} {R : RK} {s : MS} (h : LS E B w q r K R s) (k a : Int) (h6 : k ≠ 6) (hz : E.zs.length ≤ 64) (hlen : s.out.length ≤ 8796093022208) :
    Calls Tryz.prog 18 #[.pointer (some ⟨q, 0, none⟩), .agg #[.int .i64 k, .int .i64 a]] w (LStepPost E B q r K R (opS E k a s) w) := by
  obtain ⟨F, G, hL, hF, hG, hq, hB⟩ := h
  have hinv := hL.inv.op hL.ok k a
  by_cases h1 : k = 1
  · subst h1
    by_cases ho : s.oc = 0
    · have e : opS E 1 a s = stepS E s := by unfold opS; rw [if_pos rfl, if_pos ho]
      rw [e] at hinv ⊢
      exact lstep_1 hL hF hG hq hB hinv a (stepS E s).oc 0 (fun W hW => pstep_x hW hL.ke hL.ok hL.inv ho hz hlen) (fun W hW => rstep_x hW hL.re hL.ok hL.inv ho hz hlen)
    · have e : opS E 1 a s = s := by unfold opS; rw [if_pos rfl, if_neg ho]
      rw [e] at hinv ⊢
      refine lstep_1 hL hF hG hq hB hinv a 0 9 (fun W hW => (pstep_done hW ho).mono ?_) (fun W hW => (rstep_done hW ho).mono ?_)
      · rintro e w' ⟨h1, h2⟩
        subst h2
        exact ⟨h1, hW.mono (fun _ h => .inl h), Touch.refl _ _⟩
      · rintro e w' ⟨h1, h2⟩
        subst h2
        exact ⟨h1, hW.mono (fun _ h => .inl h), Touch.refl _ _⟩
  by_cases h2 : k = 2
  · subst h2
    by_cases ha : 0 ≤ a ∧ a ≤ 1000
    · have e : opS E 2 a s = collS E a.toNat s := by unfold opS; rw [if_neg (by omega), if_pos rfl, if_pos ha]
      rw [e] at hinv ⊢
      obtain ⟨n, rfl⟩ := Int.eq_ofNat_of_zero_le ha.1
      simp only [Int.toNat_natCast] at hinv ⊢
      refine lstep_2 hL hF hG hq hB hinv n (collS E n s).hs.2.1 0 (fun W hW => (pcollect_x hW hL.ke hL.ok hL.inv n (by omega)).mono ?_) (fun W hW => (rcollect_x hW hL.re hL.ok hL.inv n (by omega)).mono ?_)
      · rintro e w' ⟨h1, h2, h3⟩
        exact ⟨h1, h2.mono (fun _ h => .inl h), h3⟩
      · rintro e w' ⟨h1, h2, h3⟩
        exact ⟨h1, h2.mono (fun _ h => .inl h), h3⟩
    · have e : opS E 2 a s = s := by unfold opS; rw [if_neg (by omega), if_pos rfl, if_neg ha]
      rw [e] at hinv ⊢
      refine lstep_2 hL hF hG hq hB hinv a 0 8 (fun W hW => (pcollect_bad K.b a W (by omega)).mono ?_) (fun W hW => (rcollect_bad R.b a W (by omega)).mono ?_)
      · rintro e w' ⟨h1, h2⟩
        subst h2
        exact ⟨h1, hW.mono (fun _ h => .inl h), Touch.refl _ _⟩
      · rintro e w' ⟨h1, h2⟩
        subst h2
        exact ⟨h1, hW.mono (fun _ h => .inl h), Touch.refl _ _⟩
  have e : opS E k a s = s := by unfold opS; rw [if_neg h1, if_neg h2]
  rw [e]
  exact lstep_other ⟨F, G, hL, hF, hG, hq, hB⟩ k a h1 h2 h6 hlen
theorem ite_len {P : Prop} [Decidable P] {a b : List Int} {n : Nat} (h1 : a.length ≤ n) (h2 : b.length ≤ n) : (if P then a else b).length ≤ n := by split <;> assumption
theorem does_out (E : Env) (i : Ins) (cell : Int) (s : MS) : (doesS E i cell s).out.length ≤ s.out.length + 1 := by
  have h0 : s.out.length ≤ s.out.length + 1 := by omega
  unfold doesS touchS
  simp only [apply_ite MS.out, ite_self]
  exact ite_len h0 (ite_len h0 (ite_len h0 (ite_len h0 (ite_len h0 (ite_len h0 (ite_len h0 (ite_len h0 (ite_len h0 (ite_len (by simp) h0)))))))))
theorem step_out (E : Env) (s : MS) : (stepS E s).out.length ≤ s.out.length + 1 := by
  have h0 : s.out.length ≤ s.out.length + 1 := by omega
  unfold stepS
  split
  · exact h0
  · unfold stepI goS
    simp only [apply_ite MS.out]
    exact ite_len h0 (ite_len h0 (ite_len (ite_len h0 (does_out _ _ _ _)) (does_out _ _ _ _)))
theorem op_out (E : Env) (k a : Int) (s : MS) : (opS E k a s).out.length ≤ s.out.length + 1 := by
  have h0 : s.out.length ≤ s.out.length + 1 := by omega
  unfold opS
  simp only [apply_ite MS.out]
  exact ite_len (ite_len (step_out _ _) h0) (ite_len (ite_len h0 h0) h0)
end Go.Proofs.YtdmdpindonghdaaGreatDoor
namespace Go.Proofs.YtdmdpindonghdaaGreatDoor
open Go.RowKit
set_option maxRecDepth 100000 in
set_option maxHeartbeats 1000000 in
theorem looks_nil (q : Nat) (w : World) (h4 : w.cell? ⟨q, 4, none⟩ = some (.slice none 0 0)) (h6 : w.cell? ⟨q, 6, none⟩ = some (.slice none 0 0)) (h8 : w.cell? ⟨q, 8, none⟩ = some (.slice none 0 0)) (h10 : w.cell? ⟨q, 10, none⟩ = some (.slice none 0 0)) :
    Calls Tryz.prog 19 #[.pointer (some ⟨q, 0, none⟩)] w fun e w' => e = .returned (.bool true) ∧ Below w.heap.size w w' := by
  have HB : Hid (Below w.heap.size w w) := hid (Below.refl _ _)
  go_enter Tryz.func19, Tryz.ntmps19
  go_wp2_with fail
  go_loopg [3] 1 (fun g x w' => x = .int .i64 0 ∧ w = w')
  case atStart => exact ⟨rfl, rfl⟩
  case round =>
    obtain ⟨rfl, hw⟩ := hrel
    subst hw
    go_wp2_with fail
    go_loopg [5] 1 (fun g x w' => x = .int .i64 0 ∧ w = w')
    case atStart => exact ⟨rfl, rfl⟩
    case round =>
      obtain ⟨rfl, hw⟩ := hrel
      subst hw
      go_wp2_with fail
      go_loopg [7] 1 (fun g x w' => x = .int .i64 0 ∧ w = w')
      case atStart => exact ⟨rfl, rfl⟩
      case round =>
        obtain ⟨rfl, hw⟩ := hrel
        subst hw
        go_wp2_with fail
        go_loopg [10] 1 (fun g x w' => x = .int .i64 0 ∧ w = w')
        case atStart => exact ⟨rfl, rfl⟩
        case round =>
          obtain ⟨rfl, hw⟩ := hrel
          subst hw
          go_wp2_with fail
          exact bodyPost_ret (v := .bool true) (by simp [results, Tryz.results19, go_sem]) rfl ⟨rfl, HB.out⟩
end Go.Proofs.YtdmdpindonghdaaGreatDoor
namespace Go.Proofs.YtdmdpindonghdaaGreatDoor
open Go.RowKit
/-- A script that is handed in. -/
def ArgOps (w : World) (v : Value) (ops : List (Int × Int)) : Prop :=
  (v = .slice none 0 0 ∧ ops = []) ∨ ∃ a cap, v = .slice (some a) ops.length cap ∧ (∀ (j : Nat) (x : Int × Int), ops[j]? = some x → w.cell? (a.add (j * 2)) = some (.int .i64 x.1) ∧ w.cell? (a.add (j * 2 + 1)) = some (.int .i64 x.2)) ∧ (0 < ops.length → a.block < w.heap.size)
theorem ArgOps.slice {w : World} {v : Value} {ops : List (Int × Int)} (h : ArgOps w v ops) : ∃ p cap, v = .slice p ops.length cap := by
  rcases h with ⟨h1, h2⟩ | ⟨a, cap, hv, _⟩
  · exact ⟨none, 0, by rw [h1, h2]; rfl⟩
  · exact ⟨some a, cap, hv⟩
theorem add_block (a : Addr) (k : Nat) : (a.add k).block = a.block := by unfold Addr.add; split <;> rfl
theorem add_none (g o k : Nat) : (⟨g, o, none⟩ : Addr).add k = ⟨g, o + k, none⟩ := by unfold Addr.add; split <;> simp_all
theorem plain_of_cell {w : World} {a : Addr} {v : Value} (h : w.cell? a = some v) : ∃ g o, a = ⟨g, o, none⟩ := by
  obtain ⟨g, o, sp⟩ := a
  cases sp with
  | none => exact ⟨g, o, rfl⟩
  | some b =>
    exfalso
    unfold World.cell? at h
    simp only at h
    split at h <;> simp_all
/-- Is this step of a script left out? -/
def skipB (b1 b2 : Bool) (k : Int) : Prop := (k = 2 ∧ b1 = false) ∨ (k = 6 ∧ b2 = false)
/-- What holds behind every step: P j, once j steps are done. -/
structure Script (B : Nat) (q : Nat) (ops : List (Int × Int)) (b1 b2 : Bool) (P : Nat → World → Prop) : Prop where
  more : ∀ j W, P j W → P (j + 1) W
  step : ∀ j W x, ops[j]? = some x → ¬ skipB b1 b2 x.1 → P j W → Calls Tryz.prog 18 #[.pointer (some ⟨q, 0, none⟩), .agg #[.int .i64 x.1, .int .i64 x.2]] W (fun e w' => e = .returned (.bool true) ∧ P (j + 1) w' ∧ Below B W w')
  looks : ∀ j W, P j W → Calls Tryz.prog 19 #[.pointer (some ⟨q, 0, none⟩)] W (fun e w' => e = .returned (.bool true) ∧ P j w' ∧ Below B W w')
  agrees : ∀ W, P ops.length W → Calls Tryz.prog 20 #[.pointer (some ⟨q, 0, none⟩)] W (fun e w' => e = .returned (.bool true) ∧ Below B W w')
  drew : ∀ j W, P j W → P j W.drew
set_option maxRecDepth 100000 in
set_option maxHeartbeats 1000000 in
theorem plays_gen (s : ByteArray) (vi vo : Value) (zs : List Int) (ops : List (Int × Int)) (cells : Int) (b1 b2 : Bool) (w : World) (hs : s.size ≤ maxLen) (t1 : TakesTab w) (t2 : TypeTab w) (t3 : FlowTab w) (hv : ArgInts w vi zs) (hlen : zs.length ≤ 17592186044416) (ho : ArgOps w vo ops) (hol : ops.length ≤ 8796093022208)
    (hst : ∀ n q K R w1, cells = ((n : Nat) : Int) → NewErr s zs.length cells 0 → Begun s zs n w w1 q K R → ∃ P, P 0 w1 ∧ Script w.heap.size q ops b1 b2 P) :
    Calls Tryz.prog 8 #[.string s, vi, .int .i64 cells, vo, .bool b1, .bool b2] w fun e w' => e = .returned (.bool true) ∧ Below w.heap.size w w' := by
  have hbg := hid (begin_any s vi zs cells w hs t1 t2 t3 hv hlen)
  obtain ⟨p0, c0, e0⟩ := hv.slice
  subst e0
  have HO := hid ho
  obtain ⟨po, co, eo⟩ := ho.slice
  subst eo
  clear hs t1 t2 t3 hv ho
  go_enter Tryz.func8, Tryz.ntmps8
  go_wp2_with fail
  refine hbg.out.mono ?_
  clear hbg
  intro x w1 hp
  rcases hp with ⟨r, hr, he, hx, hb⟩ | ⟨n, q, K, R, hc, he, hx, hB⟩
  · subst x
    have HB := hid hb
    clear hb
    go_wp2_with fail
    go_ret
    exact ⟨rfl, HB.out⟩
  · subst x
    obtain ⟨P, hP0, hS⟩ := hst n q K R w1 hc he hB
    have HS := hid hS
    have HP0 := hid hP0
    have HB := hid hB.below
    clear hB hS hP0 he hst
    go_wp2_with fail
    go_loopg [15, 14] ops.length (fun g x y w' => ∃ j : Nat, j ≤ ops.length ∧ g = ops.length - j ∧ x = .int .i64 j ∧ y = .bool true ∧ P j w' ∧ Below w.heap.size w w')
    case atStart => exact ⟨0, by omega, by omega, rfl, rfl, HP0.out, HB.out⟩
    case round =>
      obtain ⟨j, hj, hg, rfl, rfl, hP, hB⟩ := hrel
      rcases Nat.lt_or_ge j ops.length with hlt | hge
      · have d0 : (0 : Int) ≤ (j : Int) := by omega
        have d1 : (j : Int) < (ops.length : Int) := by omega
        have d2 : (j : Int) + 1 ≤ 17592186044416 := by omega
        rcases HO.out with ⟨_, h0⟩ | ⟨a, cap, hv, hcell, hbl⟩
        · rw [h0] at hlt; simp at hlt
        cases hv
        obtain ⟨x, hx⟩ : ∃ x, ops[j]? = some x := ⟨_, List.getElem?_eq_getElem hlt⟩
        obtain ⟨y0, y1⟩ := hcell j x hx
        have hbz := hbl (by omega)
        obtain ⟨g, o, rfl⟩ : ∃ g o, a = ⟨g, o, none⟩ := by
          obtain ⟨q0, q1⟩ : ∃ x0, ops[0]? = some x0 := ⟨_, List.getElem?_eq_getElem (by omega)⟩
          have h0 := (hcell 0 _ q1).1
          exact plain_of_cell (a := a) (by simpa [Addr.add] using h0)
        have z0 : wr.cell? ⟨g, o + j * 2, none⟩ = some (.int .i64 x.1) := by
          have := (hB.cell (p := (⟨g, o, none⟩ : Addr).add (j * 2)) (by rw [add_block]; exact hbz)).trans y0
          rw [add_none] at this
          exact this
        have z1 : wr.cell? ⟨g, o + j * 2 + 1, none⟩ = some (.int .i64 x.2) := by
          have := (hB.cell (p := (⟨g, o, none⟩ : Addr).add (j * 2 + 1)) (by rw [add_block]; exact hbz)).trans y1
          rw [add_none] at this
          exact this
        obtain ⟨x1, x2⟩ := x
        simp only at z0 z1
        have HP := hid hP
        have HB1 := hid hB
        have HX := hid hx
        clear hcell hbl y0 y1 hP hB hx hbz HO HB HP0
        by_cases hsk : skipB b1 b2 x1
        · have HP1 := hid (HS.out.more j _ HP.out)
          rcases hsk with ⟨rfl, rfl⟩ | ⟨rfl, rfl⟩
          all_goals
            clear HX HP
            go_wp2_with fail
            go_roundg (ops.length - (j + 1))
            case measure => omega
            case rel => exact ⟨j + 1, by omega, rfl, by go_num, rfl, HP1.out, HB1.out⟩
        · have hst := hid (HS.out.step j _ _ HX.out hsk HP.out)
          have hcase : (x1 = 2 ∧ b1 = true) ∨ (x1 = 6 ∧ b2 = true) ∨ (x1 ≠ 2 ∧ x1 ≠ 6) := by
            unfold skipB at hsk
            by_cases h2 : x1 = 2
            · cases b1
              · exact absurd (.inl ⟨h2, rfl⟩) hsk
              · exact .inl ⟨h2, rfl⟩
            by_cases h6 : x1 = 6
            · cases b2
              · exact absurd (.inr ⟨h6, rfl⟩) hsk
              · exact .inr (.inl ⟨h6, rfl⟩)
            · exact .inr (.inr ⟨h2, h6⟩)
          clear HX HP hsk
          rcases hcase with ⟨rfl, rfl⟩ | ⟨rfl, rfl⟩ | ⟨h2, h6⟩
          · skip
            go_wp2_with fail
            refine hst.out.mono ?_
            clear hst
            intro e w2 hp
            obtain ⟨hx, hP2, hB2⟩ := hp
            subst e
            have hlk := hid (HS.out.looks _ _ hP2)
            have HB2 := hid (HB1.out.trans hB2)
            clear hP2 hB2 HB1 z0 z1
            go_wp2_with fail
            refine hlk.out.mono ?_
            clear hlk
            intro e w3 hp
            obtain ⟨hx, hP3, hB3⟩ := hp
            subst e
            have HP3 := hid hP3
            have HB3 := hid (HB2.out.trans hB3)
            clear hP3 hB3 HB2
            go_wp2_with fail
            go_roundg (ops.length - (j + 1))
            case measure => omega
            case rel => exact ⟨j + 1, by omega, rfl, by go_num, rfl, HP3.out, HB3.out⟩
          · skip
            go_wp2_with fail
            refine hst.out.mono ?_
            clear hst
            intro e w2 hp
            obtain ⟨hx, hP2, hB2⟩ := hp
            subst e
            have hlk := hid (HS.out.looks _ _ hP2)
            have HB2 := hid (HB1.out.trans hB2)
            clear hP2 hB2 HB1 z0 z1
            go_wp2_with fail
            refine hlk.out.mono ?_
            clear hlk
            intro e w3 hp
            obtain ⟨hx, hP3, hB3⟩ := hp
            subst e
            have HP3 := hid hP3
            have HB3 := hid (HB2.out.trans hB3)
            clear hP3 hB3 HB2
            go_wp2_with fail
            go_roundg (ops.length - (j + 1))
            case measure => omega
            case rel => exact ⟨j + 1, by omega, rfl, by go_num, rfl, HP3.out, HB3.out⟩
          · have y2 : (x1 == 2) = false := by simp [h2]
            have y6 : (x1 == 6) = false := by simp [h6]
            go_wp2_with fail
            refine hst.out.mono ?_
            clear hst
            intro e w2 hp
            obtain ⟨hx, hP2, hB2⟩ := hp
            subst e
            have hlk := hid (HS.out.looks _ _ hP2)
            have HB2 := hid (HB1.out.trans hB2)
            clear hP2 hB2 HB1 z0 z1
            go_wp2_with fail
            refine hlk.out.mono ?_
            clear hlk
            intro e w3 hp
            obtain ⟨hx, hP3, hB3⟩ := hp
            subst e
            have HP3 := hid hP3
            have HB3 := hid (HB2.out.trans hB3)
            clear hP3 hB3 HB2
            go_wp2_with fail
            go_roundg (ops.length - (j + 1))
            case measure => omega
            case rel => exact ⟨j + 1, by omega, rfl, by go_num, rfl, HP3.out, HB3.out⟩
      · have e : j = ops.length := by omega
        subst e
        have hag := hid (HS.out.agrees _ hP)
        have HB2 := hid hB
        clear hP hB
        go_wp2_with fail
        refine hag.out.mono ?_
        clear hag
        intro x w2 hp
        obtain ⟨hx, hb2⟩ := hp
        subst x
        have HB3 := hid (HB2.out.trans hb2)
        clear hb2
        go_wp2_with fail
        go_ret
        exact ⟨rfl, HB3.out⟩
end Go.Proofs.YtdmdpindonghdaaGreatDoor
namespace Go.Proofs.YtdmdpindonghdaaGreatDoor
open Go.RowKit
theorem LS.start {s : ByteArray} {zs : List Int} {n : Nat} {w w' : World} {q : Nat} {K : PK} {R : RK} (h : Begun s zs n w w' q K R) (he : NewErr s zs.length (n : Int) 0) :
    LS (envOf s K.fs zs n) w.heap.size w' q (startRow K.b R.b s) K R (startS (byteAt s 1) n) := by
  have hap := h.apart
  have hqa := h.qa
  have hka := h.ka
  obtain ⟨vI, hPM⟩ := h.pm
  have b1 := hPM.b1
  have b2 := hPM.b2
  have o1 := h.rm.o1
  have o9 := h.rm.o9
  have hL := LW.start h he
  have hlq := h.lq
  have o2 := h.rm.o2
  have o3 := h.rm.o3
  have o4 := h.rm.o4
  have o5 := h.rm.o5
  have o6 := h.rm.o6
  have o7 := h.rm.o7
  have o8 := h.rm.o8
  refine ⟨_, _, hL, ?_, ?_, by omega, h.below.size⟩
  · rintro k (⟨h1, _⟩ | h1)
    · omega
    · cases h1
  · rintro k (⟨h1, _⟩ | h1 | h1)
    · omega
    · cases h1
    · cases h1
/-- What holds behind j steps of a script that writes nothing full. -/
def SP (E : Env) (B q : Nat) (r : Array Value) (K : PK) (R : RK) (j : Nat) (W : World) : Prop := ∃ s, LS E B W q r K R s ∧ s.out.length ≤ j
theorem script_of (E : Env) (B q : Nat) (s : ByteArray) (K : PK) (R : RK) (ops : List (Int × Int)) (b1 : Bool) (hol : ops.length ≤ 8796093022208) (hz : E.zs.length ≤ 64) : Script B q ops b1 false (SP E B q (startRow K.b R.b s) K R) := by
  refine ⟨?_, ?_, ?_, ?_, ?_⟩
  · rintro j W ⟨t, h1, h2⟩
    exact ⟨t, h1, by omega⟩
  · rintro j W x hx hsk ⟨t, h1, h2⟩
    have hj := (List.getElem?_eq_some_iff.1 hx).1
    refine (lstep_any h1 x.1 x.2 (fun h => hsk (.inr ⟨h, rfl⟩)) hz (by omega)).mono ?_
    rintro e w' ⟨g1, g2, g3⟩
    exact ⟨g1, ⟨_, g2, by have := op_out E x.1 x.2 t; omega⟩, g3⟩
  · rintro j W ⟨t, h1, h2⟩
    have hS := h1
    obtain ⟨F, G, hL, _⟩ := h1
    refine (looks_nil q W ((cell_of_row _ q 4 _ _ _ hL.row).trans rfl) ((cell_of_row _ q 6 _ _ _ hL.row).trans rfl) ((cell_of_row _ q 8 _ _ _ hL.row).trans rfl) ((cell_of_row _ q 10 _ _ _ hL.row).trans rfl)).mono ?_
    rintro e w' ⟨g1, g2⟩
    obtain ⟨g3, g4⟩ := hS.of g2
    exact ⟨g1, ⟨t, g3, h2⟩, g4⟩
  · rintro W ⟨t, h1, h2⟩
    have hS := h1
    obtain ⟨F, G, hL, _⟩ := h1
    refine (agrees_any hL (by omega)).mono ?_
    rintro e w' ⟨g1, g2⟩
    exact ⟨g1, (hS.of g2).2⟩
  · rintro j W ⟨t, h1, h2⟩
    exact ⟨t, h1.keep (Below.refl _ W).drew, h2⟩
theorem plays_two (s : ByteArray) (vi vo : Value) (zs : List Int) (ops : List (Int × Int)) (cells : Int) (b1 : Bool) (w : World) (hs : s.size ≤ maxLen) (t1 : TakesTab w) (t2 : TypeTab w) (t3 : FlowTab w) (hv : ArgInts w vi zs) (hlen : zs.length ≤ 17592186044416) (ho : ArgOps w vo ops) (hol : ops.length ≤ 8796093022208) :
    Calls Tryz.prog 8 #[.string s, vi, .int .i64 cells, vo, .bool b1, .bool false] w fun e w' => e = .returned (.bool true) ∧ Below w.heap.size w w' := by
  refine plays_gen s vi vo zs ops cells b1 false w hs t1 t2 t3 hv hlen ho hol ?_
  intro n q K R w1 hc he hB
  subst hc
  exact ⟨SP (envOf s K.fs zs n) w.heap.size q (startRow K.b R.b s) K R, ⟨_, LS.start hB he, by simp [startS]⟩, script_of _ _ q s K R ops b1 hol (newErr_zero he).2.2⟩
set_option maxRecDepth 100000 in
theorem steps_any (s : ByteArray) (vi vo : Value) (zs : List Int) (ops : List (Int × Int)) (cells : Int) (w : World) (hs : s.size ≤ maxLen) (t1 : TakesTab w) (t2 : TypeTab w) (t3 : FlowTab w) (hv : ArgInts w vi zs) (hlen : zs.length ≤ 17592186044416) (ho : ArgOps w vo ops) (hol : ops.length ≤ 8796093022208) :
    Calls Tryz.prog 4 #[.string s, vi, .int .i64 cells, vo] w fun e w' => e = .returned (.bool true) ∧ Below w.heap.size w w' := by
  have hp := hid (plays_two s vi vo zs ops cells false w hs t1 t2 t3 hv hlen ho hol)
  obtain ⟨p0, c0, e0⟩ := hv.slice
  subst e0
  obtain ⟨po, co, eo⟩ := ho.slice
  subst eo
  clear hs t1 t2 t3 hv ho
  go_enter Tryz.func4, Tryz.ntmps4
  go_wp2_with fail
  refine hp.out.mono ?_
  clear hp
  intro x w1 hp
  obtain ⟨hx, hb⟩ := hp
  subst x
  have HB := hid hb
  clear hb
  go_wp2_with fail
  go_ret
  exact ⟨rfl, HB.out⟩
set_option maxRecDepth 100000 in
theorem collects_any (s : ByteArray) (vi vo : Value) (zs : List Int) (ops : List (Int × Int)) (cells : Int) (w : World) (hs : s.size ≤ maxLen) (t1 : TakesTab w) (t2 : TypeTab w) (t3 : FlowTab w) (hv : ArgInts w vi zs) (hlen : zs.length ≤ 17592186044416) (ho : ArgOps w vo ops) (hol : ops.length ≤ 8796093022208) :
    Calls Tryz.prog 5 #[.string s, vi, .int .i64 cells, vo] w fun e w' => e = .returned (.bool true) ∧ Below w.heap.size w w' := by
  have hp := hid (plays_two s vi vo zs ops cells true w hs t1 t2 t3 hv hlen ho hol)
  obtain ⟨p0, c0, e0⟩ := hv.slice
  subst e0
  obtain ⟨po, co, eo⟩ := ho.slice
  subst eo
  clear hs t1 t2 t3 hv ho
  go_enter Tryz.func5, Tryz.ntmps5
  go_wp2_with fail
  refine hp.out.mono ?_
  clear hp
  intro x w1 hp
  obtain ⟨hx, hb⟩ := hp
  subst x
  have HB := hid hb
  clear hb
  go_wp2_with fail
  go_ret
  exact ⟨rfl, HB.out⟩
end Go.Proofs.YtdmdpindonghdaaGreatDoor
namespace Go.Proofs.YtdmdpindonghdaaGreatDoor
open Go.ChangeShapes Go.WideShapes Go.ChangeAt Go.ChangeMaps Go.RowKit
theorem cellsOp : Tryz.prog.cellsOf 44 = 2 := by kernel_rfl
theorem bytesOp : Tryz.prog.bytesOf 44 = 16 := by kernel_rfl
/-- The number that a value holds. -/
def vint (v : Value) : Int := match v with | .int _ x => x | _ => 0
set_option maxRecDepth 100000 in
/-- A script that is handed in. -/
theorem ops_arg {H : Type} {enc : TypeId × Value → H} {W : World} {v : Value} {d : DataW H} {p : List MemPlace} {base : Nat} (hok : Value.okWide Tryz.prog W .any base 25 v) (h : DataW.Trod enc Tryz.prog W 0 (fun _ => true) true 25 v d p) (hlt : ∀ x ∈ p, x.block < W.heap.size) (hw : (d.weights Tryz.prog 25).all (· ≤ reachBytes) = true) :
    ∃ ops : List (Int × Int), ArgOps W v ops ∧ ops.length ≤ 8796093022208 := by
  obtain ⟨a0, len, cap, rfl⟩ := okWide_slice Tryz.underlying25 hok
  obtain ⟨fuel, hf⟩ := h
  rcases Go.Deep.open_slice_pairs Tryz.underlying25 Tryz.underlying44 cellsOp rfl rfl cellsInt cellsInt hf with ⟨hcs, hx⟩ | ⟨a, len', cap', m, k, V0, V1, D0, D1, P0, P1, hcs, _, hl, hm, hmm, hx, hcell⟩
  · simp [Value.cells] at hcs
    obtain ⟨rfl, rfl, rfl⟩ := hcs
    exact ⟨[], .inl ⟨rfl, rfl⟩, by simp⟩
  · simp [Value.cells] at hcs
    obtain ⟨rfl, rfl, rfl⟩ := hcs
    simp only [Prod.mk.injEq] at hx
    obtain ⟨rfl, rfl⟩ := hx
    simp only [if_true] at hmm
    subst hmm
    refine ⟨(List.range len).map fun i => (vint (V0 i), vint (V1 i)), .inr ⟨a, m, by simp, ?_, ?_⟩, ?_⟩
    · intro j x hj
      have hjl := (List.getElem?_eq_some_iff.1 hj).1
      simp only [List.length_map, List.length_range] at hjl
      simp only [List.getElem?_map, List.getElem?_range hjl, Option.map_some, Option.some.injEq] at hj
      subst hj
      obtain ⟨c0, c1, g0, g1⟩ := hcell j (by omega)
      obtain ⟨n0, e0, _⟩ := DataW.trod_int Tryz.underlying3 g0
      obtain ⟨n1, e1, _⟩ := DataW.trod_int Tryz.underlying3 g1
      simp only [List.cons.injEq, and_true] at e0 e1
      rw [c0, c1, e0, e1]
      exact ⟨rfl, rfl⟩
    · intro hp
      simp only [List.length_map, List.length_range] at hp
      exact hlt (.cell a.block (a.off + 0)) (List.mem_append.2 (.inl (MemPlace.mem_row.2 ⟨0, by omega, rfl⟩)))
    · simp only [List.length_map, List.length_range]
      have := hw
      simp only [DataW.weights, Tryz.underlying25, List.all_cons, Bool.and_eq_true, decide_eq_true_eq, bytesOp] at this
      have h2 := this.1
      simp only [List.length_map, List.length_range] at h2
      have : reachBytes = 140737488351232 := rfl
      omega
end Go.Proofs.YtdmdpindonghdaaGreatDoor
namespace Go.Proofs.YtdmdpindonghdaaGreatDoor
open Go.ChangeShapes Go.WideShapes Go.ChangeAt Go.ChangeMaps Go.RowKit
set_option maxRecDepth 100000 in
theorem collects_lifted (os : Os) (started : os.Started) (H : Type) (enc : TypeId × Value → H) :
    ReturnsInHanded {} Tryz.checked os 5 .any (fun w args => (Rows.collectsSpec.pre enc Tryz.prog Tryz.f5 Rows.collectsRow.domain false w args ∧ laidMetH Tryz.prog Rows.collectsRow.laid w) ∧ sizedMet enc Tryz.prog Tryz.f5 (OpenSpec.ofChange Rows.collectsSpec) false w args)
      (Rows.collectsSpec.post enc Tryz.prog Tryz.f5 false true false false) := by
  refine returnsInHanded_of_change_and (C := Tryz.checked) (X := fun w _ => laidMetH Tryz.prog Rows.collectsRow.laid w) (fun _ _ _ hh h => h.of_heap hh) knobs started (by kernel_rfl) Tryz.func5
    (ChangeSpec.witness_shaped (enc := enc) (C := Tryz.checked) (os := os) (X := fun w _ => laidMetH Tryz.prog Rows.collectsRow.laid w) false (World.laidAll Tryz.prog os Rows.collectsRow.laid) #[.string ⟨#[]⟩, .slice none 0 0, .int .i64 0, .slice none 0 0] 8 (World.laidAll_os _ _ _)
      (World.shaped_of_ZipB (by kernel_rfl) (by kernel_rfl)) (by kernel_rfl) (by kernel_rfl) (by kernel_rfl)
      (by rw [MakeChecks.laidMetH_plain _ _ _ (by kernel_rfl)]; exact laidMet_laidAll _ (by kernel_rfl) (by kernel_rfl))) ?_
  intro W base args ds gs before hval0 hW _ hsz hL _
  have hval : ∀ (j : Nat) t v, Tryz.f5.params[j]? = some t → args[j]? = some v → Value.okWide Tryz.prog W .any base t v := hval0
  have hW' := hW
  obtain ⟨p, q, hA0, hV, rfl, _, _⟩ := hW
  have hA : DataW.TrodAll enc Tryz.prog W 0 (fun _ => true) true Tryz.f5.params.toList args.toList ds p := hA0
  obtain ⟨rfl, rfl⟩ := trodVars_none hV
  have hlt : ∀ x ∈ p, x.block < W.heap.size := fun x hx => by
    have := hW'.lt x (by simpa using hx)
    exact this
  rw [Tryz.params5] at hA hval hsz
  obtain ⟨v0, v1, v2, v3, d0, d1, d2, d3, p0, p1, p2, p3, rfl, rfl, rfl, h0, h1, h2, h3⟩ := trodAll_four hA
  obtain ⟨s, rfl, rfl, rfl, hs⟩ := open_string Tryz.underlying9 (hval 0 9 v0 rfl rfl) h0
  obtain ⟨n, rfl, rfl, rfl, hn⟩ := open_int Tryz.underlying3 (hval 2 3 v2 rfl rfl) h2
  have hw1 : (d1.weights Tryz.prog 22).all (· ≤ reachBytes) = true := by
    have := hsz
    simp only [List.append_nil, List.cons_append, List.nil_append, DataW.weightsEach, List.all_append, Bool.and_eq_true] at this
    exact this.2.1
  have hw3 : (d3.weights Tryz.prog 25).all (· ≤ reachBytes) = true := by
    have := hsz
    simp only [List.append_nil, List.cons_append, List.nil_append, DataW.weightsEach, List.all_append, Bool.and_eq_true] at this
    exact this.2.2.2.1
  have hlt1 : ∀ x ∈ p1, x.block < W.heap.size := fun x hx => hlt x (by simp [hx])
  have hlt3 : ∀ x ∈ p3, x.block < W.heap.size := fun x hx => hlt x (by simp [hx])
  obtain ⟨ops, ho, hol⟩ := ops_arg (hval 3 25 v3 rfl rfl) h3 hlt3 hw3
  obtain ⟨zs, hz, hzl⟩ := ints_arg (hval 1 22 v1 rfl rfl) h1 hlt1 hw1
  obtain ⟨t1, t2, t3⟩ := tabs_of_laid hL
  refine (collects_any s v1 v3 zs ops n W hs t2 t3 t1 hz hzl ho hol).mono fun e W' ⟨he, hb⟩ => ?_
  subst he
  have hr1 : DataW.Trod enc Tryz.prog W' 0 (fun b => decide (b < W.heap.size)) true 22 v1 d1 p1 := Below.trod laidOutP (by kernel_rfl) (of_decide_eq_true (by kernel_rfl)) h1 hb hlt1
  have hr3 : DataW.Trod enc Tryz.prog W' 0 (fun b => decide (b < W.heap.size)) true 25 v3 d3 p3 := Below.trod laidOutP (by kernel_rfl) (of_decide_eq_true (by kernel_rfl)) h3 hb hlt3
  exact ⟨_, rfl, _, _, _, [], _, [], hW', trodAll_mk1 (shut_bool Tryz.underlying4 _), trodAll_mk4 (shut_string Tryz.underlying9 hs) hr1 (shut_int Tryz.underlying3 hn) hr3, rfl, hb.frame _, fun h => by cases h⟩
theorem collects_holds : Rows.CollectsSaid :=
  OpenClaim.holds_of_wide 5 Tryz.f5 rfl rfl rfl rfl rfl rfl rfl ⟨rfl, rfl, rfl, rfl, rfl⟩ rfl rfl rfl rfl rfl (by kernel_rfl) Tryz.func5 (by kernel_rfl)
    (of_decide_eq_true (by kernel_rfl)) (by unfold Func.isWrapper; first | (rw [if_pos (by decide +kernel)]; kernel_rfl) | (rw [if_neg (by decide +kernel)]; exact ⟨rfl, rfl⟩))
    (fun os started H enc _ => collects_lifted os started H enc)
theorem collects_card_holds : Rows.CollectsCardSaid :=
  Claim7.holds_tied_plain_at .later [] [.data, .data, .data, .data, .data] true Rows.collectsCard.stood.harness false
    collects_holds (fun _ h => by cases h) (by kernel_rfl) (fun _ h => by cases h) collects_row_tie rfl ⟨rfl, rfl⟩ (by kernel_rfl) rfl
    (fun f fn hf hfn => by
      obtain rfl : f = 5 := Option.some.inj ((show Tryz.prog.funcNamed "tint/tintlaw.Collects" = some 5 by kernel_rfl).symm.trans hf) |>.symm
      obtain rfl : fn = Tryz.f5 := (Option.some.inj (Tryz.func5.symm.trans hfn)).symm
      exact ⟨by kernel_rfl, fun j t ht => by
        rw [Tryz.params5] at ht
        have hm : t ∈ [9, 22, 3, 25] := by simpa using Array.mem_of_getElem? ht
        have hall : ([9, 22, 3, 25].all fun u => !Tryz.prog.wantsStandIn u) = true := by kernel_rfl
        exact (show Tryz.prog.wantsStandIn t = false by simpa using List.all_eq_true.1 hall t hm)⟩)
    (by kernel_rfl)
#print axioms collects_card_holds
end Go.Proofs.YtdmdpindonghdaaGreatDoor
