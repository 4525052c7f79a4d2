/- tintlaw.Runs is true of every image, every list of inputs, every number of cells, every list of units and every number of steps: the program's Run answers what the document's answer (tintref) is, once and again, and leaves what was handed in as it was; conditions: the five listed variables hold what the program's text lays in them. -/
import Derived.Test.YtdmdpindonghdaaGreatDoorRows
import Derived.Test.YtdmdpindonghdaaGreatDoorTie
import Derived.Test.YtdmdpindonghdaaGreatDoorCards
import Derived.Test.YtdmdpindonghdaaGreatDoorOwn9
import Derived.WalkKit
import Derived.WalkSmall
import Derived.Deep.AppendLies
import Derived.Deep.DeepMust
import Derived.Deep.LoopGhost
import Derived.WalkSpells
import Derived.WalkLawsBesides
import Derived.BigRegion
import Derived.Deep.QuietTactic
import Derived.BigQuiet
import Derived.Deep.RegionHeld3
import Derived.OwnWalk
import Derived.Laws.StructEq
import Derived.Deep.RegionLaw
import Derived.Deep.DeepCutAuto
import Derived.Laws.MakeOwn
import Derived.Laws.IdiomCopy
import Derived.ProofKit
import Derived.OpenShut
import Derived.Lay
import Derived.SevenTiedAt
import Derived.Stop.Joined
import Derived.Carry
namespace Go.Proofs.YtdmdpindonghdaaGreatDoor
open Go.RowKit
theorem Touch.sub {F : Nat → Prop} {w w' : World} {B : Nat} (h : Touch F w w') (hF : ∀ k, F k → B ≤ k) (hB : B ≤ w.heap.size) : Below B w w' :=
  ⟨h.os, h.tape, h.output, h.size, fun k hk => h.block k (by omega) (fun hf => by have := hF k hf; omega)⟩
/-- The program's machine lies above B. -/
def PR (B : Nat) (W : World) (K : PK) (s : MS) : Prop := ∃ F, PX W K F s ∧ (∀ k, F k → B ≤ k) ∧ B ≤ W.heap.size
theorem PR.keep {B : Nat} {w w' : World} {K : PK} {s : MS} (h : PR B w K s) (hb : Below w.heap.size w w') : PR B w' K s := by
  obtain ⟨F, h1, h2, h3⟩ := h
  exact ⟨F, h1.below hb, h2, Nat.le_trans h3 hb.size⟩
theorem PR.size {B : Nat} {w : World} {K : PK} {s : MS} (h : PR B w K s) : B ≤ w.heap.size := by
  obtain ⟨F, h1, h2, h3⟩ := h
  exact h3
theorem PR.oc {B : Nat} {w : World} {K : PK} {s : MS} (h : PR B w K s) : w.cell? ⟨K.b, 5, none⟩ = some (.int .i64 s.oc) := by
  obtain ⟨F, ⟨vI, vO, lo4, st8, hm, _⟩, _⟩ := h
  have m5 := hm.get 5
  simpa [PK.row] using m5
theorem PR.next {B : Nat} {w w' : World} {K : PK} {F : Nat → Prop} {t : MS} (hF : ∀ k, F k → B ≤ k) (hB : B ≤ w.heap.size) (hp : PX w' K (Grown F w w') t) (ht : Touch F w w') : PR B w' K t ∧ Below B w w' := by
  refine ⟨⟨_, hp, ?_, Nat.le_trans hB ht.size⟩, ht.sub hF hB⟩
  rintro k (h | h)
  · exact hF k h
  · omega
theorem pr_step {B : Nat} {w : World} {K : PK} {E : Env} {s : MS} (h : PR B w K s) (hke : KE K E) (he : EnvOk E) (hi : MInv E s) (hoc : s.oc = 0) (hz : E.zs.length ≤ 64) (hlen : s.out.length ≤ 8796093022208) :
    Calls Tryz.prog 34 #[.pointer (some ⟨K.b, 0, none⟩)] w fun e w' => e = .returned (.tuple #[.int .i64 (stepS E s).oc, .int .i64 0]) ∧ PR B w' K (stepS E s) ∧ Below B w w' := by
  obtain ⟨F, h1, h2, h3⟩ := h
  refine (pstep_x h1 hke he hi hoc hz hlen).mono ?_
  rintro e w' ⟨a, b, c⟩
  exact ⟨a, PR.next h2 h3 b c⟩
theorem pr_coll {B : Nat} {w : World} {K : PK} {E : Env} {s : MS} (h : PR B w K s) (hke : KE K E) (he : EnvOk E) (hi : MInv E s) (n : Nat) (hn : n ≤ 1000) :
    Calls Tryz.prog 35 #[.pointer (some ⟨K.b, 0, none⟩), .int .i64 n] w fun e w' => e = .returned (.tuple #[.int .i64 (collS E n s).hs.2.1, .int .i64 0]) ∧ PR B w' K (collS E n s) ∧ Below B w w' := by
  obtain ⟨F, h1, h2, h3⟩ := h
  refine (pcollect_x h1 hke he hi n hn).mono ?_
  rintro e w' ⟨a, b, c⟩
  exact ⟨a, PR.next h2 h3 (b.mono (fun _ h => .inl h)) c⟩
/-- The units ahead of step k. -/
def preS (E : Env) (us : List Int) (k : Nat) (s : MS) : MS := if us.length = 0 then s else collS E (us.getD (k % us.length) 0).toNat s
/-- At most f steps more, k are done. -/
def runS (E : Env) (us : List Int) : Nat → Nat → MS → Nat × MS
  | 0, k, s => (k, s)
  | f + 1, k, s => if s.oc = 0 then runS E us f (k + 1) (stepS E (preS E us k s)) else (k, s)
theorem MInv.pre {E : Env} {us : List Int} {k : Nat} {s : MS} (h : MInv E s) : MInv E (preS E us k s) := by
  unfold preS
  split
  · exact h
  · exact h.coll _
theorem pre_oc (E : Env) (us : List Int) (k : Nat) (s : MS) : (preS E us k s).oc = s.oc ∧ (preS E us k s).out = s.out := by
  unfold preS
  split <;> exact ⟨rfl, rfl⟩
theorem out_le {P : Prop} [Decidable P] {a b : List Int} {n : Nat} (h1 : a.length ≤ n) (h2 : b.length ≤ n) : (if P then a else b).length ≤ n := by split <;> assumption
theorem doesS_out (E : Env) (i : Ins) (cell : Int) (s : MS) : (doesS E i cell s).out.length ≤ s.out.length + 1 := by
  have h0 : s.out.length ≤ s.out.length + 1 := by omega
  unfold doesS touchS
  simp only [apply_ite MS.out, ite_self]
  exact out_le h0 (out_le h0 (out_le h0 (out_le h0 (out_le h0 (out_le h0 (out_le h0 (out_le h0 (out_le h0 (out_le (by simp) h0)))))))))
theorem stepS_out (E : Env) (s : MS) : (stepS E s).out.length ≤ s.out.length + 1 := by
  have h0 : s.out.length ≤ s.out.length + 1 := by omega
  unfold stepS
  split
  · exact h0
  · unfold stepI goS
    simp only [apply_ite MS.out]
    exact out_le h0 (out_le h0 (out_le (out_le h0 (doesS_out _ _ _ _)) (doesS_out _ _ _ _)))
/-- Numbers in memory that lie below B. -/
def ArgB (B : Nat) (w : World) (v : Value) (zs : List Int) : Prop := ArgInts w v zs ∧ ∀ a n c, v = .slice (some a) n c → 0 < n → a.block < B
theorem ArgB.keep {B : Nat} {w w' : World} {v : Value} {zs : List Int} (h : ArgB B w v zs) (hb : Below B w w') : ArgB B w' v zs := by
  refine ⟨?_, h.2⟩
  rcases h.1 with h1 | ⟨a, cap, hv, hc, hl⟩
  · exact .inl h1
  · refine .inr ⟨a, cap, hv, fun j x hj => ?_, fun hp => Nat.lt_of_lt_of_le (hl hp) hb.size⟩
    have hz : 0 < zs.length := by have := (List.getElem?_eq_some_iff.1 hj).1; omega
    refine (hb.cell (p := a.add j) ?_).trans (hc j x hj)
    have := h.2 a _ _ hv hz
    unfold Addr.add
    split <;> exact this
theorem any_take_all (f : Int → Bool) (l : List Int) (k : Nat) (h : k < l.length) : (l.take (k + 1)).all f = ((l.take k).all f && f l[k]) := by
  rw [List.take_succ_eq_append_getElem h, List.all_append]
  simp
def fitsB (u : Int) : Bool := decide (0 ≤ u) && decide (u ≤ 1000)
set_option maxRecDepth 100000 in
set_option maxHeartbeats 1000000 in
theorem allFit_any (vu : Value) (us : List Int) (w : World) (hu : ArgInts w vu us) (hl : us.length ≤ 17592186044416) :
    Calls Tryz.prog 23 #[vu] w fun e w' => e = .returned (.bool (us.all fitsB)) ∧ w' = w := by
  have HU := hid hu
  obtain ⟨p0, c0, e0⟩ := hu.slice
  subst e0
  clear hu
  obtain ⟨bb, hbb⟩ : ∃ bb, bb = us.all fitsB := ⟨_, rfl⟩
  rw [← hbb]
  have HBB := hid hbb
  clear hbb
  go_enter Tryz.func23, Tryz.ntmps23
  go_wp2_with fail
  go_loopg [7] us.length (fun gk x w' => ∃ k : Nat, k ≤ us.length ∧ gk = us.length - k ∧ x = .int .i64 k ∧ (us.take k).all fitsB = true ∧ w = w')
  case atStart => exact ⟨0, by omega, by omega, rfl, by simp, rfl⟩
  case round =>
    obtain ⟨k, hk, hgk, rfl, hall, hw⟩ := hrel
    subst hw
    have HALL := hid hall
    clear hall
    rcases Nat.lt_or_ge k us.length with hlt | hge
    · have d0 : (0 : Int) ≤ (k : Int) := by omega
      have d1 : (k : Int) < (us.length : Int) := by omega
      have d2 : (k : Int) + 1 ≤ 17592186044416 := by omega
      rcases HU.out with ⟨_, h0⟩ | ⟨a, cap, hv, hcell, hbl⟩
      · rw [h0] at hlt; simp at hlt
      cases hv
      have y0 := hcell k us[k] (List.getElem?_eq_getElem hlt)
      have hf := hid (unitsFit_any us[k] w)
      have HN := hid (any_take_all fitsB us k hlt)
      have HB := hid (show us.all fitsB = true → fitsB us[k] = true from fun h => List.all_eq_true.1 h _ (List.getElem_mem hlt))
      obtain ⟨fb, hfb⟩ : ∃ fb, fb = (decide (0 ≤ us[k]) && decide (us[k] ≤ 1000)) := ⟨_, rfl⟩
      have HFB := hid (show fb = fitsB us[k] from hfb)
      rw [← hfb] at hf
      clear hfb hcell hbl
      generalize us[k] = u at *
      cases fb
      · go_wp2_with fail
        refine hf.out.mono ?_
        clear hf
        intro e w1 hp
        obtain ⟨hx, hw1⟩ := hp
        subst e
        subst hw1
        go_wp2_with fail
        go_ret
        refine ⟨?_, rfl⟩
        have : us.all fitsB = false := by
          cases hq : us.all fitsB with
          | false => rfl
          | true => have h1 := HB.out hq; have h2 := HFB.out; rw [h1] at h2; cases h2
        rw [HBB.out, this]
        rfl
      · go_wp2_with fail
        refine hf.out.mono ?_
        clear hf
        intro e w1 hp
        obtain ⟨hx, hw1⟩ := hp
        subst e
        subst hw1
        go_wp2_with fail
        go_roundg (us.length - (k + 1))
        case measure => omega
        case rel => exact ⟨k + 1, by omega, rfl, by go_num, by rw [HN.out, HALL.out, ← HFB.out]; rfl, rfl⟩
    · have d1 : ¬ (k : Int) < (us.length : Int) := by omega
      go_wp2_with fail
      go_ret
      refine ⟨?_, rfl⟩
      have : us.all fitsB = true := by
        have h := HALL.out
        rw [List.take_of_length_le (by omega)] at h
        exact h
      rw [HBB.out, this]
      rfl
set_option maxRecDepth 100000 in
set_option maxHeartbeats 1000000 in
theorem prun_nil {B : Nat} {K : PK} {E : Env} {s : MS} (vu : Value) (most : Nat) (w : World) (h : PR B w K s) (hke : KE K E) (he : EnvOk E) (hi : MInv E s) (hz : E.zs.length ≤ 64) (hlen : s.out.length = 0) (hu : ArgB B w vu []) (hm : most ≤ 2000) :
    Calls Tryz.prog 24 #[.pointer (some ⟨K.b, 0, none⟩), vu, .int .i64 most] w fun e w' => e = .returned (.int .i64 (runS E [] most 0 s).1) ∧ PR B w' K (runS E [] most 0 s).2 ∧ Below B w w' := by
  obtain ⟨p0, c0, e0⟩ := hu.1.slice
  subst e0
  simp only [List.length_nil]
  clear hu
  have HH := hid h
  have HI := hid hi
  clear h hi
  go_enter Tryz.func24, Tryz.ntmps24
  go_wp2_with fail
  go_loopg [7] most (fun gk x w' => ∃ (k : Nat) (t : MS), k ≤ most ∧ gk = most - k ∧ x = .int .i64 k ∧ PR B w' K t ∧ MInv E t ∧ t.out.length ≤ k ∧ Below B w w' ∧ runS E [] (most - k) k t = runS E [] most 0 s)
  case atStart => exact ⟨0, s, by omega, by omega, rfl, HH.out, HI.out, by omega, Below.refl _ _, rfl⟩
  case round =>
    obtain ⟨k, t, hk, hgk, rfl, hP, hI, ho, hB, hR⟩ := hrel
    have hoc := hP.oc
    have HP := hid hP
    have HI2 := hid hI
    have HB := hid hB
    have HR := hid hR
    clear hP hI hB hR HH HI
    rcases Nat.lt_or_ge k most with hlt | hge
    · have d1 : (k : Int) < (most : Int) := by omega
      by_cases h0 : t.oc = 0
      · rw [h0] at hoc
        have HR2 : Hid (runS E [] (most - (k + 1)) (k + 1) (stepS E (preS E [] k t)) = runS E [] most 0 s) := hid (by
          have := HR.out
          rw [show most - k = (most - (k + 1)) + 1 by omega] at this
          simp only [runS, if_pos h0] at this
          exact this)
        clear HR
        have hst := hid (fun (W : World) (hW : PR B W K (preS E [] k t)) => pr_step hW hke he HI2.out.pre ((pre_oc E [] k t).1.trans h0) hz (by rw [(pre_oc E [] k t).2]; omega))
        have hout : Hid ((stepS E (preS E [] k t)).out.length ≤ k + 1) := hid (by
          have := stepS_out E (preS E [] k t)
          rw [(pre_oc E [] k t).2] at this
          omega)
        have HI3 : Hid (MInv E (stepS E (preS E [] k t))) := hid (HI2.out.pre.step he)
        have HPr : Hid (preS E [] k t = t) := hid rfl
        have hs1 := hid (hst.out wr (by rw [HPr.out]; exact HP.out))
        clear hst HP HI2
        go_wp2_with fail
        refine hs1.out.mono ?_
        clear hs1
        intro e w2 hp
        obtain ⟨hx, hP2, hB2⟩ := hp
        subst e
        have HP2 := hid hP2
        have HB3 := hid (HB.out.trans hB2)
        clear hP2 hB2
        go_wp2_with fail
        go_roundg (most - (k + 1))
        case measure => omega
        case rel => exact ⟨k + 1, _, by omega, rfl, by go_num, HP2.out, HI3.out, hout.out, HB3.out, HR2.out⟩
      · have q0 : ((t.oc : Int) == 0) = false := by simp; omega
        go_wp2_with fail
        go_ret
        have hr := HR.out
        rw [show most - k = (most - (k + 1)) + 1 by omega] at hr
        simp only [runS, if_neg h0] at hr
        rw [← hr]
        exact ⟨rfl, HP.out, HB.out⟩
    · have d1 : ¬ (k : Int) < (most : Int) := by omega
      go_wp2_with fail
      go_ret
      have hr := HR.out
      rw [show most - k = 0 by omega] at hr
      simp only [runS] at hr
      rw [← hr]
      exact ⟨rfl, HP.out, HB.out⟩
set_option maxRecDepth 100000 in
set_option maxHeartbeats 1000000 in
theorem prun_some {B : Nat} {K : PK} {E : Env} {s : MS} (vu : Value) (us : List Int) (most : Nat) (w : World) (h : PR B w K s) (hke : KE K E) (he : EnvOk E) (hi : MInv E s) (hz : E.zs.length ≤ 64) (hlen : s.out.length = 0) (hu : ArgB B w vu us) (hl : us.length ≤ 17592186044416) (hf : us.all fitsB = true) (hu0 : 0 < us.length) (hm : most ≤ 2000) :
    Calls Tryz.prog 24 #[.pointer (some ⟨K.b, 0, none⟩), vu, .int .i64 most] w fun e w' => e = .returned (.int .i64 (runS E us most 0 s).1) ∧ PR B w' K (runS E us most 0 s).2 ∧ Below B w w' := by
  obtain ⟨p0, c0, e0⟩ := hu.1.slice
  subst e0
  have HU := hid hu
  have HF := hid hf
  clear hu hf
  have HH := hid h
  have HI := hid hi
  clear h hi
  go_enter Tryz.func24, Tryz.ntmps24
  go_wp2_with fail
  go_loopg [7] most (fun gk x w' => ∃ (k : Nat) (t : MS), k ≤ most ∧ gk = most - k ∧ x = .int .i64 k ∧ PR B w' K t ∧ MInv E t ∧ t.out.length ≤ k ∧ Below B w w' ∧ runS E us (most - k) k t = runS E us most 0 s)
  case atStart => exact ⟨0, s, by omega, by omega, rfl, HH.out, HI.out, by omega, Below.refl _ _, rfl⟩
  case round =>
    obtain ⟨k, t, hk, hgk, rfl, hP, hI, ho, hB, hR⟩ := hrel
    have hoc := hP.oc
    have HP := hid hP
    have HI2 := hid hI
    have HB := hid hB
    have HR := hid hR
    clear hP hI hB hR HH HI
    rcases Nat.lt_or_ge k most with hlt | hge
    · have d1 : (k : Int) < (most : Int) := by omega
      by_cases h0 : t.oc = 0
      · rw [h0] at hoc
        have HR2 : Hid (runS E us (most - (k + 1)) (k + 1) (stepS E (preS E us k t)) = runS E us most 0 s) := hid (by
          have := HR.out
          rw [show most - k = (most - (k + 1)) + 1 by omega] at this
          simp only [runS, if_pos h0] at this
          exact this)
        clear HR
        have hst := hid (fun (W : World) (hW : PR B W K (preS E us k t)) => pr_step hW hke he HI2.out.pre ((pre_oc E us k t).1.trans h0) hz (by rw [(pre_oc E us k t).2]; omega))
        have hout : Hid ((stepS E (preS E us k t)).out.length ≤ k + 1) := hid (by
          have := stepS_out E (preS E us k t)
          rw [(pre_oc E us k t).2] at this
          omega)
        have HI3 : Hid (MInv E (stepS E (preS E us k t))) := hid (HI2.out.pre.step he)
        obtain ⟨m, hm0⟩ : ∃ m, m = k % us.length := ⟨_, rfl⟩
        have hml : m < us.length := by rw [hm0]; exact Nat.mod_lt _ hu0
        have hmod : (k : Int) % (us.length : Int) = (m : Int) := by rw [hm0]; rfl
        have d3 : (0 : Int) ≤ (m : Int) := by omega
        have d4 : (m : Int) < (us.length : Int) := by omega
        have q0 : (0 : Int) < (us.length : Int) := by omega
        have hub := HU.out.keep HB.out
        rcases hub.1 with ⟨_, hn⟩ | ⟨a, cap, hv, hcell, _⟩
        · rw [hn] at hu0; simp at hu0
        cases hv
        have y0 := hcell m us[m] (List.getElem?_eq_getElem hml)
        have hfit := List.all_eq_true.1 HF.out us[m] (List.getElem_mem hml)
        unfold fitsB at hfit
        simp only [Bool.and_eq_true, decide_eq_true_eq] at hfit
        obtain ⟨u, hu⟩ : ∃ u : Nat, us[m] = (u : Int) := ⟨us[m].toNat, by omega⟩
        rw [hu] at y0 hfit
        have HPr : Hid (preS E us k t = collS E u t) := hid (by
          unfold preS
          rw [if_neg (by omega), ← hm0, List.getD_eq_getElem?_getD, List.getElem?_eq_getElem hml]
          simp [hu])
        have hcl := hid (pr_coll HP.out hke he HI2.out u (by omega))
        clear hcell hub hu hfit hm0 HP HI2
        go_wp2_with fail
        refine hcl.out.mono ?_
        clear hcl
        intro e w1 hp
        obtain ⟨hx, hP1, hB1⟩ := hp
        subst e
        have hs1 := hid (hst.out w1 (by rw [HPr.out]; exact hP1))
        have HB2 := hid (HB.out.trans hB1)
        clear hst hP1 hB1 HB hoc y0
        go_wp2_with fail
        refine hs1.out.mono ?_
        clear hs1
        intro e w2 hp
        obtain ⟨hx, hP2, hB2⟩ := hp
        subst e
        have HP2 := hid hP2
        have HB3 := hid (HB2.out.trans hB2)
        clear hP2 hB2
        go_wp2_with fail
        go_roundg (most - (k + 1))
        case measure => omega
        case rel => exact ⟨k + 1, _, by omega, rfl, by go_num, HP2.out, HI3.out, hout.out, HB3.out, HR2.out⟩
      · have q0 : ((t.oc : Int) == 0) = false := by simp; omega
        go_wp2_with fail
        go_ret
        have hr := HR.out
        rw [show most - k = (most - (k + 1)) + 1 by omega] at hr
        simp only [runS, if_neg h0] at hr
        rw [← hr]
        exact ⟨rfl, HP.out, HB.out⟩
    · have d1 : ¬ (k : Int) < (most : Int) := by omega
      go_wp2_with fail
      go_ret
      have hr := HR.out
      rw [show most - k = 0 by omega] at hr
      simp only [runS] at hr
      rw [← hr]
      exact ⟨rfl, HP.out, HB.out⟩
end Go.Proofs.YtdmdpindonghdaaGreatDoor
namespace Go.Proofs.YtdmdpindonghdaaGreatDoor
open Go.RowKit
/-- What a new machine of the program's is. -/
theorem PNew.pr {s : ByteArray} {zs : List Int} {n : Nat} {w w' : World} {K : PK} (h : PNew s zs n w w' K) (h1 : 1 ≤ n) (h2 : n ≤ 32) :
    PR w.heap.size w' K (startS (byteAt s 1) n) ∧ KE K (envOf s K.fs zs n) ∧ EnvOk (envOf s K.fs zs n) ∧ MInv (envOf s K.fs zs n) (startS (byteAt s 1) n) := by
  have hok : EnvOk (envOf s K.fs zs n) := env_ok h.err h.wt h.inv h.still h1 h2
  obtain ⟨vI, hm⟩ := h.m
  have hA := h.A
  refine ⟨⟨K.In (.slice none 0 0), ⟨vI, _, _, _, hm, fun _ h => h⟩, ?_, h.below.size⟩, ⟨h.l, h.L, h.z, ?_⟩, hok, start_inv_m hok⟩
  · rintro k (⟨h1, _⟩ | h1)
    · omega
    · cases h1
  · rw [h.l, h.L]; rfl
def endV (oc va k : Int) (v : Value) : Value := .agg #[.int .i64 oc, .int .i64 va, .int .i64 k, v]
/-- The error of Run. -/
def RunErr (s : ByteArray) (nz : Nat) (cells : Int) (us : List Int) (steps : Int) (r : Nat) : Prop :=
  (r ≠ 0 ∧ NewErr s nz cells r) ∨ (NewErr s nz cells 0 ∧ (us.all fitsB = false ∨ steps < 0 ∨ 2000 < steps) ∧ r = 8) ∨ (NewErr s nz cells 0 ∧ us.all fitsB = true ∧ 0 ≤ steps ∧ steps ≤ 2000 ∧ r = 0)
def RunBad (r : Nat) (w : World) (e : Ending) (w' : World) : Prop := e = .returned (.tuple #[endV 0 0 0 (.slice none 0 0), .int .i64 r]) ∧ Below w.heap.size w w'
def RunOk (s : ByteArray) (zs : List Int) (n : Nat) (us : List Int) (q : Nat) (w : World) (e : Ending) (w' : World) : Prop :=
  Below w.heap.size w w' ∧ ∃ fs v, errOf s = 0 ∧ WT (codeOf s) (byteAt s 1) ∧ SetInv (codeOf s) (byteAt s 1) fs ∧ Still (codeOf s) fs ∧
    e = .returned (.tuple #[endV (runS (envOf s fs zs n) us q 0 (startS (byteAt s 1) n)).2.oc (runS (envOf s fs zs n) us q 0 (startS (byteAt s 1) n)).2.va (runS (envOf s fs zs n) us q 0 (startS (byteAt s 1) n)).1 v, .int .i64 0]) ∧
    w'.ownsRow w.heap.size 3 1 v (runS (envOf s fs zs n) us q 0 (startS (byteAt s 1) n)).2.out.length ((runS (envOf s fs zs n) us q 0 (startS (byteAt s 1) n)).2.out.map (.int .i64))
theorem newErr_range {s : ByteArray} {n : Nat} {cells : Int} (h : NewErr s n cells 0) : 1 ≤ cells ∧ cells ≤ 32 ∧ n ≤ 64 := by
  rcases h with ⟨h, _⟩ | ⟨_, _, h⟩ | ⟨_, _, _, _, h⟩ | ⟨_, h2, h3, h4, _⟩
  · exact absurd rfl h
  · cases h
  · cases h
  · exact ⟨h2, h3, h4⟩
theorem run_out (E : Env) (us : List Int) : ∀ (f k : Nat) (s : MS), s.out.length ≤ k → (runS E us f k s).2.out.length ≤ k + f
  | 0, k, s, h => by simp only [runS]; omega
  | f + 1, k, s, h => by
    simp only [runS]
    split
    · have h1 := stepS_out E (preS E us k s)
      rw [(pre_oc E us k s).2] at h1
      have := run_out E us f (k + 1) (stepS E (preS E us k s)) (by omega)
      omega
    · simp only; omega
theorem PR.va {B : Nat} {w : World} {K : PK} {s : MS} (h : PR B w K s) : w.cell? ⟨K.b, 6, none⟩ = some (.int .i64 s.va) := by
  obtain ⟨F, ⟨vI, vO, lo4, st8, hm, _⟩, _⟩ := h
  have m6 := hm.get 6
  simpa [PK.row] using m6
theorem pr_output {B : Nat} {w : World} {K : PK} {s : MS} (h : PR B w K s) (hn : s.out.length ≤ 8796093022208) :
    Calls Tryz.prog 25 #[.pointer (some ⟨K.b, 0, none⟩)] w (CopyPost s.out w) := by
  obtain ⟨F, ⟨vI, vO, lo4, st8, hm, _⟩, _⟩ := h
  exact poutput_any hm hn
theorem ArgInts.keep {w w' : World} {v : Value} {zs : List Int} (h : ArgInts w v zs) (hb : Below w.heap.size w w') : ArgInts w' v zs := by
  rcases h with h1 | ⟨a, cap, hv, hc, hl⟩
  · exact .inl h1
  · refine .inr ⟨a, cap, hv, fun j x hj => ?_, fun hp => Nat.lt_of_lt_of_le (hl hp) hb.size⟩
    have hz : 0 < zs.length := by have := (List.getElem?_eq_some_iff.1 hj).1; omega
    refine (hb.cell (p := a.add j) ?_).trans (hc j x hj)
    have := hl hz
    unfold Addr.add
    split <;> exact this
theorem endRow {w : World} {b : Nat} {x0 x1 x2 x3 : Value} {t : TypeId} (h : w.heap[b]? = some (.cells #[x0, x1, x2, x3] t)) (v0 v1 v2 v3 : Value) :
    ((((w.setCell ⟨b, 0, none⟩ v0).setCell ⟨b, 1, none⟩ v1).setCell ⟨b, 2, none⟩ v2).setCell ⟨b, 3, none⟩ v3).heap[b]? = some (.cells #[v0, v1, v2, v3] t) ∧
    Only b w ((((w.setCell ⟨b, 0, none⟩ v0).setCell ⟨b, 1, none⟩ v1).setCell ⟨b, 2, none⟩ v2).setCell ⟨b, 3, none⟩ v3) := by
  have h0 := setCell_row 0 v0 h
  have h1 := setCell_row 1 v1 h0
  have h2 := setCell_row 2 v2 h1
  have h3 := setCell_row 3 v3 h2
  refine ⟨?_, ((((Only.refl _ _).set _ _).set _ _).set _ _).set _ _⟩
  rw [h3]
  simp
def endBox (w : World) : World := w.alloc (.cells #[.int .i64 0, .int .i64 0, .int .i64 0, .slice none 0 0] 32)
set_option maxRecDepth 100000 in
set_option maxHeartbeats 1000000 in
theorem pRun_bad (s : ByteArray) (vi vu : Value) (zs us : List Int) (cells steps : Int) (w : World) (hs : s.size ≤ maxLen) (ht : FlowTab w) (hv : ArgInts w vi zs) (hu : ArgInts w vu us) (r : Nat) (hr : r ≠ 0) (he : NewErr s zs.length cells r) :
    Calls Tryz.prog 11 #[.string s, vi, .int .i64 cells, vu, .int .i64 steps] w (RunBad r w) := by
  have hb0 : Below w.heap.size w (endBox w) := (Below.refl _ _).alloc (Nat.le_refl _) _
  have hn := hid (pnew_bad s vi zs cells (endBox w) hs (ht.below hb0) (hv.zs hb0) r hr he)
  have HB0 := hid hb0
  obtain ⟨p0, c0, e0⟩ := hv.slice
  subst e0
  obtain ⟨p1, c1, e1⟩ := hu.slice
  subst e1
  have q0 : ((r : Int) != 0) = true := by simp; omega
  have hbx := heap_alloc_new w (.cells #[.int .i64 0, .int .i64 0, .int .i64 0, .slice none 0 0] 32)
  unfold endBox at *
  have HBX := hid hbx
  clear hs ht hv hu he hr hb0 hbx
  go_enter Tryz.func11, Tryz.ntmps11
  go_wp2_with fail
  refine hn.out.mono ?_
  clear hn
  intro e w1 hp
  obtain ⟨hx, hb⟩ := hp
  subst e
  have hrow := (hb.block w.heap.size (by simp)).trans HBX.out
  have HB := hid (HB0.out.trans (hb.mono HB0.out.size))
  have k0 := cell_of_row w1 w.heap.size 0 _ _ _ hrow
  have k1 := cell_of_row w1 w.heap.size 1 _ _ _ hrow
  have k2 := cell_of_row w1 w.heap.size 2 _ _ _ hrow
  have k3 := cell_of_row w1 w.heap.size 3 _ _ _ hrow
  have f0 := frozen_of_row w1 w.heap.size 0 _ _ hrow
  have f1 := frozen_of_row w1 w.heap.size 1 _ _ hrow
  have f2 := frozen_of_row w1 w.heap.size 2 _ _ hrow
  have f3 := frozen_of_row w1 w.heap.size 3 _ _ hrow
  simp only [List.getElem?_toArray, List.getElem?_cons_zero, List.getElem?_cons_succ] at k0 k1 k2 k3
  have hz : w.heap.size < w1.heap.size := (Array.getElem?_eq_some_iff.1 hrow).1
  have HR := hid hrow
  clear hb HBX HB0 hrow
  go_wp2_with fail
  clear k0 k1 k2 k3 f0 f1 f2 f3
  obtain ⟨hr4, ho4⟩ := endRow HR.out (.int .i64 0) (.int .i64 0) (.int .i64 0) (.slice none 0 0)
  generalize ((((w1.setCell ⟨w.heap.size, 0, none⟩ (.int .i64 0)).setCell ⟨w.heap.size, 1, none⟩ (.int .i64 0)).setCell ⟨w.heap.size, 2, none⟩ (.int .i64 0)).setCell ⟨w.heap.size, 3, none⟩ (.slice none 0 0)) = WF at *
  have z0 := cell_of_row WF w.heap.size 0 _ _ _ hr4
  have z1 := cell_of_row WF w.heap.size 1 _ _ _ hr4
  have z2 := cell_of_row WF w.heap.size 2 _ _ _ hr4
  have z3 := cell_of_row WF w.heap.size 3 _ _ _ hr4
  simp only [List.getElem?_toArray, List.getElem?_cons_zero, List.getElem?_cons_succ] at z0 z1 z2 z3
  refine bodyPost_ret (v := .tuple #[endV 0 0 0 (.slice none 0 0), .int .i64 r]) (by simp [results, Tryz.results11, go_sem, z0, z1, z2, z3, endV]) rfl ?_
  exact ⟨rfl, HB.out.trans (ho4.below (Nat.le_refl _))⟩
set_option maxRecDepth 100000 in
set_option maxHeartbeats 1000000 in
theorem pRun_unfit (s : ByteArray) (vi vu : Value) (zs us : List Int) (n : Nat) (steps : Int) (w : World) (hs : s.size ≤ maxLen) (ht : FlowTab w) (hv : ArgInts w vi zs) (hu : ArgInts w vu us) (hul : us.length ≤ 17592186044416) (he : NewErr s zs.length (n : Int) 0) (hf : us.all fitsB = false) :
    Calls Tryz.prog 11 #[.string s, vi, .int .i64 n, vu, .int .i64 steps] w (RunBad 8 w) := by
  have hb0 : Below w.heap.size w (endBox w) := (Below.refl _ _).alloc (Nat.le_refl _) _
  have hn := hid (pnew_ok s vi zs n (endBox w) hs (ht.below hb0) (hv.keep hb0) he)
  have HU := hid (fun (W : World) (hb : Below (endBox w).heap.size (endBox w) W) => hu.keep (hb0.trans (hb.mono hb0.size)))
  have HB0 := hid hb0
  obtain ⟨p0, c0, e0⟩ := hv.slice
  subst e0
  obtain ⟨p1, c1, e1⟩ := hu.slice
  subst e1
  have hbx := heap_alloc_new w (.cells #[.int .i64 0, .int .i64 0, .int .i64 0, .slice none 0 0] 32)
  unfold endBox at *
  have HBX := hid hbx
  clear hs ht hv hu he hb0 hbx
  go_enter Tryz.func11, Tryz.ntmps11
  go_wp2_with fail
  refine hn.out.mono ?_
  clear hn
  intro e w1 hp
  obtain ⟨K, hx, hN⟩ := hp
  subst e
  have hrow := (hN.below.block w.heap.size (by simp)).trans HBX.out
  have HB := hid (HB0.out.trans (hN.below.mono HB0.out.size))
  have k0 := cell_of_row w1 w.heap.size 0 _ _ _ hrow
  have k1 := cell_of_row w1 w.heap.size 1 _ _ _ hrow
  have k2 := cell_of_row w1 w.heap.size 2 _ _ _ hrow
  have k3 := cell_of_row w1 w.heap.size 3 _ _ _ hrow
  have f0 := frozen_of_row w1 w.heap.size 0 _ _ hrow
  have f1 := frozen_of_row w1 w.heap.size 1 _ _ hrow
  have f2 := frozen_of_row w1 w.heap.size 2 _ _ hrow
  have f3 := frozen_of_row w1 w.heap.size 3 _ _ hrow
  simp only [List.getElem?_toArray, List.getElem?_cons_zero, List.getElem?_cons_succ] at k0 k1 k2 k3
  have hz : w.heap.size < w1.heap.size := (Array.getElem?_eq_some_iff.1 hrow).1
  have hfa := hid (allFit_any _ us w1 (HU.out w1 hN.below) hul)
  rw [hf] at hfa
  clear hN HBX HB0 HU hf
  go_wp2_with fail
  refine hfa.out.mono ?_
  clear hfa
  intro e w2 hp
  obtain ⟨hx, hw⟩ := hp
  subst e
  subst w2
  have HR := hid hrow
  clear hrow
  go_wp2_with fail
  clear k0 k1 k2 k3 f0 f1 f2 f3
  obtain ⟨hr4, ho4⟩ := endRow HR.out (.int .i64 0) (.int .i64 0) (.int .i64 0) (.slice none 0 0)
  generalize ((((w1.setCell ⟨w.heap.size, 0, none⟩ (.int .i64 0)).setCell ⟨w.heap.size, 1, none⟩ (.int .i64 0)).setCell ⟨w.heap.size, 2, none⟩ (.int .i64 0)).setCell ⟨w.heap.size, 3, none⟩ (.slice none 0 0)) = WF at *
  have z0 := cell_of_row WF w.heap.size 0 _ _ _ hr4
  have z1 := cell_of_row WF w.heap.size 1 _ _ _ hr4
  have z2 := cell_of_row WF w.heap.size 2 _ _ _ hr4
  have z3 := cell_of_row WF w.heap.size 3 _ _ _ hr4
  simp only [List.getElem?_toArray, List.getElem?_cons_zero, List.getElem?_cons_succ] at z0 z1 z2 z3
  refine bodyPost_ret (v := .tuple #[endV 0 0 0 (.slice none 0 0), .int .i64 8]) (by simp [results, Tryz.results11, go_sem, z0, z1, z2, z3, endV]) rfl ?_
  exact ⟨rfl, HB.out.trans (ho4.below (Nat.le_refl _))⟩
set_option maxRecDepth 100000 in
set_option maxHeartbeats 1000000 in
theorem pRun_neg (s : ByteArray) (vi vu : Value) (zs us : List Int) (n : Nat) (steps : Int) (w : World) (hs : s.size ≤ maxLen) (ht : FlowTab w) (hv : ArgInts w vi zs) (hu : ArgInts w vu us) (hul : us.length ≤ 17592186044416) (he : NewErr s zs.length (n : Int) 0) (hf : us.all fitsB = true) (hst : steps < 0) :
    Calls Tryz.prog 11 #[.string s, vi, .int .i64 n, vu, .int .i64 steps] w (RunBad 8 w) := by
  have hb0 : Below w.heap.size w (endBox w) := (Below.refl _ _).alloc (Nat.le_refl _) _
  have hn := hid (pnew_ok s vi zs n (endBox w) hs (ht.below hb0) (hv.keep hb0) he)
  have HU := hid (fun (W : World) (hb : Below (endBox w).heap.size (endBox w) W) => hu.keep (hb0.trans (hb.mono hb0.size)))
  have HB0 := hid hb0
  obtain ⟨p0, c0, e0⟩ := hv.slice
  subst e0
  obtain ⟨p1, c1, e1⟩ := hu.slice
  subst e1
  have hbx := heap_alloc_new w (.cells #[.int .i64 0, .int .i64 0, .int .i64 0, .slice none 0 0] 32)
  unfold endBox at *
  have HBX := hid hbx
  clear hs ht hv hu he hb0 hbx
  go_enter Tryz.func11, Tryz.ntmps11
  go_wp2_with fail
  refine hn.out.mono ?_
  clear hn
  intro e w1 hp
  obtain ⟨K, hx, hN⟩ := hp
  subst e
  have hrow := (hN.below.block w.heap.size (by simp)).trans HBX.out
  have HB := hid (HB0.out.trans (hN.below.mono HB0.out.size))
  have k0 := cell_of_row w1 w.heap.size 0 _ _ _ hrow
  have k1 := cell_of_row w1 w.heap.size 1 _ _ _ hrow
  have k2 := cell_of_row w1 w.heap.size 2 _ _ _ hrow
  have k3 := cell_of_row w1 w.heap.size 3 _ _ _ hrow
  have f0 := frozen_of_row w1 w.heap.size 0 _ _ hrow
  have f1 := frozen_of_row w1 w.heap.size 1 _ _ hrow
  have f2 := frozen_of_row w1 w.heap.size 2 _ _ hrow
  have f3 := frozen_of_row w1 w.heap.size 3 _ _ hrow
  simp only [List.getElem?_toArray, List.getElem?_cons_zero, List.getElem?_cons_succ] at k0 k1 k2 k3
  have hz : w.heap.size < w1.heap.size := (Array.getElem?_eq_some_iff.1 hrow).1
  have hfa := hid (allFit_any _ us w1 (HU.out w1 hN.below) hul)
  rw [hf] at hfa
  clear hN HBX HB0 HU hf
  go_wp2_with fail
  refine hfa.out.mono ?_
  clear hfa
  intro e w2 hp
  obtain ⟨hx, hw⟩ := hp
  subst e
  subst w2
  have HR := hid hrow
  clear hrow
  go_wp2_with fail
  clear k0 k1 k2 k3 f0 f1 f2 f3
  obtain ⟨hr4, ho4⟩ := endRow HR.out (.int .i64 0) (.int .i64 0) (.int .i64 0) (.slice none 0 0)
  generalize ((((w1.setCell ⟨w.heap.size, 0, none⟩ (.int .i64 0)).setCell ⟨w.heap.size, 1, none⟩ (.int .i64 0)).setCell ⟨w.heap.size, 2, none⟩ (.int .i64 0)).setCell ⟨w.heap.size, 3, none⟩ (.slice none 0 0)) = WF at *
  have z0 := cell_of_row WF w.heap.size 0 _ _ _ hr4
  have z1 := cell_of_row WF w.heap.size 1 _ _ _ hr4
  have z2 := cell_of_row WF w.heap.size 2 _ _ _ hr4
  have z3 := cell_of_row WF w.heap.size 3 _ _ _ hr4
  simp only [List.getElem?_toArray, List.getElem?_cons_zero, List.getElem?_cons_succ] at z0 z1 z2 z3
  refine bodyPost_ret (v := .tuple #[endV 0 0 0 (.slice none 0 0), .int .i64 8]) (by simp [results, Tryz.results11, go_sem, z0, z1, z2, z3, endV]) rfl ?_
  exact ⟨rfl, HB.out.trans (ho4.below (Nat.le_refl _))⟩
set_option maxRecDepth 100000 in
set_option maxHeartbeats 1000000 in
theorem pRun_far (s : ByteArray) (vi vu : Value) (zs us : List Int) (n : Nat) (steps : Int) (w : World) (hs : s.size ≤ maxLen) (ht : FlowTab w) (hv : ArgInts w vi zs) (hu : ArgInts w vu us) (hul : us.length ≤ 17592186044416) (he : NewErr s zs.length (n : Int) 0) (hf : us.all fitsB = true) (hst : ¬ steps < 0) (hst2 : 2000 < steps) :
    Calls Tryz.prog 11 #[.string s, vi, .int .i64 n, vu, .int .i64 steps] w (RunBad 8 w) := by
  have hb0 : Below w.heap.size w (endBox w) := (Below.refl _ _).alloc (Nat.le_refl _) _
  have hn := hid (pnew_ok s vi zs n (endBox w) hs (ht.below hb0) (hv.keep hb0) he)
  have HU := hid (fun (W : World) (hb : Below (endBox w).heap.size (endBox w) W) => hu.keep (hb0.trans (hb.mono hb0.size)))
  have HB0 := hid hb0
  obtain ⟨p0, c0, e0⟩ := hv.slice
  subst e0
  obtain ⟨p1, c1, e1⟩ := hu.slice
  subst e1
  have hbx := heap_alloc_new w (.cells #[.int .i64 0, .int .i64 0, .int .i64 0, .slice none 0 0] 32)
  unfold endBox at *
  have HBX := hid hbx
  clear hs ht hv hu he hb0 hbx
  go_enter Tryz.func11, Tryz.ntmps11
  go_wp2_with fail
  refine hn.out.mono ?_
  clear hn
  intro e w1 hp
  obtain ⟨K, hx, hN⟩ := hp
  subst e
  have hrow := (hN.below.block w.heap.size (by simp)).trans HBX.out
  have HB := hid (HB0.out.trans (hN.below.mono HB0.out.size))
  have k0 := cell_of_row w1 w.heap.size 0 _ _ _ hrow
  have k1 := cell_of_row w1 w.heap.size 1 _ _ _ hrow
  have k2 := cell_of_row w1 w.heap.size 2 _ _ _ hrow
  have k3 := cell_of_row w1 w.heap.size 3 _ _ _ hrow
  have f0 := frozen_of_row w1 w.heap.size 0 _ _ hrow
  have f1 := frozen_of_row w1 w.heap.size 1 _ _ hrow
  have f2 := frozen_of_row w1 w.heap.size 2 _ _ hrow
  have f3 := frozen_of_row w1 w.heap.size 3 _ _ hrow
  simp only [List.getElem?_toArray, List.getElem?_cons_zero, List.getElem?_cons_succ] at k0 k1 k2 k3
  have hz : w.heap.size < w1.heap.size := (Array.getElem?_eq_some_iff.1 hrow).1
  have hfa := hid (allFit_any _ us w1 (HU.out w1 hN.below) hul)
  rw [hf] at hfa
  clear hN HBX HB0 HU hf
  go_wp2_with fail
  refine hfa.out.mono ?_
  clear hfa
  intro e w2 hp
  obtain ⟨hx, hw⟩ := hp
  subst e
  subst w2
  have HR := hid hrow
  clear hrow
  go_wp2_with fail
  clear k0 k1 k2 k3 f0 f1 f2 f3
  obtain ⟨hr4, ho4⟩ := endRow HR.out (.int .i64 0) (.int .i64 0) (.int .i64 0) (.slice none 0 0)
  generalize ((((w1.setCell ⟨w.heap.size, 0, none⟩ (.int .i64 0)).setCell ⟨w.heap.size, 1, none⟩ (.int .i64 0)).setCell ⟨w.heap.size, 2, none⟩ (.int .i64 0)).setCell ⟨w.heap.size, 3, none⟩ (.slice none 0 0)) = WF at *
  have z0 := cell_of_row WF w.heap.size 0 _ _ _ hr4
  have z1 := cell_of_row WF w.heap.size 1 _ _ _ hr4
  have z2 := cell_of_row WF w.heap.size 2 _ _ _ hr4
  have z3 := cell_of_row WF w.heap.size 3 _ _ _ hr4
  simp only [List.getElem?_toArray, List.getElem?_cons_zero, List.getElem?_cons_succ] at z0 z1 z2 z3
  refine bodyPost_ret (v := .tuple #[endV 0 0 0 (.slice none 0 0), .int .i64 8]) (by simp [results, Tryz.results11, go_sem, z0, z1, z2, z3, endV]) rfl ?_
  exact ⟨rfl, HB.out.trans (ho4.below (Nat.le_refl _))⟩
theorem ArgInts.argB {w : World} {B : Nat} {v : Value} {zs : List Int} (h : ArgInts w v zs) (hB : w.heap.size ≤ B) {w' : World} (hb : Below w.heap.size w w') : ArgB B w' v zs := by
  refine ⟨h.keep hb, ?_⟩
  intro a n c hv hn
  rcases h with ⟨h1, _⟩ | ⟨a', cap, hv', _, hl⟩
  · rw [h1] at hv; cases hv
  · rw [hv'] at hv
    cases hv
    have := hl hn
    omega
theorem PR.turn {B : Nat} {w w' : World} {K : PK} {s : MS} (h : PR B w K s) {b : Nat} (ho : Only b w w') (hb : b < B) : PR B w' K s := by
  obtain ⟨F, h1, h2, h3⟩ := h
  refine ⟨F, h1.keep (by rw [ho.size]; exact Nat.le_refl _) (fun k _ hk => ho.block k ?_), h2, by rw [ho.size]; exact h3⟩
  have := h2 k hk
  omega
theorem prun_any {B : Nat} {K : PK} {E : Env} {s : MS} (vu : Value) (us : List Int) (most : Nat) (w : World) (h : PR B w K s) (hke : KE K E) (he : EnvOk E) (hi : MInv E s) (hz : E.zs.length ≤ 64) (hlen : s.out.length = 0) (hu : ArgB B w vu us) (hl : us.length ≤ 17592186044416) (hf : us.all fitsB = true) (hm : most ≤ 2000) :
    Calls Tryz.prog 24 #[.pointer (some ⟨K.b, 0, none⟩), vu, .int .i64 most] w fun e w' => e = .returned (.int .i64 (runS E us most 0 s).1) ∧ PR B w' K (runS E us most 0 s).2 ∧ Below B w w' := by
  rcases Nat.eq_zero_or_pos us.length with h0 | h0
  · have : us = [] := List.length_eq_zero_iff.1 h0
    subst this
    exact prun_nil vu most w h hke he hi hz hlen hu hm
  · exact prun_some vu us most w h hke he hi hz hlen hu hl hf h0 hm
set_option maxRecDepth 100000 in
set_option maxHeartbeats 1000000 in
theorem pRun_good (s : ByteArray) (vi vu : Value) (zs us : List Int) (n q : Nat) (w : World) (hs : s.size ≤ maxLen) (ht : FlowTab w) (hv : ArgInts w vi zs) (hu : ArgInts w vu us) (hul : us.length ≤ 17592186044416) (he : NewErr s zs.length (n : Int) 0) (hf : us.all fitsB = true) (hq : q ≤ 2000) :
    Calls Tryz.prog 11 #[.string s, vi, .int .i64 n, vu, .int .i64 q] w (RunOk s zs n us q w) := by
  have hb0 : Below w.heap.size w (endBox w) := (Below.refl _ _).alloc (Nat.le_refl _) _
  have hn := hid (pnew_ok s vi zs n (endBox w) hs (ht.below hb0) (hv.keep hb0) he)
  have HU := hid (fun (W : World) (hb : Below (endBox w).heap.size (endBox w) W) => hu.keep (hb0.trans (hb.mono hb0.size)))
  have HB0 := hid hb0
  obtain ⟨p0, c0, e0⟩ := hv.slice
  subst e0
  obtain ⟨p1, c1, e1⟩ := hu.slice
  subst e1
  have hbx := heap_alloc_new w (.cells #[.int .i64 0, .int .i64 0, .int .i64 0, .slice none 0 0] 32)
  unfold endBox at *
  have HBX := hid hbx
  have HUB := hid (fun (W : World) (hb : Below (endBox w).heap.size (endBox w) W) => hu.argB (B := (endBox w).heap.size) (by simp [endBox]) (hb0.trans (hb.mono hb0.size)))
  unfold endBox at HUB
  obtain ⟨r1, r2, r3⟩ := newErr_range he
  clear hs ht hv hu he hb0 hbx
  go_enter Tryz.func11, Tryz.ntmps11
  go_wp2_with fail
  refine hn.out.mono ?_
  clear hn
  intro e w1 hp
  obtain ⟨K, hx, hN⟩ := hp
  subst e
  obtain ⟨hP, hke, hok, hinv⟩ := hN.pr (by omega) (by omega)
  have hrow := (hN.below.block w.heap.size (by simp)).trans HBX.out
  have HB := hid (HB0.out.trans (hN.below.mono HB0.out.size))
  have hfa := hid (allFit_any _ us w1 (HU.out w1 hN.below) hul)
  rw [hf] at hfa
  have hrn := hid (prun_any _ us q w1 hP hke hok hinv r3 rfl (HUB.out w1 hN.below) hul hf hq)
  have HN := hid (show errOf s = 0 ∧ WT (codeOf s) (byteAt s 1) ∧ SetInv (codeOf s) (byteAt s 1) K.fs ∧ Still (codeOf s) K.fs from ⟨hN.err, hN.wt, hN.inv, hN.still⟩)
  have hol := run_out (envOf s K.fs zs n) us q 0 (startS (byteAt s 1) n) (Nat.le_refl _)
  obtain ⟨R, hR⟩ : ∃ R, R = runS (envOf s K.fs zs n) us q 0 (startS (byteAt s 1) n) := ⟨_, rfl⟩
  rw [← hR] at hrn hol
  have HR := hid hR
  have qs : ¬ (q : Int) < 0 := by omega
  have qt : ¬ (2000 : Int) < (q : Int) := by omega
  clear hN HBX HB0 HU HUB hf hP hke hok hinv hR
  go_wp2_with fail
  refine hfa.out.mono ?_
  clear hfa
  intro e w2 hp
  obtain ⟨hx, hw⟩ := hp
  subst e
  subst w2
  go_wp2_with fail
  refine hrn.out.mono ?_
  clear hrn
  intro e w2 hp
  obtain ⟨hx, hP2, hB2⟩ := hp
  subst e
  have hou := hid (pr_output hP2 (by omega))
  have ho5 := hP2.oc
  have ho6 := hP2.va
  have hbz : K.b < w2.heap.size := World.block_lt_of_cell? w2 _ ho5
  have hrow2 := (hB2.block w.heap.size (by simp)).trans hrow
  have hz2 : w.heap.size < w2.heap.size := (Array.getElem?_eq_some_iff.1 hrow2).1
  have HB2 := hid (HB.out.trans (hB2.mono (by simp)))
  have HO5 := hid ho5
  have HO6 := hid ho6
  clear hP2 hB2 hrow HB ho5 ho6
  go_wp2_with fail
  refine hou.out.mono ?_
  clear hou
  intro e w3 hp
  obtain ⟨hb3, v, hx, hown⟩ := hp
  subst e
  obtain ⟨p3, c3, e3⟩ := owns_slice hown
  subst e3
  have o5 := (hb3.cell (p := ⟨K.b, 5, none⟩) hbz).trans HO5.out
  have o6 := (hb3.cell (p := ⟨K.b, 6, none⟩) hbz).trans HO6.out
  have hrow3 := (hb3.block w.heap.size hz2).trans hrow2
  have k0 := cell_of_row w3 w.heap.size 0 _ _ _ hrow3
  have k1 := cell_of_row w3 w.heap.size 1 _ _ _ hrow3
  have k2 := cell_of_row w3 w.heap.size 2 _ _ _ hrow3
  have k3 := cell_of_row w3 w.heap.size 3 _ _ _ hrow3
  have f0 := frozen_of_row w3 w.heap.size 0 _ _ hrow3
  have f1 := frozen_of_row w3 w.heap.size 1 _ _ hrow3
  have f2 := frozen_of_row w3 w.heap.size 2 _ _ hrow3
  have f3 := frozen_of_row w3 w.heap.size 3 _ _ hrow3
  simp only [List.getElem?_toArray, List.getElem?_cons_zero, List.getElem?_cons_succ] at k0 k1 k2 k3
  have hz3 : w.heap.size < w3.heap.size := (Array.getElem?_eq_some_iff.1 hrow3).1
  have HB3 := hid (HB2.out.trans (hb3.mono (by omega)))
  have HW := hid hown
  have HR3 := hid hrow3
  clear hb3 hown hrow3 hrow2 HO5 HO6 HB2
  go_wp2_with fail
  go_region
  clear k0 k1 k2 k3 f0 f1 f2 f3 o5 o6
  obtain ⟨hr4, ho4⟩ := endRow HR3.out (.int .i64 R.2.oc) (.int .i64 R.2.va) (.int .i64 R.1) (.slice p3 R.2.out.length c3)
  generalize ((((w3.setCell ⟨w.heap.size, 0, none⟩ (.int .i64 R.2.oc)).setCell ⟨w.heap.size, 1, none⟩ (.int .i64 R.2.va)).setCell ⟨w.heap.size, 2, none⟩ (.int .i64 R.1)).setCell ⟨w.heap.size, 3, none⟩ (.slice p3 R.2.out.length c3)) = WF at *
  have hbd : Below WF.heap.size WF WF.drew := (Below.refl _ _).drew
  have hr5 : WF.drew.heap[w.heap.size]? = _ := (hbd.block w.heap.size (by rw [ho4.size]; exact hz3)).trans hr4
  have HF : Hid (RunOk s zs n us q w (.returned (.tuple #[endV R.2.oc R.2.va R.1 (.slice p3 R.2.out.length c3), .int .i64 0])) WF.drew) := hid (by
    refine ⟨(HB3.out.trans (ho4.below (Nat.le_refl _))).trans (hbd.mono (by rw [ho4.size]; omega)), K.fs, .slice p3 R.2.out.length c3, HN.out.1, HN.out.2.1, HN.out.2.2.1, HN.out.2.2.2, ?_, ?_⟩
    · rw [← HR.out]
    · rw [← HR.out]
      have h1 := owns_keep HW.out (w' := WF) (fun g hg => ho4.block g (by have := (HW.out.lt g hg).1; omega))
      have h2 := owns_keep h1 (w' := WF.drew) (fun g hg => hbd.block g (h1.lt g hg).2)
      exact owns_mono h2 (by omega))
  generalize WF.drew = WG at *
  have z0 := cell_of_row WG w.heap.size 0 _ _ _ hr5
  have z1 := cell_of_row WG w.heap.size 1 _ _ _ hr5
  have z2 := cell_of_row WG w.heap.size 2 _ _ _ hr5
  have z3 := cell_of_row WG w.heap.size 3 _ _ _ hr5
  simp only [List.getElem?_toArray, List.getElem?_cons_zero, List.getElem?_cons_succ] at z0 z1 z2 z3
  clear hr4 ho4 hr5 hbd HR3
  go_wp2_with fail
  refine bodyPost_ret (v := .tuple #[endV R.2.oc R.2.va R.1 (.slice p3 R.2.out.length c3), .int .i64 0]) (by simp [results, Tryz.results11, go_sem, z0, z1, z2, z3, endV]) rfl ?_
  exact HF.out
/-- Run, whole. -/
theorem pRun_any (s : ByteArray) (vi vu : Value) (zs us : List Int) (cells steps : Int) (w : World) (hs : s.size ≤ maxLen) (ht : FlowTab w) (hv : ArgInts w vi zs) (hu : ArgInts w vu us) (hul : us.length ≤ 17592186044416) (r : Nat) (he : RunErr s zs.length cells us steps r) :
    Calls Tryz.prog 11 #[.string s, vi, .int .i64 cells, vu, .int .i64 steps] w fun e w' => (r ≠ 0 ∧ RunBad r w e w') ∨ (r = 0 ∧ ∃ n q : Nat, cells = (n : Int) ∧ steps = (q : Int) ∧ q ≤ 2000 ∧ us.all fitsB = true ∧ NewErr s zs.length (n : Int) 0 ∧ RunOk s zs n us q w e w') := by
  rcases he with ⟨h1, h2⟩ | ⟨h1, h2, rfl⟩ | ⟨h1, h2, h3, h4, rfl⟩
  · exact (pRun_bad s vi vu zs us cells steps w hs ht hv hu r h1 h2).mono (fun e w' h => .inl ⟨h1, h⟩)
  · obtain ⟨r1, r2, _⟩ := newErr_range h1
    obtain ⟨n, rfl⟩ : ∃ n : Nat, cells = (n : Int) := ⟨cells.toNat, by omega⟩
    by_cases hf : us.all fitsB = true
    · by_cases hn : steps < 0
      · exact (pRun_neg s vi vu zs us n steps w hs ht hv hu hul h1 hf hn).mono (fun e w' h => .inl ⟨by omega, h⟩)
      · have hfar : 2000 < steps := by
          rcases h2 with h | h | h
          · rw [hf] at h; cases h
          · omega
          · exact h
        exact (pRun_far s vi vu zs us n steps w hs ht hv hu hul h1 hf hn hfar).mono (fun e w' h => .inl ⟨by omega, h⟩)
    · exact (pRun_unfit s vi vu zs us n steps w hs ht hv hu hul h1 (by simpa using hf)).mono (fun e w' h => .inl ⟨by omega, h⟩)
  · obtain ⟨r1, r2, _⟩ := newErr_range h1
    obtain ⟨n, rfl⟩ : ∃ n : Nat, cells = (n : Int) := ⟨cells.toNat, by omega⟩
    obtain ⟨q, rfl⟩ : ∃ q : Nat, steps = (q : Int) := ⟨steps.toNat, by omega⟩
    exact (pRun_good s vi vu zs us n q w hs ht hv hu hul h1 h2 (by omega)).mono (fun e w' h => .inr ⟨rfl, n, q, rfl, rfl, by omega, h2, h1, h⟩)
theorem runErr_all (s : ByteArray) (nz : Nat) (cells : Int) (us : List Int) (steps : Int) (h : ∃ r, NewErr s nz cells r) : ∃ r, RunErr s nz cells us steps r := by
  obtain ⟨r, hr⟩ := h
  by_cases h0 : r = 0
  · subst h0
    by_cases hf : us.all fitsB = true
    · by_cases h1 : 0 ≤ steps
      · by_cases h2 : steps ≤ 2000
        · exact ⟨0, .inr (.inr ⟨hr, hf, h1, h2, rfl⟩)⟩
        · exact ⟨8, .inr (.inl ⟨hr, .inr (.inr (by omega)), rfl⟩)⟩
      · exact ⟨8, .inr (.inl ⟨hr, .inr (.inl (by omega)), rfl⟩)⟩
    · exact ⟨8, .inr (.inl ⟨hr, .inl (by simpa using hf), rfl⟩)⟩
  · exact ⟨r, .inl ⟨h0, hr⟩⟩
end Go.Proofs.YtdmdpindonghdaaGreatDoor
namespace Go.Proofs.YtdmdpindonghdaaGreatDoor
open Go.RowKit
/-- The reference's machine lies above B. -/
def RR (B : Nat) (W : World) (K : RK) (s : MS) : Prop := ∃ G, RX W K G s ∧ (∀ k, G k → B ≤ k) ∧ B ≤ W.heap.size
theorem RR.keep {B : Nat} {w w' : World} {K : RK} {s : MS} (h : RR B w K s) (hb : Below w.heap.size w w') : RR B w' K s := by
  obtain ⟨F, h1, h2, h3⟩ := h
  exact ⟨F, h1.below hb, h2, Nat.le_trans h3 hb.size⟩
theorem RR.next {B : Nat} {w w' : World} {K : RK} {F : Nat → Prop} {t : MS} (hF : ∀ k, F k → B ≤ k) (hB : B ≤ w.heap.size) (hp : RX w' K (Grown F w w') t) (ht : Touch F w w') : RR B w' K t ∧ Below B w w' := by
  refine ⟨⟨_, hp, ?_, Nat.le_trans hB ht.size⟩, ht.sub hF hB⟩
  rintro k (h | h)
  · exact hF k h
  · omega
theorem rr_step {B : Nat} {w : World} {K : RK} {E : Env} {s : MS} (h : RR B w K s) (hke : RE K E) (he : EnvOk E) (hi : MInv E s) (hoc : s.oc = 0) (hz : E.zs.length ≤ 64) (hlen : s.out.length ≤ 8796093022208) :
    Calls Tryz.prog 27 #[.pointer (some ⟨K.b, 0, none⟩)] w fun e w' => e = .returned (.tuple #[.int .i64 (stepS E s).oc, .int .i64 0]) ∧ RR B w' K (stepS E s) ∧ Below B w w' := by
  obtain ⟨F, h1, h2, h3⟩ := h
  refine (rstep_x h1 hke he hi hoc hz hlen).mono ?_
  rintro e w' ⟨a, b, c⟩
  exact ⟨a, RR.next h2 h3 b c⟩
theorem rr_coll {B : Nat} {w : World} {K : RK} {E : Env} {s : MS} (h : RR B w K s) (hke : RE K E) (he : EnvOk E) (hi : MInv E s) (n : Nat) (hn : n ≤ 1000) :
    Calls Tryz.prog 26 #[.pointer (some ⟨K.b, 0, none⟩), .int .i64 n] w fun e w' => e = .returned (.tuple #[.int .i64 (collS E n s).hs.2.1, .int .i64 0]) ∧ RR B w' K (collS E n s) ∧ Below B w w' := by
  obtain ⟨F, h1, h2, h3⟩ := h
  refine (rcollect_x h1 hke he hi n hn).mono ?_
  rintro e w' ⟨a, b, c⟩
  exact ⟨a, RR.next h2 h3 (b.mono (fun _ h => .inl h)) c⟩
theorem owns_rebase {w : World} {b B e size n : Nat} {v : Value} {xs : List Value} (h : w.ownsRow b e size v n xs) (hB : ∀ g, v.ownBlock = some g → B ≤ g) : w.ownsRow B e size v n xs := by
  refine ⟨h.1, ?_⟩
  rcases h.2 with h2 | ⟨g, cap, cur, hv, hg, r⟩
  · exact .inl h2
  · exact .inr ⟨g, cap, cur, hv, hB g (by rw [hv]; rfl), r⟩
theorem RR.get {B : Nat} {w : World} {K : RK} {s : MS} (h : RR B w K s) : w.cell? ⟨K.b, 5, none⟩ = some (.int .i64 s.oc) ∧ w.cell? ⟨K.b, 6, none⟩ = some (.int .i64 s.va) ∧ ∃ v, w.cell? ⟨K.b, 4, none⟩ = some v ∧ w.ownsRow B 3 1 v s.out.length (s.out.map (.int .i64)) := by
  obtain ⟨F, ⟨vO, vS, hm, hG⟩, h2, h3⟩ := h
  refine ⟨(cell_of_row w K.b 5 _ _ _ hm.row).trans rfl, (cell_of_row w K.b 6 _ _ _ hm.row).trans rfl, vO, (cell_of_row w K.b 4 _ _ _ hm.row).trans rfl, ?_⟩
  exact owns_rebase hm.out (fun g hg => h2 g (hG g (.inr (.inr hg))))
set_option maxRecDepth 100000 in
set_option maxHeartbeats 1000000 in
theorem rRun_bad (s : ByteArray) (vi vu : Value) (zs us : List Int) (cells steps : Int) (w : World) (hs : s.size ≤ maxLen) (ht : TakesTab w) (htt : TypeTab w) (hv : ArgInts w vi zs) (hvl : zs.length ≤ 17592186044416) (hu : ArgInts w vu us) (r : Nat) (hr : r ≠ 0) (he : NewErr s zs.length cells r) :
    Calls Tryz.prog 12 #[.string s, vi, .int .i64 cells, vu, .int .i64 steps] w (RunBad r w) := by
  have hb0 : Below w.heap.size w (endBox w) := (Below.refl _ _).alloc (Nat.le_refl _) _
  have hn := hid (rnew_bad s vi zs cells (endBox w) hs (ht.below hb0) (htt.below hb0) (hv.keep hb0) (by omega) r hr he)
  have HB0 := hid hb0
  obtain ⟨p0, c0, e0⟩ := hv.slice
  subst e0
  obtain ⟨p1, c1, e1⟩ := hu.slice
  subst e1
  have q0 : ((r : Int) != 0) = true := by simp; omega
  have hbx := heap_alloc_new w (.cells #[.int .i64 0, .int .i64 0, .int .i64 0, .slice none 0 0] 32)
  unfold endBox at *
  have HBX := hid hbx
  clear hs ht htt hv hu he hr hb0 hbx
  go_enter Tryz.func12, Tryz.ntmps12
  go_wp2_with fail
  refine hn.out.mono ?_
  clear hn
  intro e w1 hp
  obtain ⟨hx, hb⟩ := hp
  subst e
  have hrow := (hb.block w.heap.size (by simp)).trans HBX.out
  have HB := hid (HB0.out.trans (hb.mono HB0.out.size))
  have k0 := cell_of_row w1 w.heap.size 0 _ _ _ hrow
  have k1 := cell_of_row w1 w.heap.size 1 _ _ _ hrow
  have k2 := cell_of_row w1 w.heap.size 2 _ _ _ hrow
  have k3 := cell_of_row w1 w.heap.size 3 _ _ _ hrow
  have f0 := frozen_of_row w1 w.heap.size 0 _ _ hrow
  have f1 := frozen_of_row w1 w.heap.size 1 _ _ hrow
  have f2 := frozen_of_row w1 w.heap.size 2 _ _ hrow
  have f3 := frozen_of_row w1 w.heap.size 3 _ _ hrow
  simp only [List.getElem?_toArray, List.getElem?_cons_zero, List.getElem?_cons_succ] at k0 k1 k2 k3
  have hz : w.heap.size < w1.heap.size := (Array.getElem?_eq_some_iff.1 hrow).1
  have HR := hid hrow
  clear hb HBX HB0 hrow
  go_wp2_with fail
  clear k0 k1 k2 k3 f0 f1 f2 f3
  obtain ⟨hr4, ho4⟩ := endRow HR.out (.int .i64 0) (.int .i64 0) (.int .i64 0) (.slice none 0 0)
  generalize ((((w1.setCell ⟨w.heap.size, 0, none⟩ (.int .i64 0)).setCell ⟨w.heap.size, 1, none⟩ (.int .i64 0)).setCell ⟨w.heap.size, 2, none⟩ (.int .i64 0)).setCell ⟨w.heap.size, 3, none⟩ (.slice none 0 0)) = WF at *
  have z0 := cell_of_row WF w.heap.size 0 _ _ _ hr4
  have z1 := cell_of_row WF w.heap.size 1 _ _ _ hr4
  have z2 := cell_of_row WF w.heap.size 2 _ _ _ hr4
  have z3 := cell_of_row WF w.heap.size 3 _ _ _ hr4
  simp only [List.getElem?_toArray, List.getElem?_cons_zero, List.getElem?_cons_succ] at z0 z1 z2 z3
  refine bodyPost_ret (v := .tuple #[endV 0 0 0 (.slice none 0 0), .int .i64 r]) (by simp [results, Tryz.results12, go_sem, z0, z1, z2, z3, endV]) rfl ?_
  exact ⟨rfl, HB.out.trans (ho4.below (Nat.le_refl _))⟩
set_option maxRecDepth 100000 in
set_option maxHeartbeats 1000000 in
theorem rRun_neg (s : ByteArray) (vi vu : Value) (zs us : List Int) (n : Nat) (steps : Int) (w : World) (hs : s.size ≤ maxLen) (ht : TakesTab w) (htt : TypeTab w) (hv : ArgInts w vi zs) (hu : ArgInts w vu us) (he : NewErr s zs.length (n : Int) 0) (hst : steps < 0) :
    Calls Tryz.prog 12 #[.string s, vi, .int .i64 n, vu, .int .i64 steps] w (RunBad 8 w) := by
  have hb0 : Below w.heap.size w (endBox w) := (Below.refl _ _).alloc (Nat.le_refl _) _
  have hn := hid (rnew_ok s vi zs n (endBox w) hs (ht.below hb0) (htt.below hb0) (hv.keep hb0) he)
  have HU := hid (fun (W : World) (hb : Below (endBox w).heap.size (endBox w) W) => hu.keep (hb0.trans (hb.mono hb0.size)))
  have HB0 := hid hb0
  obtain ⟨p0, c0, e0⟩ := hv.slice
  subst e0
  obtain ⟨p1, c1, e1⟩ := hu.slice
  subst e1
  have hbx := heap_alloc_new w (.cells #[.int .i64 0, .int .i64 0, .int .i64 0, .slice none 0 0] 32)
  unfold endBox at *
  have HBX := hid hbx
  clear hs ht htt hv hu he hb0 hbx
  go_enter Tryz.func12, Tryz.ntmps12
  go_wp2_with fail
  refine hn.out.mono ?_
  clear hn
  intro e w1 hp
  obtain ⟨b, hx, hN⟩ := hp
  subst e
  have hrow := (hN.below.block w.heap.size (by simp)).trans HBX.out
  have HB := hid (HB0.out.trans (hN.below.mono HB0.out.size))
  have HU1 := hid (HU.out w1 hN.below)
  have k0 := cell_of_row w1 w.heap.size 0 _ _ _ hrow
  have k1 := cell_of_row w1 w.heap.size 1 _ _ _ hrow
  have k2 := cell_of_row w1 w.heap.size 2 _ _ _ hrow
  have k3 := cell_of_row w1 w.heap.size 3 _ _ _ hrow
  have f0 := frozen_of_row w1 w.heap.size 0 _ _ hrow
  have f1 := frozen_of_row w1 w.heap.size 1 _ _ hrow
  have f2 := frozen_of_row w1 w.heap.size 2 _ _ hrow
  have f3 := frozen_of_row w1 w.heap.size 3 _ _ hrow
  simp only [List.getElem?_toArray, List.getElem?_cons_zero, List.getElem?_cons_succ] at k0 k1 k2 k3
  have hz : w.heap.size < w1.heap.size := (Array.getElem?_eq_some_iff.1 hrow).1
  have HR := hid hrow
  clear hN HBX HB0 HU hrow
  go_wp2_with fail
  clear k0 k1 k2 k3 f0 f1 f2 f3
  obtain ⟨hr4, ho4⟩ := endRow HR.out (.int .i64 0) (.int .i64 0) (.int .i64 0) (.slice none 0 0)
  generalize ((((w1.setCell ⟨w.heap.size, 0, none⟩ (.int .i64 0)).setCell ⟨w.heap.size, 1, none⟩ (.int .i64 0)).setCell ⟨w.heap.size, 2, none⟩ (.int .i64 0)).setCell ⟨w.heap.size, 3, none⟩ (.slice none 0 0)) = WF at *
  have z0 := cell_of_row WF w.heap.size 0 _ _ _ hr4
  have z1 := cell_of_row WF w.heap.size 1 _ _ _ hr4
  have z2 := cell_of_row WF w.heap.size 2 _ _ _ hr4
  have z3 := cell_of_row WF w.heap.size 3 _ _ _ hr4
  simp only [List.getElem?_toArray, List.getElem?_cons_zero, List.getElem?_cons_succ] at z0 z1 z2 z3
  refine bodyPost_ret (v := .tuple #[endV 0 0 0 (.slice none 0 0), .int .i64 8]) (by simp [results, Tryz.results12, go_sem, z0, z1, z2, z3, endV]) rfl ?_
  exact ⟨rfl, HB.out.trans (ho4.below (Nat.le_refl _))⟩
set_option maxRecDepth 100000 in
set_option maxHeartbeats 1000000 in
theorem rRun_far (s : ByteArray) (vi vu : Value) (zs us : List Int) (n : Nat) (steps : Int) (w : World) (hs : s.size ≤ maxLen) (ht : TakesTab w) (htt : TypeTab w) (hv : ArgInts w vi zs) (hu : ArgInts w vu us) (he : NewErr s zs.length (n : Int) 0) (hst : ¬ steps < 0) (hst2 : 2000 < steps) :
    Calls Tryz.prog 12 #[.string s, vi, .int .i64 n, vu, .int .i64 steps] w (RunBad 8 w) := by
  have hb0 : Below w.heap.size w (endBox w) := (Below.refl _ _).alloc (Nat.le_refl _) _
  have hn := hid (rnew_ok s vi zs n (endBox w) hs (ht.below hb0) (htt.below hb0) (hv.keep hb0) he)
  have HU := hid (fun (W : World) (hb : Below (endBox w).heap.size (endBox w) W) => hu.keep (hb0.trans (hb.mono hb0.size)))
  have HB0 := hid hb0
  obtain ⟨p0, c0, e0⟩ := hv.slice
  subst e0
  obtain ⟨p1, c1, e1⟩ := hu.slice
  subst e1
  have hbx := heap_alloc_new w (.cells #[.int .i64 0, .int .i64 0, .int .i64 0, .slice none 0 0] 32)
  unfold endBox at *
  have HBX := hid hbx
  clear hs ht htt hv hu he hb0 hbx
  go_enter Tryz.func12, Tryz.ntmps12
  go_wp2_with fail
  refine hn.out.mono ?_
  clear hn
  intro e w1 hp
  obtain ⟨b, hx, hN⟩ := hp
  subst e
  have hrow := (hN.below.block w.heap.size (by simp)).trans HBX.out
  have HB := hid (HB0.out.trans (hN.below.mono HB0.out.size))
  have HU1 := hid (HU.out w1 hN.below)
  have k0 := cell_of_row w1 w.heap.size 0 _ _ _ hrow
  have k1 := cell_of_row w1 w.heap.size 1 _ _ _ hrow
  have k2 := cell_of_row w1 w.heap.size 2 _ _ _ hrow
  have k3 := cell_of_row w1 w.heap.size 3 _ _ _ hrow
  have f0 := frozen_of_row w1 w.heap.size 0 _ _ hrow
  have f1 := frozen_of_row w1 w.heap.size 1 _ _ hrow
  have f2 := frozen_of_row w1 w.heap.size 2 _ _ hrow
  have f3 := frozen_of_row w1 w.heap.size 3 _ _ hrow
  simp only [List.getElem?_toArray, List.getElem?_cons_zero, List.getElem?_cons_succ] at k0 k1 k2 k3
  have hz : w.heap.size < w1.heap.size := (Array.getElem?_eq_some_iff.1 hrow).1
  have HR := hid hrow
  clear hN HBX HB0 HU hrow
  go_wp2_with fail
  clear k0 k1 k2 k3 f0 f1 f2 f3
  obtain ⟨hr4, ho4⟩ := endRow HR.out (.int .i64 0) (.int .i64 0) (.int .i64 0) (.slice none 0 0)
  generalize ((((w1.setCell ⟨w.heap.size, 0, none⟩ (.int .i64 0)).setCell ⟨w.heap.size, 1, none⟩ (.int .i64 0)).setCell ⟨w.heap.size, 2, none⟩ (.int .i64 0)).setCell ⟨w.heap.size, 3, none⟩ (.slice none 0 0)) = WF at *
  have z0 := cell_of_row WF w.heap.size 0 _ _ _ hr4
  have z1 := cell_of_row WF w.heap.size 1 _ _ _ hr4
  have z2 := cell_of_row WF w.heap.size 2 _ _ _ hr4
  have z3 := cell_of_row WF w.heap.size 3 _ _ _ hr4
  simp only [List.getElem?_toArray, List.getElem?_cons_zero, List.getElem?_cons_succ] at z0 z1 z2 z3
  refine bodyPost_ret (v := .tuple #[endV 0 0 0 (.slice none 0 0), .int .i64 8]) (by simp [results, Tryz.results12, go_sem, z0, z1, z2, z3, endV]) rfl ?_
  exact ⟨rfl, HB.out.trans (ho4.below (Nat.le_refl _))⟩
set_option maxRecDepth 100000 in
set_option maxHeartbeats 1000000 in
theorem rRun_unfit (s : ByteArray) (vi vu : Value) (zs us : List Int) (n : Nat) (steps : Int) (w : World) (hs : s.size ≤ maxLen) (ht : TakesTab w) (htt : TypeTab w) (hv : ArgInts w vi zs) (hu : ArgInts w vu us) (hul : us.length ≤ 17592186044416) (he : NewErr s zs.length (n : Int) 0) (hst : ¬ steps < 0) (hst2 : ¬ 2000 < steps) (hf : us.all fitsB = false) :
    Calls Tryz.prog 12 #[.string s, vi, .int .i64 n, vu, .int .i64 steps] w (RunBad 8 w) := by
  have hb0 : Below w.heap.size w (endBox w) := (Below.refl _ _).alloc (Nat.le_refl _) _
  have hn := hid (rnew_ok s vi zs n (endBox w) hs (ht.below hb0) (htt.below hb0) (hv.keep hb0) he)
  have HU := hid (fun (W : World) (hb : Below (endBox w).heap.size (endBox w) W) => hu.keep (hb0.trans (hb.mono hb0.size)))
  have HB0 := hid hb0
  obtain ⟨p0, c0, e0⟩ := hv.slice
  subst e0
  obtain ⟨p1, c1, e1⟩ := hu.slice
  subst e1
  have hbx := heap_alloc_new w (.cells #[.int .i64 0, .int .i64 0, .int .i64 0, .slice none 0 0] 32)
  unfold endBox at *
  have HBX := hid hbx
  clear hs ht htt hv hu he hb0 hbx
  go_enter Tryz.func12, Tryz.ntmps12
  go_wp2_with fail
  refine hn.out.mono ?_
  clear hn
  intro e w1 hp
  obtain ⟨b, hx, hN⟩ := hp
  subst e
  have hrow := (hN.below.block w.heap.size (by simp)).trans HBX.out
  have HB := hid (HB0.out.trans (hN.below.mono HB0.out.size))
  have HU1 := hid (HU.out w1 hN.below)
  have k0 := cell_of_row w1 w.heap.size 0 _ _ _ hrow
  have k1 := cell_of_row w1 w.heap.size 1 _ _ _ hrow
  have k2 := cell_of_row w1 w.heap.size 2 _ _ _ hrow
  have k3 := cell_of_row w1 w.heap.size 3 _ _ _ hrow
  have f0 := frozen_of_row w1 w.heap.size 0 _ _ hrow
  have f1 := frozen_of_row w1 w.heap.size 1 _ _ hrow
  have f2 := frozen_of_row w1 w.heap.size 2 _ _ hrow
  have f3 := frozen_of_row w1 w.heap.size 3 _ _ hrow
  simp only [List.getElem?_toArray, List.getElem?_cons_zero, List.getElem?_cons_succ] at k0 k1 k2 k3
  have hz : w.heap.size < w1.heap.size := (Array.getElem?_eq_some_iff.1 hrow).1
  have HR := hid hrow
  clear hN HBX HB0 HU hrow
  have HF := hid hf
  clear hf
  go_wp2_with fail
  go_loopg [14] us.length (fun gk x w' => ∃ k : Nat, k ≤ us.length ∧ gk = us.length - k ∧ x = .int .i64 k ∧ (us.take k).all fitsB = true ∧ w1 = w')
  case atStart => exact ⟨0, by omega, by omega, rfl, by simp, rfl⟩
  case round =>
    obtain ⟨k, hk, hgk, rfl, hall, hw⟩ := hrel
    subst hw
    have HALL := hid hall
    clear hall
    have hlt : k < us.length := by
      rcases Nat.lt_or_ge k us.length with h | h
      · exact h
      · exfalso
        have h1 := HALL.out
        rw [List.take_of_length_le h, HF.out] at h1
        cases h1
    have d0 : (0 : Int) ≤ (k : Int) := by omega
    have d1 : (k : Int) < (us.length : Int) := by omega
    have d2 : (k : Int) + 1 ≤ 17592186044416 := by omega
    rcases HU1.out with ⟨_, h0⟩ | ⟨a, cap, hv, hcell, hbl⟩
    · rw [h0] at hlt; simp at hlt
    cases hv
    have y0 := hcell k us[k] (List.getElem?_eq_getElem hlt)
    have HN := hid (any_take_all fitsB us k hlt)
    have hmem := List.getElem_mem hlt
    clear hcell hbl hmem
    generalize us[k] = u at *
    by_cases u0 : u < 0
    · go_wp2_with fail
      clear k0 k1 k2 k3 f0 f1 f2 f3
      obtain ⟨hr4, ho4⟩ := endRow HR.out (.int .i64 0) (.int .i64 0) (.int .i64 0) (.slice none 0 0)
      generalize ((((w1.setCell ⟨w.heap.size, 0, none⟩ (.int .i64 0)).setCell ⟨w.heap.size, 1, none⟩ (.int .i64 0)).setCell ⟨w.heap.size, 2, none⟩ (.int .i64 0)).setCell ⟨w.heap.size, 3, none⟩ (.slice none 0 0)) = WF at *
      have z0 := cell_of_row WF w.heap.size 0 _ _ _ hr4
      have z1 := cell_of_row WF w.heap.size 1 _ _ _ hr4
      have z2 := cell_of_row WF w.heap.size 2 _ _ _ hr4
      have z3 := cell_of_row WF w.heap.size 3 _ _ _ hr4
      simp only [List.getElem?_toArray, List.getElem?_cons_zero, List.getElem?_cons_succ] at z0 z1 z2 z3
      refine bodyPost_ret (v := .tuple #[endV 0 0 0 (.slice none 0 0), .int .i64 8]) (by simp [results, Tryz.results12, go_sem, z0, z1, z2, z3, endV]) rfl ?_
      exact ⟨rfl, HB.out.trans (ho4.below (Nat.le_refl _))⟩
    by_cases u1 : 1000 < u
    · go_wp2_with fail
      clear k0 k1 k2 k3 f0 f1 f2 f3
      obtain ⟨hr4, ho4⟩ := endRow HR.out (.int .i64 0) (.int .i64 0) (.int .i64 0) (.slice none 0 0)
      generalize ((((w1.setCell ⟨w.heap.size, 0, none⟩ (.int .i64 0)).setCell ⟨w.heap.size, 1, none⟩ (.int .i64 0)).setCell ⟨w.heap.size, 2, none⟩ (.int .i64 0)).setCell ⟨w.heap.size, 3, none⟩ (.slice none 0 0)) = WF at *
      have z0 := cell_of_row WF w.heap.size 0 _ _ _ hr4
      have z1 := cell_of_row WF w.heap.size 1 _ _ _ hr4
      have z2 := cell_of_row WF w.heap.size 2 _ _ _ hr4
      have z3 := cell_of_row WF w.heap.size 3 _ _ _ hr4
      simp only [List.getElem?_toArray, List.getElem?_cons_zero, List.getElem?_cons_succ] at z0 z1 z2 z3
      refine bodyPost_ret (v := .tuple #[endV 0 0 0 (.slice none 0 0), .int .i64 8]) (by simp [results, Tryz.results12, go_sem, z0, z1, z2, z3, endV]) rfl ?_
      exact ⟨rfl, HB.out.trans (ho4.below (Nat.le_refl _))⟩
    have HFT : Hid (fitsB u = true) := hid (by unfold fitsB; simp; omega)
    go_wp2_with fail
    go_roundg (us.length - (k + 1))
    case measure => omega
    case rel => exact ⟨k + 1, by omega, rfl, by go_num, by rw [HN.out, HALL.out, HFT.out]; rfl, rfl⟩
/-- What Run answers where all is well. -/
def RunIs (E : Env) (s0 : MS) (us : List Int) (q : Nat) (w : World) (e : Ending) (w' : World) : Prop :=
  Below w.heap.size w w' ∧ ∃ v, e = .returned (.tuple #[endV (runS E us q 0 s0).2.oc (runS E us q 0 s0).2.va (runS E us q 0 s0).1 v, .int .i64 0]) ∧
    w'.ownsRow w.heap.size 3 1 v (runS E us q 0 s0).2.out.length ((runS E us q 0 s0).2.out.map (.int .i64))
theorem RNew.rr {s : ByteArray} {zs : List Int} {n : Nat} {w w' : World} {b : Nat} {fs : List Fr} (h : RNew s zs (n : Int) w w' b) (h1 : 1 ≤ n) (h2 : n ≤ 32) (hinv : SetInv (codeOf s) (byteAt s 1) fs) (hst : Still (codeOf s) fs) :
    ∃ K : RK, K.b = b ∧ RR w.heap.size w' K (startS (byteAt s 1) n) ∧ RE K (envOf s fs zs n) ∧ EnvOk (envOf s fs zs n) ∧ MInv (envOf s fs zs n) (startS (byteAt s 1) n) := by
  have hb := h.below
  obtain ⟨R, all, eb, eA, el, ez, ems, hall, herr, hwt, hRM⟩ := RM.of_new h (by omega)
  have hok : EnvOk (envOf s fs zs n) := env_ok herr hwt hinv hst h1 h2
  rw [Int.toNat_natCast] at hRM
  refine ⟨R, eb, ⟨R.In (.slice none 0 0) (.slice none 0 0), ⟨_, _, hRM, fun _ h => h⟩, ?_, hb.size⟩, ⟨el, ez, ?_⟩, hok, start_inv_m hok⟩
  · rintro k (⟨h1, _⟩ | h1 | h1)
    · omega
    · cases h1
    · cases h1
  · rw [ems, ← maps_same (wf_of herr) hinv hst hwt hall]; rfl
set_option maxRecDepth 100000 in
set_option maxHeartbeats 1000000 in
theorem rRun_nil (s : ByteArray) (vi vu : Value) (zs : List Int) (n q : Nat) (fs : List Fr) (w : World) (hs : s.size ≤ maxLen) (ht : TakesTab w) (htt : TypeTab w) (hv : ArgInts w vi zs) (hu : ArgInts w vu []) (he : NewErr s zs.length (n : Int) 0) (hq : q ≤ 2000) (hinv : SetInv (codeOf s) (byteAt s 1) fs) (hsl : Still (codeOf s) fs) :
    Calls Tryz.prog 12 #[.string s, vi, .int .i64 n, vu, .int .i64 q] w (RunIs (envOf s fs zs n) (startS (byteAt s 1) n) [] q w) := by
  have hb0 : Below w.heap.size w (endBox w) := (Below.refl _ _).alloc (Nat.le_refl _) _
  have hn := hid (rnew_ok s vi zs n (endBox w) hs (ht.below hb0) (htt.below hb0) (hv.keep hb0) he)
  have HUB := hid (fun (W : World) (hb : Below (endBox w).heap.size (endBox w) W) => hu.argB (B := (endBox w).heap.size) (by simp [endBox]) (hb0.trans (hb.mono hb0.size)))
  have HB0 := hid hb0
  obtain ⟨p0, c0, e0⟩ := hv.slice
  subst e0
  obtain ⟨p1, c1, e1⟩ := hu.slice
  subst e1
  have hbx := heap_alloc_new w (.cells #[.int .i64 0, .int .i64 0, .int .i64 0, .slice none 0 0] 32)
  unfold endBox at *
  have HBX := hid hbx
  simp only [List.length_nil] at *
  obtain ⟨r1, r2, r3⟩ := newErr_range he
  clear hs ht htt hv hu he hb0 hbx
  go_enter Tryz.func12, Tryz.ntmps12
  go_wp2_with fail
  refine hn.out.mono ?_
  clear hn
  intro e w1 hp
  obtain ⟨b, hx, hN⟩ := hp
  subst e
  obtain ⟨K, eb, hP, hke, hok, hinv0⟩ := hN.rr (fs := fs) (by omega) (by omega) hinv hsl
  subst eb
  have hrow := (hN.below.block w.heap.size (by simp)).trans HBX.out
  have HB := hid (HB0.out.trans (hN.below.mono HB0.out.size))
  have HU1 := hid (HUB.out w1 hN.below)
  have HH := hid hP
  have HI := hid hinv0
  have HROW := hid hrow
  have hzs : (envOf s fs zs n).zs.length ≤ 64 := r3
  obtain ⟨E, hE⟩ : ∃ E, E = envOf s fs zs n := ⟨_, rfl⟩
  obtain ⟨s0, hs0⟩ : ∃ s0, s0 = startS (byteAt s 1) n := ⟨_, rfl⟩
  have h00 : s0.out.length = 0 := by rw [hs0]; rfl
  rw [← hE] at hke hok HI hzs ⊢
  rw [← hs0] at HH HI ⊢
  have HBS : Hid ((w.alloc (.cells #[.int .i64 0, .int .i64 0, .int .i64 0, .slice none 0 0] 32)).heap.size = w.heap.size + 1) := hid (by simp)
  have qs : ¬ (q : Int) < 0 := by omega
  have qt : ¬ (2000 : Int) < (q : Int) := by omega
  obtain ⟨B, hBd⟩ : ∃ B, B = (w.alloc (.cells #[.int .i64 0, .int .i64 0, .int .i64 0, .slice none 0 0] 32)).heap.size := ⟨_, rfl⟩
  rw [← hBd] at HH HU1 HBS
  have HE := hid hE
  have HS0 := hid hs0
  clear hN HBX HB0 HUB hP hinv0 hrow hinv hsl hE hs0 hBd
  go_wp2_with fail
  go_loopg [14] 1 (fun gk x w' => x = .int .i64 0 ∧ w1 = w')
  case atStart => exact ⟨rfl, rfl⟩
  case round =>
    obtain ⟨rfl, hw⟩ := hrel
    subst hw
    go_wp2_with fail
    go_loopg [15] q (fun gk x w' => ∃ (k : Nat) (t : MS), k ≤ q ∧ gk = q - k ∧ x = .int .i64 k ∧ RR B w' K t ∧ MInv E t ∧ t.out.length ≤ k ∧ Below B w1 w' ∧ runS E [] (q - k) k t = runS E [] q 0 s0)
    case atStart => exact ⟨0, s0, by omega, by omega, rfl, HH.out, HI.out, by omega, Below.refl _ _, rfl⟩
    case round =>
      obtain ⟨k2, t, hk, hgk, rfl, hP, hI, ho, hB, hR⟩ := hrel
      obtain ⟨hoc, hva, vO, hov, hown⟩ := hP.get
      have HP := hid hP
      have HI2 := hid hI
      have HB1 := hid hB
      have HR := hid hR
      clear hP hI hB hR HH HI
      rcases Nat.lt_or_ge k2 q with hlt2 | hge2
      · have d1' : (k2 : Int) < (q : Int) := by omega
        by_cases h0 : t.oc = 0
        · rw [h0] at hoc
          have HR2 : Hid (runS E [] (q - (k2 + 1)) (k2 + 1) (stepS E (preS E [] k2 t)) = runS E [] q 0 s0) := hid (by
            have := HR.out
            rw [show q - k2 = (q - (k2 + 1)) + 1 by omega] at this
            simp only [runS, if_pos h0] at this
            exact this)
          clear HR hov hown hva
          have hst := hid (fun (W : World) (hW : RR B W K (preS E [] k2 t)) => rr_step hW hke hok HI2.out.pre ((pre_oc E [] k2 t).1.trans h0) hzs (by rw [(pre_oc E [] k2 t).2]; omega))
          have hout : Hid ((stepS E (preS E [] k2 t)).out.length ≤ k2 + 1) := hid (by
            have := stepS_out E (preS E [] k2 t)
            rw [(pre_oc E [] k2 t).2] at this
            omega)
          have HI3 : Hid (MInv E (stepS E (preS E [] k2 t))) := hid (HI2.out.pre.step hok)
          have HPr : Hid (preS E [] k2 t = t) := hid rfl
          have hs1 := hid (hst.out wr (by rw [HPr.out]; exact HP.out))
          clear hst HP HI2
          go_wp2_with fail
          refine hs1.out.mono ?_
          clear hs1
          intro e w2 hp
          obtain ⟨hx, hP2, hB2⟩ := hp
          subst e
          have HP2 := hid hP2
          have HB3 := hid (HB1.out.trans hB2)
          clear hP2 hB2
          go_wp2_with fail
          go_roundg (q - (k2 + 1))
          case measure => omega
          case rel => exact ⟨k2 + 1, _, by omega, rfl, by go_num, HP2.out, HI3.out, hout.out, HB3.out, HR2.out⟩
        · have q0' : ((t.oc : Int) == 0) = false := by simp; omega
          have HRR : Hid (runS E [] q 0 s0 = (k2, t)) := hid (by
            have hr := HR.out
            rw [show q - k2 = (q - (k2 + 1)) + 1 by omega] at hr
            simp only [runS, if_neg h0] at hr
            exact hr.symm)
          clear HR
          obtain ⟨p3, c3, e3⟩ := owns_slice hown
          subst e3
          have hrow3 := (HB1.out.block w.heap.size (by have := HBS.out; omega)).trans HROW.out
          have k0 := cell_of_row wr w.heap.size 0 _ _ _ hrow3
          have k1 := cell_of_row wr w.heap.size 1 _ _ _ hrow3
          have kk2 := cell_of_row wr w.heap.size 2 _ _ _ hrow3
          have k3 := cell_of_row wr w.heap.size 3 _ _ _ hrow3
          have f0 := frozen_of_row wr w.heap.size 0 _ _ hrow3
          have f1 := frozen_of_row wr w.heap.size 1 _ _ hrow3
          have f2 := frozen_of_row wr w.heap.size 2 _ _ hrow3
          have f3 := frozen_of_row wr w.heap.size 3 _ _ hrow3
          simp only [List.getElem?_toArray, List.getElem?_cons_zero, List.getElem?_cons_succ] at k0 k1 kk2 k3
          have hz3 : w.heap.size < wr.heap.size := (Array.getElem?_eq_some_iff.1 hrow3).1
          have HW := hid hown
          have HR3 := hid hrow3
          clear hown hrow3
          go_wp2_with fail
          go_region
          clear k0 k1 kk2 k3 f0 f1 f2 f3 hoc hva hov
          obtain ⟨hr4, ho4⟩ := endRow HR3.out (.int .i64 t.oc) (.int .i64 t.va) (.int .i64 k2) (.slice p3 t.out.length c3)
          generalize ((((wr.setCell ⟨w.heap.size, 0, none⟩ (.int .i64 t.oc)).setCell ⟨w.heap.size, 1, none⟩ (.int .i64 t.va)).setCell ⟨w.heap.size, 2, none⟩ (.int .i64 k2)).setCell ⟨w.heap.size, 3, none⟩ (.slice p3 t.out.length c3)) = WF at *
          have hbd : Below WF.heap.size WF WF.drew := (Below.refl _ _).drew
          have hr5 : WF.drew.heap[w.heap.size]? = _ := (hbd.block w.heap.size (by rw [ho4.size]; exact hz3)).trans hr4
          have HFN : Hid (RunIs E s0 [] q w (.returned (.tuple #[endV t.oc t.va k2 (.slice p3 t.out.length c3), .int .i64 0])) WF.drew) := hid (by
            have hbs := HBS.out
            refine ⟨((HB.out.trans (HB1.out.mono (by omega))).trans (ho4.below (Nat.le_refl _))).trans (hbd.mono (by rw [ho4.size]; omega)), .slice p3 t.out.length c3, ?_, ?_⟩
            · rw [HRR.out]
            · rw [HRR.out]
              have h1 := owns_keep HW.out (w' := WF) (fun g hg => ho4.block g (by have := (HW.out.lt g hg).1; omega))
              have h2 := owns_keep h1 (w' := WF.drew) (fun g hg => hbd.block g (h1.lt g hg).2)
              exact owns_mono h2 (by omega))
          generalize WF.drew = WG at *
          have z0 := cell_of_row WG w.heap.size 0 _ _ _ hr5
          have z1 := cell_of_row WG w.heap.size 1 _ _ _ hr5
          have z2 := cell_of_row WG w.heap.size 2 _ _ _ hr5
          have z3 := cell_of_row WG w.heap.size 3 _ _ _ hr5
          simp only [List.getElem?_toArray, List.getElem?_cons_zero, List.getElem?_cons_succ] at z0 z1 z2 z3
          clear hr4 ho4 hr5 hbd HR3
          go_wp2_with fail
          refine bodyPost_ret (v := .tuple #[endV t.oc t.va k2 (.slice p3 t.out.length c3), .int .i64 0]) (by simp [results, Tryz.results12, go_sem, z0, z1, z2, z3, endV]) rfl ?_
          have hfin := HFN.out
          rw [HE.out, HS0.out] at hfin
          exact hfin
      · have d1' : ¬ (k2 : Int) < (q : Int) := by omega
        have HRR : Hid (runS E [] q 0 s0 = (k2, t)) := hid (by
          have hr := HR.out
          rw [show q - k2 = 0 by omega] at hr
          simp only [runS] at hr
          exact hr.symm)
        clear HR
        obtain ⟨p3, c3, e3⟩ := owns_slice hown
        subst e3
        have hrow3 := (HB1.out.block w.heap.size (by have := HBS.out; omega)).trans HROW.out
        have k0 := cell_of_row wr w.heap.size 0 _ _ _ hrow3
        have k1 := cell_of_row wr w.heap.size 1 _ _ _ hrow3
        have kk2 := cell_of_row wr w.heap.size 2 _ _ _ hrow3
        have k3 := cell_of_row wr w.heap.size 3 _ _ _ hrow3
        have f0 := frozen_of_row wr w.heap.size 0 _ _ hrow3
        have f1 := frozen_of_row wr w.heap.size 1 _ _ hrow3
        have f2 := frozen_of_row wr w.heap.size 2 _ _ hrow3
        have f3 := frozen_of_row wr w.heap.size 3 _ _ hrow3
        simp only [List.getElem?_toArray, List.getElem?_cons_zero, List.getElem?_cons_succ] at k0 k1 kk2 k3
        have hz3 : w.heap.size < wr.heap.size := (Array.getElem?_eq_some_iff.1 hrow3).1
        have HW := hid hown
        have HR3 := hid hrow3
        clear hown hrow3
        go_wp2_with fail
        go_region
        clear k0 k1 kk2 k3 f0 f1 f2 f3 hoc hva hov
        obtain ⟨hr4, ho4⟩ := endRow HR3.out (.int .i64 t.oc) (.int .i64 t.va) (.int .i64 k2) (.slice p3 t.out.length c3)
        generalize ((((wr.setCell ⟨w.heap.size, 0, none⟩ (.int .i64 t.oc)).setCell ⟨w.heap.size, 1, none⟩ (.int .i64 t.va)).setCell ⟨w.heap.size, 2, none⟩ (.int .i64 k2)).setCell ⟨w.heap.size, 3, none⟩ (.slice p3 t.out.length c3)) = WF at *
        have hbd : Below WF.heap.size WF WF.drew := (Below.refl _ _).drew
        have hr5 : WF.drew.heap[w.heap.size]? = _ := (hbd.block w.heap.size (by rw [ho4.size]; exact hz3)).trans hr4
        have HFN : Hid (RunIs E s0 [] q w (.returned (.tuple #[endV t.oc t.va k2 (.slice p3 t.out.length c3), .int .i64 0])) WF.drew) := hid (by
          have hbs := HBS.out
          refine ⟨((HB.out.trans (HB1.out.mono (by omega))).trans (ho4.below (Nat.le_refl _))).trans (hbd.mono (by rw [ho4.size]; omega)), .slice p3 t.out.length c3, ?_, ?_⟩
          · rw [HRR.out]
          · rw [HRR.out]
            have h1 := owns_keep HW.out (w' := WF) (fun g hg => ho4.block g (by have := (HW.out.lt g hg).1; omega))
            have h2 := owns_keep h1 (w' := WF.drew) (fun g hg => hbd.block g (h1.lt g hg).2)
            exact owns_mono h2 (by omega))
        generalize WF.drew = WG at *
        have z0 := cell_of_row WG w.heap.size 0 _ _ _ hr5
        have z1 := cell_of_row WG w.heap.size 1 _ _ _ hr5
        have z2 := cell_of_row WG w.heap.size 2 _ _ _ hr5
        have z3 := cell_of_row WG w.heap.size 3 _ _ _ hr5
        simp only [List.getElem?_toArray, List.getElem?_cons_zero, List.getElem?_cons_succ] at z0 z1 z2 z3
        clear hr4 ho4 hr5 hbd HR3
        go_wp2_with fail
        refine bodyPost_ret (v := .tuple #[endV t.oc t.va k2 (.slice p3 t.out.length c3), .int .i64 0]) (by simp [results, Tryz.results12, go_sem, z0, z1, z2, z3, endV]) rfl ?_
        have hfin := HFN.out
        rw [HE.out, HS0.out] at hfin
        exact hfin
set_option maxRecDepth 100000 in
set_option maxHeartbeats 1000000 in
theorem rRun_some (s : ByteArray) (vi vu : Value) (zs us : List Int) (n q : Nat) (fs : List Fr) (w : World) (hs : s.size ≤ maxLen) (ht : TakesTab w) (htt : TypeTab w) (hv : ArgInts w vi zs) (hu : ArgInts w vu us) (hul : us.length ≤ 17592186044416) (hu0 : 0 < us.length) (hf : us.all fitsB = true) (he : NewErr s zs.length (n : Int) 0) (hq : q ≤ 2000) (hinv : SetInv (codeOf s) (byteAt s 1) fs) (hsl : Still (codeOf s) fs) :
    Calls Tryz.prog 12 #[.string s, vi, .int .i64 n, vu, .int .i64 q] w (RunIs (envOf s fs zs n) (startS (byteAt s 1) n) us q w) := by
  have hb0 : Below w.heap.size w (endBox w) := (Below.refl _ _).alloc (Nat.le_refl _) _
  have hn := hid (rnew_ok s vi zs n (endBox w) hs (ht.below hb0) (htt.below hb0) (hv.keep hb0) he)
  have HUB := hid (fun (W : World) (hb : Below (endBox w).heap.size (endBox w) W) => hu.argB (B := (endBox w).heap.size) (by simp [endBox]) (hb0.trans (hb.mono hb0.size)))
  have HB0 := hid hb0
  obtain ⟨p0, c0, e0⟩ := hv.slice
  subst e0
  obtain ⟨p1, c1, e1⟩ := hu.slice
  subst e1
  have hbx := heap_alloc_new w (.cells #[.int .i64 0, .int .i64 0, .int .i64 0, .slice none 0 0] 32)
  unfold endBox at *
  have HBX := hid hbx
  obtain ⟨r1, r2, r3⟩ := newErr_range he
  clear hs ht htt hv hu he hb0 hbx
  go_enter Tryz.func12, Tryz.ntmps12
  go_wp2_with fail
  refine hn.out.mono ?_
  clear hn
  intro e w1 hp
  obtain ⟨b, hx, hN⟩ := hp
  subst e
  obtain ⟨K, eb, hP, hke, hok, hinv0⟩ := hN.rr (fs := fs) (by omega) (by omega) hinv hsl
  subst eb
  have hrow := (hN.below.block w.heap.size (by simp)).trans HBX.out
  have HB := hid (HB0.out.trans (hN.below.mono HB0.out.size))
  have HU1 := hid (HUB.out w1 hN.below)
  have HH := hid hP
  have HI := hid hinv0
  have HROW := hid hrow
  have hzs : (envOf s fs zs n).zs.length ≤ 64 := r3
  obtain ⟨E, hE⟩ : ∃ E, E = envOf s fs zs n := ⟨_, rfl⟩
  obtain ⟨s0, hs0⟩ : ∃ s0, s0 = startS (byteAt s 1) n := ⟨_, rfl⟩
  have h00 : s0.out.length = 0 := by rw [hs0]; rfl
  rw [← hE] at hke hok HI hzs ⊢
  rw [← hs0] at HH HI ⊢
  have HBS : Hid ((w.alloc (.cells #[.int .i64 0, .int .i64 0, .int .i64 0, .slice none 0 0] 32)).heap.size = w.heap.size + 1) := hid (by simp)
  have qs : ¬ (q : Int) < 0 := by omega
  have qt : ¬ (2000 : Int) < (q : Int) := by omega
  obtain ⟨B, hBd⟩ : ∃ B, B = (w.alloc (.cells #[.int .i64 0, .int .i64 0, .int .i64 0, .slice none 0 0] 32)).heap.size := ⟨_, rfl⟩
  rw [← hBd] at HH HU1 HBS
  have HE := hid hE
  have HS0 := hid hs0
  clear hN HBX HB0 HUB hP hinv0 hrow hinv hsl hE hs0 hBd
  have HF := hid hf
  clear hf
  go_wp2_with fail
  go_loopg [14] us.length (fun gk x w' => ∃ k : Nat, k ≤ us.length ∧ gk = us.length - k ∧ x = .int .i64 k ∧ w1 = w')
  case atStart => exact ⟨0, by omega, by omega, rfl, rfl⟩
  case round =>
    obtain ⟨k, hk, hgk, rfl, hw⟩ := hrel
    subst hw
    rcases Nat.lt_or_ge k us.length with hlt | hge
    · have d0 : (0 : Int) ≤ (k : Int) := by omega
      have d1 : (k : Int) < (us.length : Int) := by omega
      have d2 : (k : Int) + 1 ≤ 17592186044416 := by omega
      rcases HU1.out.1 with ⟨_, h0⟩ | ⟨a, cap, hv, hcell, hbl⟩
      · rw [h0] at hlt; simp at hlt
      cases hv
      have y0 := hcell k us[k] (List.getElem?_eq_getElem hlt)
      have hfit := List.all_eq_true.1 HF.out us[k] (List.getElem_mem hlt)
      unfold fitsB at hfit
      simp only [Bool.and_eq_true, decide_eq_true_eq] at hfit
      clear hcell hbl
      generalize us[k] = u at *
      have u0 : ¬ u < 0 := by omega
      have u1 : ¬ 1000 < u := by omega
      go_wp2_with fail
      go_roundg (us.length - (k + 1))
      case measure => omega
      case rel => exact ⟨k + 1, by omega, rfl, by go_num, rfl⟩
    have dx : ¬ (k : Int) < (us.length : Int) := by omega
    clear hk hgk hge
    go_wp2_with fail
    go_loopg [15] q (fun gk x w' => ∃ (k : Nat) (t : MS), k ≤ q ∧ gk = q - k ∧ x = .int .i64 k ∧ RR B w' K t ∧ MInv E t ∧ t.out.length ≤ k ∧ Below B w1 w' ∧ runS E us (q - k) k t = runS E us q 0 s0)
    case atStart => exact ⟨0, s0, by omega, by omega, rfl, HH.out, HI.out, by omega, Below.refl _ _, rfl⟩
    case round =>
      obtain ⟨k2, t, hk, hgk, rfl, hP, hI, ho, hB, hR⟩ := hrel
      obtain ⟨hoc, hva, vO, hov, hown⟩ := hP.get
      have HP := hid hP
      have HI2 := hid hI
      have HB1 := hid hB
      have HR := hid hR
      clear hP hI hB hR HH HI
      rcases Nat.lt_or_ge k2 q with hlt2 | hge2
      · have d1' : (k2 : Int) < (q : Int) := by omega
        by_cases h0 : t.oc = 0
        · rw [h0] at hoc
          have HR2 : Hid (runS E us (q - (k2 + 1)) (k2 + 1) (stepS E (preS E us k2 t)) = runS E us q 0 s0) := hid (by
            have := HR.out
            rw [show q - k2 = (q - (k2 + 1)) + 1 by omega] at this
            simp only [runS, if_pos h0] at this
            exact this)
          clear HR hov hown hva
          have hst := hid (fun (W : World) (hW : RR B W K (preS E us k2 t)) => rr_step hW hke hok HI2.out.pre ((pre_oc E us k2 t).1.trans h0) hzs (by rw [(pre_oc E us k2 t).2]; omega))
          have hout : Hid ((stepS E (preS E us k2 t)).out.length ≤ k2 + 1) := hid (by
            have := stepS_out E (preS E us k2 t)
            rw [(pre_oc E us k2 t).2] at this
            omega)
          have HI3 : Hid (MInv E (stepS E (preS E us k2 t))) := hid (HI2.out.pre.step hok)
          obtain ⟨m, hm0⟩ : ∃ m, m = k2 % us.length := ⟨_, rfl⟩
          have hml : m < us.length := by rw [hm0]; exact Nat.mod_lt _ hu0
          have hmod : (k2 : Int) % (us.length : Int) = (m : Int) := by rw [hm0]; rfl
          have d3 : (0 : Int) ≤ (m : Int) := by omega
          have d4 : (m : Int) < (us.length : Int) := by omega
          have q0 : (0 : Int) < (us.length : Int) := by omega
          have hub := HU1.out.keep HB1.out
          rcases hub.1 with ⟨_, hn⟩ | ⟨a, cap, hv, hcell, _⟩
          · rw [hn] at hu0; simp at hu0
          cases hv
          have y0 := hcell m us[m] (List.getElem?_eq_getElem hml)
          have hfit := List.all_eq_true.1 HF.out us[m] (List.getElem_mem hml)
          unfold fitsB at hfit
          simp only [Bool.and_eq_true, decide_eq_true_eq] at hfit
          obtain ⟨u, hu⟩ : ∃ u : Nat, us[m] = (u : Int) := ⟨us[m].toNat, by omega⟩
          rw [hu] at y0 hfit
          have HPr : Hid (preS E us k2 t = collS E u t) := hid (by
            unfold preS
            rw [if_neg (by omega), ← hm0, List.getD_eq_getElem?_getD, List.getElem?_eq_getElem hml]
            simp [hu])
          have hcl := hid (rr_coll HP.out hke hok HI2.out u (by omega))
          clear hcell hub hu hfit hm0 HP HI2
          go_wp2_with fail
          refine hcl.out.mono ?_
          clear hcl
          intro e w4 hp
          obtain ⟨hx, hP1, hB1⟩ := hp
          subst e
          have hs1 := hid (hst.out w4 (by rw [HPr.out]; exact hP1))
          have HB2 := hid (HB1.out.trans hB1)
          clear hst hP1 hB1 HB1 hoc y0
          go_wp2_with fail
          refine hs1.out.mono ?_
          clear hs1
          intro e w2 hp
          obtain ⟨hx, hP2, hB2⟩ := hp
          subst e
          have HP2 := hid hP2
          have HB3 := hid (HB2.out.trans hB2)
          clear hP2 hB2
          go_wp2_with fail
          go_roundg (q - (k2 + 1))
          case measure => omega
          case rel => exact ⟨k2 + 1, _, by omega, rfl, by go_num, HP2.out, HI3.out, hout.out, HB3.out, HR2.out⟩
        · have q0' : ((t.oc : Int) == 0) = false := by simp; omega
          have HRR : Hid (runS E us q 0 s0 = (k2, t)) := hid (by
            have hr := HR.out
            rw [show q - k2 = (q - (k2 + 1)) + 1 by omega] at hr
            simp only [runS, if_neg h0] at hr
            exact hr.symm)
          clear HR
          obtain ⟨p3, c3, e3⟩ := owns_slice hown
          subst e3
          have hrow3 := (HB1.out.block w.heap.size (by have := HBS.out; omega)).trans HROW.out
          have k0 := cell_of_row wr w.heap.size 0 _ _ _ hrow3
          have k1 := cell_of_row wr w.heap.size 1 _ _ _ hrow3
          have kk2 := cell_of_row wr w.heap.size 2 _ _ _ hrow3
          have k3 := cell_of_row wr w.heap.size 3 _ _ _ hrow3
          have f0 := frozen_of_row wr w.heap.size 0 _ _ hrow3
          have f1 := frozen_of_row wr w.heap.size 1 _ _ hrow3
          have f2 := frozen_of_row wr w.heap.size 2 _ _ hrow3
          have f3 := frozen_of_row wr w.heap.size 3 _ _ hrow3
          simp only [List.getElem?_toArray, List.getElem?_cons_zero, List.getElem?_cons_succ] at k0 k1 kk2 k3
          have hz3 : w.heap.size < wr.heap.size := (Array.getElem?_eq_some_iff.1 hrow3).1
          have HW := hid hown
          have HR3 := hid hrow3
          clear hown hrow3
          go_wp2_with fail
          go_region
          clear k0 k1 kk2 k3 f0 f1 f2 f3 hoc hva hov
          obtain ⟨hr4, ho4⟩ := endRow HR3.out (.int .i64 t.oc) (.int .i64 t.va) (.int .i64 k2) (.slice p3 t.out.length c3)
          generalize ((((wr.setCell ⟨w.heap.size, 0, none⟩ (.int .i64 t.oc)).setCell ⟨w.heap.size, 1, none⟩ (.int .i64 t.va)).setCell ⟨w.heap.size, 2, none⟩ (.int .i64 k2)).setCell ⟨w.heap.size, 3, none⟩ (.slice p3 t.out.length c3)) = WF at *
          have hbd : Below WF.heap.size WF WF.drew := (Below.refl _ _).drew
          have hr5 : WF.drew.heap[w.heap.size]? = _ := (hbd.block w.heap.size (by rw [ho4.size]; exact hz3)).trans hr4
          have HFN : Hid (RunIs E s0 us q w (.returned (.tuple #[endV t.oc t.va k2 (.slice p3 t.out.length c3), .int .i64 0])) WF.drew) := hid (by
            have hbs := HBS.out
            refine ⟨((HB.out.trans (HB1.out.mono (by omega))).trans (ho4.below (Nat.le_refl _))).trans (hbd.mono (by rw [ho4.size]; omega)), .slice p3 t.out.length c3, ?_, ?_⟩
            · rw [HRR.out]
            · rw [HRR.out]
              have h1 := owns_keep HW.out (w' := WF) (fun g hg => ho4.block g (by have := (HW.out.lt g hg).1; omega))
              have h2 := owns_keep h1 (w' := WF.drew) (fun g hg => hbd.block g (h1.lt g hg).2)
              exact owns_mono h2 (by omega))
          generalize WF.drew = WG at *
          have z0 := cell_of_row WG w.heap.size 0 _ _ _ hr5
          have z1 := cell_of_row WG w.heap.size 1 _ _ _ hr5
          have z2 := cell_of_row WG w.heap.size 2 _ _ _ hr5
          have z3 := cell_of_row WG w.heap.size 3 _ _ _ hr5
          simp only [List.getElem?_toArray, List.getElem?_cons_zero, List.getElem?_cons_succ] at z0 z1 z2 z3
          clear hr4 ho4 hr5 hbd HR3
          go_wp2_with fail
          refine bodyPost_ret (v := .tuple #[endV t.oc t.va k2 (.slice p3 t.out.length c3), .int .i64 0]) (by simp [results, Tryz.results12, go_sem, z0, z1, z2, z3, endV]) rfl ?_
          have hfin := HFN.out
          rw [HE.out, HS0.out] at hfin
          exact hfin
      · have d1' : ¬ (k2 : Int) < (q : Int) := by omega
        have HRR : Hid (runS E us q 0 s0 = (k2, t)) := hid (by
          have hr := HR.out
          rw [show q - k2 = 0 by omega] at hr
          simp only [runS] at hr
          exact hr.symm)
        clear HR
        obtain ⟨p3, c3, e3⟩ := owns_slice hown
        subst e3
        have hrow3 := (HB1.out.block w.heap.size (by have := HBS.out; omega)).trans HROW.out
        have k0 := cell_of_row wr w.heap.size 0 _ _ _ hrow3
        have k1 := cell_of_row wr w.heap.size 1 _ _ _ hrow3
        have kk2 := cell_of_row wr w.heap.size 2 _ _ _ hrow3
        have k3 := cell_of_row wr w.heap.size 3 _ _ _ hrow3
        have f0 := frozen_of_row wr w.heap.size 0 _ _ hrow3
        have f1 := frozen_of_row wr w.heap.size 1 _ _ hrow3
        have f2 := frozen_of_row wr w.heap.size 2 _ _ hrow3
        have f3 := frozen_of_row wr w.heap.size 3 _ _ hrow3
        simp only [List.getElem?_toArray, List.getElem?_cons_zero, List.getElem?_cons_succ] at k0 k1 kk2 k3
        have hz3 : w.heap.size < wr.heap.size := (Array.getElem?_eq_some_iff.1 hrow3).1
        have HW := hid hown
        have HR3 := hid hrow3
        clear hown hrow3
        go_wp2_with fail
        go_region
        clear k0 k1 kk2 k3 f0 f1 f2 f3 hoc hva hov
        obtain ⟨hr4, ho4⟩ := endRow HR3.out (.int .i64 t.oc) (.int .i64 t.va) (.int .i64 k2) (.slice p3 t.out.length c3)
        generalize ((((wr.setCell ⟨w.heap.size, 0, none⟩ (.int .i64 t.oc)).setCell ⟨w.heap.size, 1, none⟩ (.int .i64 t.va)).setCell ⟨w.heap.size, 2, none⟩ (.int .i64 k2)).setCell ⟨w.heap.size, 3, none⟩ (.slice p3 t.out.length c3)) = WF at *
        have hbd : Below WF.heap.size WF WF.drew := (Below.refl _ _).drew
        have hr5 : WF.drew.heap[w.heap.size]? = _ := (hbd.block w.heap.size (by rw [ho4.size]; exact hz3)).trans hr4
        have HFN : Hid (RunIs E s0 us q w (.returned (.tuple #[endV t.oc t.va k2 (.slice p3 t.out.length c3), .int .i64 0])) WF.drew) := hid (by
          have hbs := HBS.out
          refine ⟨((HB.out.trans (HB1.out.mono (by omega))).trans (ho4.below (Nat.le_refl _))).trans (hbd.mono (by rw [ho4.size]; omega)), .slice p3 t.out.length c3, ?_, ?_⟩
          · rw [HRR.out]
          · rw [HRR.out]
            have h1 := owns_keep HW.out (w' := WF) (fun g hg => ho4.block g (by have := (HW.out.lt g hg).1; omega))
            have h2 := owns_keep h1 (w' := WF.drew) (fun g hg => hbd.block g (h1.lt g hg).2)
            exact owns_mono h2 (by omega))
        generalize WF.drew = WG at *
        have z0 := cell_of_row WG w.heap.size 0 _ _ _ hr5
        have z1 := cell_of_row WG w.heap.size 1 _ _ _ hr5
        have z2 := cell_of_row WG w.heap.size 2 _ _ _ hr5
        have z3 := cell_of_row WG w.heap.size 3 _ _ _ hr5
        simp only [List.getElem?_toArray, List.getElem?_cons_zero, List.getElem?_cons_succ] at z0 z1 z2 z3
        clear hr4 ho4 hr5 hbd HR3
        go_wp2_with fail
        refine bodyPost_ret (v := .tuple #[endV t.oc t.va k2 (.slice p3 t.out.length c3), .int .i64 0]) (by simp [results, Tryz.results12, go_sem, z0, z1, z2, z3, endV]) rfl ?_
        have hfin := HFN.out
        rw [HE.out, HS0.out] at hfin
        exact hfin
/-- The reference's Run, whole. -/
theorem rRun_any (s : ByteArray) (vi vu : Value) (zs us : List Int) (cells steps : Int) (w : World) (hs : s.size ≤ maxLen) (ht : TakesTab w) (htt : TypeTab w) (hv : ArgInts w vi zs) (hvl : zs.length ≤ 17592186044416) (hu : ArgInts w vu us) (hul : us.length ≤ 17592186044416) (r : Nat) (he : RunErr s zs.length cells us steps r) (fs : List Fr) (hfs : r = 0 → SetInv (codeOf s) (byteAt s 1) fs ∧ Still (codeOf s) fs) :
    Calls Tryz.prog 12 #[.string s, vi, .int .i64 cells, vu, .int .i64 steps] w fun e w' => (r ≠ 0 ∧ RunBad r w e w') ∨ (r = 0 ∧ ∃ n q : Nat, cells = (n : Int) ∧ steps = (q : Int) ∧ RunIs (envOf s fs zs n) (startS (byteAt s 1) n) us q w e w') := by
  rcases he with ⟨h1, h2⟩ | ⟨h1, h2, rfl⟩ | ⟨h1, h2, h3, h4, rfl⟩
  · exact (rRun_bad s vi vu zs us cells steps w hs ht htt hv hvl hu r h1 h2).mono (fun e w' h => .inl ⟨h1, h⟩)
  · obtain ⟨r1, r2, _⟩ := newErr_range h1
    obtain ⟨n, rfl⟩ : ∃ n : Nat, cells = (n : Int) := ⟨cells.toNat, by omega⟩
    by_cases hn : steps < 0
    · exact (rRun_neg s vi vu zs us n steps w hs ht htt hv hu h1 hn).mono (fun e w' h => .inl ⟨by omega, h⟩)
    by_cases hf : 2000 < steps
    · exact (rRun_far s vi vu zs us n steps w hs ht htt hv hu h1 hn hf).mono (fun e w' h => .inl ⟨by omega, h⟩)
    have hun : us.all fitsB = false := by
      rcases h2 with h | h | h
      · exact h
      · omega
      · omega
    exact (rRun_unfit s vi vu zs us n steps w hs ht htt hv hu hul h1 hn hf hun).mono (fun e w' h => .inl ⟨by omega, h⟩)
  · obtain ⟨r1, r2, _⟩ := newErr_range h1
    obtain ⟨n, rfl⟩ : ∃ n : Nat, cells = (n : Int) := ⟨cells.toNat, by omega⟩
    obtain ⟨q, rfl⟩ : ∃ q : Nat, steps = (q : Int) := ⟨steps.toNat, by omega⟩
    obtain ⟨g1, g2⟩ := hfs rfl
    rcases Nat.eq_zero_or_pos us.length with h0 | h0
    · have : us = [] := List.length_eq_zero_iff.1 h0
      subst this
      exact (rRun_nil s vi vu zs n q fs w hs ht htt hv hu h1 (by omega) g1 g2).mono (fun e w' h => .inr ⟨rfl, n, q, rfl, rfl, h⟩)
    · exact (rRun_some s vi vu zs us n q fs w hs ht htt hv hu hul h0 h2 h1 (by omega) g1 g2).mono (fun e w' h => .inr ⟨rfl, n, q, rfl, rfl, h⟩)
end Go.Proofs.YtdmdpindonghdaaGreatDoor
namespace Go.Proofs.YtdmdpindonghdaaGreatDoor
open Go.RowKit
/-- What Run answers: an end, an error. -/
def EndPost (oc va k : Int) (o : List Int) (r : Nat) (w : World) (e : Ending) (w' : World) : Prop :=
  Below w.heap.size w w' ∧ ∃ v, e = .returned (.tuple #[endV oc va k v, .int .i64 r]) ∧ w'.ownsRow w.heap.size 3 1 v o.length (o.map (.int .i64))
/-- The end of a run, in plain words. -/
def RunVal (s : ByteArray) (zs : List Int) (cells : Int) (us : List Int) (steps : Int) (r : Nat) (oc va k : Int) (o : List Int) : Prop :=
  (r ≠ 0 ∧ RunErr s zs.length cells us steps r ∧ oc = 0 ∧ va = 0 ∧ k = 0 ∧ o = []) ∨
  (r = 0 ∧ RunErr s zs.length cells us steps 0 ∧ ∃ (n q : Nat) (fs : List Fr) (all : List Pt), cells = (n : Int) ∧ steps = (q : Int) ∧ q ≤ 2000 ∧ errOf s = 0 ∧ WT (codeOf s) (byteAt s 1) ∧ SetInv (codeOf s) (byteAt s 1) fs ∧ Still (codeOf s) fs ∧ (∀ p, Reach (codeOf s) (byteAt s 1) p ↔ p ∈ all) ∧
    oc = (runS (envOf s fs zs n) us q 0 (startS (byteAt s 1) n)).2.oc ∧ va = (runS (envOf s fs zs n) us q 0 (startS (byteAt s 1) n)).2.va ∧ k = (runS (envOf s fs zs n) us q 0 (startS (byteAt s 1) n)).1 ∧ o = (runS (envOf s fs zs n) us q 0 (startS (byteAt s 1) n)).2.out)
theorem RunVal.err {s : ByteArray} {zs : List Int} {cells : Int} {us : List Int} {steps : Int} {r : Nat} {oc va k : Int} {o : List Int} (h : RunVal s zs cells us steps r oc va k o) : RunErr s zs.length cells us steps r := by
  rcases h with ⟨_, h, _⟩ | ⟨rfl, h, _⟩ <;> exact h
theorem RunVal.len {s : ByteArray} {zs : List Int} {cells : Int} {us : List Int} {steps : Int} {r : Nat} {oc va k : Int} {o : List Int} (h : RunVal s zs cells us steps r oc va k o) : o.length ≤ 2000 := by
  rcases h with ⟨_, _, _, _, _, rfl⟩ | ⟨rfl, _, n, q, fs, all, _, _, hq, _, _, _, _, _, _, _, _, rfl⟩
  · simp
  · have := run_out (envOf s fs zs n) us q 0 (startS (byteAt s 1) n) (Nat.le_refl _)
    omega
theorem env_same {s : ByteArray} {zs : List Int} {n : Nat} {fs fs' : List Fr} {all : List Pt} (he : errOf s = 0) (hwt : WT (codeOf s) (byteAt s 1)) (hi : SetInv (codeOf s) (byteAt s 1) fs) (hs : Still (codeOf s) fs) (hi' : SetInv (codeOf s) (byteAt s 1) fs') (hs' : Still (codeOf s) fs') (hall : ∀ p, Reach (codeOf s) (byteAt s 1) p ↔ p ∈ all) : envOf s fs' zs n = envOf s fs zs n := by
  unfold envOf
  rw [maps_same (wf_of he) hi hs hwt hall, maps_same (wf_of he) hi' hs' hwt hall]
theorem runErr_uniq {s : ByteArray} {nz : Nat} {cells : Int} {us : List Int} {steps : Int} (h : RunErr s nz cells us steps 0) : NewErr s nz cells 0 ∧ us.all fitsB = true ∧ 0 ≤ steps ∧ steps ≤ 2000 := by
  rcases h with ⟨h, _⟩ | ⟨_, _, h⟩ | ⟨h1, h2, h3, h4, _⟩
  · exact absurd rfl h
  · cases h
  · exact ⟨h1, h2, h3, h4⟩
theorem pRun_val {s : ByteArray} {vi vu : Value} {zs us : List Int} {cells steps : Int} {r : Nat} {oc va k : Int} {o : List Int} (h : RunVal s zs cells us steps r oc va k o) {w : World} (hs : s.size ≤ maxLen) (ht : FlowTab w) (hv : ArgInts w vi zs) (hu : ArgInts w vu us) (hul : us.length ≤ 17592186044416) :
    Calls Tryz.prog 11 #[.string s, vi, .int .i64 cells, vu, .int .i64 steps] w (EndPost oc va k o r w) := by
  refine (pRun_any s vi vu zs us cells steps w hs ht hv hu hul r h.err).mono ?_
  rintro e w' (⟨h0, h1, h2⟩ | ⟨h0, n, q, hc, hq, _, _, _, hb, fs', v, _, hwt', hi', hs', he, hown⟩)
  · rcases h with ⟨_, _, rfl, rfl, rfl, rfl⟩ | ⟨h, _⟩
    · exact ⟨h2, .slice none 0 0, h1, ⟨rfl, .inl ⟨rfl, rfl⟩⟩⟩
    · exact absurd h h0
  · rcases h with ⟨h, _⟩ | ⟨_, _, n', q', fs, all, hc', hq', _, herr, hwt, hi, hst, hall, rfl, rfl, rfl, rfl⟩
    · exact absurd h0 h
    · obtain rfl : n = n' := by omega
      obtain rfl : q = q' := by omega
      subst h0
      rw [env_same herr hwt hi hst hi' hs' hall] at he hown
      exact ⟨hb, v, he, hown⟩
theorem rRun_val {s : ByteArray} {vi vu : Value} {zs us : List Int} {cells steps : Int} {r : Nat} {oc va k : Int} {o : List Int} (h : RunVal s zs cells us steps r oc va k o) {w : World} (hs : s.size ≤ maxLen) (ht : TakesTab w) (htt : TypeTab w) (hv : ArgInts w vi zs) (hvl : zs.length ≤ 17592186044416) (hu : ArgInts w vu us) (hul : us.length ≤ 17592186044416) :
    Calls Tryz.prog 12 #[.string s, vi, .int .i64 cells, vu, .int .i64 steps] w (EndPost oc va k o r w) := by
  have herr := h.err
  rcases h with ⟨h0, _, rfl, rfl, rfl, rfl⟩ | ⟨h0, _, n', q', fs, all, hc', hq', _, _, hwt, hi, hst, hall, rfl, rfl, rfl, rfl⟩
  · refine (rRun_any s vi vu zs us cells steps w hs ht htt hv hvl hu hul r herr [] (fun e => absurd e h0)).mono ?_
    rintro e w' (⟨_, h1, h2⟩ | ⟨h, _⟩)
    · exact ⟨h2, .slice none 0 0, h1, ⟨rfl, .inl ⟨rfl, rfl⟩⟩⟩
    · exact absurd h h0
  · refine (rRun_any s vi vu zs us cells steps w hs ht htt hv hvl hu hul r herr fs (fun _ => ⟨hi, hst⟩)).mono ?_
    rintro e w' (⟨h, _⟩ | ⟨_, n, q, hc, hq, hb, v, he, hown⟩)
    · exact absurd h0 h
    · obtain rfl : n = n' := by omega
      obtain rfl : q = q' := by omega
      subst h0
      exact ⟨hb, v, he, hown⟩
/-- There is an end of every run. -/
theorem runVal_ex {s : ByteArray} {zs : List Int} {cells : Int} {us : List Int} {steps : Int} {w w' : World} {e : Ending} (h : BeginPost s zs cells w e w') : ∃ r oc va k o, RunVal s zs cells us steps r oc va k o := by
  have bad : ∀ r, r ≠ 0 → RunErr s zs.length cells us steps r → ∃ r oc va k o, RunVal s zs cells us steps r oc va k o := fun r h0 hr => ⟨r, 0, 0, 0, [], .inl ⟨h0, hr, rfl, rfl, rfl, rfl⟩⟩
  rcases h with ⟨r, h0, hr, _⟩ | ⟨n, q, K, R, hc, he, _, hB⟩
  · exact bad r h0 (.inl ⟨h0, hr⟩)
  · obtain ⟨r, hr⟩ := runErr_all s zs.length cells us steps ⟨0, he⟩
    by_cases h0 : r = 0
    · subst h0
      obtain ⟨_, h2, h3, h4⟩ := runErr_uniq hr
      obtain ⟨all, _, hall⟩ := hB.rms
      exact ⟨0, _, _, _, _, .inr ⟨rfl, hr, n, steps.toNat, K.fs, all, hc, by omega, by omega, hB.err, hB.wt, hB.inv, hB.still, hall, rfl, rfl, rfl, rfl⟩⟩
    · exact bad r h0 hr
theorem ZsAt.below {w w' : World} {v : Value} {zs : List Int} (h : ZsAt w v zs) (hb : Below w.heap.size w w') : ZsAt w' v zs := by
  rcases h with h | ⟨a, cap, hv, hc⟩
  · exact .inl h
  · exact .inr ⟨a, cap, hv, fun j x hj => (hb.cell (p := a.add j) (World.block_lt_of_cell? w _ (hc j x hj))).trans (hc j x hj)⟩
theorem Below.drewN (w : World) (n : Nat) : Below w.heap.size w (w.drewN n) := ⟨rfl, rfl, rfl, Nat.le_refl _, fun _ _ => rfl⟩
set_option maxRecDepth 100000 in
set_option maxHeartbeats 1000000 in
theorem sameEnd_any (oc va k : Int) (o : List Int) (v1 v2 : Value) (w : World) (h1 : ZsAt w v1 o) (h2 : ZsAt w v2 o) (hl : o.length ≤ 2000) :
    Calls Tryz.prog 13 #[endV oc va k v1, endV oc va k v2] w fun e w' => e = .returned (.bool true) ∧ Below w.heap.size w w' := by
  have hsm := hid (fun (W : World) (hb : Below w.heap.size w W) => sameZs_any o v1 v2 W (h1.below hb) (h2.below hb) (by omega))
  obtain ⟨p1, c1, e1⟩ := h1.slice
  subst e1
  obtain ⟨p2, c2, e2⟩ := h2.slice
  subst e2
  unfold endV
  have b1 := heap_alloc_new w (.cells #[.int .i64 oc, .int .i64 va, .int .i64 k, .slice p1 o.length c1] 32)
  have a1 : Below w.heap.size w (w.alloc (.cells #[.int .i64 oc, .int .i64 va, .int .i64 k, .slice p1 o.length c1] 32)) := (Below.refl _ _).alloc (Nat.le_refl _) _
  have b2 := heap_alloc_new (w.alloc (.cells #[.int .i64 oc, .int .i64 va, .int .i64 k, .slice p1 o.length c1] 32)) (.cells #[.int .i64 oc, .int .i64 va, .int .i64 k, .slice p2 o.length c2] 32)
  have a2 : Below (w.alloc (.cells #[.int .i64 oc, .int .i64 va, .int .i64 k, .slice p1 o.length c1] 32)).heap.size (w.alloc (.cells #[.int .i64 oc, .int .i64 va, .int .i64 k, .slice p1 o.length c1] 32)) ((w.alloc (.cells #[.int .i64 oc, .int .i64 va, .int .i64 k, .slice p1 o.length c1] 32)).alloc (.cells #[.int .i64 oc, .int .i64 va, .int .i64 k, .slice p2 o.length c2] 32)) := (Below.refl _ _).alloc (Nat.le_refl _) _
  have b1' := (a2.block w.heap.size (by simp)).trans b1
  have a12 := a1.trans (a2.mono a1.size)
  have hs1 := hid (hsm.out _ a12)
  have es : (w.alloc (.cells #[.int .i64 oc, .int .i64 va, .int .i64 k, .slice p1 o.length c1] 32)).heap.size = w.heap.size + 1 := by simp
  rw [es] at b2
  have B1 := hid b1'
  have B2 := hid b2
  have A12 := hid a12
  have ES : Hid (w.heap.size + 1 < ((w.alloc (.cells #[.int .i64 oc, .int .i64 va, .int .i64 k, .slice p1 o.length c1] 32)).alloc (.cells #[.int .i64 oc, .int .i64 va, .int .i64 k, .slice p2 o.length c2] 32)).heap.size) := hid (by simp)
  clear h1 h2 hsm b1 a1 b2 a2 b1' a12 es
  go_enter Tryz.func13, Tryz.ntmps13
  go_wp2_with fail
  refine hs1.out.mono ?_
  clear hs1
  intro e w3 hp
  obtain ⟨hx, nd, hw⟩ := hp
  subst e
  have hb := Below.drewN ((w.alloc (.cells #[.int .i64 oc, .int .i64 va, .int .i64 k, .slice p1 o.length c1] 32)).alloc (.cells #[.int .i64 oc, .int .i64 va, .int .i64 k, .slice p2 o.length c2] 32)) nd
  rw [← hw] at hb
  have r1 := (hb.block w.heap.size (by have := ES.out; omega)).trans B1.out
  have r2 := (hb.block (w.heap.size + 1) ES.out).trans B2.out
  have x0 := cell_of_row w3 w.heap.size 0 _ _ _ r1
  have x1 := cell_of_row w3 w.heap.size 1 _ _ _ r1
  have x2 := cell_of_row w3 w.heap.size 2 _ _ _ r1
  have y0 := cell_of_row w3 (w.heap.size + 1) 0 _ _ _ r2
  have y1 := cell_of_row w3 (w.heap.size + 1) 1 _ _ _ r2
  have y2 := cell_of_row w3 (w.heap.size + 1) 2 _ _ _ r2
  simp only [List.getElem?_toArray, List.getElem?_cons_zero, List.getElem?_cons_succ] at x0 x1 x2 y0 y1 y2
  have HB := hid (A12.out.trans (hb.mono A12.out.size))
  clear hw hb r1 r2 B1 B2 A12 ES
  go_wp2_with fail
  go_ret
  exact ⟨rfl, HB.out⟩
theorem ArgInts.of_row {w : World} {g cap : Nat} {zs : List Int} {r : List Value} {t : TypeId} (h : w.heap[g]? = some (.cells (zs.map (Value.int .i64) ++ r).toArray t)) : ArgInts w (.slice (some ⟨g, 0, none⟩) zs.length cap) zs :=
  .inr ⟨⟨g, 0, none⟩, cap, rfl, fun j x hj => by
    rw [addr_add, cell_of_row w g j _ _ _ h, List.getElem?_toArray, List.getElem?_append_left (by simpa using (List.getElem?_eq_some_iff.1 hj).1), List.getElem?_map, hj]; rfl, fun _ => (Array.getElem?_eq_some_iff.1 h).1⟩
theorem zsAt_owns {w : World} {base : Nat} {v : Value} {o : List Int} (h : w.ownsRow base 3 1 v o.length (o.map (.int .i64))) : ZsAt w v o := by
  rcases h.2 with ⟨h1, h2⟩ | ⟨g, cap, cur, hv, hg, hh, h3, h4, h5, h6⟩
  · exact .inl ⟨h1, List.length_eq_zero_iff.1 h2⟩
  · refine .inr ⟨⟨g, 0, none⟩, cap, hv, fun j x hj => ?_⟩
    have hjl := (List.getElem?_eq_some_iff.1 hj).1
    rw [addr_add, cell_of_row w g j _ _ _ hh]
    rw [Nat.mul_one] at h6
    have : (cur.toList.take o.length)[j]? = (o.map (Value.int .i64))[j]? := by rw [h6]
    rw [List.getElem?_take, if_pos hjl, List.getElem?_map, hj, Array.getElem?_toList] at this
    exact this
def sprd (zs : List Int) : Obj := .cells (zs.map (Value.int .i64) ++ [Value.int .i64 7, Value.int .i64 7]).toArray 3
set_option maxRecDepth 100000 in
set_option maxHeartbeats 2000000 in
theorem runs_any (s : ByteArray) (vi vu : Value) (zs us : List Int) (cells steps : Int) (w : World) (hs : s.size ≤ maxLen) (t1 : TakesTab w) (t2 : TypeTab w) (t3 : FlowTab w) (hv : ArgInts w vi zs) (hlen : zs.length ≤ 17592186044416) (hu : ArgInts w vu us) (hul : us.length ≤ 17592186044416) :
    Calls Tryz.prog 6 #[.string s, vi, .int .i64 cells, vu, .int .i64 steps] w fun e w' => e = .returned (.bool true) ∧ Below w.heap.size w w' := by
  have hbg := hid (begin_any s vi zs cells w hs t1 t2 t3 hv hlen)
  have hsp := hid (fun (v : Value) (l : List Int) (W : World) (h : ArgInts W v l) (hl : l.length ≤ 17592186044416) => spare_any v l W h hl)
  have hse := hid (fun (oc va k : Int) (o : List Int) (v1 v2 : Value) (W : World) (h1 : ZsAt W v1 o) (h2 : ZsAt W v2 o) (hl : o.length ≤ 2000) => sameEnd_any oc va k o v1 v2 W h1 h2 hl)
  have hnm := hid (fun (r : Nat) (W : World) => num_any r W)
  have HV := hid (fun (W : World) (hb : Below w.heap.size w W) => hv.keep hb)
  have HU := hid (fun (W : World) (hb : Below w.heap.size w W) => hu.keep hb)
  have HS := hid hs
  have T := hid (fun (W : World) (hb : Below w.heap.size w W) => (⟨t1.below hb, t2.below hb, t3.below hb⟩ : TakesTab W ∧ TypeTab W ∧ FlowTab W))
  obtain ⟨p0, c0, e0⟩ := hv.slice
  subst e0
  obtain ⟨p1, c1, e1⟩ := hu.slice
  subst e1
  clear hs t1 t2 t3 hv hu
  go_enter Tryz.func6, Tryz.ntmps6
  go_wp2_with fail
  refine hbg.out.mono ?_
  clear hbg
  intro x w1 hp
  obtain ⟨r, oc, va, k, o, hRV⟩ := runVal_ex (us := us) (steps := steps) hp
  obtain ⟨pv, hx, hb1⟩ : ∃ pv, x = .returned (.tuple #[.pointer pv, .bool true]) ∧ Below w.heap.size w w1 := by
    rcases hp with ⟨_, _, _, h1, h2⟩ | ⟨n, q, K, R, _, _, h1, h2⟩
    · exact ⟨none, h1, h2⟩
    · exact ⟨_, h1, h2.below⟩
  subst x
  have hol := hRV.len
  have hpr := hid (fun (W : World) (hb : Below w.heap.size w W) (v1 v2 : Value) (h1 : ArgInts W v1 zs) (h2 : ArgInts W v2 us) => pRun_val (vi := v1) (vu := v2) hRV (w := W) HS.out (T.out W hb).2.2 h1 h2 hul)
  have hrr := hid (fun (W : World) (hb : Below w.heap.size w W) (v1 v2 : Value) (h1 : ArgInts W v1 zs) (h2 : ArgInts W v2 us) => rRun_val (vi := v1) (vu := v2) hRV (w := W) HS.out (T.out W hb).1 (T.out W hb).2.1 h1 hlen h2 hul)
  have hsp1 := hid (hsp.out _ zs w1 (HV.out w1 hb1) hlen)
  have HB1 := hid hb1
  clear hp hRV T HS hb1
  go_wp2_with fail
  refine hsp1.out.mono ?_
  clear hsp1
  intro x w2 hp
  obtain ⟨hb2, g1, hg1, hx, hrow1⟩ := hp
  subst x
  have HB2 := hid (HB1.out.trans (hb2.mono HB1.out.size))
  have hsp2 := hid (hsp.out _ us w2 (HU.out w2 HB2.out) hul)
  have hz1 : g1 < w2.heap.size := (Array.getElem?_eq_some_iff.1 hrow1).1
  have hgw1 : w.heap.size ≤ g1 := Nat.le_trans HB1.out.size hg1
  have HR1 := hid hrow1
  clear hb2 hsp HB1 hrow1 hg1
  go_wp2_with fail
  refine hsp2.out.mono ?_
  clear hsp2
  intro x w3 hp
  obtain ⟨hb3, g2, hg2, hx, hrow2⟩ := hp
  subst x
  have HB3 := hid (HB2.out.trans (hb3.mono HB2.out.size))
  have hr13 := (hb3.block g1 hz1).trans HR1.out
  have hz2 : g2 < w3.heap.size := (Array.getElem?_eq_some_iff.1 hrow2).1
  have hz1' : g1 < w3.heap.size := (Array.getElem?_eq_some_iff.1 hr13).1
  have hrun := hid (hpr.out w3 HB3.out _ _ (ArgInts.of_row (cap := zs.length + 2) hr13) (ArgInts.of_row (cap := us.length + 2) hrow2))
  have R1 := hid hr13
  have R2 := hid hrow2
  clear hb3 HB2 HR1 hr13 hrow2 hz1
  go_wp2_with fail
  refine hrun.out.mono ?_
  clear hrun
  intro x w4 hp
  obtain ⟨hb4, va1, hx, how1⟩ := hp
  subst x
  obtain ⟨p4, c4, e4⟩ := owns_slice how1
  subst e4
  have HB4 := hid (HB3.out.trans (hb4.mono HB3.out.size))
  have R14 := hid ((hb4.block g1 hz1').trans R1.out)
  have R24 := hid ((hb4.block g2 hz2).trans R2.out)
  have OW1 := hid how1
  have hz34 := hb4.size
  have hgA : ∀ b, p4 = some b → w3.heap.size ≤ b.block ∧ b.block < w4.heap.size ∧ b = ⟨b.block, 0, none⟩ := by
    intro b hb
    rcases how1.2 with ⟨h1, _⟩ | ⟨g, cap, cur, h1, h2, h3, _⟩
    · rw [hb] at h1; cases h1
    · rw [hb] at h1
      cases h1
      exact ⟨h2, (Array.getElem?_eq_some_iff.1 h3).1, rfl⟩
  unfold endV
  clear hb4 R1 R2 how1 HB3
  obtain ⟨oA, hoA⟩ : ∃ oA : Obj, oA = .cells #[.int .i64 oc, .int .i64 va, .int .i64 k, .slice p4 o.length c4] 32 := ⟨_, rfl⟩
  have hb5 : Below w4.heap.size w4 (w4.alloc oA) := (Below.refl _ _).alloc (Nat.le_refl _) _
  have hHB5 := HB4.out.trans (hb5.mono HB4.out.size)
  have hrun2 := hid (hrr.out (w4.alloc oA) hHB5 _ _ (HV.out _ hHB5) (HU.out _ hHB5))
  have rA5 := hid (heap_alloc_new w4 oA)
  have hz5 : (w4.alloc oA).heap.size = w4.heap.size + 1 := by simp
  have HB5 := hid hHB5
  have A5 := hid hb5
  rw [hoA] at hrun2
  clear hrr hb5 hHB5
  go_wp2_with fail
  refine hrun2.out.mono ?_
  clear hrun2
  intro x w6 hp
  obtain ⟨hb6, vb2, hx, how2⟩ := hp
  subst x
  rw [← hoA] at hb6 how2
  obtain ⟨p6, c6, e6⟩ := owns_slice how2
  subst e6
  have hrA6 := (hb6.block w4.heap.size (by omega)).trans rA5.out
  have hgB : ∀ b, p6 = some b → w4.heap.size < b.block ∧ b.block < w6.heap.size := by
    intro b hb
    rcases how2.2 with ⟨h1, _⟩ | ⟨g, cap, cur, h1, h2, h3, _⟩
    · rw [hb] at h1; cases h1
    · rw [hb] at h1
      cases h1
      exact ⟨by simp only; omega, (Array.getElem?_eq_some_iff.1 h3).1⟩
  have hz6 := hb6.size
  have hb46 : Below w4.heap.size w4 w6 := A5.out.trans (hb6.mono A5.out.size)
  obtain ⟨oB, hoB⟩ : ∃ oB : Obj, oB = .cells #[.int .i64 oc, .int .i64 va, .int .i64 k, .slice p6 o.length c6] 32 := ⟨_, rfl⟩
  have hb7 : Below w6.heap.size w6 (w6.alloc oB) := (Below.refl _ _).alloc (Nat.le_refl _) _
  have hz7 : (w6.alloc oB).heap.size = w6.heap.size + 1 := by simp
  have hb47 : Below w4.heap.size w4 (w6.alloc oB) := hb46.trans (hb7.mono (by omega))
  have hZ1 : ZsAt (w6.alloc oB) (.slice p4 o.length c4) o := (zsAt_owns OW1.out).below hb47
  have hZ2 : ZsAt (w6.alloc oB) (.slice p6 o.length c6) o := (zsAt_owns how2).below hb7
  have hsE := hid (hse.out oc va k o _ _ (w6.alloc oB) hZ1 hZ2 hol)
  have rA7 := (hb7.block w4.heap.size (by omega)).trans hrA6
  have rB7 := heap_alloc_new w6 oB
  have HB7 := hid (HB4.out.trans (hb47.mono HB4.out.size))
  have R17 := hid ((hb47.block g1 (by omega)).trans R14.out)
  have R27 := hid ((hb47.block g2 (by omega)).trans R24.out)
  have OWA7 := hid (owns_keep OW1.out (w' := w6.alloc oB) (fun g hg => hb47.block g (OW1.out.lt g hg).2))
  have OWB7 := hid (owns_keep how2 (w' := w6.alloc oB) (fun g hg => hb7.block g (how2.lt g hg).2))
  have RB7 := hid rB7
  rw [hoA] at rA7
  have a0 := cell_of_row (w6.alloc oB) w4.heap.size 0 _ _ _ rA7
  have a1 := cell_of_row (w6.alloc oB) w4.heap.size 1 _ _ _ rA7
  have a2 := cell_of_row (w6.alloc oB) w4.heap.size 2 _ _ _ rA7
  have a3 := cell_of_row (w6.alloc oB) w4.heap.size 3 _ _ _ rA7
  simp only [List.getElem?_toArray, List.getElem?_cons_zero, List.getElem?_cons_succ] at a0 a1 a2 a3
  have RA7 := hid rA7
  clear hb6 how2 hrA6 hb46 hb7 hb47 hZ1 hZ2 rA7 rB7 A5 rA5 HB4 R14 R24 OW1 HB5
  unfold endV at hsE
  rw [hoB] at hsE a0 a1 a2 a3
  unfold endV
  go_wp2_with fail
  refine hsE.out.mono ?_
  clear hsE
  intro x w8 hp
  obtain ⟨hx, hb8⟩ := hp
  subst x
  rw [← hoB] at hb8
  have hn1 := hid (hnm.out r w8)
  have HB8 := hid (HB7.out.trans (hb8.mono HB7.out.size))
  have R18 := hid ((hb8.block g1 (by omega)).trans R17.out)
  have R28 := hid ((hb8.block g2 (by omega)).trans R27.out)
  have OWA8 := hid (owns_keep OWA7.out (w' := w8) (fun g hg => hb8.block g (OWA7.out.lt g hg).2))
  have OWB8 := hid (owns_keep OWB7.out (w' := w8) (fun g hg => hb8.block g (OWB7.out.lt g hg).2))
  have rA8 := (hb8.block w4.heap.size (by omega)).trans RA7.out
  have RB8 := hid ((hb8.block w6.heap.size (by omega)).trans RB7.out)
  have hz8 := hb8.size
  have b3 := cell_of_row w8 w4.heap.size 3 _ _ _ rA8
  simp only [List.getElem?_toArray, List.getElem?_cons_zero, List.getElem?_cons_succ] at b3
  clear hb8 HB7 R17 R27 OWA7 OWB7 RA7 RB7 a0 a1 a2 a3 rA8 hnm
  go_wp2_with fail
  refine hn1.out.mono ?_
  clear hn1
  intro x w9 hp
  obtain ⟨hx, hw9⟩ := hp
  subst x
  subst w9
  have hrowA : (p4 = none ∧ c4 = 0) ∨ ∃ g, p4 = some ⟨g, 0, none⟩ ∧ w3.heap.size ≤ g ∧ g < w4.heap.size ∧ c4 ≤ maxLen ∧ ∃ r : Array Value, w8.heap[g]? = some (.cells r 3) ∧ r.size = c4 := by
    rcases OWA8.out.2 with ⟨h1, h2⟩ | ⟨g, cap, cur, h1, h2, h3, h4, h5, h6, _⟩
    · simp only [Value.slice.injEq] at h1; exact .inl ⟨h1.1, h1.2.2⟩
    · cases h1
      exact .inr ⟨g, rfl, h2, (hgA ⟨g, 0, none⟩ rfl).2.1, h5, cur, h3, by omega⟩
  have hmx : maxLen = 9223372036854775807 := rfl
  have HMX := hid hmx
  have HROW := hid hrowA
  clear hrowA hmx hgA
  go_wp2_with fail
  go_loopg [21] c4 (fun gk x w' => ∃ j : Nat, j ≤ c4 ∧ gk = c4 - j ∧ x = .int .i64 j ∧ Touch (fun b => p4 = some ⟨b, 0, none⟩) w8 w' ∧ w'.heap.size = w8.heap.size ∧ ∀ g, p4 = some ⟨g, 0, none⟩ → ∃ r : Array Value, w'.heap[g]? = some (.cells r 3) ∧ r.size = c4)
  case atStart =>
    refine ⟨0, by omega, by omega, rfl, Touch.refl _ _, rfl, fun g hg => ?_⟩
    rcases HROW.out with ⟨h1, _⟩ | ⟨g', h1, _, _, _, h2⟩
    · rw [h1] at hg; cases hg
    · rw [h1] at hg; cases hg; exact h2
  case round =>
    obtain ⟨j, hj, hgk, rfl, hT, hsz, hrw⟩ := hrel
    have HT := hid hT
    have HRW := hid hrw
    clear hT hrw
    rcases Nat.lt_or_ge j c4 with hlt | hge
    · rcases HROW.out with ⟨_, h1⟩ | ⟨g, h1, _, _, hc4, _⟩
      · omega
      obtain ⟨r5, hr5, hz5⟩ := HRW.out g h1
      subst h1
      have hmx := HMX.out
      have d0 : (0 : Int) ≤ (j : Int) := by omega
      have d1 : (j : Int) < (c4 : Int) := by omega
      have d2 : (j : Int) + 1 ≤ 9223372036854775807 := by omega
      have c0' := cell_of_row wr g j _ _ _ hr5
      rw [Array.getElem?_eq_getElem (by omega)] at c0'
      have f0 := frozen_of_row wr g j _ _ hr5
      have hr6 := setCell_row j (.int .i64 (-7)) hr5
      have HR6 : Hid (∀ g', (some (⟨g, 0, none⟩ : Addr)) = some ⟨g', 0, none⟩ → ∃ r : Array Value, (wr.setCell ⟨g, j, none⟩ (.int .i64 (-7))).heap[g']? = some (.cells r 3) ∧ r.size = c4) := hid (fun g' hg' => by
        cases hg'
        exact ⟨_, hr6, by simpa using hz5⟩)
      have HT6 : Hid (Touch (fun b => (some (⟨g, 0, none⟩ : Addr)) = some ⟨b, 0, none⟩) w8 (wr.setCell ⟨g, j, none⟩ (.int .i64 (-7))) ∧ (wr.setCell ⟨g, j, none⟩ (.int .i64 (-7))).heap.size = w8.heap.size) := hid (by
        have ho : Only g wr (wr.setCell ⟨g, j, none⟩ (.int .i64 (-7))) := (Only.refl _ _).set _ _
        refine ⟨HT.out.trans (G := fun b => (some (⟨g, 0, none⟩ : Addr)) = some ⟨b, 0, none⟩) ⟨ho.os, ho.tape, ho.output, by rw [ho.size]; exact Nat.le_refl _, fun k _ hk => ho.block k (fun e => hk (by rw [e]))⟩ (fun _ _ h => h), by rw [ho.size]; exact hsz⟩)
      generalize r5[j] = z at *
      clear hr6 hr5 hmx
      go_wp2_with fail
      go_roundg (c4 - (j + 1))
      case measure => omega
      case rel => exact ⟨j + 1, by omega, rfl, by go_num, HT6.out.1, HT6.out.2, HR6.out⟩
    · have d1 : ¬ (j : Int) < (c4 : Int) := by omega
      have hF : ∀ b, p4 = some (⟨b, 0, none⟩ : Addr) → w3.heap.size ≤ b ∧ b < w4.heap.size := fun b hb => by
        rcases HROW.out with ⟨h1, _⟩ | ⟨g', h1, h2, h3, _⟩
        · rw [h1] at hb; cases hb
        · rw [h1] at hb; cases hb; exact ⟨h2, h3⟩
      have hb3r : Below w3.heap.size w8 wr := HT.out.sub (fun b hb => (hF b hb).1) (by omega)
      have hzw : w.heap.size ≤ w3.heap.size := by omega
      have hBr := HB8.out.trans (hb3r.mono hzw)
      have hR1 := (hb3r.block g1 (by omega)).trans R18.out
      have hR2 := (hb3r.block g2 (by omega)).trans R28.out
      have hRB := (HT.out.block w6.heap.size (by omega) (fun hb => by have := (hF _ hb).2; omega)).trans RB8.out
      have hOB := owns_keep OWB8.out (w' := wr) (fun g hg => HT.out.block g (OWB8.out.lt g hg).2 (fun hb => by
        have h1 := (hF g hb).2
        have h2 := (OWB8.out.lt g hg).1
        omega))
      have hs1 := hid (still_any _ zs g1 wr ((HV.out wr hBr).zs (Below.refl _ _)) hlen hR1)
      have HBr := hid hBr
      have HR1 := hid hR1
      have HR2 := hid hR2
      have HRB := hid hRB
      have HOB := hid hOB
      clear HT HRW HROW HB8 R18 R28 RB8 OWA8 OWB8 hF hb3r hBr hR1 hR2 hRB hOB HMX b3
      go_wp2_with fail
      refine hs1.out.mono ?_
      clear hs1
      intro x w10 hp
      obtain ⟨hx, nd, hw10⟩ := hp
      subst x
      have hbd := Below.drewN wr nd
      rw [← hw10] at hbd
      have hB10 := HBr.out.trans (hbd.mono HBr.out.size)
      have hR110 := (hbd.block g1 (by omega)).trans HR1.out
      have hR210 := (hbd.block g2 (by omega)).trans HR2.out
      have hRB10 := (hbd.block w6.heap.size (by omega)).trans HRB.out
      have hOB10 := owns_keep HOB.out (w' := w10) (fun g hg => hbd.block g (HOB.out.lt g hg).2)
      have hz10 : w10.heap.size = w8.heap.size := by rw [hw10]; exact hsz
      have hs2 := hid (still_any _ us g2 w10 ((HU.out w10 hB10).zs (Below.refl _ _)) hul hR210)
      have HB10 := hid hB10
      have HR110 := hid hR110
      have HR210 := hid hR210
      have HRB10 := hid hRB10
      have HOB10 := hid hOB10
      clear HBr HR1 HR2 HRB HOB hbd hB10 hR110 hR210 hRB10 hOB10 hw10
      go_wp2_with fail
      refine hs2.out.mono ?_
      clear hs2
      intro x w11 hp
      obtain ⟨hx, nd2, hw11⟩ := hp
      subst x
      have hbd := Below.drewN w10 nd2
      rw [← hw11] at hbd
      have hz11 : w11.heap.size = w8.heap.size := by rw [hw11]; exact hz10
      have hB11 := HB10.out.trans (hbd.mono HB10.out.size)
      have hR111 := (hbd.block g1 (by omega)).trans HR110.out
      have hR211 := (hbd.block g2 (by omega)).trans HR210.out
      have hRB11 := (hbd.block w6.heap.size (by omega)).trans HRB10.out
      have hOB11 := owns_keep HOB10.out (w' := w11) (fun g hg => hbd.block g (HOB10.out.lt g hg).2)
      have hrun3 := hid (hpr.out w11 hB11 _ _ (ArgInts.of_row (cap := zs.length + 2) hR111) (ArgInts.of_row (cap := us.length + 2) hR211))
      have HB11 := hid hB11
      have HRB11 := hid hRB11
      have HOB11 := hid hOB11
      clear HB10 HR110 HR210 HRB10 HOB10 hbd hB11 hR111 hR211 hRB11 hOB11 hw11 hpr HV HU
      go_wp2_with fail
      refine hrun3.out.mono ?_
      clear hrun3
      intro x w12 hp
      obtain ⟨hb12, vc, hx, how3⟩ := hp
      subst x
      obtain ⟨p7, c7, e7⟩ := owns_slice how3
      subst e7
      have hz12 := hb12.size
      obtain ⟨oC, hoC⟩ : ∃ oC : Obj, oC = .cells #[.int .i64 oc, .int .i64 va, .int .i64 k, .slice p7 o.length c7] 32 := ⟨_, rfl⟩
      have hb13 : Below w12.heap.size w12 (w12.alloc oC) := (Below.refl _ _).alloc (Nat.le_refl _) _
      have hz13 : (w12.alloc oC).heap.size = w12.heap.size + 1 := by simp
      have hb1113 : Below w11.heap.size w11 (w12.alloc oC) := hb12.trans (hb13.mono hb12.size)
      have hZ1 : ZsAt (w12.alloc oC) (.slice p7 o.length c7) o := (zsAt_owns how3).below hb13
      have hZ2 : ZsAt (w12.alloc oC) (.slice p6 o.length c6) o := (zsAt_owns HOB11.out).below hb1113
      have hsE := hid (hse.out oc va k o _ _ (w12.alloc oC) hZ1 hZ2 hol)
      have rB13 := (hb1113.block w6.heap.size (by omega)).trans HRB11.out
      rw [hoB] at rB13
      have q0 := cell_of_row (w12.alloc oC) w6.heap.size 0 _ _ _ rB13
      have q1 := cell_of_row (w12.alloc oC) w6.heap.size 1 _ _ _ rB13
      have q2 := cell_of_row (w12.alloc oC) w6.heap.size 2 _ _ _ rB13
      have q3 := cell_of_row (w12.alloc oC) w6.heap.size 3 _ _ _ rB13
      simp only [List.getElem?_toArray, List.getElem?_cons_zero, List.getElem?_cons_succ] at q0 q1 q2 q3
      have HB13 := hid (HB11.out.trans (hb1113.mono HB11.out.size))
      have hne : w6.heap.size < w12.heap.size := by omega
      clear hb12 how3 hb13 hb1113 hZ1 hZ2 rB13 HB11 HRB11 HOB11 hse
      unfold endV at hsE
      rw [hoC] at hsE q0 q1 q2 q3
      unfold endV
      go_wp2_with fail
      refine hsE.out.mono ?_
      clear hsE
      intro x w14 hp
      obtain ⟨hx, hb14⟩ := hp
      subst x
      rw [← hoC] at hb14
      have HB14 := hid (HB13.out.trans (hb14.mono HB13.out.size))
      clear hb14 HB13 q0 q1 q2 q3
      go_wp2_with fail
      go_ret
      exact ⟨rfl, HB14.out⟩
end Go.Proofs.YtdmdpindonghdaaGreatDoor
namespace Go.Proofs.YtdmdpindonghdaaGreatDoor
open Go.ChangeShapes Go.WideShapes Go.ChangeAt Go.ChangeMaps Go.RowKit
theorem trodAll_five {H : Type} {enc : TypeId × Value → H} {P : Program} {w : World} {base : Nat} {spare : Nat → Bool} {held : Bool} {t t1 t2 t3 t4 : TypeId} {args : Array Value} {ds : List (DataW H)} {ps : List MemPlace} (h : DataW.TrodAll enc P w base spare held [t, t1, t2, t3, t4] args.toList ds ps) :
    ∃ v v1 v2 v3 v4 d d1 d2 d3 d4 p p1 p2 p3 p4, args = #[v, v1, v2, v3, v4] ∧ ds = [d, d1, d2, d3, d4] ∧ ps = p ++ (p1 ++ (p2 ++ (p3 ++ p4))) ∧ DataW.Trod enc P w base spare held t v d p ∧ DataW.Trod enc P w base spare held t1 v1 d1 p1 ∧ DataW.Trod enc P w base spare held t2 v2 d2 p2 ∧ DataW.Trod enc P w base spare held t3 v3 d3 p3 ∧ DataW.Trod enc P w base spare held t4 v4 d4 p4 := by
  obtain ⟨v, vs, d, ds', p, q, hargs, rfl, rfl, hd, hrest⟩ := trodAll_cons h
  obtain ⟨v1, vs1, d1, ds1, p1, q1, rfl, rfl, rfl, hd1, hrest1⟩ := trodAll_cons hrest
  obtain ⟨v2, vs2, d2, ds2, p2, q2, rfl, rfl, rfl, hd2, hrest2⟩ := trodAll_cons hrest1
  obtain ⟨v3, vs3, d3, ds3, p3, q3, rfl, rfl, rfl, hd3, hrest3⟩ := trodAll_cons hrest2
  obtain ⟨v4, vs4, d4, ds4, p4, q4, rfl, rfl, rfl, hd4, hrest4⟩ := trodAll_cons hrest3
  obtain ⟨rfl, rfl, rfl⟩ := trodAll_nil hrest4
  exact ⟨v, v1, v2, v3, v4, d, d1, d2, d3, d4, p, p1, p2, p3, p4, Array.toList_inj.1 hargs, rfl, by simp, hd, hd1, hd2, hd3, hd4⟩
theorem trodAll_mk5 {H : Type} {enc : TypeId × Value → H} {P : Program} {w : World} {base : Nat} {spare : Nat → Bool} {held : Bool} {t t1 t2 t3 t4 : TypeId} {v v1 v2 v3 v4 : Value} {d d1 d2 d3 d4 : DataW H} {p p1 p2 p3 p4 : List MemPlace} (h : DataW.Trod enc P w base spare held t v d p) (h1 : DataW.Trod enc P w base spare held t1 v1 d1 p1) (h2 : DataW.Trod enc P w base spare held t2 v2 d2 p2) (h3 : DataW.Trod enc P w base spare held t3 v3 d3 p3) (h4 : DataW.Trod enc P w base spare held t4 v4 d4 p4) : DataW.TrodAll enc P w base spare held [t, t1, t2, t3, t4] [v, v1, v2, v3, v4] [d, d1, d2, d3, d4] (p ++ (p1 ++ (p2 ++ (p3 ++ p4)))) := ⟨p, p1 ++ (p2 ++ (p3 ++ p4)), h, trodAll_mk4 h1 h2 h3 h4, rfl⟩
set_option maxRecDepth 100000 in
theorem runs_lifted (os : Os) (started : os.Started) (H : Type) (enc : TypeId × Value → H) :
    ReturnsInHanded {} Tryz.checked os 6 .any (fun w args => (Rows.runsSpec.pre enc Tryz.prog Tryz.f6 Rows.runsRow.domain false w args ∧ laidMetH Tryz.prog Rows.runsRow.laid w) ∧ sizedMet enc Tryz.prog Tryz.f6 (OpenSpec.ofChange Rows.runsSpec) false w args)
      (Rows.runsSpec.post enc Tryz.prog Tryz.f6 false true false false) := by
  refine returnsInHanded_of_change_and (C := Tryz.checked) (X := fun w _ => laidMetH Tryz.prog Rows.runsRow.laid w) (fun _ _ _ hh h => h.of_heap hh) knobs started (by kernel_rfl) Tryz.func6
    (ChangeSpec.witness_shaped (enc := enc) (C := Tryz.checked) (os := os) (X := fun w _ => laidMetH Tryz.prog Rows.runsRow.laid w) false (World.laidAll Tryz.prog os Rows.runsRow.laid) #[.string ⟨#[]⟩, .slice none 0 0, .int .i64 0, .slice none 0 0, .int .i64 0] 8 (World.laidAll_os _ _ _)
      (World.shaped_of_ZipB (by kernel_rfl) (by kernel_rfl)) (by kernel_rfl) (by kernel_rfl) (by kernel_rfl)
      (by rw [MakeChecks.laidMetH_plain _ _ _ (by kernel_rfl)]; exact laidMet_laidAll _ (by kernel_rfl) (by kernel_rfl))) ?_
  intro W base args ds gs before hval0 hW _ hsz hL _
  have hval : ∀ (j : Nat) t v, Tryz.f6.params[j]? = some t → args[j]? = some v → Value.okWide Tryz.prog W .any base t v := hval0
  have hW' := hW
  obtain ⟨p, q, hA0, hV, rfl, _, _⟩ := hW
  have hA : DataW.TrodAll enc Tryz.prog W 0 (fun _ => true) true Tryz.f6.params.toList args.toList ds p := hA0
  obtain ⟨rfl, rfl⟩ := trodVars_none hV
  have hlt : ∀ x ∈ p, x.block < W.heap.size := fun x hx => by
    have := hW'.lt x (by simpa using hx)
    exact this
  rw [Tryz.params6] at hA hval hsz
  obtain ⟨v0, v1, v2, v3, v4, d0, d1, d2, d3, d4, p0, p1, p2, p3, p4, rfl, rfl, rfl, h0, h1, h2, h3, h4⟩ := trodAll_five hA
  obtain ⟨s, rfl, rfl, rfl, hs⟩ := open_string Tryz.underlying9 (hval 0 9 v0 rfl rfl) h0
  obtain ⟨n, rfl, rfl, rfl, hn⟩ := open_int Tryz.underlying3 (hval 2 3 v2 rfl rfl) h2
  obtain ⟨m, rfl, rfl, rfl, hm⟩ := open_int Tryz.underlying3 (hval 4 3 v4 rfl rfl) h4
  have hw1 : (d1.weights Tryz.prog 22).all (· ≤ reachBytes) = true := by
    have := hsz
    simp only [List.append_nil, List.cons_append, List.nil_append, DataW.weightsEach, List.all_append, Bool.and_eq_true] at this
    exact this.2.1
  have hw3 : (d3.weights Tryz.prog 22).all (· ≤ reachBytes) = true := by
    have := hsz
    simp only [List.append_nil, List.cons_append, List.nil_append, DataW.weightsEach, List.all_append, Bool.and_eq_true] at this
    exact this.2.2.2.1
  have hlt1 : ∀ x ∈ p1, x.block < W.heap.size := fun x hx => hlt x (by simp [hx])
  have hlt3 : ∀ x ∈ p3, x.block < W.heap.size := fun x hx => hlt x (by simp [hx])
  obtain ⟨us, hu, hul⟩ := ints_arg (hval 3 22 v3 rfl rfl) h3 hlt3 hw3
  obtain ⟨zs, hz, hzl⟩ := ints_arg (hval 1 22 v1 rfl rfl) h1 hlt1 hw1
  obtain ⟨t1, t2, t3⟩ := tabs_of_laid hL
  refine (runs_any s v1 v3 zs us n m W hs t2 t3 t1 hz hzl hu hul).mono fun e W' ⟨he, hb⟩ => ?_
  subst he
  have hr1 : DataW.Trod enc Tryz.prog W' 0 (fun b => decide (b < W.heap.size)) true 22 v1 d1 p1 := Below.trod laidOutP (by kernel_rfl) (of_decide_eq_true (by kernel_rfl)) h1 hb hlt1
  have hr3 : DataW.Trod enc Tryz.prog W' 0 (fun b => decide (b < W.heap.size)) true 22 v3 d3 p3 := Below.trod laidOutP (by kernel_rfl) (of_decide_eq_true (by kernel_rfl)) h3 hb hlt3
  exact ⟨_, rfl, _, _, _, [], _, [], hW', trodAll_mk1 (shut_bool Tryz.underlying4 _), trodAll_mk5 (shut_string Tryz.underlying9 hs) hr1 (shut_int Tryz.underlying3 hn) hr3 (shut_int Tryz.underlying3 hm), rfl, hb.frame _, fun h => by cases h⟩
theorem runs_holds : Rows.RunsSaid :=
  OpenClaim.holds_of_wide 6 Tryz.f6 rfl rfl rfl rfl rfl rfl rfl ⟨rfl, rfl, rfl, rfl, rfl⟩ rfl rfl rfl rfl rfl (by kernel_rfl) Tryz.func6 (by kernel_rfl)
    (of_decide_eq_true (by kernel_rfl)) (by unfold Func.isWrapper; first | (rw [if_pos (by decide +kernel)]; kernel_rfl) | (rw [if_neg (by decide +kernel)]; exact ⟨rfl, rfl⟩))
    (fun os started H enc _ => runs_lifted os started H enc)
theorem runs_card_holds : Rows.RunsCardSaid :=
  Claim7.holds_tied_plain_at .later [] [.data, .data, .data, .data, .data] true Rows.runsCard.stood.harness false
    runs_holds (fun _ h => by cases h) (by kernel_rfl) (fun _ h => by cases h) runs_row_tie rfl ⟨rfl, rfl⟩ (by kernel_rfl) rfl
    (fun f fn hf hfn => by
      obtain rfl : f = 6 := Option.some.inj ((show Tryz.prog.funcNamed "tint/tintlaw.Runs" = some 6 by kernel_rfl).symm.trans hf) |>.symm
      obtain rfl : fn = Tryz.f6 := (Option.some.inj (Tryz.func6.symm.trans hfn)).symm
      exact ⟨by kernel_rfl, fun j t ht => by
        rw [Tryz.params6] at ht
        have hm : t ∈ [9, 22, 3, 22, 3] := by simpa using Array.mem_of_getElem? ht
        have hall : ([9, 22, 3, 22, 3].all fun u => !Tryz.prog.wantsStandIn u) = true := by kernel_rfl
        exact (show Tryz.prog.wantsStandIn t = false by simpa using List.all_eq_true.1 hall t hm)⟩)
    (by kernel_rfl)
#print axioms runs_card_holds
end Go.Proofs.YtdmdpindonghdaaGreatDoor
