/- The contract of the program's settle. -/
import Derived.Test.YteocjidfbbekfaaDoorSpecM
import Derived.Deep.LoopGhost
namespace Go.Proofs.YteocjidfbbekfaaDoor
open Go.RowKit

structure SetInv (l : List Ins) (L : Nat) (fs : List Fr) : Prop where
  ok : AllOk fs
  len : fs.length = l.length
  sound : WT l L → Sound l L fs
  cov : CovAt fs 0 (initP L).lo (initP L).st
theorem SetInv.pass {l : List Ins} {L k : Nat} {fs : List Fr} {i : Ins} (hw : Wf l L) (h : SetInv l L fs) (hi : l[k]? = some i) : SetInv l L (passF fs k ⟨i, aimOf l i⟩).1 :=
  ⟨passF_ok h.ok, (passF_len h.ok).trans h.len, fun hwt => (pass_sound hw hwt h.ok (h.sound hwt) h.len hi).2, pass_keep h.ok h.cov⟩
theorem SetInv.bad {l : List Ins} {L k : Nat} {fs : List Fr} {i : Ins} (hw : Wf l L) (h : SetInv l L fs) (hi : l[k]? = some i) (hb : (passF fs k ⟨i, aimOf l i⟩).2.2 = false) : ¬ WT l L := by
  intro hwt
  rw [(pass_sound hw hwt h.ok (h.sound hwt) h.len hi).1] at hb
  cases hb
def StillTo (l : List Ins) (fs : List Fr) (n : Nat) : Prop := ∀ (k : Nat) (i : Ins), k < n → l[k]? = some i → (passF fs k ⟨i, aimOf l i⟩).2.1 = false ∧ (passF fs k ⟨i, aimOf l i⟩).2.2 = true
theorem StillTo.succ {l : List Ins} {fs : List Fr} {n : Nat} {i : Ins} (h : StillTo l fs n) (hi : l[n]? = some i) (h1 : (passF fs n ⟨i, aimOf l i⟩).2.1 = false) (h2 : (passF fs n ⟨i, aimOf l i⟩).2.2 = true) : StillTo l fs (n + 1) := by
  intro k j hk hj
  by_cases e : k = n
  · subst e
    rw [hi] at hj
    cases hj
    exact ⟨h1, h2⟩
  · exact h k j (by omega) hj
theorem StillTo.all {l : List Ins} {fs : List Fr} (h : StillTo l fs l.length) : Still l fs := fun k i hi => h k i (List.getElem?_eq_some_iff.1 hi).1 hi

theorem CiAt.two {a b g : Nat} {l : List CI} {w w' : World} (h : CiAt w g l) (ht : Two a b w w') (hg : g < w.heap.size) (h1 : g ≠ a) (h2 : g ≠ b) : CiAt w' g l := h.same (ht.block g hg h1 h2)
/-- The tables of types lie in neither block. -/
def Apart (a : Nat) : Prop := 3 ≠ a ∧ 4 ≠ a
theorem FlowTab.two {a b : Nat} {w w' : World} (h : FlowTab w) (ht : Two a b w w') (ha : Apart a) (hb : Apart b) : FlowTab w' := by
  intro k hk
  obtain ⟨h0, h1⟩ := h k hk
  have l0 := World.block_lt_of_cell? w _ h0
  have l1 := World.block_lt_of_cell? w _ h1
  exact ⟨(World.cell?_of_block (a := ⟨3, k, none⟩) (ht.block _ l0 ha.1 hb.1)).trans h0, (World.cell?_of_block (a := ⟨4, k, none⟩) (ht.block _ l1 ha.2 hb.2)).trans h1⟩

theorem pass_any {l : List Ins} {L : Nat} (hw : Wf l L) (bw bf gl cap capl k : Nat) (fs : List Fr) (i : Ins) (ch : Bool) (w : World) (hall : AllAt w bf fs) (hok : AllOk fs) (hlen : fs.length = l.length) (hi : l[k]? = some i)
    (hwalk : WalkAt w bw (.slice (some ⟨gl, 0, none⟩) l.length capl) bf l.length cap ch) (hat : CiAt w gl (aims l)) (hgl : gl < w.heap.size) (htab : FlowTab w) (hne : bw ≠ bf) :
    Calls Tryd.prog 36 #[.pointer (some ⟨bw, 0, none⟩), .int .i64 k] w (PassPost bw bf cap fs k ⟨i, aimOf l i⟩ ch (.slice (some ⟨gl, 0, none⟩) l.length capl) w) := by
  have hk := (List.getElem?_eq_some_iff.1 hi).1
  have hm : i ∈ l := List.mem_of_getElem? hi
  have hkn : fs[k]? = some (fs[k]'(by omega)) := List.getElem?_eq_getElem (by omega)
  rw [← hlen] at hwalk
  have hcl : (aims l).length = fs.length := by rw [aims_len, hlen]
  have hL := hw.loc
  have h120 := hw.len
  cases hr : (fs[k]'(by omega)).reached
  · have := pass_new bw bf gl cap capl k fs (aims l) ⟨i, aimOf l i⟩ _ ch w hall hok hkn hcl (by rw [hcl]; exact hwalk) hr
    rw [aims_len] at this
    exact this
  · have := pass_go bw bf gl cap capl k fs (aims l) ⟨i, aimOf l i⟩ _ ch w hall hok hkn hcl (by rw [hcl]; exact hwalk) hr hat hgl (aims_get hi) htab (hw.op i hm) (fun h => by have := hw.arg i hm h; simp only; omega) hne (by omega) (fun h => by rw [hlen]; exact aim_lt hw hm h) (fun h0 h1 => by rw [hlen]; exact next_lt hw hi ⟨h0, h1⟩)
    rw [aims_len] at this
    exact this

def SettlePost (l : List Ins) (L bw bf cap : Nat) (lv : Value) (w : World) (e : Ending) (w' : World) : Prop :=
  ∃ (b : Bool) (fs' : List Fr) (ch : Bool), e = .returned (.bool b) ∧ AllAt w' bf fs' ∧ WalkAt w' bw lv bf l.length cap ch ∧ Two bw bf w w' ∧ (b = true → SetInv l L fs' ∧ Still l fs') ∧ (b = false → ¬ WT l L)

set_option maxRecDepth 100000 in
set_option maxHeartbeats 1000000 in
theorem settle_any {l : List Ins} {L : Nat} (hw : Wf l L) (bw bf gl cap capl : Nat) (fs : List Fr) (ch : Bool) (w : World) (hall : AllAt w bf fs) (hinv : SetInv l L fs) (hst : ch = false → Still l fs)
    (hwalk : WalkAt w bw (.slice (some ⟨gl, 0, none⟩) l.length capl) bf l.length cap ch) (hat : CiAt w gl (aims l)) (hgl : gl < w.heap.size) (htab : FlowTab w) (hne : bw ≠ bf) (hgw : gl ≠ bw) (hgf : gl ≠ bf) (ha : Apart bw) (hb : Apart bf) :
    Calls Tryd.prog 31 #[.pointer (some ⟨bw, 0, none⟩)] w (SettlePost l L bw bf cap (.slice (some ⟨gl, 0, none⟩) l.length capl) w) := by
  go_enter Tryd.func31, Tryd.ntmps31
  go_wp2_with fail
  go_loopg [] (pot fs + one ch) (fun g w' => ∃ (fs' : List Fr) (c : Bool), AllAt w' bf fs' ∧ WalkAt w' bw (.slice (some ⟨gl, 0, none⟩) l.length capl) bf l.length cap c ∧ Two bw bf w w' ∧ SetInv l L fs' ∧ (c = false → Still l fs') ∧ pot fs' + one c ≤ g)
  case atStart => exact ⟨fs, ch, hall, hwalk, Two.refl _ _ _, hinv, hst, Nat.le_refl _⟩
  case round =>
    obtain ⟨fs1, c, hA, hW, hT, hI, hS, hp⟩ := hrel
    have w0 := cell_of_row wr bw 0 _ _ _ hW
    have w2 := cell_of_row wr bw 2 _ _ _ hW
    have z2 := frozen_of_row wr bw 2 _ _ hW
    simp only [List.getElem?_toArray, List.getElem?_cons_zero, List.getElem?_cons_succ] at w0 w2
    have HA := hid hA
    have HW := hid hW
    have HT := hid hT
    have HI := hid hI
    have HP := hid hp
    have HN := hid hne
    have HAT := hid hat
    have HTB := hid htab
    have HWF := hid hw
    clear hA hW hT hI hp hall hinv hst hwalk hat htab hw
    cases c
    · have HS := hid (hS rfl)
      clear hS
      go_wp2_with fail
      go_ret
      exact ⟨true, fs1, false, rfl, HA.out, HW.out, HT.out, fun _ => ⟨HI.out, HS.out⟩, fun h => by cases h⟩
    · clear hS
      have HW0 : Hid (WalkAt (wr.setCell ⟨bw, 2, none⟩ (.bool false)) bw (.slice (some ⟨gl, 0, none⟩) l.length capl) bf l.length cap false) := hid (setCell_row 2 (.bool false) HW.out)
      have HA0 : Hid (AllAt (wr.setCell ⟨bw, 2, none⟩ (.bool false)) bf fs1) := hid ((Below.heap_setCell _ _ _ _ (fun e => HN.out e.symm)).trans HA.out)
      have HT0 : Hid (Two bw bf w (wr.setCell ⟨bw, 2, none⟩ (.bool false))) := hid (HT.out.set)
      generalize hW1 : wr.setCell ⟨bw, 2, none⟩ (.bool false) = W1 at HW0 HA0 HT0
      have x0 := cell_of_row W1 bw 0 _ _ _ HW0.out
      simp only [List.getElem?_toArray, List.getElem?_cons_zero] at x0
      go_wp2_with fail
      go_loopg [16] (l.length) (fun g i w' => ∃ (k : Nat) (fs' : List Fr) (c : Bool), i = .int .i64 k ∧ k ≤ l.length ∧ g = l.length - k ∧ AllAt w' bf fs' ∧ WalkAt w' bw (.slice (some ⟨gl, 0, none⟩) l.length capl) bf l.length cap c ∧ Two bw bf w w' ∧ SetInv l L fs' ∧ (c = false → StillTo l fs' k) ∧ pot fs' + one c ≤ pot fs1)
      case atStart =>
        exact ⟨0, fs1, false, rfl, by omega, by omega, HA0.out, HW0.out, HT0.out, HI.out, fun _ k i hk => by omega, Nat.le_refl _⟩
      case round =>
        obtain ⟨k, fs2, c2, rfl, hk, hg, hA, hW, hT, hI, hS, hp⟩ := hrel
        have HP2 := hid hp
        have HS2 := hid hS
        have HI2 := hid hI
        have HA2 := hid hA
        have HW2 := hid hW
        have HT2 := hid hT
        have h120 := HWF.out.len
        clear hA hW hT hI hS hp
        rcases Nat.lt_or_ge k l.length with hkl | hkl
        · have hi : Hid (l[k]? = some l[k]) := hid (List.getElem?_eq_getElem hkl)
          generalize l[k] = i at hi
          have hps := hid (pass_any HWF.out bw bf gl cap capl k fs2 i c2 wr HA2.out HI2.out.ok HI2.out.len hi.out HW2.out (HAT.out.two HT2.out hgl hgw hgf) (Nat.lt_of_lt_of_le hgl HT2.out.size) (HTB.out.two HT2.out ha hb) HN.out)
          have i1 : (k : Int) < (l.length : Int) := by omega
          have hk200 : (k : Int) + 1 ≤ 200 := by omega
          have HB : Hid ((passF fs2 k ⟨i, aimOf l i⟩).2.2 = false → ¬ WT l L) := hid (HI2.out.bad HWF.out hi.out)
          have HI3 : Hid (SetInv l L (passF fs2 k ⟨i, aimOf l i⟩).1) := hid (HI2.out.pass HWF.out hi.out)
          have HPT : Hid (pot (passF fs2 k ⟨i, aimOf l i⟩).1 + one (passF fs2 k ⟨i, aimOf l i⟩).2.1 ≤ pot fs2) := hid (pass_pot HI2.out.ok)
          have HSS : Hid ((passF fs2 k ⟨i, aimOf l i⟩).2.1 = false → (passF fs2 k ⟨i, aimOf l i⟩).2.2 = true → c2 = false → StillTo l (passF fs2 k ⟨i, aimOf l i⟩).1 (k + 1)) := hid (fun h1 h2 h3 => by
            have := pass_same HI2.out.ok h1
            rw [this]
            exact (HS2.out h3).succ hi.out h1 h2)
          have HLN : Hid (fs2.length = l.length) := hid HI2.out.len
          unfold PassPost at hps
          generalize passF fs2 k ⟨i, aimOf l i⟩ = R at *
          obtain ⟨fs3, c3, ok3⟩ := R
          simp only at hps HB HI3 HPT HSS
          clear hi HS2
          go_wp2_with fail
          refine hps.out.mono ?_
          clear hps
          intro x w6 hh
          obtain ⟨hx6, hA6, hW6, hT6⟩ := hh
          subst x
          rw [HLN.out] at hW6
          have HA6 := hid hA6
          have HW6 := hid hW6
          have HT6 := hid hT6
          clear hA6 hW6 hT6
          cases ok3
          · have HB2 := hid (HB.out rfl)
            clear HB HSS
            go_wp2_with fail
            go_ret
            exact ⟨false, fs3, c2 || c3, rfl, HA6.out, HW6.out, HT2.out.trans HT6.out, fun h => absurd h (by decide), fun _ => HB2.out⟩
          · have HSS2 := hid (fun h1 h2 => HSS.out h1 rfl h2)
            clear HB HSS
            go_wp2_with fail
            go_roundg (l.length - (k + 1))
            case measure => omega
            case rel =>
              exact ⟨k + 1, fs3, c2 || c3, rfl, by omega, rfl, HA6.out, HW6.out, HT2.out.trans HT6.out, HI3.out, fun h => by
                rw [Bool.or_eq_false_iff] at h
                exact HSS2.out h.2 h.1, by
                have h1 := HPT.out
                have h2 := HP2.out
                cases c2
                · rw [Bool.false_or]; simp only [one] at *; omega
                · rw [Bool.true_or]; simp only [one] at *; omega⟩
        · have i1 : ¬ (k : Int) < (l.length : Int) := by omega
          go_wp2_with fail
          go_roundg (pot fs2 + one c2)
          case measure =>
            have h1 := HP.out
            have h2 := HP2.out
            simp only [one, if_true] at *; omega
          case rel =>
            exact ⟨fs2, c2, HA2.out, HW2.out, HT2.out, HI2.out, fun h => by
              have := HS2.out h
              rw [show k = l.length by omega] at this
              exact this.all, Nat.le_refl _⟩
end Go.Proofs.YteocjidfbbekfaaDoor
