/- What the proof of news_card_holds stands on, part 3: FlowO, FlowP, TintA, TypD, PmB. -/
import Derived.Test.YtdmdpindonghdaaGreatDoorRows
import Derived.Test.YtdmdpindonghdaaGreatDoorOwn2
import Derived.WalkKit
import Derived.WalkSmall
import Derived.Deep.AppendLies
import Derived.Deep.DeepMust
import Derived.Deep.LoopGhost
import Derived.WalkSpells
import Derived.WalkLawsBesides
import Derived.BigRegion
import Derived.Deep.QuietTactic
import Derived.BigQuiet
import Derived.Deep.RegionHeld3
import Derived.OwnWalk
import Derived.Laws.StructEq
import Derived.Deep.RegionLaw
import Derived.Deep.DeepCutAuto
import Derived.Laws.MakeOwn
import Derived.Laws.IdiomCopy
namespace Go.Proofs.YtdmdpindonghdaaGreatDoor
open Go.RowKit
structure SetInv (l : List Ins) (L : Nat) (fs : List Fr) : Prop where
  ok : AllOk fs
  len : fs.length = l.length
  sound : WT l L → Sound l L fs
  cov : CovAt fs 0 (initP L).lo (initP L).st
theorem SetInv.pass {l : List Ins} {L k : Nat} {fs : List Fr} {i : Ins} (hw : Wf l L) (h : SetInv l L fs) (hi : l[k]? = some i) : SetInv l L (passF fs k ⟨i, aimOf l i⟩).1 :=
  ⟨passF_ok h.ok, (passF_len h.ok).trans h.len, fun hwt => (pass_sound hw hwt h.ok (h.sound hwt) h.len hi).2, pass_keep h.ok h.cov⟩
theorem SetInv.bad {l : List Ins} {L k : Nat} {fs : List Fr} {i : Ins} (hw : Wf l L) (h : SetInv l L fs) (hi : l[k]? = some i) (hb : (passF fs k ⟨i, aimOf l i⟩).2.2 = false) : ¬ WT l L := by
  intro hwt
  rw [(pass_sound hw hwt h.ok (h.sound hwt) h.len hi).1] at hb
  cases hb
def StillTo (l : List Ins) (fs : List Fr) (n : Nat) : Prop := ∀ (k : Nat) (i : Ins), k < n → l[k]? = some i → (passF fs k ⟨i, aimOf l i⟩).2.1 = false ∧ (passF fs k ⟨i, aimOf l i⟩).2.2 = true
theorem StillTo.succ {l : List Ins} {fs : List Fr} {n : Nat} {i : Ins} (h : StillTo l fs n) (hi : l[n]? = some i) (h1 : (passF fs n ⟨i, aimOf l i⟩).2.1 = false) (h2 : (passF fs n ⟨i, aimOf l i⟩).2.2 = true) : StillTo l fs (n + 1) := by
  intro k j hk hj
  by_cases e : k = n
  · subst e
    rw [hi] at hj
    cases hj
    exact ⟨h1, h2⟩
  · exact h k j (by omega) hj
theorem StillTo.all {l : List Ins} {fs : List Fr} (h : StillTo l fs l.length) : Still l fs := fun k i hi => h k i (List.getElem?_eq_some_iff.1 hi).1 hi
theorem CiAt.two {a b g : Nat} {l : List CI} {w w' : World} (h : CiAt w g l) (ht : Two a b w w') (hg : g < w.heap.size) (h1 : g ≠ a) (h2 : g ≠ b) : CiAt w' g l := h.same (ht.block g hg h1 h2)
/-- The tables of types lie in neither block. -/
def Apart (a : Nat) : Prop := 3 ≠ a ∧ 4 ≠ a
theorem FlowTab.two {a b : Nat} {w w' : World} (h : FlowTab w) (ht : Two a b w w') (ha : Apart a) (hb : Apart b) : FlowTab w' := by
  intro k hk
  obtain ⟨h0, h1⟩ := h k hk
  have l0 := World.block_lt_of_cell? w _ h0
  have l1 := World.block_lt_of_cell? w _ h1
  exact ⟨(World.cell?_of_block (a := ⟨3, k, none⟩) (ht.block _ l0 ha.1 hb.1)).trans h0, (World.cell?_of_block (a := ⟨4, k, none⟩) (ht.block _ l1 ha.2 hb.2)).trans h1⟩
theorem pass_any {l : List Ins} {L : Nat} (hw : Wf l L) (bw bf gl cap capl k : Nat) (fs : List Fr) (i : Ins) (ch : Bool) (w : World) (hall : AllAt w bf fs) (hok : AllOk fs) (hlen : fs.length = l.length) (hi : l[k]? = some i)
    (hwalk : WalkAt w bw (.slice (some ⟨gl, 0, none⟩) l.length capl) bf l.length cap ch) (hat : CiAt w gl (aims l)) (hgl : gl < w.heap.size) (htab : FlowTab w) (hne : bw ≠ bf) :
    Calls Tryz.prog 135 #[.pointer (some ⟨bw, 0, none⟩), .int .i64 k] w (PassPost bw bf cap fs k ⟨i, aimOf l i⟩ ch (.slice (some ⟨gl, 0, none⟩) l.length capl) w) := by
  have hk := (List.getElem?_eq_some_iff.1 hi).1
  have hm : i ∈ l := List.mem_of_getElem? hi
  have hkn : fs[k]? = some (fs[k]'(by omega)) := List.getElem?_eq_getElem (by omega)
  rw [← hlen] at hwalk
  have hcl : (aims l).length = fs.length := by rw [aims_len, hlen]
  have hL := hw.loc
  have h120 := hw.len
  cases hr : (fs[k]'(by omega)).reached
  · have := pass_new bw bf gl cap capl k fs (aims l) ⟨i, aimOf l i⟩ _ ch w hall hok hkn hcl (by rw [hcl]; exact hwalk) hr
    rw [aims_len] at this
    exact this
  · have := pass_go bw bf gl cap capl k fs (aims l) ⟨i, aimOf l i⟩ _ ch w hall hok hkn hcl (by rw [hcl]; exact hwalk) hr hat hgl (aims_get hi) htab (hw.op i hm) (fun h => by have := hw.arg i hm h; simp only; omega) hne (by omega) (fun h => by rw [hlen]; exact aim_lt hw hm h) (fun h0 h1 => by rw [hlen]; exact next_lt hw hi ⟨h0, h1⟩)
    rw [aims_len] at this
    exact this
def SettlePost (l : List Ins) (L bw bf cap : Nat) (lv : Value) (w : World) (e : Ending) (w' : World) : Prop :=
  ∃ (b : Bool) (fs' : List Fr) (ch : Bool), e = .returned (.bool b) ∧ AllAt w' bf fs' ∧ WalkAt w' bw lv bf l.length cap ch ∧ Two bw bf w w' ∧ (b = true → SetInv l L fs' ∧ Still l fs') ∧ (b = false → ¬ WT l L)
set_option maxRecDepth 100000 in
set_option maxHeartbeats 1000000 in
theorem settle_any {l : List Ins} {L : Nat} (hw : Wf l L) (bw bf gl cap capl : Nat) (fs : List Fr) (ch : Bool) (w : World) (hall : AllAt w bf fs) (hinv : SetInv l L fs) (hst : ch = false → Still l fs)
    (hwalk : WalkAt w bw (.slice (some ⟨gl, 0, none⟩) l.length capl) bf l.length cap ch) (hat : CiAt w gl (aims l)) (hgl : gl < w.heap.size) (htab : FlowTab w) (hne : bw ≠ bf) (hgw : gl ≠ bw) (hgf : gl ≠ bf) (ha : Apart bw) (hb : Apart bf) :
    Calls Tryz.prog 112 #[.pointer (some ⟨bw, 0, none⟩)] w (SettlePost l L bw bf cap (.slice (some ⟨gl, 0, none⟩) l.length capl) w) := by
  go_enter Tryz.func112, Tryz.ntmps112
  go_wp2_with fail
  go_loopg [] (pot fs + one ch) (fun g w' => ∃ (fs' : List Fr) (c : Bool), AllAt w' bf fs' ∧ WalkAt w' bw (.slice (some ⟨gl, 0, none⟩) l.length capl) bf l.length cap c ∧ Two bw bf w w' ∧ SetInv l L fs' ∧ (c = false → Still l fs') ∧ pot fs' + one c ≤ g)
  case atStart => exact ⟨fs, ch, hall, hwalk, Two.refl _ _ _, hinv, hst, Nat.le_refl _⟩
  case round =>
    obtain ⟨fs1, c, hA, hW, hT, hI, hS, hp⟩ := hrel
    have w0 := cell_of_row wr bw 0 _ _ _ hW
    have w2 := cell_of_row wr bw 2 _ _ _ hW
    have z2 := frozen_of_row wr bw 2 _ _ hW
    simp only [List.getElem?_toArray, List.getElem?_cons_zero, List.getElem?_cons_succ] at w0 w2
    have HA := hid hA
    have HW := hid hW
    have HT := hid hT
    have HI := hid hI
    have HP := hid hp
    have HN := hid hne
    have HAT := hid hat
    have HTB := hid htab
    have HWF := hid hw
    clear hA hW hT hI hp hall hinv hst hwalk hat htab hw
    cases c
    · have HS := hid (hS rfl)
      clear hS
      go_wp2_with fail
      go_ret
      exact ⟨true, fs1, false, rfl, HA.out, HW.out, HT.out, fun _ => ⟨HI.out, HS.out⟩, fun h => by cases h⟩
    · clear hS
      have HW0 : Hid (WalkAt (wr.setCell ⟨bw, 2, none⟩ (.bool false)) bw (.slice (some ⟨gl, 0, none⟩) l.length capl) bf l.length cap false) := hid (setCell_row 2 (.bool false) HW.out)
      have HA0 : Hid (AllAt (wr.setCell ⟨bw, 2, none⟩ (.bool false)) bf fs1) := hid ((Below.heap_setCell _ _ _ _ (fun e => HN.out e.symm)).trans HA.out)
      have HT0 : Hid (Two bw bf w (wr.setCell ⟨bw, 2, none⟩ (.bool false))) := hid (HT.out.set)
      generalize hW1 : wr.setCell ⟨bw, 2, none⟩ (.bool false) = W1 at HW0 HA0 HT0
      have x0 := cell_of_row W1 bw 0 _ _ _ HW0.out
      simp only [List.getElem?_toArray, List.getElem?_cons_zero] at x0
      go_wp2_with fail
      go_loopg [16] (l.length) (fun g i w' => ∃ (k : Nat) (fs' : List Fr) (c : Bool), i = .int .i64 k ∧ k ≤ l.length ∧ g = l.length - k ∧ AllAt w' bf fs' ∧ WalkAt w' bw (.slice (some ⟨gl, 0, none⟩) l.length capl) bf l.length cap c ∧ Two bw bf w w' ∧ SetInv l L fs' ∧ (c = false → StillTo l fs' k) ∧ pot fs' + one c ≤ pot fs1)
      case atStart =>
        exact ⟨0, fs1, false, rfl, by omega, by omega, HA0.out, HW0.out, HT0.out, HI.out, fun _ k i hk => by omega, Nat.le_refl _⟩
      case round =>
        obtain ⟨k, fs2, c2, rfl, hk, hg, hA, hW, hT, hI, hS, hp⟩ := hrel
        have HP2 := hid hp
        have HS2 := hid hS
        have HI2 := hid hI
        have HA2 := hid hA
        have HW2 := hid hW
        have HT2 := hid hT
        have h120 := HWF.out.len
        clear hA hW hT hI hS hp
        rcases Nat.lt_or_ge k l.length with hkl | hkl
        · have hi : Hid (l[k]? = some l[k]) := hid (List.getElem?_eq_getElem hkl)
          generalize l[k] = i at hi
          have hps := hid (pass_any HWF.out bw bf gl cap capl k fs2 i c2 wr HA2.out HI2.out.ok HI2.out.len hi.out HW2.out (HAT.out.two HT2.out hgl hgw hgf) (Nat.lt_of_lt_of_le hgl HT2.out.size) (HTB.out.two HT2.out ha hb) HN.out)
          have i1 : (k : Int) < (l.length : Int) := by omega
          have hk200 : (k : Int) + 1 ≤ 200 := by omega
          have HB : Hid ((passF fs2 k ⟨i, aimOf l i⟩).2.2 = false → ¬ WT l L) := hid (HI2.out.bad HWF.out hi.out)
          have HI3 : Hid (SetInv l L (passF fs2 k ⟨i, aimOf l i⟩).1) := hid (HI2.out.pass HWF.out hi.out)
          have HPT : Hid (pot (passF fs2 k ⟨i, aimOf l i⟩).1 + one (passF fs2 k ⟨i, aimOf l i⟩).2.1 ≤ pot fs2) := hid (pass_pot HI2.out.ok)
          have HSS : Hid ((passF fs2 k ⟨i, aimOf l i⟩).2.1 = false → (passF fs2 k ⟨i, aimOf l i⟩).2.2 = true → c2 = false → StillTo l (passF fs2 k ⟨i, aimOf l i⟩).1 (k + 1)) := hid (fun h1 h2 h3 => by
            have := pass_same HI2.out.ok h1
            rw [this]
            exact (HS2.out h3).succ hi.out h1 h2)
          have HLN : Hid (fs2.length = l.length) := hid HI2.out.len
          unfold PassPost at hps
          generalize passF fs2 k ⟨i, aimOf l i⟩ = R at *
          obtain ⟨fs3, c3, ok3⟩ := R
          simp only at hps HB HI3 HPT HSS
          clear hi HS2
          go_wp2_with fail
          refine hps.out.mono ?_
          clear hps
          intro x w6 hh
          obtain ⟨hx6, hA6, hW6, hT6⟩ := hh
          subst x
          rw [HLN.out] at hW6
          have HA6 := hid hA6
          have HW6 := hid hW6
          have HT6 := hid hT6
          clear hA6 hW6 hT6
          cases ok3
          · have HB2 := hid (HB.out rfl)
            clear HB HSS
            go_wp2_with fail
            go_ret
            exact ⟨false, fs3, c2 || c3, rfl, HA6.out, HW6.out, HT2.out.trans HT6.out, fun h => absurd h (by decide), fun _ => HB2.out⟩
          · have HSS2 := hid (fun h1 h2 => HSS.out h1 rfl h2)
            clear HB HSS
            go_wp2_with fail
            go_roundg (l.length - (k + 1))
            case measure => omega
            case rel =>
              exact ⟨k + 1, fs3, c2 || c3, rfl, by omega, rfl, HA6.out, HW6.out, HT2.out.trans HT6.out, HI3.out, fun h => by
                rw [Bool.or_eq_false_iff] at h
                exact HSS2.out h.2 h.1, by
                have h1 := HPT.out
                have h2 := HP2.out
                cases c2
                · rw [Bool.false_or]; simp only [one] at *; omega
                · rw [Bool.true_or]; simp only [one] at *; omega⟩
        · have i1 : ¬ (k : Int) < (l.length : Int) := by omega
          go_wp2_with fail
          go_roundg (pot fs2 + one c2)
          case measure =>
            have h1 := HP.out
            have h2 := HP2.out
            simp only [one, if_true] at *; omega
          case rel =>
            exact ⟨fs2, c2, HA2.out, HW2.out, HT2.out, HI2.out, fun h => by
              have := HS2.out h
              rw [show k = l.length by omega] at this
              exact this.all, Nat.le_refl _⟩
end Go.Proofs.YtdmdpindonghdaaGreatDoor
namespace Go.Proofs.YtdmdpindonghdaaGreatDoor
open Go.RowKit
def zeroF : Fr := ⟨false, [0, 0, 0, 0], 0, [0, 0, 0, 0, 0, 0, 0, 0], false⟩
theorem zeroF_ok : FrOk zeroF := ⟨rfl, rfl, Nat.zero_le _⟩
theorem zeros_ok (n : Nat) : AllOk (List.replicate n zeroF) := fun f hf => by rw [List.eq_of_mem_replicate hf]; exact zeroF_ok
theorem frameInfo : (Tryz.prog.info? 125).map (fun i => (i.zero, i.size, i.bytes)) = some (some (.agg (frL zeroF).toArray), 15, 120) := by kernel_rfl
theorem zeros_made (n : Nat) : madeCells (frL zeroF).toArray (n * 15) = (allL (List.replicate n zeroF)).toArray := by
  apply Array.toList_inj.1
  apply List.ext_getElem?
  intro i
  have hl := allL_len (zeros_ok n)
  rw [List.length_replicate] at hl
  by_cases hi : i < n * 15
  · have h1 : i / 15 < n := by omega
    have h2 : i % 15 < 15 := by omega
    have e : i = i / 15 * 15 + i % 15 := by omega
    have h3 := allL_at (zeros_ok n) (k := i / 15) (j := i % 15) (f := zeroF) (by rw [List.getElem?_replicate, if_pos h1]) h2
    rw [← e] at h3
    simp only [madeCells, Array.toList_map, Array.toList_range, List.getElem?_map, List.getElem?_range hi, Option.map_some]
    rw [h3]
    have h4 : (frL zeroF).length = 15 := rfl
    rw [List.getElem?_eq_getElem (by omega)]
    simp [List.getElem?_eq_getElem (show i % 15 < (frL zeroF).length by omega), h4]
  · rw [List.getElem?_eq_none (by simp [size_madeCells]; omega), List.getElem?_eq_none (by simp; omega)]
theorem make_frames (n : Nat) (h : n ≤ 120) (w : World) : Sem.run Tryz.prog (Instr.makeSlice 65 (.int .i64 n) (.int .i64 n)) w = .ok (.slice (some ⟨w.heap.size, 0, none⟩) n n) (w.alloc (.cells (allL (List.replicate n zeroF)).toArray 125)) := by
  obtain ⟨i0, hi, hz0, hz1, hz2⟩ := info_parts frameInfo
  have := run_make (P := Tryz.prog) w 65 125 i0 _ Tryz.underlying65 hi hz0 .i64 .i64 n n (by omega) (by omega) (by rw [hz2]; omega) (by omega)
  rw [this, hz1, show Value.cells (.agg (frL zeroF).toArray) = (frL zeroF).toArray from rfl]
  simp only [Int.toNat_natCast]
  rw [zeros_made]
theorem startF (n : Nat) (h : 0 < n) : reachF (List.replicate n zeroF) 0 zeroF = ((List.replicate n zeroF).set 0 { zeroF with reached := true }, true, true) := by
  unfold reachF
  rw [List.getElem?_replicate, if_pos h]
  rfl
theorem start_stk (f : Fr) (hd : f.depth = 0) (hs : f.stk = [0, 0, 0, 0, 0, 0, 0, 0]) (L : Nat) : Stk f (tl (initP L).st) := ⟨Nat.zero_le _, hd, hs⟩
theorem start_lk (L j : Nat) : lk (initP L).lo j = 0 := by
  have h : letters (initP L).lo ∧ True := by
    refine ⟨letters_extract ?_ _ _, trivial⟩
    intro c hc
    simp at hc
    exact .inl hc
  have hall : ∀ c ∈ tl (initP L).lo, c = 105 := by
    intro c hc
    simp only [initP] at hc
    rw [tl_extract] at hc
    have := List.mem_of_mem_drop (List.mem_of_mem_take hc)
    simpa [tl] using this
  unfold lk
  show kindN (((tl (initP L).lo).getD j 0).toNat) = 0
  rw [List.getD_eq_getElem?_getD]
  cases e : (tl (initP L).lo)[j]? with
  | none => rfl
  | some c => rw [hall c (List.mem_of_getElem? e)]; rfl
theorem start_inv {l : List Ins} {L : Nat} (hw : Wf l L) : SetInv l L ((List.replicate l.length zeroF).set 0 { zeroF with reached := true }) := by
  have hp := hw.pos
  have h0 : ((List.replicate l.length zeroF).set 0 { zeroF with reached := true })[0]? = some { zeroF with reached := true } := List.getElem?_set_self (by simpa using hp)
  have hlo : ∀ j, j < 4 → ([0, 0, 0, 0] : List Nat).getD j 0 = 0 := by
    intro j hj
    match j, hj with
    | 0, _ => rfl
    | 1, _ => rfl
    | 2, _ => rfl
    | 3, _ => rfl
  refine ⟨(zeros_ok _).set (f := { zeroF with reached := true }) ⟨rfl, rfl, Nat.zero_le _⟩ 0, by simp, fun _ k f hk hr => ?_, ⟨_, h0, ⟨rfl, start_stk _ rfl rfl L, fun j hj => .inl ?_⟩⟩⟩
  · by_cases e : 0 = k
    · subst e
      rw [h0] at hk
      cases hk
      exact ⟨rfl, ⟨_, _, Reach.init l L, start_stk _ rfl rfl L⟩, fun j hj => .inl ⟨_, _, Reach.init l L, (hlo j hj).trans (start_lk L j).symm⟩⟩
    · rw [List.getElem?_set_ne e, List.getElem?_replicate] at hk
      split at hk
      · cases hk; cases hr
      · cases hk
  · rw [start_lk]; exact hlo j hj
def FramesPost (l : List Ins) (L : Nat) (w : World) (e : Ending) (w' : World) : Prop :=
  Below w.heap.size w w' ∧ ((¬ WT l L ∧ e = .returned (.tuple #[.slice none 0 0, .bool false])) ∨
    (∃ fs bf, e = .returned (.tuple #[.slice (some ⟨bf, 0, none⟩) l.length l.length, .bool true]) ∧ w.heap.size ≤ bf ∧ AllAt w' bf fs ∧ SetInv l L fs ∧ Still l fs))
theorem Two.below {a b B : Nat} {w w' : World} (h : Two a b w w') (hB : B ≤ w.heap.size) (ha : B ≤ a) (hb : B ≤ b) : Below B w w' :=
  ⟨h.os, h.tape, h.output, h.size, fun k hk => h.block k (by omega) (by omega) (by omega)⟩
theorem apart_of {w : World} {a : Nat} (h : FlowTab w) (ha : w.heap.size ≤ a) : Apart a := by
  obtain ⟨h0, h1⟩ := h 0 (by omega)
  have l0 := World.block_lt_of_cell? w _ h0
  have l1 := World.block_lt_of_cell? w _ h1
  exact ⟨by simp only at l0; omega, by simp only at l1; omega⟩
theorem three_second (w : World) (a b c : Obj) : ((((w.alloc a).alloc b).alloc c).drew).heap[w.heap.size + 1]? = some b := by
  show (((w.alloc a).alloc b).alloc c).heap[w.heap.size + 1]? = some b
  rw [Below.heap_alloc _ _ _ (by simp)]; exact heap_two_new w _ _
theorem three_below (w : World) (a b c : Obj) : Below w.heap.size w (((w.alloc a).alloc b).alloc c).drew :=
  have h : Below w.heap.size w (((w.alloc a).alloc b).alloc c) := (((Below.refl _ _).alloc (Nat.le_refl _) _).alloc (by simp) _).alloc (by simp; omega) _
  ⟨h.os, h.tape, h.output, h.size, h.block⟩
set_option maxRecDepth 100000 in
set_option maxHeartbeats 1000000 in
theorem frames_any {l : List Ins} {L : Nat} (hw : Wf l L) (gl capl : Nat) (w : World) (hat : CiAt w gl (aims l)) (hgl : gl < w.heap.size) (htab : FlowTab w) :
    Calls Tryz.prog 71 #[.agg #[.int .i64 L, .slice (some ⟨gl, 0, none⟩) l.length capl]] w (FramesPost l L w) := by
  have h120 := hw.len
  have HWF := hid hw
  have HAT := hid hat
  have HTB := hid htab
  have hmk := make_frames l.length h120
  have HSI := hid (start_inv hw)
  have HSF := hid (startF l.length hw.pos)
  have HPOS := hid hw.pos
  clear hw hat htab
  generalize hZ : List.replicate l.length zeroF = Z at *
  have HZ : Hid (Z.length = l.length ∧ AllOk Z) := hid ⟨by rw [← hZ]; simp, by rw [← hZ]; exact zeros_ok _⟩
  clear hZ
  go_enter Tryz.func71, Tryz.ntmps71
  go_upto_region 1 with fail
  go_cut [4] (fun x4 wc => ∃ bw bf : Nat, x4 = .pointer (some ⟨bw, 0, none⟩) ∧ w.heap.size ≤ bw ∧ w.heap.size ≤ bf ∧ bw ≠ bf ∧ AllAt wc bf Z ∧ WalkAt wc bw (.slice (some ⟨gl, 0, none⟩) l.length capl) bf l.length l.length false ∧ Below w.heap.size w wc)
  case first =>
    go_region
    · go_wp2_with fail
      go_meet
      exact ⟨w.heap.size + 1 + 1, w.heap.size + 1, rfl, by omega, by omega, by omega, three_second w _ _ _, heap_three_third w _ _ _, three_below w _ _ _⟩
    · go_wp2_with fail
      go_meet
      exact ⟨w.heap.size + 1, w.heap.size + 1 + 1, rfl, by omega, by omega, by omega, heap_three_third w _ _ _, three_second w _ _ _, three_below w _ _ _⟩
  case rest =>
    obtain ⟨bw, bf, rfl, h1, h2, h3, hA, hW, hB⟩ := hcut
    have hrc := hid (reach_any bw bf l.length 0 Z zeroF false _ wc hA HZ.out.2 (by rw [HZ.out.1]; exact HPOS.out) zeroF_ok (by rw [HZ.out.1]; exact hW) h3)
    rw [HSF.out] at hrc
    simp only [zeroF, frL, List.map_cons, List.map_nil, List.cons_append, List.nil_append, numV] at hrc
    have HA := hid hA
    have HB := hid hB
    clear hA hW hB hmk
    go_wp2_with fail
    refine hrc.out.mono ?_
    clear hrc
    intro x w6 hh
    obtain ⟨hx6, hA6, hW6, hT6⟩ := hh
    subst x
    rw [HZ.out.1] at hW6
    have hsz := HB.out.size
    have hgl2 : gl < wc.heap.size := by omega
    have hat6 : CiAt w6 gl (aims l) := (HAT.out.below HB.out hgl).two hT6 hgl2 (by omega) (by omega)
    have ha := apart_of HTB.out h1
    have hb := apart_of HTB.out h2
    have hst := hid (settle_any HWF.out bw bf gl l.length capl _ _ w6 hA6 HSI.out (fun h => absurd h (by decide)) hW6 hat6 (Nat.lt_of_lt_of_le hgl2 hT6.size) ((HTB.out.below HB.out).two hT6 ha hb) h3 (by omega) (by omega) ha hb)
    have HT6 := hid hT6
    clear hA6 hW6 hT6 hat6 ha hb
    go_wp2_with fail
    refine hst.out.mono ?_
    clear hst
    intro x w7 hh
    obtain ⟨b, fs', ch, hx7, hA7, hW7, hT7, hgood, hbad⟩ := hh
    subst x
    have HBB : Hid (Below w.heap.size w w7) := hid ((HB.out.trans (HT6.out.below hsz h1 h2)).trans (hT7.below (Nat.le_trans hsz HT6.out.size) h1 h2))
    have w1 := cell_of_row w7 bw 1 _ _ _ hW7
    simp only [List.getElem?_toArray, List.getElem?_cons_zero, List.getElem?_cons_succ] at w1
    have HA7 := hid hA7
    clear hA7 hW7 hT7
    cases b
    · have HN := hid (hbad rfl)
      clear hgood hbad
      go_wp2_with fail
      exact bodyPost_ret (v := .tuple #[.slice none 0 0, .bool false]) (by simp [results, Tryz.results71, go_sem]) rfl ⟨HBB.out, .inl ⟨HN.out, rfl⟩⟩
    · have HN := hid (hgood rfl)
      clear hgood hbad
      go_wp2_with fail
      exact bodyPost_ret (v := .tuple #[.slice (some ⟨bf, 0, none⟩) l.length l.length, .bool true]) (by simp [results, Tryz.results71, go_sem]) rfl ⟨HBB.out, .inr ⟨fs', bf, rfl, h2, HA7.out, HN.out.1, HN.out.2⟩⟩
end Go.Proofs.YtdmdpindonghdaaGreatDoor
namespace Go.Proofs.YtdmdpindonghdaaGreatDoor
open Go.RowKit
structure Loaded (s : ByteArray) (w w' : World) (g cap bf : Nat) (fs : List Fr) : Prop where
  err : errOf s = 0
  wt : WT (codeOf s) (byteAt s 1)
  g1 : w.heap.size ≤ g
  g2 : g < w'.heap.size
  ci : CiAt w' g (aims (codeOf s))
  b1 : w.heap.size ≤ bf
  all : AllAt w' bf fs
  inv : SetInv (codeOf s) (byteAt s 1) fs
  still : Still (codeOf s) fs
def LoadPost (s : ByteArray) (w : World) (e : Ending) (w' : World) : Prop :=
  Below w.heap.size w w' ∧ ((∃ r : Nat, r ≠ 0 ∧ IsErr s r ∧ e = .returned (.tuple #[.agg #[.int .i64 0, .slice none 0 0], .slice none 0 0, .int .i64 r])) ∨
    (∃ g cap bf fs, e = .returned (.tuple #[.agg #[.int .i64 (byteAt s 1 : Nat), .slice (some ⟨g, 0, none⟩) (codeOf s).length cap], .slice (some ⟨bf, 0, none⟩) (codeOf s).length (codeOf s).length, .int .i64 0]) ∧ Loaded s w w' g cap bf fs))
set_option maxRecDepth 100000 in
set_option maxHeartbeats 1000000 in
theorem tload_any (s : ByteArray) (w : World) (hs : s.size ≤ maxLen) (htab : FlowTab w) :
    Calls Tryz.prog 40 #[.string s] w (LoadPost s w) := by
  have hrd := hid (fun W => read_any s W hs)
  have HTB := hid htab
  clear hs htab
  go_enter Tryz.func40, Tryz.ntmps40
  go_wp2_with fail
  refine (hrd.out _).mono ?_
  clear hrd
  intro x w2 hp
  obtain ⟨hb, hp⟩ := hp
  have hb1 := instr_below hb
  clear hb
  rcases hp with ⟨he, hx⟩ | ⟨he, g, cap, hx, hg1, hg2, hat⟩
  · subst x
    have hz := hb1.size
    rw [alloc_size] at hz
    have hb2 : Below (w.heap.size + 1) (w.alloc (.cells #[.int .i64 0, .slice none 0 0] 64)) (w2.alloc (.cells #[.int .i64 0, .slice none 0 0] 64)) := hb1.alloc hz _
    obtain ⟨bx, bo, hz2⟩ := box_cells hb2
    have x0 := bx 0
    have x1 := bx 1
    simp only [List.getElem?_toArray, List.getElem?_cons_zero, List.getElem?_cons_succ] at x0 x1
    have hf0 := hb2.frozen (p := ⟨w.heap.size, 0, none⟩) (by simp)
    have hf1 := hb2.frozen (p := ⟨w.heap.size, 1, none⟩) (by simp)
    have hne : ((errOf s : Int) != 0) = true := by simp; omega
    have HE : Hid (IsErr s (errOf s)) := hid (.inl ⟨he, rfl⟩)
    have HN := hid he
    clear bx bo he hb1
    go_wp2_with fail
    refine bodyPost_ret (v := .tuple #[.agg #[.int .i64 0, .slice none 0 0], .slice none 0 0, .int .i64 (errOf s : Nat)]) (by simp [results, Tryz.results40, go_sem, x0, x1]) rfl ⟨two_set hb2, .inl ⟨errOf s, HN.out, HE.out, rfl⟩⟩
  · subst x
    have hz := hb1.size
    rw [alloc_size] at hz
    have hb2 : Below (w.heap.size + 1) (w.alloc (.cells #[.int .i64 0, .slice none 0 0] 64)) (w2.alloc (.cells #[.int .i64 (byteAt s 1 : Nat), .slice (some ⟨g, 0, none⟩) (codeOf s).length cap] 64)) := hb1.alloc hz _
    have HW := hid (wf_of he)
    have HE := hid he
    have hgz : w.heap.size + 1 ≤ g := by simpa using hg1
    have hbw : Below w.heap.size w (w2.alloc (.cells #[.int .i64 (byteAt s 1 : Nat), .slice (some ⟨g, 0, none⟩) (codeOf s).length cap] 64)) := box_below (Nat.le_refl _) hb2
    have hfr := hid (frames_any HW.out g cap _ (hat.same (Below.heap_alloc w2 (.cells #[.int .i64 (byteAt s 1 : Nat), .slice (some ⟨g, 0, none⟩) (codeOf s).length cap] 64) _ hg2)) (by rw [alloc_size]; omega) (HTB.out.below hbw))
    have HAT := hid hat
    generalize hLL : byteAt s 1 = L at *
    have HLL := hid hLL
    generalize hl : codeOf s = l at *
    have HL := hid hl
    clear hat he hbw hl hg1 hLL
    go_wp2_with fail
    refine hfr.out.mono ?_
    clear hfr
    intro x w3 hp
    obtain ⟨hb3, hp⟩ := hp
    have hz3 := hb3.size
    rw [alloc_size] at hz3
    have hb4 : Below (w.heap.size + 1) (w.alloc (.cells #[.int .i64 0, .slice none 0 0] 64)) w3 := hb2.trans (hb3.mono (by rw [alloc_size]; omega))
    obtain ⟨bx, bo, hz2⟩ := box_cells hb4
    have x0 := bx 0
    have x1 := bx 1
    simp only [List.getElem?_toArray, List.getElem?_cons_zero, List.getElem?_cons_succ] at x0 x1
    have hf0 := hb4.frozen (p := ⟨w.heap.size, 0, none⟩) (by simp)
    have hf1 := hb4.frozen (p := ⟨w.heap.size, 1, none⟩) (by simp)
    have HB3 := hid hb3
    rcases hp with ⟨hn, rfl⟩ | ⟨fs, bf, rfl, hbf, hall, hinv, hst⟩
    · have HE5 : Hid (IsErr s 5) := hid (.inr (.inr ⟨HE.out, by rw [HL.out, HLL.out]; exact hn, rfl⟩))
      clear hn bx bo hb3
      go_wp2_with fail
      exact bodyPost_ret (v := .tuple #[.agg #[.int .i64 0, .slice none 0 0], .slice none 0 0, .int .i64 5]) (by simp [results, Tryz.results40, go_sem, x0, x1]) rfl ⟨two_set hb4, .inl ⟨5, by decide, HE5.out, rfl⟩⟩
    · obtain ⟨px, po, pz⟩ := box_cells (hb3.mono (by rw [alloc_size]; omega))
      have y0 := px 0
      have y1 := px 1
      simp only [List.getElem?_toArray, List.getElem?_cons_zero, List.getElem?_cons_succ] at y0 y1
      have hbf2 : w2.heap.size + 1 ≤ bf := by rw [alloc_size] at hbf; exact hbf
      have HALL := hid hall
      have HINV := hid hinv
      have HST := hid hst
      have HWT := hid (still_wt HW.out hinv.ok hst hinv.cov)
      have HCI := hid (HAT.out.same ((hb3.block g (by rw [alloc_size]; omega)).trans (Below.heap_alloc w2 _ _ hg2)))
      clear hall hinv hst hbf bx bo px po hb3 HB3 pz
      go_wp2_with fail
      refine bodyPost_ret (v := .tuple #[.agg #[.int .i64 L, .slice (some ⟨g, 0, none⟩) l.length cap], .slice (some ⟨bf, 0, none⟩) l.length l.length, .int .i64 0]) (by simp [results, Tryz.results40, go_sem, x0, x1]) rfl ⟨two_set hb4, .inr ?_⟩
      have hs0 : ∀ b u v, b ≠ w.heap.size → ((w3.setCell ⟨w.heap.size, 0, none⟩ u).setCell ⟨w.heap.size, 1, none⟩ v).heap[b]? = w3.heap[b]? := fun b u v h => by
        rw [Below.heap_setCell _ _ _ _ h, Below.heap_setCell _ _ _ _ h]
      refine ⟨g, cap, bf, fs, by rw [HL.out, HLL.out], ⟨HE.out, by rw [HL.out, HLL.out]; exact HWT.out, by omega, by simp [World.setCell]; omega, by rw [HL.out]; exact HCI.out.same (hs0 _ _ _ (by omega)), by omega, (hs0 _ _ _ (by omega)).trans HALL.out, by rw [HL.out, HLL.out]; exact HINV.out, by rw [HL.out]; exact HST.out⟩⟩
theorem num_any (r : Nat) (w : World) : Calls Tryz.prog 14 #[.int .i64 r] w fun e w' => e = .returned (.int .i64 r) ∧ w' = w := by
  go_enter Tryz.func14, Tryz.ntmps14
  go_wp2
  go_ret
  exact ⟨rfl, rfl⟩
end Go.Proofs.YtdmdpindonghdaaGreatDoor
namespace Go.Proofs.YtdmdpindonghdaaGreatDoor
open Go.RowKit
theorem row5 {wr w5 : World} {o o' : Obj} {base n : Nat} {v : Value} {cs : List Value} (h : wr.ownsRow base 102 4 v n cs) (hb : Below (wr.alloc o).drew.heap.size (wr.alloc o).drew w5) : (w5.alloc o').ownsRow base 102 4 v n cs := by
  have hb' : Below wr.heap.size wr w5 := ((Below.refl _ _).alloc (Nat.le_refl _) o).trans (⟨hb.os, hb.tape, hb.output, hb.size, fun k hk => hb.block k (by simp [World.drew]; omega)⟩)
  exact (owns_below h hb' (fun g hg => (h.lt g hg).2)).alloc _
theorem OwnPts.mono {w : World} {base base' : Nat} {v : Value} {ms : List MP} (h : OwnPts w base v ms) (hb : base' ≤ base) : OwnPts w base' v ms := by
  obtain ⟨cs, h1, h2⟩ := h
  exact ⟨cs, owns_mono h1 hb, PtsIn.keep (fun g hg => ⟨⟨Nat.le_trans hb hg.1, hg.2⟩, rfl⟩) _ _ h2⟩
def mapsF (l : List Ins) (fs : List Fr) (L : Nat) : List MP := List.zipWith (fun i f => ptF i.place f L) l fs
end Go.Proofs.YtdmdpindonghdaaGreatDoor
namespace Go.Proofs.YtdmdpindonghdaaGreatDoor
open Go.RowKit
/-- Where the program's machine lies: what no step changes. -/
structure PK where
  b : Nat
  g : Nat
  cap : Nat
  bf : Nat
  gC : Nat
  cC : Nat
  A : Nat
  B4 : Nat
  l : List Ins
  L : Nat
  fs : List Fr
  zs : List Int
def PK.row (K : PK) (vI vO : Value) (lo4 st8 : List Int) (s : MS) : List Value :=
  [.int .i64 K.L, .slice (some ⟨K.g, 0, none⟩) K.l.length K.cap, .slice (some ⟨K.bf, 0, none⟩) K.l.length K.l.length, vI, vO, .int .i64 s.oc, .int .i64 s.va, .int .i64 s.at_] ++ (lo4.map (Value.int .i64) ++ (.int .i64 s.st.length :: (st8.map (Value.int .i64) ++ [.slice (some ⟨K.gC, 0, none⟩) s.hs.1.length K.cC, .int .i64 s.hs.2.1, .int .i64 s.hs.2.2])))
structure PM (w : World) (K : PK) (vI vO : Value) (lo4 st8 : List Int) (s : MS) : Prop where
  row : w.heap[K.b]? = some (.cells (K.row vI vO lo4 st8 s).toArray 74)
  l4 : lo4.length = 4
  l8 : st8.length = 8
  lol : s.lo.length = K.L
  lo : lo4.take K.L = s.lo.map (·.2)
  stl : s.st.length ≤ 8
  st : st8.take s.st.length = s.st.map (·.2)
  L4 : K.L ≤ 4
  b1 : K.A ≤ K.b
  b2 : K.b < K.B4
  g1 : K.A ≤ K.g
  g2 : K.g < K.B4
  f1 : K.A ≤ K.bf
  f2 : K.bf < K.B4
  c1 : K.A ≤ K.gC
  c2 : K.gC < K.B4
  z : K.B4 ≤ w.heap.size
  ne1 : K.b ≠ K.g
  ne2 : K.b ≠ K.bf
  ne3 : K.b ≠ K.gC
  ne4 : K.gC ≠ K.g
  ne5 : K.gC ≠ K.bf
  code : CiAt w K.g (aims K.l)
  frames : AllAt w K.bf K.fs
  fok : AllOk K.fs
  flen : K.fs.length = K.l.length
  llen : K.l.length ≤ 120
  cells : w.ownsRow K.A 100 5 (.slice (some ⟨K.gC, 0, none⟩) s.hs.1.length K.cC) s.hs.1.length ((s.hs.1.map toldC).flatMap clCells)
  inp : ZsAt w vI (K.zs.drop s.rd)
  inb : ∀ a n c, vI = .slice (some a) n c → K.A ≤ a.block ∧ a.block < K.B4 ∧ a.block ≠ K.b ∧ a.block ≠ K.gC ∧ n ≤ c ∧ ∃ g o, a = ⟨g, o, none⟩
  out : w.ownsRow K.B4 3 1 vO s.out.length (s.out.map (.int .i64))
/-- The blocks of the program's machine. -/
def PK.In (K : PK) (vO : Value) (k : Nat) : Prop := (K.A ≤ k ∧ k < K.B4) ∨ vO.ownBlock = some k
theorem ZsAt.same {w w' : World} {v : Value} {zs : List Int} (h : ZsAt w v zs) (hk : ∀ a n c, v = .slice (some a) n c → w'.heap[a.block]? = w.heap[a.block]?) : ZsAt w' v zs := by
  rcases h with h | ⟨a, cap, hv, hc⟩
  · exact .inl h
  · refine .inr ⟨a, cap, hv, fun j x hj => ?_⟩
    have hbl : (a.add j).block = a.block := by unfold Addr.add; split <;> rfl
    exact (World.cell?_of_block (a := a.add j) (by rw [hbl]; exact hk a _ _ hv)).trans (hc j x hj)
theorem PM.keep {w w' : World} {K : PK} {vI vO : Value} {lo4 st8 : List Int} {s : MS} (h : PM w K vI vO lo4 st8 s) (hz : w.heap.size ≤ w'.heap.size) (hk : ∀ k, k < w.heap.size → K.In vO k → w'.heap[k]? = w.heap[k]?) : PM w' K vI vO lo4 st8 s := by
  have z := h.z
  have hin : ∀ k, K.A ≤ k → k < K.B4 → w'.heap[k]? = w.heap[k]? := fun k h1 h2 => hk k (by omega) (.inl ⟨h1, h2⟩)
  exact { h with
    row := (hin _ h.b1 h.b2).trans h.row
    z := by omega
    code := h.code.same (hin _ h.g1 h.g2)
    frames := (hin _ h.f1 h.f2).trans h.frames
    cells := owns_keep h.cells (fun g hg => by
      simp only [Value.ownBlock, Option.some.injEq] at hg
      subst hg
      exact hin _ h.c1 h.c2)
    inp := h.inp.same (fun a n c e => hin _ (h.inb a n c e).1 (h.inb a n c e).2.1)
    out := owns_keep h.out (fun g hg => hk g (h.out.lt g hg).2 (.inr hg)) }
theorem PM.below {w w' : World} {K : PK} {vI vO : Value} {lo4 st8 : List Int} {s : MS} (h : PM w K vI vO lo4 st8 s) (hb : Below w.heap.size w w') : PM w' K vI vO lo4 st8 s := h.keep hb.size (fun k hk _ => hb.block k hk)
theorem fourZ {l : List Int} (h : l.length = 4) : ∃ a b c d, l = [a, b, c, d] := by
  match l, h with
  | [a, b, c, d], _ => exact ⟨a, b, c, d, rfl⟩
theorem eightZ {l : List Int} (h : l.length = 8) : ∃ a b c d e f g i, l = [a, b, c, d, e, f, g, i] := by
  match l, h with
  | [a, b, c, d, e, f, g, i], _ => exact ⟨a, b, c, d, e, f, g, i, rfl⟩
theorem PM.get {w : World} {K : PK} {vI vO : Value} {lo4 st8 : List Int} {s : MS} (h : PM w K vI vO lo4 st8 s) (j : Nat) : w.cell? ⟨K.b, j, none⟩ = (K.row vI vO lo4 st8 s)[j]? := by
  rw [cell_of_row w K.b j _ _ _ h.row, List.getElem?_toArray]
set_option maxRecDepth 100000 in
theorem pphase_any (b o : Nat) (ph : Int) (w : World) (h : w.cell? ⟨b, o + 1, none⟩ = some (.int .i64 ph)) : Calls Tryz.prog 59 #[.pointer (some ⟨b, o, none⟩)] w fun e w' => e = .returned (.int .i64 ph) ∧ w' = w := by
  go_enter Tryz.func59, Tryz.ntmps59
  go_wp2_with fail
  go_ret
  exact ⟨rfl, rfl⟩
set_option maxRecDepth 100000 in
theorem phand_any (b o : Nat) (ph : Int) (w : World) (h : w.cell? ⟨b, o + 2, none⟩ = some (.int .i64 ph)) : Calls Tryz.prog 101 #[.pointer (some ⟨b, o, none⟩)] w fun e w' => e = .returned (.int .i64 ph) ∧ w' = w := by
  go_enter Tryz.func101, Tryz.ntmps101
  go_wp2_with fail
  go_ret
  exact ⟨rfl, rfl⟩
def HeapPost (cs : List Cl) (w : World) (e : Ending) (w' : World) : Prop :=
  Below w.heap.size w w' ∧ ∃ v', e = .returned v' ∧ w'.ownsRow w.heap.size 100 5 v' cs.length (cs.flatMap clCells)
set_option maxRecDepth 100000 in
theorem pheap_any {w : World} {K : PK} {vI vO : Value} {lo4 st8 : List Int} {s : MS} (h : PM w K vI vO lo4 st8 s) (hn : s.hs.1.length ≤ 100) :
    Calls Tryz.prog 63 #[.pointer (some ⟨K.b, 0, none⟩)] w (HeapPost (s.hs.1.map toldC) w) := by
  have m21 := h.get 21
  obtain ⟨a0, a1, a2, a3, rfl⟩ := fourZ h.l4
  obtain ⟨t0, t1, t2, t3, t4, t5, t6, t7, rfl⟩ := eightZ h.l8
  simp only [PK.row, List.map_cons, List.map_nil, List.cons_append, List.nil_append, List.getElem?_cons_zero, List.getElem?_cons_succ] at m21
  have hls := LsAt.of_owns h.cells
  have hc := hid (pcells_any K.b 21 (s.hs.1.map toldC) _ _ w m21 (by simpa using hls) (by simp; omega))
  clear h hls
  go_enter Tryz.func63, Tryz.ntmps63
  go_wp2_with fail
  refine hc.out.mono ?_
  clear hc
  intro x w5 hh
  have HP := hid hh
  obtain ⟨_, v', hx, _⟩ := hh
  subst x
  go_wp2_with fail
  go_ret
  exact HP.out
theorem zs_of_owns {w : World} {base : Nat} {v : Value} {zs : List Int} (h : w.ownsRow base 3 1 v zs.length (zs.map (.int .i64))) : ZsAt w v zs := by
  have hh := h
  rcases h.2 with ⟨h1, h2⟩ | ⟨g, cap, cur, hv, hg, r⟩
  · exact .inl ⟨h1, List.length_eq_zero_iff.1 h2⟩
  · subst hv
    refine .inr ⟨⟨g, 0, none⟩, cap, rfl, fun j x hj => hh.cells (g := g) rfl j _ ?_⟩
    rw [List.getElem?_map, hj]
    rfl
set_option maxRecDepth 100000 in
theorem poutput_any {w : World} {K : PK} {vI vO : Value} {lo4 st8 : List Int} {s : MS} (h : PM w K vI vO lo4 st8 s) (hn : s.out.length ≤ 8796093022208) :
    Calls Tryz.prog 25 #[.pointer (some ⟨K.b, 0, none⟩)] w (CopyPost s.out w) := by
  have m4 := h.get 4
  simp only [PK.row, List.cons_append, List.nil_append, List.getElem?_cons_zero, List.getElem?_cons_succ] at m4
  have hc := hid (copied_any s.out vO w (zs_of_owns h.out) hn)
  clear h
  go_enter Tryz.func25, Tryz.ntmps25
  go_wp2_with fail
  refine hc.out.mono ?_
  clear hc
  intro x w5 hh
  have HP := hid hh
  obtain ⟨_, v', hx, _⟩ := hh
  subst x
  go_wp2_with fail
  go_ret
  exact HP.out
end Go.Proofs.YtdmdpindonghdaaGreatDoor
