/- What the proofs of these statements stand on, part 2: RefE, RefF, SpecJ, FlowJ, TypG, MacD, MacG, MacH, HpA, HpB, ArrEq, FlowL, HpC, HpD, HpE, HpF, HpG, HpI, HpJ, MsA, PhA, HpK, MchA, MchB, MchC, MchD, MchE, MchF, CodeC, CodeD, FlowE, FlowF, FlowG, FlowH, FlowK, FlowM, FlowN, SpecL. -/
import Derived.Test.YtdmdpindonghdaaDoorRows
import Derived.Test.YtdmdpindonghdaaDoorOwn1
import Derived.WalkKit
import Derived.WalkSmall
import Derived.Deep.AppendLies
import Derived.Deep.DeepMust
import Derived.Deep.LoopGhost
import Derived.WalkSpells
import Derived.WalkLawsBesides
import Derived.BigRegion
import Derived.Deep.QuietTactic
import Derived.BigQuiet
import Derived.Deep.RegionHeld3
import Derived.OwnWalk
import Derived.Laws.StructEq
import Derived.Deep.RegionLaw
import Derived.Deep.DeepCutAuto
import Derived.Laws.MakeOwn
import Derived.Laws.IdiomCopy
namespace Go.Proofs.YtdmdpindonghdaaDoor
open Go.RowKit
theorem InsAt.get {w : World} {g : Nat} {l : List Ins} (h : InsAt w g l) {a : Nat} {i : Ins} (hi : l[a]? = some i) :
    w.cell? ⟨g, a * 3, none⟩ = some (.int .i64 i.op) ∧ w.cell? ⟨g, a * 3 + 1, none⟩ = some (.int .i64 i.n) ∧ w.cell? ⟨g, a * 3 + 2, none⟩ = some (.int .i64 i.place) := by
  obtain ⟨h1, rfl⟩ := List.getElem?_eq_some_iff.1 hi
  exact h a h1
theorem PtAt.get {w : World} {g : Nat} {l : List Pt} (h : PtAt w g l) {a : Nat} {i : Pt} (hi : l[a]? = some i) :
    w.cell? ⟨g, a * 3, none⟩ = some (.int .i64 i.at_) ∧ w.cell? ⟨g, a * 3 + 1, none⟩ = some (.string i.lo) ∧ w.cell? ⟨g, a * 3 + 2, none⟩ = some (.string i.st) := by
  obtain ⟨h1, rfl⟩ := List.getElem?_eq_some_iff.1 hi
  exact h a h1
theorem bcell_r {W w1 : World} (hb : Below W.heap.size W w1) : (∀ b o, b < W.heap.size → w1.cell? ⟨b, o, none⟩ = W.cell? ⟨b, o, none⟩) ∧ (∀ b o, b < W.heap.size → w1.frozen? ⟨b, o, none⟩ = W.frozen? ⟨b, o, none⟩) :=
  ⟨fun b o h => hb.cell (p := ⟨b, o, none⟩) h, fun b o h => hb.frozen (p := ⟨b, o, none⟩) h⟩
theorem cut_i {wr w2 : World} {nb : Obj} (c : Obj) (hb : Below (wr.alloc nb).drew.heap.size (wr.alloc nb).drew w2) : wr.heap.size + 1 ≤ w2.heap.size ∧ (w2.alloc c).heap[w2.heap.size]? = some c ∧ Below (wr.heap.size + 1) (wr.alloc nb) (w2.alloc c) := by
  have e : (wr.alloc nb).drew.heap.size = wr.heap.size + 1 := by simp
  have hs := hb.size
  rw [e] at hb hs
  exact ⟨hs, heap_alloc_new _ _, ((Below.refl _ _).drew.trans hb).alloc hs _⟩
theorem cut_ii {wr w2 : World} {nb : Obj} {z0 z1 z2 : Value} {t : TypeId} (v0 v1 v2 : Value) (hb : Below ((wr.alloc nb).alloc (.cells #[z0, z1, z2] t)).drew.heap.size ((wr.alloc nb).alloc (.cells #[z0, z1, z2] t)).drew w2) :
    (((w2.setCell ⟨wr.heap.size + 1, 0, none⟩ v0).setCell ⟨wr.heap.size + 1, 1, none⟩ v1).setCell ⟨wr.heap.size + 1, 2, none⟩ v2).heap[wr.heap.size + 1]? = some (.cells #[v0, v1, v2] t) ∧
    Below (wr.heap.size + 1) (wr.alloc nb) (((w2.setCell ⟨wr.heap.size + 1, 0, none⟩ v0).setCell ⟨wr.heap.size + 1, 1, none⟩ v1).setCell ⟨wr.heap.size + 1, 2, none⟩ v2) := by
  have e : ((wr.alloc nb).alloc (.cells #[z0, z1, z2] t)).drew.heap.size = wr.heap.size + 1 + 1 := by simp
  rw [e] at hb
  have h0 : w2.heap[wr.heap.size + 1]? = some (.cells #[z0, z1, z2] t) := (hb.block _ (by omega)).trans (heap_two_new wr _ _)
  have h1 := setCell_row 0 v0 h0
  have h2 := setCell_row 1 v1 h1
  have h3 := setCell_row 2 v2 h2
  refine ⟨by simpa using h3, ?_⟩
  have hb1 : Below (wr.heap.size + 1) (wr.alloc nb) w2 := (((Below.refl _ _).alloc (by simp) _).drew).trans (hb.mono (by omega))
  exact ((hb1.setCell (by simp) _).setCell (by simp) _).setCell (by simp) _
theorem joined_wf {l : List Ins} {L gi ci g cap base : Nat} {all : List Pt} {s : Pt} {i : Ins} {W : World} {x : Int} (hw : Wf l L) (hb : Base l L all) (ho : Okp l L s) (hi : l[s.at_]? = some i) (hat : InsAt W gi l) (hgi : gi < W.heap.size)
    (hown : W.ownsRow base 132 3 (.slice (some ⟨g, 0, none⟩) all.length cap) all.length (ptCells all)) (hbase : base ≤ W.heap.size) (hx : x = (s.at_ : Int)) :
    Calls Tryd.prog 67 #[.slice (some ⟨gi, 0, none⟩) l.length ci, .slice (some ⟨g, 0, none⟩) all.length cap, .agg #[.int .i64 x, .string s.lo, .string s.st]] W (JoinPost i all s base g W) := by
  subst hx
  obtain ⟨h1, rfl⟩ := List.getElem?_eq_some_iff.1 hi
  have hlen := hb.len hw
  have hl120 := hw.len
  refine joined_any l gi ci all g cap base s W hat hgi h1 hown hbase (by omega) (fun h => ?_)
  have hn := hw.arg _ (List.getElem_mem h1) (.inl h)
  exact ⟨by rw [ho.lo]; exact hn, fun q hq => by rw [(hb.ok q hq).lo]; exact hn⟩
theorem ways_world {w wr W : World} {nb : Obj} {l : List Ins} {gi g n cap e : Nat} {xs : List Value} (hbel : Below w.heap.size w wr) (hb : Below (wr.heap.size + 1) (wr.alloc nb) W) (hat : InsAt w gi l) (hgi : gi < w.heap.size)
    (hown : wr.ownsRow w.heap.size e 3 (.slice (some ⟨g, 0, none⟩) n cap) n xs) (hg : g < wr.heap.size) :
    Below w.heap.size w W ∧ InsAt W gi l ∧ gi < W.heap.size ∧ W.ownsRow w.heap.size e 3 (.slice (some ⟨g, 0, none⟩) n cap) n xs ∧ w.heap.size ≤ W.heap.size := by
  have h1 : Below wr.heap.size wr W := box_below (Nat.le_refl _) hb
  have hs := hbel.size
  have h2 : Below w.heap.size w W := hbel.trans (h1.mono hs)
  have h3 := h2.size
  exact ⟨h2, hat.below h2 hgi, by omega, owns_below hown h1 (fun g' hg' => by cases hg'; exact hg), h3⟩
theorem done_step {l : List Ins} {all ext ss : List Pt} {k : Nat} {p : Pt} (hd : Done l all k) (hk : k ≤ all.length) (hp : all[k]? = some p) (hs : stepP l p = some ss) (hm : ∀ s ∈ ss, s ∈ all ++ ext) : Done l (all ++ ext) (k + 1) := by
  intro j q hj hq
  by_cases h : j < k
  · exact hd.ext hk j q h hq
  · have : j = k := by omega
    subst this
    obtain ⟨h1, _⟩ := List.getElem?_eq_some_iff.1 hp
    rw [List.getElem?_append_left h1, hp] at hq
    cases hq
    exact ⟨ss, hs, hm⟩
def WaysPost (l : List Ins) (L : Nat) (w : World) (e : Ending) (w' : World) : Prop :=
  Below w.heap.size w w' ∧ ((WT l L ∧ ∃ g cap all, e = .returned (.tuple #[.slice (some ⟨g, 0, none⟩) all.length cap, .bool true]) ∧ w.heap.size ≤ g ∧ g < w'.heap.size ∧ PtAt w' g all ∧ Base l L all ∧ ∀ p, Reach l L p ↔ p ∈ all) ∨
    (¬ WT l L ∧ e = .returned (.tuple #[.slice none 0 0, .bool false])))
set_option maxRecDepth 100000 in
set_option maxHeartbeats 1000000 in
theorem ways_any (l : List Ins) (L gi ci : Nat) (w : World) (hw : Wf l L) (hat : InsAt w gi l) (hgi : gi < w.heap.size) (htab : TypeTab w) :
    Calls Tryd.prog 40 #[.slice (some ⟨gi, 0, none⟩) l.length ci, .int .i64 L] w (WaysPost l L w) := by
  have hL := hw.loc
  have hL0 : (0 : Int) ≤ (L : Int) := by omega
  have hL4 : (L : Int) ≤ 4 := by omega
  go_enter Tryd.func40, Tryd.ntmps40
  go_wp2_with fail
  go_loopw [7, 8] (fun v i w' => ∃ (k : Nat) (all : List Pt) (g cap : Nat), i = .int .i64 k ∧ v = .slice (some ⟨g, 0, none⟩) all.length cap ∧ w'.ownsRow w.heap.size 132 3 (.slice (some ⟨g, 0, none⟩) all.length cap) all.length (ptCells all) ∧
    Below w.heap.size w w' ∧ Base l L all ∧ Done l all k ∧ k ≤ all.length) (fun _ i _ => 16 * l.length + 1 - (intOf i).toNat)
  case atStart =>
    refine ⟨0, [initP L], w.heap.size + 1, 1, rfl, rfl, ⟨rfl, .inr ⟨w.heap.size + 1, 1, #[.int .i64 0, .string ((⟨#[105, 105, 105, 105]⟩ : ByteArray).extract 0 L), .string ⟨#[]⟩], rfl, by omega, heap_two_new w _ _, by simp, by unfold maxLen; simp, rfl, rfl⟩⟩, ((Below.refl _ _).alloc (Nat.le_refl _) _).alloc (by simp) _, Base.init hw, fun j p hj => by omega, by simp⟩
  case round =>
    obtain ⟨k, all, g, cap, rfl, rfl, hown, hbel, hbase, hdone, hk⟩ := hrel
    have hpt := PtAt.of_owns hown
    have hg := hown.lt g rfl
    have hlen := hbase.len hw
    have hl120 := hw.len
    have HB := hid hbase
    have HD := hid hdone
    have hsz := hbel.size
    have hgi2 : gi < wr.heap.size := by omega
    clear hbase hdone
    by_cases hlt : k < all.length
    · obtain ⟨p, hp⟩ : ∃ p, all[k]? = some p := ⟨_, List.getElem?_eq_getElem hlt⟩
      have HPM := hid (List.mem_of_getElem? hp)
      have HOK := hid (HB.out.ok p HPM.out)
      obtain ⟨ins, hins⟩ : ∃ i, l[p.at_]? = some i := ⟨_, List.getElem?_eq_getElem HOK.out.at_⟩
      have HM := hid (List.mem_of_getElem? hins)
      have hop := hw.op ins HM.out
      have harg := hid (hw.arg ins HM.out)
      have hnum := hw.num ins HM.out
      obtain ⟨q0, q1, q2⟩ := hpt.get hp
      obtain ⟨j0, j1, j2⟩ := (hat.below hbel hgi).get hins
      have HP := hid hp
      have HI := hid hins
      have ha0 : (0 : Int) ≤ (p.at_ : Int) := by omega
      have ha1 : (p.at_ : Int) < (l.length : Int) := by have := HOK.out.at_; omega
      have hk0 : (0 : Int) ≤ (k : Int) := by omega
      have hk1 : (k : Int) < (all.length : Int) := by omega
      have hlo : p.lo.size ≤ 4 := by have := HOK.out.lo; omega
      have hst := HOK.out.st
      clear hp hins hpt
      obtain ⟨a, lo, st⟩ := p
      obtain ⟨op, n, pl⟩ := ins
      simp only at q0 q1 q2 j0 j1 j2 ha0 ha1 hop hnum hlo hst
      have HA := hid (fun W (hW : TypeTab W) => after_any a op n pl lo st W hlo hst hop (fun h => by have := harg.out h; have := HOK.out.lo; simp only at *; omega) hW)
      have htab2 := htab.below hbel
      generalize hav : afterV lo st op n = A at *
      have HAV := hid hav
      clear hav
      obtain ⟨lo2, st2, ok⟩ := A
      go_upto_region 7 with fail
      go_cut [10, 11] (fun x10 x11 wc => ∃ B : Nat, x10 = .pointer (some ⟨B, 0, none⟩) ∧ x11 = .bool ok ∧ wr.heap.size + 1 ≤ B ∧ wc.heap[B]? = some (.cells #[.int .i64 a, .string lo2, .string st2] 132) ∧
        Below (wr.heap.size + 1) (wr.alloc (.cells #[.int .i64 op, .int .i64 n, .int .i64 pl] 129)) wc)
      case first =>
        go_region_with (go_at_call 66; go_must (refine (HA.out _ (htab2.below (by repeat (first | exact Below.refl _ _ | refine Below.drew ?_ | refine Below.alloc ?_ (by simp) _)))).mono ?_; intro e w2 hpost; obtain ⟨hb2, he2⟩ := hpost; rw [HAV.out] at he2; subst he2; obtain ⟨hc2, hf2⟩ := bcell_r hb2; have hz2 := hb2.size; simp at hc2 hf2 hz2))
        all_goals (go_wp2_with fail; go_meet)
        all_goals
          first
          | exact ⟨_, rfl, rfl, (cut_i (.cells #[] 0) hb2).1, (cut_i _ hb2).2.1, (cut_i _ hb2).2.2⟩
          | exact ⟨_, rfl, rfl, Nat.le_refl _, (cut_ii _ _ _ hb2).1, (cut_ii _ _ _ hb2).2⟩
      case rest =>
        obtain ⟨B, rfl, rfl, hB, hrow, hbc⟩ := hcut
        obtain ⟨bx, bo, hz⟩ := box_cells hbc
        have n0 := bx 0
        have n1 := bx 1
        have n2 := bx 2
        simp only [List.getElem?_toArray, List.getElem?_cons_zero, List.getElem?_cons_succ] at n0 n1 n2
        have r0 := cell_of_row wc B 0 _ _ _ hrow
        have r1 := cell_of_row wc B 1 _ _ _ hrow
        have r2 := cell_of_row wc B 2 _ _ _ hrow
        simp only [List.getElem?_toArray, List.getElem?_cons_zero, List.getElem?_cons_succ] at r0 r1 r2
        have rf := frozen_of_row wc B 0 _ _ hrow
        have hBz := World.block_lt_of_cell? wc _ r0
        simp only at hBz
        have hbc1 : Below wr.heap.size wr wc := box_below (Nat.le_refl _) hbc
        have hbw : Below w.heap.size w wc := hbel.trans (hbc1.mono (by omega))
        have hown1 := owns_below hown hbc1 (fun g' hg' => by cases hg'; exact hg.2)
        clear q0 q1 q2 j0 j1 j2 bx bo HA
        cases ok
        · have hno : Hid (¬ WT l L) := hid (fun hwt => hwt.1 _ (HB.out.reach _ HPM.out) (by rw [stepP_eq HI.out]; simp [HAV.out]))
          go_wp2_with fail
          go_ret2
          exact ⟨hbw, .inr ⟨hno.out, rfl⟩⟩
        by_cases h8 : 8 < st2.size
        · have hno : Hid (¬ WT l L) := hid (fun hwt => hwt.1 _ (HB.out.reach _ HPM.out) (by rw [stepP_eq HI.out]; simp [HAV.out, h8]))
          go_wp2_with fail
          go_ret2
          exact ⟨hbw, .inr ⟨hno.out, rfl⟩⟩
        have HSS : Hid (stepP l ⟨a, lo, st⟩ = some ((if isJump op = true then [⟨(findP n l 0).toNat, lo2, st2⟩] else []) ++ (if op ≠ 0 ∧ op ≠ 19 then [⟨a + 1, lo2, st2⟩] else []))) := hid (by
          rw [stepP_eq HI.out]; simp only [HAV.out]; rw [if_neg (by simp; omega)])
        have HRCH := hid (HB.out.reach _ HPM.out)
        obtain ⟨q0, q1, q2⟩ := (PtAt.of_owns hown1).get HP.out
        simp only at q0 q1 q2
        clear HAV harg q1 q2
        by_cases h0 : op = 0
        · have t0 : ((op : Int) == 19) = false := by simp; omega
          have t1 : ((op : Int) == 20) = false := by simp; omega
          have t2 : ((op : Int) != 0) = false := by simp; omega
          have HS0 : Hid (stepP l ⟨a, lo, st⟩ = some []) := hid (by rw [HSS.out]; simp [h0, isJump])
          clear h0
          go_wp2_with fail
          refine ⟨⟨k + 1, all, g, cap, by go_num, rfl, hown1, hbw, HB.out, ?_, by omega⟩, by simp [intOf]; omega⟩
          have := done_step (ext := []) HD.out hk HP.out HS0.out (fun s hs => by simp at hs)
          simpa using this
        by_cases h19 : op = 19
        · obtain ⟨tn, htn⟩ : ∃ tn : Nat, findP n l 0 = (tn : Int) := ⟨(findP n l 0).toNat, by have := hw.jump _ HM.out (by simp [isJump, h19]); simp only at this; omega⟩
          have t0 : ((op : Int) == 19) = true := by simp; omega
          have t2 : ((op : Int) != 0) = true := by simp; omega
          have t3 : ((op : Int) != 19) = false := by simp; omega
          have HS0 : Hid (stepP l ⟨a, lo, st⟩ = some [⟨tn, lo2, st2⟩]) := hid (by rw [HSS.out]; simp [h19, isJump, htn])
          have HTN := hid htn
          have HR2 := hid (HRCH.out.step HS0.out (List.mem_singleton.2 rfl))
          have HO2 := hid (step_ok hw HOK.out HS0.out (List.mem_singleton.2 rfl))
          obtain ⟨i2, hi2⟩ : ∃ i, l[tn]? = some i := ⟨_, List.getElem?_eq_getElem HO2.out.at_⟩
          have HI2 := hid hi2
          clear hi2 h0 h19 htn
          have HWS := hid (fun v => ways_world hbel (hbc.setCell (p := ⟨B, 0, none⟩) hB v) hat hgi hown hg.2)
          have HBX := hid (fun v => box_cells (hbc.setCell (p := ⟨B, 0, none⟩) hB v))
          go_wp2_with fail
          refine (find_any l gi ci n wc (by omega) (hat.below hbw hgi)).mono ?_
          intro e w9 hfd
          obtain ⟨he9, hw9⟩ := hfd
          subst e
          subst w9
          rw [HTN.out]
          go_wp2_with fail
          refine (joined_wf (s := ⟨tn, lo2, st2⟩) hw HB.out HO2.out HI2.out (HWS.out _).2.1 (HWS.out _).2.2.1 (HWS.out _).2.2.2.1 (HWS.out _).2.2.2.2 rfl).mono ?_
          intro e w3 hjp
          obtain ⟨hb3, hk3, v3, rfl, hv3, hown3⟩ := hjp
          have hbw3 := (HWS.out _).1.trans hb3
          have m0 := (hk3.cell (b := wr.heap.size) (o := 0) (by have := (HBX.out (.int .i64 tn)).2.2; omega) (by omega)).trans ((HBX.out _).1 0)
          simp only [List.getElem?_toArray, List.getElem?_cons_zero] at m0
          generalize hJ : joinedP i2 all ⟨tn, lo2, st2⟩ = J at *
          have HJ := hid hJ
          clear hJ
          obtain ⟨all2, ok2⟩ := J
          cases ok2
          · have hno := hid (joined_no HB.out HR2.out HI2.out (by rw [HJ.out]))
            clear hk3 hv3 HWS HBX
            go_wp2_with fail
            go_ret2
            exact ⟨hbw3, .inr ⟨hno.out, rfl⟩⟩
          · obtain ⟨hbase2, ⟨ext, hext⟩, hmem⟩ := joined_yes hw HB.out HR2.out HO2.out HI2.out (by rw [HJ.out])
            rw [HJ.out] at hbase2 hext hmem
            simp only at hbase2 hext hmem hown3
            have hlen2 : all.length ≤ all2.length := by rw [hext]; simp
            have hlen3 := hbase2.len hw
            obtain ⟨g3, cap3, rfl, hg3, hg4⟩ := hown3.form (by omega)
            have HB2 := hid hbase2
            have HD2 : Hid (Done l all2 (k + 1)) := hid (by
              rw [hext] at hmem ⊢
              exact done_step HD.out hk HP.out HS0.out (fun s hs => by rw [List.mem_singleton] at hs; subst hs; exact hmem))
            clear hk3 hv3 HWS HBX hbase2 hext hmem
            go_wp2_with fail
            exact ⟨⟨k + 1, all2, g3, cap3, by go_num, rfl, hown3, hbw3, HB2.out, HD2.out, by omega⟩, by simp [intOf]; omega⟩
        by_cases h20 : op = 20
        · obtain ⟨tn, htn⟩ : ∃ tn : Nat, findP n l 0 = (tn : Int) := ⟨(findP n l 0).toNat, by have := hw.jump _ HM.out (by simp [isJump, h20]); simp only at this; omega⟩
          have t0 : ((op : Int) == 19) = false := by simp; omega
          have t1 : ((op : Int) == 20) = true := by simp; omega
          have t2 : ((op : Int) != 0) = true := by simp; omega
          have t3 : ((op : Int) != 19) = true := by simp; omega
          have HS0 : Hid (stepP l ⟨a, lo, st⟩ = some [⟨tn, lo2, st2⟩, ⟨a + 1, lo2, st2⟩]) := hid (by rw [HSS.out]; simp [h20, isJump, htn])
          have HTN := hid htn
          have HR2 := hid (HRCH.out.step HS0.out (p := ⟨tn, lo2, st2⟩) (by simp))
          have HO2 := hid (step_ok hw HOK.out HS0.out (s := ⟨tn, lo2, st2⟩) (by simp))
          have HR4 := hid (HRCH.out.step HS0.out (p := ⟨a + 1, lo2, st2⟩) (by simp))
          have HO4 := hid (step_ok hw HOK.out HS0.out (s := ⟨a + 1, lo2, st2⟩) (by simp))
          obtain ⟨i2, hi2⟩ : ∃ i, l[tn]? = some i := ⟨_, List.getElem?_eq_getElem HO2.out.at_⟩
          have HI2 := hid hi2
          obtain ⟨i4, hi4⟩ : ∃ i, l[a + 1]? = some i := ⟨_, List.getElem?_eq_getElem HO4.out.at_⟩
          have HI4 := hid hi4
          clear hi2 hi4 h0 h19 h20 htn
          have HWS := hid (fun v => ways_world hbel (hbc.setCell (p := ⟨B, 0, none⟩) hB v) hat hgi hown hg.2)
          have HBX := hid (fun v => box_cells (hbc.setCell (p := ⟨B, 0, none⟩) hB v))
          go_wp2_with fail
          refine (find_any l gi ci n wc (by omega) (hat.below hbw hgi)).mono ?_
          intro e w9 hfd
          obtain ⟨he9, hw9⟩ := hfd
          subst e
          subst w9
          rw [HTN.out]
          go_wp2_with fail
          refine (joined_wf (s := ⟨tn, lo2, st2⟩) hw HB.out HO2.out HI2.out (HWS.out _).2.1 (HWS.out _).2.2.1 (HWS.out _).2.2.2.1 (HWS.out _).2.2.2.2 rfl).mono ?_
          intro e w3 hjp
          obtain ⟨hb3, hk3, v3, rfl, hv3, hown3⟩ := hjp
          have hbw3 := (HWS.out _).1.trans hb3
          have hwz := (HBX.out (.int .i64 tn)).2.2
          have hBz2 : B < (wc.setCell ⟨B, 0, none⟩ (.int .i64 tn)).heap.size := by simpa [World.setCell] using hBz
          have m0 := (hk3.cell (b := wr.heap.size) (o := 0) (by omega) (by omega)).trans ((HBX.out _).1 0)
          simp only [List.getElem?_toArray, List.getElem?_cons_zero] at m0
          have hrow3 := (hk3 B hBz2 (by omega)).trans (setCell_row 0 (.int .i64 tn) hrow)
          simp at hrow3
          generalize hJ : joinedP i2 all ⟨tn, lo2, st2⟩ = J at *
          have HJ := hid hJ
          clear hJ
          obtain ⟨all2, ok2⟩ := J
          cases ok2
          · have hno := hid (joined_no HB.out HR2.out HI2.out (by rw [HJ.out]))
            clear hk3 hv3 HWS HBX hrow3
            go_wp2_with fail
            go_ret2
            exact ⟨hbw3, .inr ⟨hno.out, rfl⟩⟩
          obtain ⟨hbase2, ⟨ext, hext⟩, hmem⟩ := joined_yes hw HB.out HR2.out HO2.out HI2.out (by rw [HJ.out])
          rw [HJ.out] at hbase2 hext hmem
          simp only at hbase2 hext hmem hown3
          have hlen2 : all.length ≤ all2.length := by rw [hext]; simp
          have hlen3 := hbase2.len hw
          obtain ⟨g3, cap3, rfl, hg3, hg4⟩ := hown3.form (by omega)
          have hBg : B ≠ g3 := by
            rcases hv3 g3 rfl with h | h
            · omega
            · omega
          have HB2 := hid hbase2
          have HP2 : Hid (all2[k]? = some ⟨a, lo, st⟩) := hid (by rw [hext, List.getElem?_append_left hlt]; exact HP.out)
          have HX2 := hid hext
          have HM2 := hid hmem
          obtain ⟨s0, s1, s2⟩ := (PtAt.of_owns hown3).get HP2.out
          simp only at s0
          have v0 := cell_of_row w3 B 0 _ _ _ hrow3
          have v1 := cell_of_row w3 B 1 _ _ _ hrow3
          have v2 := cell_of_row w3 B 2 _ _ _ hrow3
          simp only [List.getElem?_toArray, List.getElem?_cons_zero, List.getElem?_cons_succ] at v0 v1 v2
          have vf := frozen_of_row w3 B 0 _ _ hrow3
          have hk2a : (k : Int) < (all2.length : Int) := by omega
          have HW3 : Hid (∀ v, Below w.heap.size w (w3.setCell ⟨B, 0, none⟩ v) ∧ (w3.setCell ⟨B, 0, none⟩ v).ownsRow w.heap.size 132 3 (.slice (some ⟨g3, 0, none⟩) all2.length cap3) all2.length (ptCells all2)) := hid (fun v =>
            ⟨hbw3.setCell (p := ⟨B, 0, none⟩) (by simp only; omega) v, owns_set hown3 (by simp only [Value.ownBlock]; intro h; cases h; exact hBg rfl) v⟩)
          clear hk3 hv3 HWS HBX hbase2 hext hmem s1 s2 hrow3
          go_wp2_with fail
          refine (joined_wf (s := ⟨a + 1, lo2, st2⟩) hw HB2.out HO4.out HI4.out (hat.below (HW3.out _).1 hgi) (by have := (HW3.out (.int .i64 0)).1.size; simp [World.setCell] at *; omega) (HW3.out _).2 (HW3.out _).1.size (by simp)).mono ?_
          intro e w5 hjp
          obtain ⟨hb5, hk5, v5, rfl, hv5, hown5⟩ := hjp
          have hbw5 := (HW3.out _).1.trans hb5
          generalize hJ : joinedP i4 all2 ⟨a + 1, lo2, st2⟩ = J at *
          have HJ4 := hid hJ
          clear hJ
          obtain ⟨all4, ok4⟩ := J
          cases ok4
          · have hno := hid (joined_no HB2.out HR4.out HI4.out (by rw [HJ4.out]))
            clear hk5 hv5 HW3
            go_wp2_with fail
            go_ret2
            exact ⟨hbw5, .inr ⟨hno.out, rfl⟩⟩
          obtain ⟨hbase4, ⟨ext4, hext4⟩, hmem4⟩ := joined_yes hw HB2.out HR4.out HO4.out HI4.out (by rw [HJ4.out])
          rw [HJ4.out] at hbase4 hext4 hmem4
          simp only at hbase4 hext4 hmem4 hown5
          have hlen4 : all2.length ≤ all4.length := by rw [hext4]; simp
          have hlen5 := hbase4.len hw
          obtain ⟨g5, cap5, rfl, hg5, hg6⟩ := hown5.form (by omega)
          have HB4 := hid hbase4
          have HD4 : Hid (Done l all4 (k + 1)) := hid (by
            have e : all4 = all ++ (ext ++ ext4) := by rw [hext4, HX2.out, List.append_assoc]
            have hm2 := HM2.out
            rw [HX2.out] at hm2
            rw [e] at hmem4 ⊢
            refine done_step HD.out hk HP.out HS0.out (fun s hs => ?_)
            simp only [List.mem_cons, List.not_mem_nil, or_false] at hs
            rcases hs with rfl | rfl
            · rw [← List.append_assoc]; exact List.mem_append_left _ hm2
            · exact hmem4)
          clear hk5 hv5 HW3 hbase4 hext4 hmem4
          go_wp2_with fail
          exact ⟨⟨k + 1, all4, g5, cap5, by go_num, rfl, hown5, hbw5, HB4.out, HD4.out, by omega⟩, by simp [intOf]; omega⟩
        have t0 : ((op : Int) == 19) = false := by simp; omega
        have t1 : ((op : Int) == 20) = false := by simp; omega
        have t2 : ((op : Int) != 0) = true := by simp; omega
        have t3 : ((op : Int) != 19) = true := by simp; omega
        have HS0 : Hid (stepP l ⟨a, lo, st⟩ = some [⟨a + 1, lo2, st2⟩]) := hid (by rw [HSS.out]; simp [h0, h19, h20, isJump])
        have HR2 := hid (HRCH.out.step HS0.out (List.mem_singleton.2 rfl))
        have HO2 := hid (step_ok hw HOK.out HS0.out (List.mem_singleton.2 rfl))
        obtain ⟨i2, hi2⟩ : ∃ i, l[a + 1]? = some i := ⟨_, List.getElem?_eq_getElem HO2.out.at_⟩
        have HI2 := hid hi2
        clear hi2 h0 h19 h20
        have HWS := hid (fun v => ways_world hbel (hbc.setCell (p := ⟨B, 0, none⟩) hB v) hat hgi hown hg.2)
        go_wp2_with fail
        refine (joined_wf (s := ⟨a + 1, lo2, st2⟩) hw HB.out HO2.out HI2.out (HWS.out _).2.1 (HWS.out _).2.2.1 (HWS.out _).2.2.2.1 (HWS.out _).2.2.2.2 (by simp)).mono ?_
        intro e w3 hjp
        obtain ⟨hb3, hk3, v3, rfl, hv3, hown3⟩ := hjp
        have hbw3 := (HWS.out _).1.trans hb3
        generalize hJ : joinedP i2 all ⟨a + 1, lo2, st2⟩ = J at *
        have HJ := hid hJ
        clear hJ
        obtain ⟨all2, ok2⟩ := J
        cases ok2
        · have hno := hid (joined_no HB.out HR2.out HI2.out (by rw [HJ.out]))
          clear hk3 hv3 HWS
          go_wp2_with fail
          go_ret2
          exact ⟨hbw3, .inr ⟨hno.out, rfl⟩⟩
        · obtain ⟨hbase2, ⟨ext, hext⟩, hmem⟩ := joined_yes hw HB.out HR2.out HO2.out HI2.out (by rw [HJ.out])
          rw [HJ.out] at hbase2 hext hmem
          simp only at hbase2 hext hmem hown3
          have hlen2 : all.length ≤ all2.length := by rw [hext]; simp
          have hlen3 := hbase2.len hw
          obtain ⟨g3, cap3, rfl, hg3, hg4⟩ := hown3.form (by omega)
          have HB2 := hid hbase2
          have HD2 : Hid (Done l all2 (k + 1)) := hid (by
            rw [hext] at hmem ⊢
            exact done_step HD.out hk HP.out HS0.out (fun s hs => by rw [List.mem_singleton] at hs; subst hs; exact hmem))
          clear hk3 hv3 HWS hbase2 hext hmem
          go_wp2_with fail
          exact ⟨⟨k + 1, all2, g3, cap3, by go_num, rfl, hown3, hbw3, HB2.out, HD2.out, by omega⟩, by simp [intOf]; omega⟩
    · have hke : k = all.length := by omega
      subst hke
      have hend := hid (ways_end HB.out HD.out)
      go_wp2_with fail
      go_ret2
      exact ⟨hbel, .inl ⟨hend.out.1, g, cap, all, rfl, hg.1, hg.2, hpt, HB.out, hend.out.2⟩⟩
end Go.Proofs.YtdmdpindonghdaaDoor
namespace Go.Proofs.YtdmdpindonghdaaDoor
open Go.RowKit
def CheckPost (s : ByteArray) (w : World) (e : Ending) (w' : World) : Prop := Below w.heap.size w w' ∧ ∃ r : Nat, e = .returned (.int .i64 r) ∧ IsErr s r
theorem checkPost_mk {s : ByteArray} {w w' : World} {r : Nat} {x : Int} (hb : Below w.heap.size w w') (hx : x = (r : Int)) (h : IsErr s r) : CheckPost s w (.returned (.int .i64 x)) w' := by
  subst hx; exact ⟨hb, r, rfl, h⟩
set_option maxRecDepth 100000 in
set_option maxHeartbeats 400000 in
theorem refCheck_any (s : ByteArray) (w : World) (hs : s.size ≤ maxLen) (ht : TakesTab w) (htt : TypeTab w) :
    Calls Tryd.prog 11 #[.string s] w (CheckPost s w) := by
  have hc := hid (code_any s w hs ht)
  clear hs
  go_enter Tryd.func11, Tryd.ntmps11
  go_wp2_with fail
  refine hc.out.mono ?_
  intro e w1 hp
  obtain ⟨hb, hp⟩ := hp
  clear hc
  rcases hp with ⟨he, rfl⟩ | ⟨he, g, cap, rfl, h1, h2, h3⟩
  · have he' : (((errOf s : Nat) : Int) != 0) = true := by simp; omega
    have HE := hid he
    clear he
    go_wp2_with fail
    go_ret
    exact checkPost_mk hb rfl (.inl ⟨HE.out, rfl⟩)
  · have HE := hid he
    have htt1 := htt.below hb
    have hw := hid (wf_of he)
    clear he
    go_wp2_with fail
    refine (ways_any (codeOf s) (byteAt s 1) g cap w1 hw.out h3 h2 htt1).mono ?_
    intro e w2 hp
    obtain ⟨hb2, hp⟩ := hp
    have hbb : Below w.heap.size w w2 := hb.trans (hb2.mono hb.size)
    rcases hp with ⟨hwt, g2, cap2, all, rfl, _⟩ | ⟨hwt, rfl⟩
    · have HWT := hid hwt
      clear hwt
      go_wp2_with fail
      go_ret
      exact checkPost_mk (r := 0) hbb rfl (.inr (.inl ⟨HE.out, HWT.out, rfl⟩))
    · have HWT := hid hwt
      clear hwt
      go_wp2_with fail
      go_ret
      exact checkPost_mk (r := 5) hbb rfl (.inr (.inr ⟨HE.out, HWT.out, rfl⟩))
end Go.Proofs.YtdmdpindonghdaaDoor
namespace Go.Proofs.YtdmdpindonghdaaDoor
open Go.RowKit
def allL (fs : List Fr) : List Value := fs.flatMap frL
theorem frL_len {f : Fr} (h : FrOk f) : (frL f).length = 15 := by
  simp [frL, h.lo, h.stk]
def AllOk (fs : List Fr) : Prop := ∀ f ∈ fs, FrOk f
theorem allL_len {fs : List Fr} (h : AllOk fs) : (allL fs).length = fs.length * 15 := by
  induction fs with
  | nil => rfl
  | cons f r ih =>
    have h1 := frL_len (h f (by simp))
    have h2 := ih (fun g hg => h g (by simp [hg]))
    simp only [allL, List.flatMap_cons, List.length_append, List.length_cons] at *
    omega
theorem allL_at {fs : List Fr} (h : AllOk fs) {k j : Nat} {f : Fr} (hk : fs[k]? = some f) (hj : j < 15) : (allL fs)[k * 15 + j]? = (frL f)[j]? := by
  induction fs generalizing k with
  | nil => simp at hk
  | cons a r ih =>
    have h1 := frL_len (h a (by simp))
    have e : allL (a :: r) = frL a ++ allL r := rfl
    cases k with
    | zero =>
      simp only [List.getElem?_cons_zero, Option.some.injEq] at hk
      subst hk
      rw [e, List.getElem?_append_left (by omega)]
      simp
    | succ k =>
      rw [e, List.getElem?_append_right (by omega)]
      rw [show (k + 1) * 15 + j - (frL a).length = k * 15 + j by omega]
      exact ih (fun g hg => h g (by simp [hg])) (by simpa using hk)
/-- Writing v into cell j of frame k, again and again: the row of fifteen that is left. -/
def putL (l : List Value) (o : Nat) : List Value → List Value
  | [] => l
  | v :: r => putL (l.set o v) (o + 1) r
theorem putL_append (a b : List Value) (vs : List Value) (o : Nat) : putL (a ++ b) (a.length + o) vs = a ++ putL b o vs := by
  induction vs generalizing b o with
  | nil => rfl
  | cons v r ih =>
    simp only [putL]
    rw [List.set_append_right _ _ (by omega), show a.length + o - a.length = o by omega, Nat.add_assoc]
    exact ih _ _
theorem putL_head (pre b vs : List Value) (o : Nat) (ho : o = pre.length) (h : vs.length ≤ b.length) : putL (pre ++ b) o vs = pre ++ (vs ++ b.drop vs.length) := by
  induction vs generalizing pre b o with
  | nil => simp [putL]
  | cons v r ih =>
    subst ho
    cases b with
    | nil => simp at h
    | cons c b =>
      simp only [putL]
      rw [List.set_append_right _ _ (by omega)]
      simp only [Nat.sub_self, List.set_cons_zero]
      have e : pre ++ v :: b = (pre ++ [v]) ++ b := by simp
      rw [e, ih (pre ++ [v]) b (pre.length + 1) (by simp) (by simpa using h)]
      simp
theorem allL_put {fs : List Fr} (h : AllOk fs) {k : Nat} (hk : k < fs.length) {f : Fr} (hf : FrOk f) : putL (allL fs) (k * 15) (frL f) = allL (fs.set k f) := by
  induction fs generalizing k with
  | nil => simp at hk
  | cons a r ih =>
    have h1 := frL_len (h a (by simp))
    have h2 := frL_len hf
    have e : allL (a :: r) = frL a ++ allL r := rfl
    cases k with
    | zero =>
      rw [e]
      have := putL_head [] (frL a ++ allL r) (frL f) 0 rfl (by simp; omega)
      simp only [List.nil_append] at this
      rw [show 0 * 15 = 0 from rfl, this, h2, List.drop_append_of_le_length (by omega), List.drop_of_length_le (by omega)]
      rfl
    | succ k =>
      have e2 : (k + 1) * 15 = (frL a).length + k * 15 := by omega
      rw [e, e2, putL_append, ih (fun g hg => h g (by simp [hg])) (by simpa using hk)]
      rfl
theorem AllOk.set {fs : List Fr} (h : AllOk fs) {f : Fr} (hf : FrOk f) (k : Nat) : AllOk (fs.set k f) := by
  intro g hg
  rcases List.mem_or_eq_of_mem_set hg with h1 | h1
  · exact h g h1
  · rw [h1]; exact hf
/-- All frames lie in block b. -/
def AllAt (w : World) (b : Nat) (fs : List Fr) : Prop := w.heap[b]? = some (.cells (allL fs).toArray 93)
theorem AllAt.cell {w : World} {b k j : Nat} {fs : List Fr} {f : Fr} (h : AllAt w b fs) (ha : AllOk fs) (hk : fs[k]? = some f) (hj : j < 15) : w.cell? ⟨b, k * 15 + j, none⟩ = (frL f)[j]? := by
  rw [cell_of_row w b (k * 15 + j) _ _ _ h]
  simp only [List.getElem?_toArray]
  exact allL_at ha hk hj
theorem AllAt.frozen {w : World} {b : Nat} {fs : List Fr} (h : AllAt w b fs) (j : Nat) : w.frozen? ⟨b, j, none⟩ = false := frozen_of_row w b j _ _ h
theorem put15 {w : World} {b : Nat} {t : TypeId} {l : List Value} (o : Nat) (h : w.heap[b]? = some (.cells l.toArray t)) (v0 v1 v2 v3 v4 v5 v6 v7 v8 v9 v10 v11 v12 v13 v14 : Value) :
    (((((((((((((((w.setCell ⟨b, o, none⟩ v0).setCell ⟨b, o + 1, none⟩ v1).setCell ⟨b, o + 2, none⟩ v2).setCell ⟨b, o + 3, none⟩ v3).setCell ⟨b, o + 4, none⟩ v4).setCell ⟨b, o + 5, none⟩ v5).setCell ⟨b, o + 6, none⟩ v6).setCell ⟨b, o + 7, none⟩ v7).setCell ⟨b, o + 8, none⟩ v8).setCell ⟨b, o + 9, none⟩ v9).setCell ⟨b, o + 10, none⟩ v10).setCell ⟨b, o + 11, none⟩ v11).setCell ⟨b, o + 12, none⟩ v12).setCell ⟨b, o + 13, none⟩ v13).setCell ⟨b, o + 14, none⟩ v14).heap[b]? = some (.cells (putL l o [v0, v1, v2, v3, v4, v5, v6, v7, v8, v9, v10, v11, v12, v13, v14]).toArray t) := by
  have := (setCell_row (o + 14) v14 (setCell_row (o + 13) v13 (setCell_row (o + 12) v12 (setCell_row (o + 11) v11 (setCell_row (o + 10) v10 (setCell_row (o + 9) v9 (setCell_row (o + 8) v8 (setCell_row (o + 7) v7 (setCell_row (o + 6) v6 (setCell_row (o + 5) v5 (setCell_row (o + 4) v4 (setCell_row (o + 3) v3 (setCell_row (o + 2) v2 (setCell_row (o + 1) v1 (setCell_row (o) v0 h)))))))))))))))
  simpa [putL, Nat.add_assoc] using this
theorem same15 {w : World} {b c : Nat} (o : Nat) (hc : c ≠ b) (v0 v1 v2 v3 v4 v5 v6 v7 v8 v9 v10 v11 v12 v13 v14 : Value) : (((((((((((((((w.setCell ⟨b, o, none⟩ v0).setCell ⟨b, o + 1, none⟩ v1).setCell ⟨b, o + 2, none⟩ v2).setCell ⟨b, o + 3, none⟩ v3).setCell ⟨b, o + 4, none⟩ v4).setCell ⟨b, o + 5, none⟩ v5).setCell ⟨b, o + 6, none⟩ v6).setCell ⟨b, o + 7, none⟩ v7).setCell ⟨b, o + 8, none⟩ v8).setCell ⟨b, o + 9, none⟩ v9).setCell ⟨b, o + 10, none⟩ v10).setCell ⟨b, o + 11, none⟩ v11).setCell ⟨b, o + 12, none⟩ v12).setCell ⟨b, o + 13, none⟩ v13).setCell ⟨b, o + 14, none⟩ v14).heap[c]? = w.heap[c]? := by
  iterate 15 rw [Below.heap_setCell _ _ _ _ hc]
theorem size15 {w : World} {b : Nat} (o : Nat) (v0 v1 v2 v3 v4 v5 v6 v7 v8 v9 v10 v11 v12 v13 v14 : Value) : (((((((((((((((w.setCell ⟨b, o, none⟩ v0).setCell ⟨b, o + 1, none⟩ v1).setCell ⟨b, o + 2, none⟩ v2).setCell ⟨b, o + 3, none⟩ v3).setCell ⟨b, o + 4, none⟩ v4).setCell ⟨b, o + 5, none⟩ v5).setCell ⟨b, o + 6, none⟩ v6).setCell ⟨b, o + 7, none⟩ v7).setCell ⟨b, o + 8, none⟩ v8).setCell ⟨b, o + 9, none⟩ v9).setCell ⟨b, o + 10, none⟩ v10).setCell ⟨b, o + 11, none⟩ v11).setCell ⟨b, o + 12, none⟩ v12).setCell ⟨b, o + 13, none⟩ v13).setCell ⟨b, o + 14, none⟩ v14).heap.size = w.heap.size := by
  simp [World.setCell]
end Go.Proofs.YtdmdpindonghdaaDoor
namespace Go.Proofs.YtdmdpindonghdaaDoor
open Go.RowKit
def WalkAt (w : World) (bw : Nat) (lv : Value) (bf n cap : Nat) (ch : Bool) : Prop := w.heap[bw]? = some (.cells #[lv, .slice (some ⟨bf, 0, none⟩) n cap, .bool ch] 154)
/-- Of what was there only the blocks a and b may have turned. -/
structure Two (a b : Nat) (w w' : World) : Prop where
  os : w'.os = w.os
  tape : w'.tape = w.tape
  output : w'.output = w.output
  size : w.heap.size ≤ w'.heap.size
  block : ∀ k, k < w.heap.size → k ≠ a → k ≠ b → w'.heap[k]? = w.heap[k]?
theorem Two.refl (a b : Nat) (w : World) : Two a b w w := ⟨rfl, rfl, rfl, Nat.le_refl _, fun _ _ _ _ => rfl⟩
theorem Two.alloc {a b : Nat} {w w' : World} (h : Two a b w w') (o : Obj) : Two a b w (w'.alloc o) :=
  ⟨h.os, h.tape, h.output, by have := h.size; simp; omega, fun k hk h1 h2 => by rw [Below.heap_alloc _ _ _ (Nat.lt_of_lt_of_le hk h.size)]; exact h.block k hk h1 h2⟩
theorem Two.setB {a b : Nat} {w w' : World} (h : Two a b w w') (o : Nat) (v : Value) : Two a b w (w'.setCell ⟨b, o, none⟩ v) :=
  ⟨h.os, h.tape, h.output, by simpa [World.setCell] using h.size, fun k hk h1 h2 => by rw [Below.heap_setCell _ _ _ _ h2]; exact h.block k hk h1 h2⟩
theorem Two.drew {a b : Nat} {w w' : World} (h : Two a b w w') : Two a b w w'.drew := ⟨h.os, h.tape, h.output, h.size, h.block⟩
theorem alloc_size (w : World) (o : Obj) : (w.alloc o).heap.size = w.heap.size + 1 := by simp
theorem drew_heap (w : World) : w.drew.heap = w.heap := rfl
theorem reach_put {w : World} {bw bf cap k n d : Nat} {fs : List Fr} {lv : Value} {ch : Bool} (r u : Bool) (a b c e t0 t1 t2 t3 t4 t5 t6 t7 : Nat) (x y : Obj) (hall : AllAt w bf fs) (hok : AllOk fs) (hk : k < fs.length)
    (hwalk : WalkAt w bw lv bf n cap ch) (hne : bw ≠ bf) (hd : d ≤ 8) (hbf : bf < w.heap.size) (hbw : bw < w.heap.size) :
    AllAt (((((((((((((((((w.setCell ⟨bf, k * 15, none⟩ (.bool r)).setCell ⟨bf, k * 15 + 1, none⟩ (.int .i64 a)).setCell ⟨bf, k * 15 + 2, none⟩ (.int .i64 b)).setCell ⟨bf, k * 15 + 3, none⟩ (.int .i64 c)).setCell ⟨bf, k * 15 + 4, none⟩ (.int .i64 e)).setCell ⟨bf, k * 15 + 5, none⟩ (.int .i64 d)).setCell ⟨bf, k * 15 + 6, none⟩ (.int .i64 t0)).setCell ⟨bf, k * 15 + 7, none⟩ (.int .i64 t1)).setCell ⟨bf, k * 15 + 8, none⟩ (.int .i64 t2)).setCell ⟨bf, k * 15 + 9, none⟩ (.int .i64 t3)).setCell ⟨bf, k * 15 + 10, none⟩ (.int .i64 t4)).setCell ⟨bf, k * 15 + 11, none⟩ (.int .i64 t5)).setCell ⟨bf, k * 15 + 12, none⟩ (.int .i64 t6)).setCell ⟨bf, k * 15 + 13, none⟩ (.int .i64 t7)).setCell ⟨bf, k * 15 + 14, none⟩ (.bool u)).alloc x).alloc y).drew bf (fs.set k ⟨r, [a, b, c, e], d, [t0, t1, t2, t3, t4, t5, t6, t7], u⟩) ∧
    WalkAt (((((((((((((((((w.setCell ⟨bf, k * 15, none⟩ (.bool r)).setCell ⟨bf, k * 15 + 1, none⟩ (.int .i64 a)).setCell ⟨bf, k * 15 + 2, none⟩ (.int .i64 b)).setCell ⟨bf, k * 15 + 3, none⟩ (.int .i64 c)).setCell ⟨bf, k * 15 + 4, none⟩ (.int .i64 e)).setCell ⟨bf, k * 15 + 5, none⟩ (.int .i64 d)).setCell ⟨bf, k * 15 + 6, none⟩ (.int .i64 t0)).setCell ⟨bf, k * 15 + 7, none⟩ (.int .i64 t1)).setCell ⟨bf, k * 15 + 8, none⟩ (.int .i64 t2)).setCell ⟨bf, k * 15 + 9, none⟩ (.int .i64 t3)).setCell ⟨bf, k * 15 + 10, none⟩ (.int .i64 t4)).setCell ⟨bf, k * 15 + 11, none⟩ (.int .i64 t5)).setCell ⟨bf, k * 15 + 12, none⟩ (.int .i64 t6)).setCell ⟨bf, k * 15 + 13, none⟩ (.int .i64 t7)).setCell ⟨bf, k * 15 + 14, none⟩ (.bool u)).alloc x).alloc y).drew bw lv bf n cap ch ∧
    Two bw bf w (((((((((((((((((w.setCell ⟨bf, k * 15, none⟩ (.bool r)).setCell ⟨bf, k * 15 + 1, none⟩ (.int .i64 a)).setCell ⟨bf, k * 15 + 2, none⟩ (.int .i64 b)).setCell ⟨bf, k * 15 + 3, none⟩ (.int .i64 c)).setCell ⟨bf, k * 15 + 4, none⟩ (.int .i64 e)).setCell ⟨bf, k * 15 + 5, none⟩ (.int .i64 d)).setCell ⟨bf, k * 15 + 6, none⟩ (.int .i64 t0)).setCell ⟨bf, k * 15 + 7, none⟩ (.int .i64 t1)).setCell ⟨bf, k * 15 + 8, none⟩ (.int .i64 t2)).setCell ⟨bf, k * 15 + 9, none⟩ (.int .i64 t3)).setCell ⟨bf, k * 15 + 10, none⟩ (.int .i64 t4)).setCell ⟨bf, k * 15 + 11, none⟩ (.int .i64 t5)).setCell ⟨bf, k * 15 + 12, none⟩ (.int .i64 t6)).setCell ⟨bf, k * 15 + 13, none⟩ (.int .i64 t7)).setCell ⟨bf, k * 15 + 14, none⟩ (.bool u)).alloc x).alloc y).drew := by
  have hs := size15 (w := w) (b := bf) (k * 15) (.bool r) (.int .i64 a) (.int .i64 b) (.int .i64 c) (.int .i64 e) (.int .i64 d) (.int .i64 t0) (.int .i64 t1) (.int .i64 t2) (.int .i64 t3) (.int .i64 t4) (.int .i64 t5) (.int .i64 t6) (.int .i64 t7) (.bool u)
  refine ⟨?_, ?_, ((((((((((((((((((Two.refl bw bf w).setB (k * 15) (.bool r)).setB (k * 15 + 1) (.int .i64 a)).setB (k * 15 + 2) (.int .i64 b)).setB (k * 15 + 3) (.int .i64 c)).setB (k * 15 + 4) (.int .i64 e)).setB (k * 15 + 5) (.int .i64 d)).setB (k * 15 + 6) (.int .i64 t0)).setB (k * 15 + 7) (.int .i64 t1)).setB (k * 15 + 8) (.int .i64 t2)).setB (k * 15 + 9) (.int .i64 t3)).setB (k * 15 + 10) (.int .i64 t4)).setB (k * 15 + 11) (.int .i64 t5)).setB (k * 15 + 12) (.int .i64 t6)).setB (k * 15 + 13) (.int .i64 t7)).setB (k * 15 + 14) (.bool u)).alloc x).alloc y).drew⟩
  · unfold AllAt
    rw [drew_heap, Below.heap_alloc _ _ _ (by rw [alloc_size, hs]; omega), Below.heap_alloc _ _ _ (by rw [hs]; exact hbf), ← allL_put hok hk (f := ⟨r, [a, b, c, e], d, [t0, t1, t2, t3, t4, t5, t6, t7], u⟩) ⟨rfl, rfl, hd⟩]
    exact put15 (k * 15) hall (.bool r) (.int .i64 a) (.int .i64 b) (.int .i64 c) (.int .i64 e) (.int .i64 d) (.int .i64 t0) (.int .i64 t1) (.int .i64 t2) (.int .i64 t3) (.int .i64 t4) (.int .i64 t5) (.int .i64 t6) (.int .i64 t7) (.bool u)
  · unfold WalkAt
    rw [drew_heap, Below.heap_alloc _ _ _ (by rw [alloc_size, hs]; omega), Below.heap_alloc _ _ _ (by rw [hs]; exact hbw), same15 (k * 15) hne (.bool r) (.int .i64 a) (.int .i64 b) (.int .i64 c) (.int .i64 e) (.int .i64 d) (.int .i64 t0) (.int .i64 t1) (.int .i64 t2) (.int .i64 t3) (.int .i64 t4) (.int .i64 t5) (.int .i64 t6) (.int .i64 t7) (.bool u)]
    exact hwalk
theorem Two.set {a b : Nat} {w w' : World} (h : Two a b w w') {o : Nat} {v : Value} : Two a b w (w'.setCell ⟨a, o, none⟩ v) :=
  ⟨h.os, h.tape, h.output, by simpa [World.setCell] using h.size, fun k hk h1 h2 => by rw [Below.heap_setCell _ _ _ _ h1]; exact h.block k hk h1 h2⟩
set_option maxRecDepth 100000 in
set_option maxHeartbeats 1000000 in
theorem reach_new (bw bf cap k : Nat) (fs : List Fr) (way known : Fr) (ch : Bool) (lv : Value) (w : World) (hall : AllAt w bf fs) (hok : AllOk fs) (hk : fs[k]? = some known) (hway : FrOk way)
    (hwalk : WalkAt w bw lv bf fs.length cap ch) (hne : bw ≠ bf) (hr : known.reached = false) :
    Calls Tryd.prog 84 #[.pointer (some ⟨bw, 0, none⟩), .int .i64 k, .agg (frL way).toArray] w fun e w' =>
      e = .returned (.bool true) ∧ AllAt w' bf (fs.set k { way with reached := true }) ∧ WalkAt w' bw lv bf fs.length cap true ∧ Two bw bf w w' := by
  have hkl : k < fs.length := (List.getElem?_eq_some_iff.1 hk).1
  have hkn : FrOk known := hok known (List.mem_of_getElem? hk)
  have HAL := hid hall
  have HWK := hid hwalk
  have w0 := cell_of_row w bw 0 _ _ _ hwalk
  have w1 := cell_of_row w bw 1 _ _ _ hwalk
  have w2 := cell_of_row w bw 2 _ _ _ hwalk
  simp only [List.getElem?_toArray, List.getElem?_cons_zero, List.getElem?_cons_succ] at w0 w1 w2
  have hbw := World.block_lt_of_cell? w _ w0
  have fw2 := frozen_of_row w bw 2 _ _ hwalk
  have c0 := hall.cell hok hk (j := 0) (by omega)
  have c1 := hall.cell hok hk (j := 1) (by omega)
  have c2 := hall.cell hok hk (j := 2) (by omega)
  have c3 := hall.cell hok hk (j := 3) (by omega)
  have c4 := hall.cell hok hk (j := 4) (by omega)
  have c5 := hall.cell hok hk (j := 5) (by omega)
  have c6 := hall.cell hok hk (j := 6) (by omega)
  have c7 := hall.cell hok hk (j := 7) (by omega)
  have c8 := hall.cell hok hk (j := 8) (by omega)
  have c9 := hall.cell hok hk (j := 9) (by omega)
  have c10 := hall.cell hok hk (j := 10) (by omega)
  have c11 := hall.cell hok hk (j := 11) (by omega)
  have c12 := hall.cell hok hk (j := 12) (by omega)
  have c13 := hall.cell hok hk (j := 13) (by omega)
  have c14 := hall.cell hok hk (j := 14) (by omega)
  have f0 := hall.frozen (k * 15)
  have f1 := hall.frozen (k * 15 + 1)
  have f2 := hall.frozen (k * 15 + 2)
  have f3 := hall.frozen (k * 15 + 3)
  have f4 := hall.frozen (k * 15 + 4)
  have f5 := hall.frozen (k * 15 + 5)
  have f6 := hall.frozen (k * 15 + 6)
  have f7 := hall.frozen (k * 15 + 7)
  have f8 := hall.frozen (k * 15 + 8)
  have f9 := hall.frozen (k * 15 + 9)
  have f10 := hall.frozen (k * 15 + 10)
  have f11 := hall.frozen (k * 15 + 11)
  have f12 := hall.frozen (k * 15 + 12)
  have f13 := hall.frozen (k * 15 + 13)
  have f14 := hall.frozen (k * 15 + 14)
  have hbf := World.block_lt_of_cell? w _ (c0.trans (by rfl : (frL known)[0]? = some (.bool known.reached)))
  simp only at hbw hbf
  obtain ⟨kr, klo, kd, kst, kw⟩ := known
  obtain ⟨h1, h2, h3⟩ := hkn
  simp only at h1 h2 hr
  subst hr
  obtain ⟨a, b, c, e, rfl⟩ := four h1
  obtain ⟨s0, s1, s2, s3, s4, s5, s6, s7, rfl⟩ := eight h2
  simp only [frL, List.map_cons, List.map_nil, List.cons_append, List.nil_append, numV, List.getElem?_cons_zero, List.getElem?_cons_succ] at c0 c1 c2 c3 c4 c5 c6 c7 c8 c9 c10 c11 c12 c13 c14
  rw [Nat.add_zero] at c0
  have HWAY := hid hway
  obtain ⟨yr, ylo, yd, yst, yw⟩ := way
  obtain ⟨g1, g2, g3⟩ := hway
  simp only at g1 g2
  obtain ⟨a', b', c', e', rfl⟩ := four g1
  obtain ⟨t0, t1, t2, t3, t4, t5, t6, t7, rfl⟩ := eight g2
  simp only [frL, List.map_cons, List.map_nil, List.cons_append, List.nil_append, numV]
  have i0 : (0 : Int) ≤ (k : Int) := by omega
  have i1 : (k : Int) < (fs.length : Int) := by omega
  have hbw2 : bw ≤ w.heap.size := by omega
  have hbf2 : bf ≤ w.heap.size := by omega
  have d1 : decide ((k : Int) < 0) = false := by simp
  clear hall hwalk
  go_enter Tryd.func84, Tryd.ntmps84
  go_wp2_with fail
  go_cut [6] (fun x6 wc => x6 = .bool false ∧ AllAt wc bf (fs.set k ⟨true, [a', b', c', e'], yd, [t0, t1, t2, t3, t4, t5, t6, t7], yw⟩) ∧ WalkAt wc bw lv bf fs.length cap ch ∧ Two bw bf w wc)
  case first =>
    go_region
    go_wp2_with fail
    go_meet
    exact ⟨rfl, reach_put true yw a' b' c' e' t0 t1 t2 t3 t4 t5 t6 t7 _ _ HAL.out hok hkl HWK.out hne g3 hbf hbw⟩
  case rest =>
    obtain ⟨rfl, hA, hW, hT⟩ := hcut
    have v2 := cell_of_row wc bw 2 _ _ _ hW
    simp only [List.getElem?_toArray, List.getElem?_cons_zero, List.getElem?_cons_succ] at v2
    have u2 := frozen_of_row wc bw 2 _ _ hW
    have HA := hid hA
    have HW := hid hW
    clear hA hW c0 c1 c2 c3 c4 c5 c6 c7 c8 c9 c10 c11 c12 c13 c14 f0 f1 f2 f3 f4 f5 f6 f7 f8 f9 f10 f11 f12 f13 f14
    go_wp2_with fail
    go_ret
    refine ⟨rfl, ?_, by have := setCell_row 2 (.bool true) HW.out; simpa [WalkAt] using this, hT.set⟩
    unfold AllAt
    rw [Below.heap_setCell _ _ _ _ (Ne.symm hne)]
    exact HA.out
end Go.Proofs.YtdmdpindonghdaaDoor
namespace Go.Proofs.YtdmdpindonghdaaDoor
open Go.RowKit
def toldM (l : List Ins) (all : List Pt) (i : Nat) : MP := ⟨(l.getD i ⟨0, 0, 0⟩).place, (toldF i all).r, (toldF i all).lo, (toldF i all).st⟩
def toldAll (l : List Ins) (all : List Pt) : List MP := (List.range l.length).map (toldM l all)
def RMapsPost (s : ByteArray) (w : World) (e : Ending) (w' : World) : Prop :=
  Below w.heap.size w w' ∧ ((∃ r : Nat, r ≠ 0 ∧ IsErr s r ∧ e = .returned (.tuple #[.slice none 0 0, .int .i64 r])) ∨
    (∃ v all, e = .returned (.tuple #[v, .int .i64 0]) ∧ errOf s = 0 ∧ WT (codeOf s) (byteAt s 1) ∧ (∀ p, Reach (codeOf s) (byteAt s 1) p ↔ p ∈ all) ∧ OwnPts w' w.heap.size v (toldAll (codeOf s) all)))
set_option maxRecDepth 100000 in
set_option maxHeartbeats 1000000 in
theorem refMaps_any (s : ByteArray) (w : World) (hs : s.size ≤ maxLen) (ht : TakesTab w) (htt : TypeTab w) :
    Calls Tryd.prog 14 #[.string s] w (RMapsPost s w) := by
  obtain ⟨i0, hi0, hz0, hz1, hz2⟩ := info_parts pointInfo
  have hc := hid (code_any s w hs ht)
  have HTT := hid htt
  clear hs ht htt
  go_enter Tryd.func14, Tryd.ntmps14
  go_wp2_with fail
  refine hc.out.mono ?_
  clear hc
  intro e w1 hp
  obtain ⟨hb, hp⟩ := hp
  have HB := hid hb
  have hz := hb.size
  rcases hp with ⟨he, rfl⟩ | ⟨he, g, cap, rfl, h1, h2, h3⟩
  · have he' : (((errOf s : Nat) : Int) != 0) = true := by simp; omega
    have HE := hid he
    clear he hb
    go_wp2_with fail
    exact bodyPost_ret (v := .tuple #[.slice none 0 0, .int .i64 (errOf s : Nat)]) (by simp [results, Tryd.results14, go_sem]) rfl ⟨HB.out, .inl ⟨errOf s, HE.out, .inl ⟨HE.out, rfl⟩, rfl⟩⟩
  · have HE := hid he
    have hw := hid (wf_of he)
    have hwy := hid (ways_any (codeOf s) (byteAt s 1) g cap w1 hw.out h3 h2 (HTT.out.below hb))
    have HIN := hid h3
    have h120 := hw.out.len
    have hL := hw.out.loc
    generalize hLL : byteAt s 1 = L at *
    have HLL := hid hLL
    generalize hl : codeOf s = l at *
    have HL := hid hl
    clear he hb h3 hLL hl
    go_wp2_with fail
    refine hwy.out.mono ?_
    clear hwy
    intro e w2 hp
    obtain ⟨hb2, hp⟩ := hp
    have HBB : Hid (Below w.heap.size w w2) := hid (HB.out.trans (hb2.mono hz))
    have hz2b := hb2.size
    rcases hp with ⟨hwt, g2, cap2, all, rfl, hg2, hg3, hpt, hbase, hall⟩ | ⟨hwt, rfl⟩
    · have HWT := hid hwt
      have HPT := hid hpt
      have HALL := hid hall
      have HBASE := hid hbase
      have hal := hbase.len hw.out
      have HIN2 := hid (HIN.out.below hb2 h2)
      clear hwt hpt hall hbase hb2
      go_wp2_with fail
      go_loopg [9, 10] l.length (fun gk v x w' => ∃ k : Nat, k ≤ l.length ∧ gk = l.length - k ∧ x = .int .i64 k ∧ OwnPts w' w2.heap.size v ((toldAll l all).take k) ∧ Below w2.heap.size w2 w')
      case atStart => exact ⟨0, by omega, by omega, rfl, OwnPts.nil _ _, Below.refl _ _⟩
      case round =>
        obtain ⟨k, hk, hgk, rfl, hown, hbel⟩ := hrel
        have hzr := hbel.size
        have HOWN := hid hown
        have HBEL := hid hbel
        rcases Nat.lt_or_ge k l.length with hlt | hge
        · have d1 : (k : Int) < (l.length : Int) := by omega
          have htd := hid (told_any l all k L g cap g2 cap2 wr (HIN2.out.below hbel (by omega)) (by omega) (HPT.out.below hbel hg3) (by omega) hlt (fun p hp => (HBASE.out.ok p hp).lo) hL (fun p hp => (HBASE.out.ok p hp).st) (by omega))
          have HNX : Hid ((toldAll l all).take (k + 1) = (toldAll l all).take k ++ [⟨l[k].place, (toldF k all).r, (toldF k all).lo, (toldF k all).st⟩]) := hid (by
            have hkm : k < (toldAll l all).length := by simp [toldAll]; omega
            rw [List.take_succ_eq_append_getElem hkm]
            simp [toldAll, toldM, List.getD_eq_getElem?_getD, hlt])
          generalize (⟨l[k].place, (toldF k all).r, (toldF k all).lo, (toldF k all).st⟩ : MP) = M at htd HNX
          obtain ⟨cs, hrow, hpts⟩ := hown
          rw [List.length_take, Nat.min_eq_left (by simp [toldAll]; omega)] at hrow
          have HPTS := hid hpts
          clear hbel hpts HOWN
          go_wp2_with fail
          refine htd.out.mono ?_
          clear htd
          intro x w5 hpost
          obtain ⟨hb5, v1, v2, hx5, hi1, hi2⟩ := hpost
          obtain ⟨p1, q1, hv1⟩ := hi1.slice
          obtain ⟨p2, q2, hv2⟩ := hi2.slice
          subst hv1
          subst hv2
          subst x
          have hz5 := hb5.size
          have hrow5 := owns_keep hrow (fun g' hg' => hb5.block g' (hrow.lt g' hg').2)
          have HB5 := hid hb5
          have HI1 := hid hi1
          have HI2 := hid hi2
          have HROW := hid hrow
          clear hb5 hi1 hi2 hrow
          go_wp2_with (at_builtin; go_must (refine wpList_append_lies _ (by rfl) _ _ _ (by rfl) w2.heap.size 95 i0 _ 4 64 Tryd.underlying27 hi0 hz0 hz1 hz2 rfl (by omega) _ k cs (by rfl) ((hrow5.alloc _).alloc _) ⟨w5.heap.size + 1, 0, none⟩ 1 1 [.int .i64 M.place, .bool M.reached, .slice p1 M.lo.length q1, .slice p2 M.st.length q2] (by rfl) (by rfl) (World.news_of_block (cs := #[.int .i64 M.place, .bool M.reached, .slice p1 M.lo.length q1, .slice p2 M.st.length q2]) (t := 95) (fr := (0, 0)) (heap_two_new w5 _ _)) (by simp [Value.oneCell']) (by omega) (by unfold maxLen; omega) (by omega) (by simp; omega) (w5.heap.size + 1 + 1) (by simp) ?_); intro gg gcap w6 hown6 hgrow6 hat6 hlt6)
          go_roundg (l.length - (k + 1))
          case measure => omega
          case rel =>
            have hlt7 : ∀ g', u9.ownBlock = some g' → g' < wr.heap.size := fun g' hg' => (HROW.out.lt g' hg').2
            have hmk : k + 1 = ((toldAll l all).take (k + 1)).length := by rw [List.length_take, Nat.min_eq_left (by simp [toldAll]; omega)]
            refine ⟨k + 1, by omega, rfl, by go_num, ?_, ?_⟩
            · have hblk : ∀ g' o o', g' < w5.heap.size → ((w5.alloc o).alloc o').heap[g']? = w5.heap[g']? := fun g' o o' h => by
                rw [Below.heap_alloc _ _ _ (by rw [alloc_size]; omega), Below.heap_alloc _ _ _ h]
              have := OwnPts.push (m := M) (v := u9) (by rw [List.length_take, Nat.min_eq_left (by simp [toldAll]; omega)])
                (PtsIn.keep (fun g' hg' => ⟨⟨hg'.1, by rw [alloc_size, alloc_size]; omega, hg'.2.2⟩, (hblk _ _ _ (by omega)).trans (HB5.out.block g' hg'.2.1)⟩) _ _ HPTS.out)
                (HI1.out.keep (fun g' hg' => ⟨⟨by omega, by rw [alloc_size, alloc_size]; omega, fun e => by have := hlt7 g' e; omega⟩, hblk _ _ _ hg'.2⟩))
                (HI2.out.keep (fun g' hg' => ⟨⟨by omega, by rw [alloc_size, alloc_size]; omega, fun e => by have := hlt7 g' e; omega⟩, hblk _ _ _ hg'.2⟩)) hown6 hgrow6 (by rw [alloc_size, alloc_size]; exact hat6)
              rw [← HNX.out, ← hmk] at this
              exact this
            · exact (((HBEL.out.trans (HB5.out.mono hzr)).alloc (by omega) _).alloc (by rw [alloc_size]; omega) _).grown hgrow6 (by rw [alloc_size, alloc_size]; omega) (fun j hj => (HROW.out.lt j hj).1)
        · have d1 : ¬ (k : Int) < (l.length : Int) := by omega
          have hkl : k = l.length := by omega
          clear hbel hown
          go_wp2_with fail
          refine bodyPost_ret (v := .tuple #[u9, .int .i64 0]) (by simp [results, Tryd.results14, go_sem]) rfl ⟨HBB.out.trans (HBEL.out.mono (by omega)), .inr ⟨u9, all, rfl, HE.out, by rw [HL.out, HLL.out]; exact HWT.out, by rw [HL.out, HLL.out]; exact HALL.out, ?_⟩⟩
          have := HOWN.out
          rw [hkl, List.take_of_length_le (by simp [toldAll])] at this
          rw [HL.out]
          obtain ⟨cs, a1, a2⟩ := this
          exact ⟨cs, owns_mono a1 (by omega), PtsIn.keep (fun g' hg' => ⟨⟨by omega, hg'.2⟩, rfl⟩) _ _ a2⟩
    · have HE5 : Hid (IsErr s 5) := hid (.inr (.inr ⟨HE.out, by rw [HL.out, HLL.out]; exact hwt, rfl⟩))
      clear hwt hb2
      go_wp2_with fail
      exact bodyPost_ret (v := .tuple #[.slice none 0 0, .int .i64 5]) (by simp [results, Tryd.results14, go_sem]) rfl ⟨HBB.out, .inl ⟨5, by decide, HE5.out, rfl⟩⟩
end Go.Proofs.YtdmdpindonghdaaDoor
namespace Go.Proofs.YtdmdpindonghdaaDoor
open Go.RowKit
theorem made_flat {α : Type} (f : α → List Value) (m : Nat) (hf : ∀ x, (f x).length = m) (hm : 0 < m) (x : α) (n : Nat) : madeCells (f x).toArray (n * m) = ((List.replicate n x).flatMap f).toArray := by
  apply Array.toList_inj.1
  apply List.ext_getElem?
  intro i
  have hl : ((List.replicate n x).flatMap f).length = n * m := by
    induction n with
    | zero => simp
    | succ n ih => rw [List.replicate_succ, List.flatMap_cons, List.length_append, ih, hf, Nat.succ_mul, Nat.add_comm]
  by_cases hi : i < n * m
  · have h1 : i / m < n := Nat.div_lt_of_lt_mul (by rw [Nat.mul_comm]; exact hi)
    have h2 : i % m < m := Nat.mod_lt _ hm
    have e : i / m * m + i % m = i := by rw [Nat.mul_comm]; exact Nat.div_add_mod i m
    have h3 := flat_at f m hf (List.replicate n x) (i / m) (i % m) (by simpa using h1) h2
    rw [e] at h3
    simp only [List.getElem_replicate] at h3
    simp only [madeCells, Array.toList_map, Array.toList_range, List.getElem?_map, List.getElem?_range hi, Option.map_some]
    rw [h3]
    have h4 : i % m < (f x).length := by rw [hf]; exact h2
    rw [List.getElem?_eq_getElem h4]
    simp [hf, List.getElem?_eq_getElem h4]
  · rw [List.getElem?_eq_none (by simp [size_madeCells]; omega), List.getElem?_eq_none (by simp only; omega)]
/-- A list of numbers that was handed in. -/
def ArgInts (w : World) (v : Value) (zs : List Int) : Prop :=
  (v = .slice none 0 0 ∧ zs = []) ∨ ∃ a cap, v = .slice (some a) zs.length cap ∧ (∀ (j : Nat) (x : Int), zs[j]? = some x → w.cell? (a.add j) = some (.int .i64 x)) ∧ (0 < zs.length → a.block < w.heap.size)
theorem ArgInts.slice {w : World} {v : Value} {zs : List Int} (h : ArgInts w v zs) : ∃ p cap, v = .slice p zs.length cap := by
  rcases h with ⟨h1, h2⟩ | ⟨a, cap, hv, _⟩
  · exact ⟨none, 0, by rw [h1, h2]; rfl⟩
  · exact ⟨_, cap, hv⟩
/-- The error of New. -/
def NewErr (s : ByteArray) (n : Nat) (cells : Int) (r : Nat) : Prop :=
  (r ≠ 0 ∧ IsErr s r) ∨ (IsErr s 0 ∧ (cells < 1 ∨ 32 < cells) ∧ r = 6) ∨ (IsErr s 0 ∧ 1 ≤ cells ∧ cells ≤ 32 ∧ 64 < n ∧ r = 7) ∨ (IsErr s 0 ∧ 1 ≤ cells ∧ cells ≤ 32 ∧ n ≤ 64 ∧ r = 0)
end Go.Proofs.YtdmdpindonghdaaDoor
namespace Go.Proofs.YtdmdpindonghdaaDoor
open Go.RowKit
theorem setCells_row {t : TypeId} (b : Nat) : ∀ (vs : List Value) (o : Nat) (w : World) (l : List Value), w.heap[b]? = some (.cells l.toArray t) → (w.setCells b o vs).heap[b]? = some (.cells (putL l o vs).toArray t)
  | [], _, _, _, h => h
  | v :: r, o, w, l, h => by
    have := setCell_row o v h
    rw [List.setIfInBounds_toArray] at this
    exact setCells_row b r (o + 1) _ _ this
theorem setCells_far (b : Nat) : ∀ (vs : List Value) (o : Nat) (w : World) (k : Nat), k ≠ b → (w.setCells b o vs).heap[k]? = w.heap[k]?
  | [], _, _, _, _ => rfl
  | _ :: r, o, _, k, h => (setCells_far b r (o + 1) _ k h).trans (Below.heap_setCell _ _ _ _ h)
theorem setCells_below {B : Nat} (b : Nat) (hb : B ≤ b) : ∀ (vs : List Value) (o : Nat) (w0 w : World), Below B w0 w → Below B w0 (w.setCells b o vs)
  | [], _, _, _, h => h
  | _ :: r, o, w0, _, h => setCells_below b hb r (o + 1) w0 _ (h.setCell hb _)
theorem make_ints (n : Nat) (h : n ≤ 17592186044416) (w : World) : Sem.run Tryd.prog (Instr.makeSlice 33 (.int .i64 ((n : Int) + 2)) (.int .i64 ((n : Int) + 2))) w = .ok (.slice (some ⟨w.heap.size, 0, none⟩) (n + 2) (n + 2)) (w.alloc (.cells (Array.replicate (n + 2) (Value.int .i64 0)) 3)) := by
  obtain ⟨i0, hi, hz0, hz1, hz2⟩ := info_parts intInfo
  have := run_make (P := Tryd.prog) w 33 3 i0 _ Tryd.underlying33 hi hz0 .i64 .i64 ((n : Int) + 2) ((n : Int) + 2) (by omega) (by omega) (by rw [hz2]; omega) (by omega)
  rw [this, hz1, show Value.cells (.int .i64 0) = #[.int .i64 0] from rfl, show ((n : Int) + 2).toNat = n + 2 by omega, Nat.mul_one]
  rw [show madeCells #[Value.int .i64 0] (n + 2) = Array.replicate (n + 2) (Value.int .i64 0) from Array.toList_inj.1 (by rw [toList_madeCells_one]; simp)]
theorem intSize : (Tryd.prog.info? 3).map (·.size) = some 1 := by kernel_rfl
theorem copy_arg {w W : World} {v : Value} {zs : List Int} {g n : Nat} (hv : ArgInts w v zs) (hn : zs.length = n) (hb : Below w.heap.size w W) (hrow : W.heap[g]? = some (.cells (Array.replicate (n + 2) (Value.int .i64 0)) 3)) (ty : TypeId) :
    (Builtin.copy_ #[33, 33] ty #[.slice (some ⟨g, 0, none⟩) (n + 2) (n + 2), v]).run Tryd.prog W = .ok (goInt n) (W.setCells g 0 (zs.map (Value.int .i64))) := by
  subst hn
  by_cases h0 : zs.length = 0
  · have hz : zs = [] := List.length_eq_zero_iff.1 h0
    obtain ⟨p, cap, e⟩ := hv.slice
    subst e
    rw [run_copy_none W _ _ ty 3 _ _ _ _ _ _ Tryd.underlying33 intSize (by rw [h0]; simp), hz]
    rfl
  · rcases hv with ⟨_, h⟩ | ⟨a, cap, rfl, hc, hab⟩
    · rw [h] at h0; exact absurd rfl h0
    have := run_copy_cells (P := Tryd.prog) W 33 33 ty 3 g 0 (zs.length + 2) (zs.length + 2) a zs.length cap (zs.map (Value.int .i64)) Tryd.underlying33 intSize (by simp) (fun j u hu => by
      rw [List.getElem?_map] at hu
      cases hj : zs[j]? with
      | none => rw [hj] at hu; cases hu
      | some x =>
        rw [hj] at hu
        simp only [Option.map_some, Option.some.injEq] at hu
        subst hu
        have hbl : (a.add j).block = a.block := by unfold Addr.add; split <;> rfl
        rw [hb.cell (by rw [hbl]; exact hab (by omega))]
        exact hc j x hj) (fun j hj => by
          rw [cell_of_row W g _ _ _ _ hrow]
          simp at hj ⊢
          omega) (fun j _ => frozen_of_row W g _ _ _ hrow) (by simp [Value.oneCell'])
    rw [this]
    simp
theorem spare_put (zs : List Value) : putL (List.replicate (zs.length + 2) (Value.int .i64 0)) 0 zs = zs ++ [Value.int .i64 0, Value.int .i64 0] := by
  have h := putL_head [] (List.replicate (zs.length + 2) (Value.int .i64 0)) zs 0 rfl (by simp)
  simp only [List.nil_append] at h
  rw [h, List.drop_replicate]
  simp [show zs.length + 2 - zs.length = 2 by omega, List.replicate_succ]
end Go.Proofs.YtdmdpindonghdaaDoor
namespace Go.Proofs.YtdmdpindonghdaaDoor
open Go.RowKit
def ZsAt (w : World) (v : Value) (zs : List Int) : Prop :=
  (v = .slice none 0 0 ∧ zs = []) ∨ ∃ a cap, v = .slice (some a) zs.length cap ∧ ∀ (j : Nat) (x : Int), zs[j]? = some x → w.cell? (a.add j) = some (.int .i64 x)
theorem ArgInts.zs {w w' : World} {v : Value} {zs : List Int} (h : ArgInts w v zs) (hb : Below w.heap.size w w') : ZsAt w' v zs := by
  rcases h with h | ⟨a, cap, hv, hc, hab⟩
  · exact .inl h
  · refine .inr ⟨a, cap, hv, fun j x hj => ?_⟩
    have hbl : (a.add j).block = a.block := by unfold Addr.add; split <;> rfl
    have hl := (List.getElem?_eq_some_iff.1 hj).1
    rw [hb.cell (by rw [hbl]; exact hab (by omega))]
    exact hc j x hj
theorem ZsAt.slice {w : World} {v : Value} {zs : List Int} (h : ZsAt w v zs) : ∃ p cap, v = .slice p zs.length cap := by
  rcases h with ⟨h1, h2⟩ | ⟨a, cap, hv, _⟩
  · exact ⟨none, 0, by rw [h1, h2]; rfl⟩
  · exact ⟨_, cap, hv⟩
theorem ZsAt.of_row {w : World} {g cap : Nat} {zs : List Int} {r : List Value} {t : TypeId} (h : w.heap[g]? = some (.cells (zs.map (Value.int .i64) ++ r).toArray t)) : ZsAt w (.slice (some ⟨g, 0, none⟩) zs.length cap) zs := by
  refine .inr ⟨⟨g, 0, none⟩, cap, rfl, fun j x hj => ?_⟩
  have hl := (List.getElem?_eq_some_iff.1 hj).1
  rw [addr_add, cell_of_row w g j _ _ _ h, List.getElem?_toArray, List.getElem?_append_left (by simpa using hl), List.getElem?_map, hj]
  rfl
set_option maxRecDepth 100000 in
set_option maxHeartbeats 1000000 in
theorem sameZs_any (l : List Int) (va vb : Value) (w : World) (ha : ZsAt w va l) (hb : ZsAt w vb l) (hl : l.length ≤ 17592186044416) :
    Calls Tryd.prog 43 #[va, vb] w fun e w' => e = .returned (.bool true) ∧ ∃ n, w' = w.drewN n := by
  obtain ⟨pa, ca, ea⟩ := ha.slice
  obtain ⟨pb, cb, eb⟩ := hb.slice
  subst ea
  subst eb
  have HA := hid ha
  have HB := hid hb
  clear ha hb
  go_enter Tryd.func43, Tryd.ntmps43
  go_wp2_with fail
  go_loopg [5] l.length (fun gk x w' => ∃ k : Nat, k ≤ l.length ∧ gk = l.length - k ∧ x = .int .i64 k ∧ ∃ n, w' = w.drewN n)
  case atStart => exact ⟨0, by omega, by omega, rfl, 0, rfl⟩
  case round =>
    obtain ⟨k, hk, hgk, rfl, n, rfl⟩ := hrel
    rcases Nat.lt_or_ge k l.length with hlt | hge
    · have d0 : (0 : Int) ≤ (k : Int) := by omega
      have d1 : (k : Int) < (l.length : Int) := by omega
      have d2 : (k : Int) + 1 ≤ 17592186044416 := by omega
      have hk2 : l[k]? = some l[k] := List.getElem?_eq_getElem hlt
      rcases HA.out with ⟨_, h0⟩ | ⟨ga, c1, e1, hca⟩
      · rw [h0] at hlt; simp at hlt
      rcases HB.out with ⟨_, h0⟩ | ⟨gb, c2, e2, hcb⟩
      · rw [h0] at hlt; simp at hlt
      have x1 := hca k _ hk2
      have x2 := hcb k _ hk2
      cases e1
      cases e2
      generalize l[k] = c at *
      have hne : (c != c) = false := by simp
      clear hca hcb hk2
      go_wp2_with fail
      go_quiet (fail)
      go_wp2_with fail
      go_roundg (l.length - (k + 1))
      case measure => omega
      case rel => exact ⟨k + 1, by omega, rfl, by go_num, ⟨_, rfl⟩⟩
    · have d1 : ¬ (k : Int) < (l.length : Int) := by omega
      go_wp2_with fail
      go_ret
      exact ⟨rfl, n, rfl⟩
end Go.Proofs.YtdmdpindonghdaaDoor
namespace Go.Proofs.YtdmdpindonghdaaDoor
open Go.RowKit
theorem flat_set {α : Type} (f : α → List Value) (m : Nat) (hf : ∀ x, (f x).length = m) : ∀ (l : List α) (k j : Nat) (c : α) (v : Value) (h : k < l.length), j < m → f c = (f l[k]).set j v → (l.flatMap f).set (k * m + j) v = (l.set k c).flatMap f := by
  intro l
  induction l with
  | nil => intro k j c v h; simp at h
  | cons a r ih =>
    intro k j c v h hj e
    have h1 := hf a
    cases k with
    | zero =>
      simp only [List.getElem_cons_zero] at e
      rw [Nat.zero_mul, Nat.zero_add, List.flatMap_cons, List.set_append_left _ _ (by omega), List.set_cons_zero, List.flatMap_cons, e]
    | succ k =>
      simp only [List.getElem_cons_succ] at e
      rw [List.flatMap_cons, List.set_append_right _ _ (by rw [h1, Nat.add_mul]; omega), h1, show (k + 1) * m + j - m = k * m + j by rw [Nat.add_mul]; omega, List.set_cons_succ, List.flatMap_cons, ih k j c v (by simpa using h) hj e]
theorem owns_cell {w : World} {base e size N n : Nat} {g cap : Nat} {xs : List Value} (h : w.ownsRow base e size (.slice (some ⟨g, 0, none⟩) N cap) N xs) (v : Value) : (w.setCell ⟨g, n, none⟩ v).ownsRow base e size (.slice (some ⟨g, 0, none⟩) N cap) N (xs.set n v) := by
  have h1 := h.1
  refine ⟨by simpa using h1, ?_⟩
  rcases h.2 with ⟨h2, _⟩ | ⟨g', cap', cur, hv, hg, hh, r1, r2, r3, r4⟩
  · cases h2
  · cases hv
    refine .inr ⟨g, cap, cur.setIfInBounds n v, rfl, hg, setCell_row n _ hh, r1, r2, by simpa using r3, ?_⟩
    rw [Array.toList_setIfInBounds, List.take_set, r4]
/-- The room of a list; a row of a block, its type. -/
structure CK where
  cap : Nat
  row : Array Value
  ty : TypeId
def firstP (p : RC → Bool) : List RC → Nat → Int
  | [], _ => -1
  | c :: r, k => if p c = true then (k : Int) else firstP p r (k + 1)
theorem firstP_hit {p : RC → Bool} {cs : List RC} {k : Nat} (h : k < cs.length) (hp : p cs[k] = true) : firstP p (cs.drop k) k = k := by
  rw [List.drop_eq_getElem_cons h]; simp [firstP, hp]
theorem firstP_miss {p : RC → Bool} {cs : List RC} {k : Nat} (h : k < cs.length) (hp : p cs[k] = false) : firstP p (cs.drop k) k = firstP p (cs.drop (k + 1)) (k + 1) := by
  rw [List.drop_eq_getElem_cons h]; simp [firstP, hp]
end Go.Proofs.YtdmdpindonghdaaDoor
namespace Go.Proofs.YtdmdpindonghdaaDoor
open Go.RowKit
def markC (c : RC) : RC := { c with reached := true }
/-- The cells to which these refer are reached. -/
def reachC (cs : List RC) : List Int → List RC
  | [] => cs
  | r :: rs => reachC (if 0 ≤ r then cs.modify r.toNat markC else cs) rs
theorem reachC_snoc (rs : List Int) : ∀ (cs : List RC) (r : Int), reachC cs (rs ++ [r]) = (if 0 ≤ r then (reachC cs rs).modify r.toNat markC else reachC cs rs) := by
  induction rs with
  | nil => intro cs r; rfl
  | cons x xs ih => intro cs r; exact ih _ r
theorem reachC_len (rs : List Int) : ∀ (cs : List RC), (reachC cs rs).length = cs.length := by
  induction rs with
  | nil => intro cs; rfl
  | cons x xs ih =>
    intro cs
    simp only [reachC]
    rw [ih]
    split
    · simp
    · rfl
theorem modify_set {cs : List RC} {k : Nat} (h : k < cs.length) (f : RC → RC) : cs.modify k f = cs.set k (f cs[k]) := by
  induction cs generalizing k with
  | nil => simp at h
  | cons a r ih =>
    cases k with
    | zero => rfl
    | succ k =>
      have := ih (k := k) (by simpa using h)
      simp only [List.modify_succ_cons, List.set_cons_succ, List.getElem_cons_succ]
      rw [this]
end Go.Proofs.YtdmdpindonghdaaDoor
namespace Go.Proofs.YtdmdpindonghdaaDoor
open Go.RowKit
set_option maxRecDepth 100000 in
set_option maxHeartbeats 1000000 in
theorem eq4 (a0 a1 a2 a3 b0 b1 b2 b3 : Int) (w : World) :
    (Op.equalIn 10000 90 (.agg #[.int .i64 a0, .int .i64 a1, .int .i64 a2, .int .i64 a3]) (.agg #[.int .i64 b0, .int .i64 b1, .int .i64 b2, .int .i64 b3])).run Tryd.prog w = .ok (a0 == b0 && (a1 == b1 && (a2 == b2 && (a3 == b3)))) w := by
  rw [show (10000 : Nat) = 9998 + 1 + 1 from rfl, Op.equalIn]
  simp only [Sem.run_bind, run_underlying Tryd.underlying90, Result.andThen_ok, Std.Legacy.Range.forIn_eq_forIn_range']
  simp [go_sem, Std.Legacy.Range.size, List.range'_succ]
  by_cases h0 : a0 = b0
  case neg => simp [h0]
  by_cases h1 : a1 = b1
  case neg => simp [h0, h1]
  by_cases h2 : a2 = b2
  case neg => simp [h0, h1, h2]
  by_cases h3 : a3 = b3
  case neg => simp [h0, h1, h2, h3]
  simp [h0, h1, h2, h3]
set_option maxRecDepth 100000 in
set_option maxHeartbeats 1000000 in
theorem eq8 (a0 a1 a2 a3 a4 a5 a6 a7 b0 b1 b2 b3 b4 b5 b6 b7 : Int) (w : World) :
    (Op.equalIn 10000 91 (.agg #[.int .i64 a0, .int .i64 a1, .int .i64 a2, .int .i64 a3, .int .i64 a4, .int .i64 a5, .int .i64 a6, .int .i64 a7]) (.agg #[.int .i64 b0, .int .i64 b1, .int .i64 b2, .int .i64 b3, .int .i64 b4, .int .i64 b5, .int .i64 b6, .int .i64 b7])).run Tryd.prog w = .ok (a0 == b0 && (a1 == b1 && (a2 == b2 && (a3 == b3 && (a4 == b4 && (a5 == b5 && (a6 == b6 && (a7 == b7)))))))) w := by
  rw [show (10000 : Nat) = 9998 + 1 + 1 from rfl, Op.equalIn]
  simp only [Sem.run_bind, run_underlying Tryd.underlying91, Result.andThen_ok, Std.Legacy.Range.forIn_eq_forIn_range']
  simp [go_sem, Std.Legacy.Range.size, List.range'_succ]
  by_cases h0 : a0 = b0
  case neg => simp [h0]
  by_cases h1 : a1 = b1
  case neg => simp [h0, h1]
  by_cases h2 : a2 = b2
  case neg => simp [h0, h1, h2]
  by_cases h3 : a3 = b3
  case neg => simp [h0, h1, h2, h3]
  by_cases h4 : a4 = b4
  case neg => simp [h0, h1, h2, h3, h4]
  by_cases h5 : a5 = b5
  case neg => simp [h0, h1, h2, h3, h4, h5]
  by_cases h6 : a6 = b6
  case neg => simp [h0, h1, h2, h3, h4, h5, h6]
  by_cases h7 : a7 = b7
  case neg => simp [h0, h1, h2, h3, h4, h5, h6, h7]
  simp [h0, h1, h2, h3, h4, h5, h6, h7]
end Go.Proofs.YtdmdpindonghdaaDoor
namespace Go.Proofs.YtdmdpindonghdaaDoor
open Go.RowKit
attribute [local go_sem] eq4 eq8
theorem bcell {W w1 : World} (hb : Below W.heap.size W w1) : (∀ b o, b < W.heap.size → w1.cell? ⟨b, o, none⟩ = W.cell? ⟨b, o, none⟩) ∧ (∀ b o, b < W.heap.size → w1.frozen? ⟨b, o, none⟩ = W.frozen? ⟨b, o, none⟩) :=
  ⟨fun b o h => hb.cell (p := ⟨b, o, none⟩) h, fun b o h => hb.frozen (p := ⟨b, o, none⟩) h⟩
theorem reach_put2 {w : World} {bw bf cap k n d : Nat} {fs : List Fr} {lv : Value} {ch : Bool} (r u : Bool) (a b c e t0 t1 t2 t3 t4 t5 t6 t7 : Nat) (hall : AllAt w bf fs) (hok : AllOk fs) (hk : k < fs.length)
    (hwalk : WalkAt w bw lv bf n cap ch) (hne : bw ≠ bf) (hd : d ≤ 8) :
    AllAt (((((((((((((((w.setCell ⟨bf, k * 15, none⟩ (.bool r)).setCell ⟨bf, k * 15 + 1, none⟩ (.int .i64 a)).setCell ⟨bf, k * 15 + 2, none⟩ (.int .i64 b)).setCell ⟨bf, k * 15 + 3, none⟩ (.int .i64 c)).setCell ⟨bf, k * 15 + 4, none⟩ (.int .i64 e)).setCell ⟨bf, k * 15 + 5, none⟩ (.int .i64 d)).setCell ⟨bf, k * 15 + 6, none⟩ (.int .i64 t0)).setCell ⟨bf, k * 15 + 7, none⟩ (.int .i64 t1)).setCell ⟨bf, k * 15 + 8, none⟩ (.int .i64 t2)).setCell ⟨bf, k * 15 + 9, none⟩ (.int .i64 t3)).setCell ⟨bf, k * 15 + 10, none⟩ (.int .i64 t4)).setCell ⟨bf, k * 15 + 11, none⟩ (.int .i64 t5)).setCell ⟨bf, k * 15 + 12, none⟩ (.int .i64 t6)).setCell ⟨bf, k * 15 + 13, none⟩ (.int .i64 t7)).setCell ⟨bf, k * 15 + 14, none⟩ (.bool u)).drew bf (fs.set k ⟨r, [a, b, c, e], d, [t0, t1, t2, t3, t4, t5, t6, t7], u⟩) ∧ WalkAt (((((((((((((((w.setCell ⟨bf, k * 15, none⟩ (.bool r)).setCell ⟨bf, k * 15 + 1, none⟩ (.int .i64 a)).setCell ⟨bf, k * 15 + 2, none⟩ (.int .i64 b)).setCell ⟨bf, k * 15 + 3, none⟩ (.int .i64 c)).setCell ⟨bf, k * 15 + 4, none⟩ (.int .i64 e)).setCell ⟨bf, k * 15 + 5, none⟩ (.int .i64 d)).setCell ⟨bf, k * 15 + 6, none⟩ (.int .i64 t0)).setCell ⟨bf, k * 15 + 7, none⟩ (.int .i64 t1)).setCell ⟨bf, k * 15 + 8, none⟩ (.int .i64 t2)).setCell ⟨bf, k * 15 + 9, none⟩ (.int .i64 t3)).setCell ⟨bf, k * 15 + 10, none⟩ (.int .i64 t4)).setCell ⟨bf, k * 15 + 11, none⟩ (.int .i64 t5)).setCell ⟨bf, k * 15 + 12, none⟩ (.int .i64 t6)).setCell ⟨bf, k * 15 + 13, none⟩ (.int .i64 t7)).setCell ⟨bf, k * 15 + 14, none⟩ (.bool u)).drew bw lv bf n cap ch ∧ Two bw bf w (((((((((((((((w.setCell ⟨bf, k * 15, none⟩ (.bool r)).setCell ⟨bf, k * 15 + 1, none⟩ (.int .i64 a)).setCell ⟨bf, k * 15 + 2, none⟩ (.int .i64 b)).setCell ⟨bf, k * 15 + 3, none⟩ (.int .i64 c)).setCell ⟨bf, k * 15 + 4, none⟩ (.int .i64 e)).setCell ⟨bf, k * 15 + 5, none⟩ (.int .i64 d)).setCell ⟨bf, k * 15 + 6, none⟩ (.int .i64 t0)).setCell ⟨bf, k * 15 + 7, none⟩ (.int .i64 t1)).setCell ⟨bf, k * 15 + 8, none⟩ (.int .i64 t2)).setCell ⟨bf, k * 15 + 9, none⟩ (.int .i64 t3)).setCell ⟨bf, k * 15 + 10, none⟩ (.int .i64 t4)).setCell ⟨bf, k * 15 + 11, none⟩ (.int .i64 t5)).setCell ⟨bf, k * 15 + 12, none⟩ (.int .i64 t6)).setCell ⟨bf, k * 15 + 13, none⟩ (.int .i64 t7)).setCell ⟨bf, k * 15 + 14, none⟩ (.bool u)).drew := by
  refine ⟨?_, ?_, ((((((((((((((((Two.refl bw bf w).setB (k * 15) (.bool r)).setB (k * 15 + 1) (.int .i64 a)).setB (k * 15 + 2) (.int .i64 b)).setB (k * 15 + 3) (.int .i64 c)).setB (k * 15 + 4) (.int .i64 e)).setB (k * 15 + 5) (.int .i64 d)).setB (k * 15 + 6) (.int .i64 t0)).setB (k * 15 + 7) (.int .i64 t1)).setB (k * 15 + 8) (.int .i64 t2)).setB (k * 15 + 9) (.int .i64 t3)).setB (k * 15 + 10) (.int .i64 t4)).setB (k * 15 + 11) (.int .i64 t5)).setB (k * 15 + 12) (.int .i64 t6)).setB (k * 15 + 13) (.int .i64 t7)).setB (k * 15 + 14) (.bool u)).drew⟩
  · unfold AllAt
    rw [drew_heap, ← allL_put hok hk (f := ⟨r, [a, b, c, e], d, [t0, t1, t2, t3, t4, t5, t6, t7], u⟩) ⟨rfl, rfl, hd⟩]
    exact put15 (k * 15) hall (.bool r) (.int .i64 a) (.int .i64 b) (.int .i64 c) (.int .i64 e) (.int .i64 d) (.int .i64 t0) (.int .i64 t1) (.int .i64 t2) (.int .i64 t3) (.int .i64 t4) (.int .i64 t5) (.int .i64 t6) (.int .i64 t7) (.bool u)
  · unfold WalkAt
    rw [drew_heap, same15 (k * 15) hne (.bool r) (.int .i64 a) (.int .i64 b) (.int .i64 c) (.int .i64 e) (.int .i64 d) (.int .i64 t0) (.int .i64 t1) (.int .i64 t2) (.int .i64 t3) (.int .i64 t4) (.int .i64 t5) (.int .i64 t6) (.int .i64 t7) (.bool u)]
    exact hwalk
theorem Two.of_below {a b : Nat} {w w' : World} (h : Below w.heap.size w w') : Two a b w w' := ⟨h.os, h.tape, h.output, h.size, fun k hk _ _ => h.block k hk⟩
theorem Two.trans {a b : Nat} {w1 w2 w3 : World} (h : Two a b w1 w2) (g : Two a b w2 w3) : Two a b w1 w3 :=
  ⟨g.os.trans h.os, g.tape.trans h.tape, g.output.trans h.output, Nat.le_trans h.size g.size, fun k hk h1 h2 => (g.block k (Nat.lt_of_lt_of_le hk h.size) h1 h2).trans (h.block k hk h1 h2)⟩
theorem four_set {w w5 : World} {x y : Array Value} {t s : TypeId} {r yw : Bool} {a b c e d : Nat} {t0 t1 t2 t3 t4 t5 t6 t7 : Nat} (j0 j1 j2 j3 : Nat) (hx : x = #[.bool r, .int .i64 a, .int .i64 b, .int .i64 c, .int .i64 e, .int .i64 d, .int .i64 t0, .int .i64 t1, .int .i64 t2, .int .i64 t3, .int .i64 t4, .int .i64 t5, .int .i64 t6, .int .i64 t7, .bool yw])
    (hb : Below ((w.alloc (.cells x t)).alloc (.cells y s)).heap.size ((w.alloc (.cells x t)).alloc (.cells y s)) w5) :
    ((((w5.setCell ⟨w.heap.size, 1, none⟩ (.int .i64 j0)).setCell ⟨w.heap.size, 2, none⟩ (.int .i64 j1)).setCell ⟨w.heap.size, 3, none⟩ (.int .i64 j2)).setCell ⟨w.heap.size, 4, none⟩ (.int .i64 j3)).heap[w.heap.size]? =
      some (.cells #[.bool r, .int .i64 j0, .int .i64 j1, .int .i64 j2, .int .i64 j3, .int .i64 d, .int .i64 t0, .int .i64 t1, .int .i64 t2, .int .i64 t3, .int .i64 t4, .int .i64 t5, .int .i64 t6, .int .i64 t7, .bool yw] t) ∧
    ((((w5.setCell ⟨w.heap.size, 1, none⟩ (.int .i64 j0)).setCell ⟨w.heap.size, 2, none⟩ (.int .i64 j1)).setCell ⟨w.heap.size, 3, none⟩ (.int .i64 j2)).setCell ⟨w.heap.size, 4, none⟩ (.int .i64 j3)).heap[w.heap.size + 1]? = some (.cells y s) ∧
    Below w.heap.size w ((((w5.setCell ⟨w.heap.size, 1, none⟩ (.int .i64 j0)).setCell ⟨w.heap.size, 2, none⟩ (.int .i64 j1)).setCell ⟨w.heap.size, 3, none⟩ (.int .i64 j2)).setCell ⟨w.heap.size, 4, none⟩ (.int .i64 j3)) := by
  subst hx
  rw [alloc_size, alloc_size] at hb
  have h0 := (hb.block w.heap.size (by omega)).trans ((Below.heap_alloc _ _ _ (by rw [alloc_size]; omega)).trans (heap_alloc_new w _))
  have h1 := (hb.block (w.heap.size + 1) (by omega)).trans (heap_two_new w _ _)
  refine ⟨?_, ?_, ?_⟩
  · have := setCell_row 4 (.int .i64 j3) (setCell_row 3 (.int .i64 j2) (setCell_row 2 (.int .i64 j1) (setCell_row 1 (.int .i64 j0) h0)))
    simpa using this
  · iterate 4 rw [Below.heap_setCell _ _ _ _ (by simp)]
    exact h1
  · have hbw : Below w.heap.size w w5 := (((Below.refl _ _).alloc (Nat.le_refl _) _).alloc (by simp) _).trans (hb.mono (by omega))
    exact (((hbw.setCell (by simp) _).setCell (by simp) _).setCell (by simp) _).setCell (by simp) _
def ReachPost (bw bf cap k : Nat) (fs : List Fr) (way known : Fr) (ch : Bool) (lv : Value) (w : World) (e : Ending) (w' : World) : Prop :=
  e = .returned (.bool true) ∧ Two bw bf w w' ∧ ((known.lo = List.zipWith joinN known.lo way.lo ∧ AllAt w' bf fs ∧ WalkAt w' bw lv bf fs.length cap ch) ∨
    (known.lo ≠ List.zipWith joinN known.lo way.lo ∧ AllAt w' bf (fs.set k { way with reached := true, lo := List.zipWith joinN known.lo way.lo }) ∧ WalkAt w' bw lv bf fs.length cap true))
set_option maxRecDepth 100000 in
set_option maxHeartbeats 1000000 in
theorem reach_join (bw bf cap k : Nat) (fs : List Fr) (way known : Fr) (ch : Bool) (lv : Value) (w : World) (hall : AllAt w bf fs) (hok : AllOk fs) (hk : fs[k]? = some known) (hway : FrOk way)
    (hwalk : WalkAt w bw lv bf fs.length cap ch) (hr : known.reached = true) (hne : bw ≠ bf) (hd : known.depth = way.depth) (hst : known.stk = way.stk) :
    Calls Tryd.prog 84 #[.pointer (some ⟨bw, 0, none⟩), .int .i64 k, .agg (frL way).toArray] w (ReachPost bw bf cap k fs way known ch lv w) := by
  have hkl : k < fs.length := (List.getElem?_eq_some_iff.1 hk).1
  have hkn : FrOk known := hok known (List.mem_of_getElem? hk)
  have HAL := hid hall
  have HWK := hid hwalk
  have w0 := cell_of_row w bw 0 _ _ _ hwalk
  have w1 := cell_of_row w bw 1 _ _ _ hwalk
  have w2 := cell_of_row w bw 2 _ _ _ hwalk
  simp only [List.getElem?_toArray, List.getElem?_cons_zero, List.getElem?_cons_succ] at w0 w1 w2
  have hbw := World.block_lt_of_cell? w _ w0
  have fw2 := frozen_of_row w bw 2 _ _ hwalk
  have c0 := hall.cell hok hk (j := 0) (by omega)
  have c1 := hall.cell hok hk (j := 1) (by omega)
  have c2 := hall.cell hok hk (j := 2) (by omega)
  have c3 := hall.cell hok hk (j := 3) (by omega)
  have c4 := hall.cell hok hk (j := 4) (by omega)
  have c5 := hall.cell hok hk (j := 5) (by omega)
  have c6 := hall.cell hok hk (j := 6) (by omega)
  have c7 := hall.cell hok hk (j := 7) (by omega)
  have c8 := hall.cell hok hk (j := 8) (by omega)
  have c9 := hall.cell hok hk (j := 9) (by omega)
  have c10 := hall.cell hok hk (j := 10) (by omega)
  have c11 := hall.cell hok hk (j := 11) (by omega)
  have c12 := hall.cell hok hk (j := 12) (by omega)
  have c13 := hall.cell hok hk (j := 13) (by omega)
  have c14 := hall.cell hok hk (j := 14) (by omega)
  have f0 := hall.frozen (k * 15)
  have f1 := hall.frozen (k * 15 + 1)
  have f2 := hall.frozen (k * 15 + 2)
  have f3 := hall.frozen (k * 15 + 3)
  have f4 := hall.frozen (k * 15 + 4)
  have f5 := hall.frozen (k * 15 + 5)
  have f6 := hall.frozen (k * 15 + 6)
  have f7 := hall.frozen (k * 15 + 7)
  have f8 := hall.frozen (k * 15 + 8)
  have f9 := hall.frozen (k * 15 + 9)
  have f10 := hall.frozen (k * 15 + 10)
  have f11 := hall.frozen (k * 15 + 11)
  have f12 := hall.frozen (k * 15 + 12)
  have f13 := hall.frozen (k * 15 + 13)
  have f14 := hall.frozen (k * 15 + 14)
  have hbf := World.block_lt_of_cell? w _ (c0.trans (by rfl : (frL known)[0]? = some (.bool known.reached)))
  simp only at hbw hbf
  obtain ⟨kr, klo, kd, kst, kw⟩ := known
  obtain ⟨h1, h2, h3⟩ := hkn
  simp only at h1 h2 hr
  subst hr
  obtain ⟨a, b, c, e, rfl⟩ := four h1
  obtain ⟨s0, s1, s2, s3, s4, s5, s6, s7, rfl⟩ := eight h2
  simp only [frL, List.map_cons, List.map_nil, List.cons_append, List.nil_append, numV, List.getElem?_cons_zero, List.getElem?_cons_succ] at c0 c1 c2 c3 c4 c5 c6 c7 c8 c9 c10 c11 c12 c13 c14
  rw [Nat.add_zero] at c0
  have HWAY := hid hway
  obtain ⟨yr, ylo, yd, yst, yw⟩ := way
  obtain ⟨g1, g2, g3⟩ := hway
  simp only at g1 g2 hd hst
  obtain ⟨a', b', c', e', rfl⟩ := four g1
  obtain ⟨t0, t1, t2, t3, t4, t5, t6, t7, rfl⟩ := eight g2
  simp only [frL, List.map_cons, List.map_nil, List.cons_append, List.nil_append, numV]
  have i0 : (0 : Int) ≤ (k : Int) := by omega
  have i1 : (k : Int) < (fs.length : Int) := by omega
  have hbw2 : bw ≤ w.heap.size := by omega
  have hbf2 : bf ≤ w.heap.size := by omega
  have d1 : decide ((k : Int) < 0) = false := by simp
  clear hall hwalk
  subst hd
  simp only [List.cons.injEq, and_true] at hst
  obtain ⟨rfl, rfl, rfl, rfl, rfl, rfl, rfl, rfl⟩ := hst
  have hjn := hid (fun W => flowJoined_any a b c e a' b' c' e' W)
  have HPS : Hid (∀ w', Two bw bf w w' → ([a, b, c, e] = [joinN a a', joinN b b', joinN c c', joinN e e'] ∧ AllAt w' bf fs ∧ WalkAt w' bw lv bf fs.length cap ch ∨
      [a, b, c, e] ≠ [joinN a a', joinN b b', joinN c c', joinN e e'] ∧ AllAt w' bf (fs.set k ⟨true, [joinN a a', joinN b b', joinN c c', joinN e e'], kd, [s0, s1, s2, s3, s4, s5, s6, s7], yw⟩) ∧ WalkAt w' bw lv bf fs.length cap true) →
      ReachPost bw bf cap k fs ⟨yr, [a', b', c', e'], kd, [s0, s1, s2, s3, s4, s5, s6, s7], yw⟩ ⟨true, [a, b, c, e], kd, [s0, s1, s2, s3, s4, s5, s6, s7], kw⟩ ch lv w (.returned (.bool true)) w') := hid (fun w' h1 h2 => ⟨rfl, h1, h2⟩)
  generalize joinN a a' = j0 at *
  generalize joinN b b' = j1 at *
  generalize joinN c c' = j2 at *
  generalize joinN e e' = j3 at *
  go_enter Tryd.func84, Tryd.ntmps84

  go_upto_region 8 with fail
  go_cut [6] (fun x6 wc => x6 = .bool false ∧ wc.heap[w.heap.size]? = some (.cells #[.bool true, .int .i64 j0, .int .i64 j1, .int .i64 j2, .int .i64 j3, .int .i64 kd, .int .i64 s0, .int .i64 s1, .int .i64 s2, .int .i64 s3, .int .i64 s4, .int .i64 s5, .int .i64 s6, .int .i64 s7, .bool yw] 93) ∧ wc.heap[w.heap.size + 1]? = some (.cells #[.bool true, .int .i64 a, .int .i64 b, .int .i64 c, .int .i64 e, .int .i64 kd, .int .i64 s0, .int .i64 s1, .int .i64 s2, .int .i64 s3, .int .i64 s4, .int .i64 s5, .int .i64 s6, .int .i64 s7, .bool kw] 93) ∧ Below w.heap.size w wc)
  case first =>
    go_wp2_with fail
    refine (hjn.out _).mono ?_
    clear hjn
    intro x w5 hh
    obtain ⟨hx5, hb5⟩ := hh
    subst x
    have hr5 := hid (four_set j0 j1 j2 j3 rfl hb5)
    obtain ⟨hc5, hf5⟩ := bcell hb5
    have hz5 := hb5.size
    simp at hc5 hf5 hz5
    go_wp2_with fail
    go_meet
    exact ⟨rfl, hr5.out.1, hr5.out.2.1, hr5.out.2.2⟩
  case rest =>
    obtain ⟨rfl, hR1, hR2, hB⟩ := hcut
    have hA : AllAt wc bf fs := (hB.block bf hbf).trans HAL.out
    have hW : WalkAt wc bw lv bf fs.length cap ch := (hB.block bw hbw).trans HWK.out
    clear hjn c0 c1 c2 c3 c4 c5 c6 c7 c8 c9 c10 c11 c12 c13 c14 f0 f1 f2 f3 f4 f5 f6 f7 f8 f9 f10 f11 f12 f13 f14 w0 w1 w2 fw2
    have m0 := cell_of_row wc w.heap.size 0 _ _ _ hR1
    have m1 := cell_of_row wc w.heap.size 1 _ _ _ hR1
    have m2 := cell_of_row wc w.heap.size 2 _ _ _ hR1
    have m3 := cell_of_row wc w.heap.size 3 _ _ _ hR1
    have m4 := cell_of_row wc w.heap.size 4 _ _ _ hR1
    have m5 := cell_of_row wc w.heap.size 5 _ _ _ hR1
    have m6 := cell_of_row wc w.heap.size 6 _ _ _ hR1
    have m7 := cell_of_row wc w.heap.size 7 _ _ _ hR1
    have m8 := cell_of_row wc w.heap.size 8 _ _ _ hR1
    have m9 := cell_of_row wc w.heap.size 9 _ _ _ hR1
    have m10 := cell_of_row wc w.heap.size 10 _ _ _ hR1
    have m11 := cell_of_row wc w.heap.size 11 _ _ _ hR1
    have m12 := cell_of_row wc w.heap.size 12 _ _ _ hR1
    have m13 := cell_of_row wc w.heap.size 13 _ _ _ hR1
    have m14 := cell_of_row wc w.heap.size 14 _ _ _ hR1
    have p0 := cell_of_row wc (w.heap.size + 1) 0 _ _ _ hR2
    have p1 := cell_of_row wc (w.heap.size + 1) 1 _ _ _ hR2
    have p2 := cell_of_row wc (w.heap.size + 1) 2 _ _ _ hR2
    have p3 := cell_of_row wc (w.heap.size + 1) 3 _ _ _ hR2
    have p4 := cell_of_row wc (w.heap.size + 1) 4 _ _ _ hR2
    have c0 := hA.cell hok hk (j := 0) (by omega)
    have c1 := hA.cell hok hk (j := 1) (by omega)
    have c2 := hA.cell hok hk (j := 2) (by omega)
    have c3 := hA.cell hok hk (j := 3) (by omega)
    have c4 := hA.cell hok hk (j := 4) (by omega)
    have c5 := hA.cell hok hk (j := 5) (by omega)
    have c6 := hA.cell hok hk (j := 6) (by omega)
    have c7 := hA.cell hok hk (j := 7) (by omega)
    have c8 := hA.cell hok hk (j := 8) (by omega)
    have c9 := hA.cell hok hk (j := 9) (by omega)
    have c10 := hA.cell hok hk (j := 10) (by omega)
    have c11 := hA.cell hok hk (j := 11) (by omega)
    have c12 := hA.cell hok hk (j := 12) (by omega)
    have c13 := hA.cell hok hk (j := 13) (by omega)
    have c14 := hA.cell hok hk (j := 14) (by omega)
    have f0 := hA.frozen (k * 15)
    have f1 := hA.frozen (k * 15 + 1)
    have f2 := hA.frozen (k * 15 + 2)
    have f3 := hA.frozen (k * 15 + 3)
    have f4 := hA.frozen (k * 15 + 4)
    have f5 := hA.frozen (k * 15 + 5)
    have f6 := hA.frozen (k * 15 + 6)
    have f7 := hA.frozen (k * 15 + 7)
    have f8 := hA.frozen (k * 15 + 8)
    have f9 := hA.frozen (k * 15 + 9)
    have f10 := hA.frozen (k * 15 + 10)
    have f11 := hA.frozen (k * 15 + 11)
    have f12 := hA.frozen (k * 15 + 12)
    have f13 := hA.frozen (k * 15 + 13)
    have f14 := hA.frozen (k * 15 + 14)
    rw [Nat.add_zero] at c0
    have v1 := cell_of_row wc bw 1 _ _ _ hW
    simp only [frL, List.map_cons, List.map_nil, List.cons_append, List.nil_append, numV, List.getElem?_toArray, List.getElem?_cons_zero, List.getElem?_cons_succ] at v1 m0 m1 m2 m3 m4 m5 m6 m7 m8 m9 m10 m11 m12 m13 m14 p0 p1 p2 p3 p4 c0 c1 c2 c3 c4 c5 c6 c7 c8 c9 c10 c11 c12 c13 c14
    have HA := hid hA
    have HW := hid hW
    clear hA hW hR1 hR2
    by_cases hsame : a = j0 ∧ b = j1 ∧ c = j2 ∧ e = j3
    · obtain ⟨q0, q1, q2, q3⟩ := hsame
      have y0 : ((a : Int) == (j0 : Int)) = true := by simp; omega
      have y1 : ((b : Int) == (j1 : Int)) = true := by simp; omega
      have y2 : ((c : Int) == (j2 : Int)) = true := by simp; omega
      have y3 : ((e : Int) == (j3 : Int)) = true := by simp; omega
      have HQ : Hid ([a, b, c, e] = [j0, j1, j2, j3]) := hid (by rw [q0, q1, q2, q3])
      clear q0 q1 q2 q3
      go_wp2_with fail
      go_ret
      exact HPS.out _ (.of_below hB) (.inl ⟨HQ.out, HA.out, HW.out⟩)
    · have HQ : Hid ([a, b, c, e] ≠ [j0, j1, j2, j3]) := hid (by
        intro h
        simp only [List.cons.injEq, and_true] at h
        exact hsame h)
      clear hsame
      go_wp2_with fail
      · go_cut [6] (fun x6 wd => x6 = .bool false ∧ AllAt wd bf (fs.set k ⟨true, [j0, j1, j2, j3], kd, [s0, s1, s2, s3, s4, s5, s6, s7], yw⟩) ∧ WalkAt wd bw lv bf fs.length cap ch ∧ Two bw bf wc wd)
        case first =>
          go_region
          go_wp2_with fail
          go_meet
          exact ⟨rfl, reach_put2 true yw j0 j1 j2 j3 s0 s1 s2 s3 s4 s5 s6 s7 HA.out hok hkl HW.out hne h3⟩
        case rest =>
          obtain ⟨rfl, hA2, hW2, hT2⟩ := hcut
          have z2 := cell_of_row wc bw 2 _ _ _ hW2
          simp only [List.getElem?_toArray, List.getElem?_cons_zero, List.getElem?_cons_succ] at z2
          have u2 := frozen_of_row wc bw 2 _ _ hW2
          have HA2 := hid hA2
          have HW2 := hid hW2
          have HT2 := hid ((Two.of_below (a := bw) (b := bf) hB).trans hT2)
          clear hA2 hW2 hT2
          go_wp2_with fail
          go_ret
          refine HPS.out _ HT2.out.set (.inr ⟨HQ.out, ?_, by have := setCell_row 2 (.bool true) HW2.out; simpa [WalkAt] using this⟩)
          unfold AllAt
          rw [Below.heap_setCell _ _ _ _ (Ne.symm hne)]
          exact HA2.out
      · have hsm := ‹(!((a : Int) == (j0 : Int))) = false ∧ _›
        exfalso
        apply HQ.out
        simp only [Bool.not_eq_false', beq_iff_eq] at hsm
        obtain ⟨q0, q1, q2, q3⟩ := hsm
        rw [show a = j0 by omega, show b = j1 by omega, show c = j2 by omega, show e = j3 by omega]
end Go.Proofs.YtdmdpindonghdaaDoor
namespace Go.Proofs.YtdmdpindonghdaaDoor
open Go.RowKit
def doneB (ph hd i : Nat) : Bool := ph == 1 || (ph == 2 && decide (hd ≤ i))
def freshC (d : Bool) : RC := ⟨true, d, d, false, -1, -1, 0⟩
def setAB (n : Nat) (s : Int) (c : RC) : RC := if n = 0 then { c with a := s } else { c with b := s }
def storeC (cs : List RC) (ph r n : Nat) (s : Int) : List RC := if ph = 1 then reachC (cs.modify r (setAB n s)) [s] else cs.modify r (setAB n s)
theorem Two.of_only {g : Nat} {w w' : World} (h : Only g w w') : Two g g w w' := ⟨h.os, h.tape, h.output, by rw [h.size]; exact Nat.le_refl _, fun k _ h1 _ => h.block k h1⟩
end Go.Proofs.YtdmdpindonghdaaDoor
namespace Go.Proofs.YtdmdpindonghdaaDoor
open Go.RowKit
/-- A weak cell looks no longer at what was not reached. -/
def fgB (cs : List RC) (c : RC) : Bool := c.used && (c.weak && (decide (0 ≤ c.a) && (colR (cs.getD c.a.toNat ⟨false, false, false, false, 0, 0, 0⟩) == 1)))
def fgC (cs : List RC) (c : RC) : RC := if fgB cs c = true then { c with a := -1 } else c
def forgetC (cs : List RC) : List RC := cs.map (fgC cs)
def midC (cs : List RC) (k : Nat) : List RC := (cs.take k).map (fgC cs) ++ cs.drop k
theorem midC_len (cs : List RC) (k : Nat) : (midC cs k).length = cs.length := by simp [midC]; omega
theorem midC_get {cs : List RC} {k : Nat} (h : k < cs.length) : (midC cs k)[k]'(by rw [midC_len]; exact h) = cs[k] := by
  unfold midC
  rw [List.getElem_append_right (by simp; omega)]
  simp [Nat.min_eq_left (Nat.le_of_lt h)]
theorem midC_next {cs : List RC} {k : Nat} (h : k < cs.length) : midC cs (k + 1) = (midC cs k).set k (fgC cs cs[k]) := by
  unfold midC
  rw [List.take_succ_eq_append_getElem h, List.map_append, List.drop_eq_getElem_cons h, List.set_append_right _ _ (by simp; omega), show k - ((cs.take k).map (fgC cs)).length = 0 by simp; omega, List.set_cons_zero, List.append_assoc]
  rfl
theorem fgC_col (cs : List RC) (c : RC) : colR (fgC cs c) = colR c := by
  unfold fgC
  split
  · rfl
  · rfl
theorem midC_col {cs : List RC} {k j : Nat} (h : j < cs.length) : colR ((midC cs k)[j]'(by rw [midC_len]; exact h)) = colR cs[j] := by
  unfold midC
  by_cases hj : j < (cs.take k).length
  · rw [List.getElem_append_left (by simpa using hj), List.getElem_map, fgC_col]
    simp
  · rw [List.getElem_append_right (by simpa using hj)]
    simp only [List.length_map]
    rw [List.getElem_drop]
    simp only [List.length_take] at hj ⊢
    congr 2
    omega
end Go.Proofs.YtdmdpindonghdaaDoor
namespace Go.Proofs.YtdmdpindonghdaaDoor
open Go.RowKit
/-- A list of references that is handed on, apart from the cells. -/
def RefsAt (w : World) (gC : Nat) (v : Value) (rs : List Int) : Prop :=
  (v = .slice none 0 0 ∧ rs = []) ∨ ∃ a ca, v = .slice (some a) rs.length ca ∧ a.block ≠ gC ∧ a.block < w.heap.size ∧ ∀ (j : Nat) (x : Int), rs[j]? = some x → w.cell? (a.add j) = some (.int .i64 x)
theorem RefsAt.slice {w : World} {gC : Nat} {v : Value} {rs : List Int} (h : RefsAt w gC v rs) : ∃ p cap, v = .slice p rs.length cap := by
  rcases h with ⟨h1, h2⟩ | ⟨a, cap, hv, _⟩
  · exact ⟨none, 0, by rw [h1, h2]; rfl⟩
  · exact ⟨_, cap, hv⟩
theorem row_11 (r : Array Value) (a b c : Value) : ((r.setIfInBounds 11 a).setIfInBounds 12 b).setIfInBounds 11 c = (r.setIfInBounds 11 c).setIfInBounds 12 b := by
  apply Array.toList_inj.1
  simp only [Array.toList_setIfInBounds]
  rw [List.set_comm _ _ (by decide), List.set_set]
theorem row_12 (r : Array Value) (a b c : Value) : ((r.setIfInBounds 11 a).setIfInBounds 12 b).setIfInBounds 12 c = (r.setIfInBounds 11 a).setIfInBounds 12 c := by
  apply Array.toList_inj.1
  simp only [Array.toList_setIfInBounds]
  rw [List.set_set]
theorem Two.swap {a b : Nat} {w w' : World} (h : Two a b w w') : Two b a w w' := ⟨h.os, h.tape, h.output, h.size, fun k hk h1 h2 => h.block k hk h2 h1⟩
theorem Two.widen {a c : Nat} {w w' : World} (h : Two a a w w') : Two c a w w' := ⟨h.os, h.tape, h.output, h.size, fun k hk _ h2 => h.block k hk h2 h2⟩
/-- A unit of the collector's. -/
def wipeC (c : RC) : RC := { c with reached := false, looked := false }
def sweepC (cs : List RC) (hd : Nat) : List RC := if colR (cs.getD hd ⟨false, false, false, false, 0, 0, 0⟩) = 1 then cs.set hd ⟨false, false, false, false, -1, -1, 0⟩ else cs.modify hd wipeC
def greyC (cs : List RC) : Int := firstP (fun c => colR c == 2) cs 0
def lookC (c : RC) : RC := { c with looked := true }
def markStep (cs : List RC) (g : Nat) : List RC :=
  if (cs.getD g ⟨false, false, false, false, 0, 0, 0⟩).weak = true then cs.modify g lookC
  else reachC (cs.modify g lookC) [(cs.getD g ⟨false, false, false, false, 0, 0, 0⟩).a, (cs.getD g ⟨false, false, false, false, 0, 0, 0⟩).b]
def unitC (cs : List RC) (ph hd : Nat) (rs : List Int) : List RC × Nat × Nat :=
  if ph = 0 then (reachC cs rs, 1, hd)
  else if ph = 2 then (if hd + 1 = cs.length then (sweepC cs hd, 0, 0) else (sweepC cs hd, 2, hd + 1))
  else if 0 ≤ greyC cs then (markStep cs (greyC cs).toNat, ph, hd)
  else if greyC (reachC cs rs) < 0 then (forgetC (reachC cs rs), 2, hd) else (reachC cs rs, ph, hd)
end Go.Proofs.YtdmdpindonghdaaDoor
namespace Go.Proofs.YtdmdpindonghdaaDoor
open Go.RowKit
theorem firstP_lt (p : RC → Bool) : ∀ (cs : List RC) (k : Nat), (firstP p cs k = -1) ∨ ((k : Int) ≤ firstP p cs k ∧ firstP p cs k < (k : Int) + cs.length) := by
  intro cs
  induction cs with
  | nil => intro k; exact .inl rfl
  | cons c r ih =>
    intro k
    simp only [firstP]
    split
    · exact .inr ⟨Int.le_refl _, by simp; omega⟩
    · rcases ih (k + 1) with h | h
      · exact .inl h
      · exact .inr ⟨by omega, by simp; omega⟩
theorem greyC_lt {cs : List RC} (h : 0 ≤ greyC cs) : (greyC cs).toNat < cs.length := by
  rcases firstP_lt (fun c => colR c == 2) cs 0 with e | e
  · unfold greyC at h; omega
  · unfold greyC at *; omega
end Go.Proofs.YtdmdpindonghdaaDoor
namespace Go.Proofs.YtdmdpindonghdaaDoor
open Go.RowKit
theorem reachC_a {P : RC → Prop} (hP : ∀ c, P c → P (markC c)) : ∀ (rs : List Int) (cs : List RC), (∀ c ∈ cs, P c) → ∀ c ∈ reachC cs rs, P c := by
  intro rs
  induction rs with
  | nil => intro cs h; exact h
  | cons r rs ih =>
    intro cs h
    refine ih _ ?_
    split
    · intro c hc
      by_cases hl : r.toNat < cs.length
      · rw [modify_set hl] at hc
        rcases List.mem_or_eq_of_mem_set hc with h1 | h1
        · exact h c h1
        · rw [h1]; exact hP _ (h _ (List.getElem_mem hl))
      · rw [List.modify_eq_self (by omega)] at hc
        exact h c hc
    · exact h
end Go.Proofs.YtdmdpindonghdaaDoor
namespace Go.Proofs.YtdmdpindonghdaaDoor
open Go.RowKit
/-- A heap in order: its references refer to cells or to none. -/
structure HpOk (cs : List RC) (ph hd : Nat) : Prop where
  pos : 0 < cs.length
  len : cs.length ≤ 32
  refs : ∀ c ∈ cs, c.a < (cs.length : Int) ∧ c.b < (cs.length : Int)
  phz : ph ≤ 2
  hand : ph = 2 → hd < cs.length
  nohand : ph ≠ 2 → hd = 0
theorem modify_mem {P : RC → Prop} {f : RC → RC} (hf : ∀ c, P c → P (f c)) {cs : List RC} {k : Nat} (h : ∀ c ∈ cs, P c) : ∀ c ∈ cs.modify k f, P c := by
  intro c hc
  by_cases hl : k < cs.length
  · rw [modify_set hl] at hc
    rcases List.mem_or_eq_of_mem_set hc with h1 | h1
    · exact h c h1
    · rw [h1]; exact hf _ (h _ (List.getElem_mem hl))
  · rw [List.modify_eq_self (by omega)] at hc
    exact h c hc
theorem unitC_len (cs : List RC) (ph hd : Nat) (rs : List Int) : (unitC cs ph hd rs).1.length = cs.length := by
  unfold unitC
  split
  · exact reachC_len _ _
  split
  · have : (sweepC cs hd).length = cs.length := by unfold sweepC; split <;> simp
    split <;> exact this
  split
  · show (markStep cs _).length = _
    unfold markStep
    split
    · simp
    · rw [reachC_len]; simp
  split
  · show (forgetC _).length = _
    simp [forgetC, reachC_len]
  · exact reachC_len _ _
theorem unitC_refs {n : Int} (hn : 0 < n) (cs : List RC) (ph hd : Nat) (rs : List Int) (h : ∀ c ∈ cs, c.a < n ∧ c.b < n) : ∀ c ∈ (unitC cs ph hd rs).1, c.a < n ∧ c.b < n := by
  have hr : ∀ (l : List RC) (rs : List Int), (∀ c ∈ l, c.a < n ∧ c.b < n) → ∀ c ∈ reachC l rs, c.a < n ∧ c.b < n := fun l rs hl => reachC_a (P := fun c => c.a < n ∧ c.b < n) (fun _ h => h) rs l hl
  unfold unitC
  split
  · exact hr _ _ h
  split
  · have hs : ∀ c ∈ sweepC cs hd, c.a < n ∧ c.b < n := by
      unfold sweepC
      split
      · intro c hc
        rcases List.mem_or_eq_of_mem_set hc with h1 | h1
        · exact h c h1
        · rw [h1]; exact ⟨by simp only; omega, by simp only; omega⟩
      · exact modify_mem (P := fun c => c.a < n ∧ c.b < n) (f := wipeC) (fun _ h => h) h
    split <;> exact hs
  split
  · show ∀ c ∈ markStep cs _, _
    unfold markStep
    have hm : ∀ g, ∀ c ∈ cs.modify g lookC, c.a < n ∧ c.b < n := fun g => modify_mem (P := fun c => c.a < n ∧ c.b < n) (f := lookC) (fun _ h => h) h
    split
    · exact hm _
    · exact hr _ _ (hm _)
  split
  · show ∀ c ∈ forgetC _, _
    intro c hc
    unfold forgetC at hc
    obtain ⟨d, hd', rfl⟩ := List.mem_map.1 hc
    have := hr _ _ h d hd'
    unfold fgC
    split
    · exact ⟨by simp only; omega, this.2⟩
    · exact this
  · exact hr _ _ h
theorem HpOk.unit {cs : List RC} {ph hd : Nat} (h : HpOk cs ph hd) (rs : List Int) : HpOk (unitC cs ph hd rs).1 (unitC cs ph hd rs).2.1 (unitC cs ph hd rs).2.2 := by
  have hl := unitC_len cs ph hd rs
  have hp := h.pos
  refine ⟨by omega, by have := h.len; omega, ?_, ?_, ?_, ?_⟩
  · rw [hl]
    exact unitC_refs (by omega) cs ph hd rs h.refs
  · unfold unitC
    split
    · simp only; omega
    split
    · split <;> simp
    split
    · exact h.phz
    split
    · simp
    · exact h.phz
  · intro e
    rw [hl]
    unfold unitC at e ⊢
    split at e
    · simp at e
    rename_i h0
    rw [if_neg h0]
    split at e
    · rename_i h2
      rw [if_pos h2]
      split at e
      · simp at e
      · rename_i h3
        rw [if_neg h3]
        have := h.hand h2
        simp only; omega
    · rename_i h2
      rw [if_neg h2]
      have hz := h.nohand h2
      split
      · simp only; omega
      · split <;> (simp only; omega)
  · intro e
    unfold unitC at e ⊢
    split at e
    · rename_i h0
      rw [if_pos h0]
      exact h.nohand (by omega)
    rename_i h0
    rw [if_neg h0]
    split at e
    · rename_i h2
      rw [if_pos h2]
      split at e
      · rename_i h3; rw [if_pos h3]
      · simp at e
    · rename_i h2
      rw [if_neg h2]
      have hz := h.nohand h2
      split
      · exact hz
      · split <;> exact hz
end Go.Proofs.YtdmdpindonghdaaDoor
namespace Go.Proofs.YtdmdpindonghdaaDoor
open Go.RowKit
abbrev HSt := List RC × Nat × Nat
def unl (cs : List RC) : Nat := cs.countP (fun c => !c.looked)
theorem unl_modify {cs : List RC} {k : Nat} {f : RC → RC} (hf : ∀ c, (f c).looked = c.looked) : unl (cs.modify k f) = unl cs := by
  induction cs generalizing k with
  | nil => simp [unl]
  | cons a r ih =>
    cases k with
    | zero => simp [unl, List.countP_cons, hf]
    | succ k =>
      have := ih (k := k)
      simp only [unl, List.modify_succ_cons, List.countP_cons] at *
      omega
theorem unl_look {cs : List RC} {k : Nat} (h : k < cs.length) (hl : cs[k].looked = false) : unl (cs.modify k lookC) + 1 = unl cs := by
  induction cs generalizing k with
  | nil => simp at h
  | cons a r ih =>
    cases k with
    | zero =>
      simp only [List.getElem_cons_zero] at hl
      simp [unl, lookC, hl]
    | succ k =>
      have := ih (k := k) (by simpa using h) (by simpa using hl)
      simp only [unl, List.modify_succ_cons, List.countP_cons] at *
      omega
theorem unl_reach (rs : List Int) : ∀ cs : List RC, unl (reachC cs rs) = unl cs := by
  induction rs with
  | nil => intro cs; rfl
  | cons r rs ih =>
    intro cs
    simp only [reachC]
    rw [ih]
    split
    · exact unl_modify (fun _ => rfl)
    · rfl
theorem firstP_spec (p : RC → Bool) : ∀ (cs : List RC) (k : Nat), firstP p cs k = -1 ∨ ∃ (j : Nat) (h : j < cs.length), firstP p cs k = ((k + j : Nat) : Int) ∧ p cs[j] = true := by
  intro cs
  induction cs with
  | nil => intro k; exact .inl rfl
  | cons c r ih =>
    intro k
    simp only [firstP]
    by_cases hp : p c = true
    · rw [if_pos hp]
      exact .inr ⟨0, by simp, by simp, by simpa using hp⟩
    · rw [if_neg hp]
      rcases ih (k + 1) with h | ⟨j, hj, e, hq⟩
      · exact .inl h
      · exact .inr ⟨j + 1, by simp; omega, by rw [e]; omega, by simpa using hq⟩
def muC (s : HSt) : Nat := if s.2.1 = 0 then 0 else if s.2.1 = 2 then s.1.length - s.2.2 else 2 * unl s.1 + (if 0 ≤ greyC s.1 then 0 else 1) + (s.1.length + 1)
def stepC (rs : List Int) (s : HSt) : HSt := unitC s.1 s.2.1 s.2.2 rs
def OkS (s : HSt) : Prop := HpOk s.1 s.2.1 s.2.2
theorem OkS.step {s : HSt} (h : OkS s) (rs : List Int) : OkS (stepC rs s) := HpOk.unit h rs
theorem mu_dec {s : HSt} (h : OkS s) (h0 : s.2.1 ≠ 0) (rs : List Int) : muC (stepC rs s) < muC s := by
  obtain ⟨cs, ph, hd⟩ := s
  have hp := h.phz
  have hpos := h.pos
  simp only at h0 hp hpos
  unfold stepC muC
  simp only
  rw [if_neg h0]
  unfold unitC
  rw [if_neg h0]
  by_cases h2 : ph = 2
  · have hh := h.hand h2
    simp only at hh
    rw [if_pos h2, if_pos h2]
    by_cases he : hd + 1 = cs.length
    · rw [if_pos he]
      simp only [if_true]
      omega
    · rw [if_neg he]
      have hl : (sweepC cs hd).length = cs.length := by unfold sweepC; split <;> simp
      simp only
      rw [if_neg (by decide), if_pos trivial, hl]
      omega
  · rw [if_neg h2, if_neg h2]
    have h1 : ph = 1 := by omega
    subst h1
    by_cases hg : 0 ≤ greyC cs
    · rw [if_pos hg, if_pos hg]
      simp only
      rw [if_neg (by decide), if_neg (by decide)]
      obtain ⟨j, hj, e, hq⟩ : ∃ (j : Nat) (h : j < cs.length), greyC cs = (j : Int) ∧ (colR cs[j] == 2) = true := by
        rcases firstP_spec (fun c => colR c == 2) cs 0 with e | ⟨j, hj, e, hq⟩
        · unfold greyC at hg; omega
        · exact ⟨j, hj, by unfold greyC; rw [e]; simp, hq⟩
      have hlk : cs[j].looked = false := by
        simp only [beq_iff_eq] at hq
        unfold colR at hq
        cases hx : cs[j].looked
        · rfl
        · rw [hx] at hq
          simp only [if_true] at hq
          split at hq <;> omega
      have hu : unl (markStep cs (greyC cs).toNat) + 1 = unl cs := by
        rw [e, Int.toNat_natCast]
        unfold markStep
        split
        · exact unl_look hj hlk
        · rw [unl_reach]; exact unl_look hj hlk
      have hl : (markStep cs (greyC cs).toNat).length = cs.length := by
        unfold markStep
        split
        · simp
        · rw [reachC_len]; simp
      rw [hl]
      split <;> omega
    · rw [if_neg hg, if_neg hg]
      by_cases hg2 : greyC (reachC cs rs) < 0
      · rw [if_pos hg2]
        have hz : hd = 0 := h.nohand (show (1 : Nat) ≠ 2 by decide)
        have hl : (forgetC (reachC cs rs)).length = cs.length := by simp [forgetC, reachC_len]
        simp only
        rw [if_neg (by decide), if_pos trivial, hl]
        omega
      · rw [if_neg hg2]
        simp only
        rw [if_neg (by decide), if_neg (by decide), if_pos (by omega), unl_reach, reachC_len]
        omega
def toIdle (rs : List Int) : Nat → HSt → HSt
  | 0, s => s
  | n + 1, s => if s.2.1 = 0 then s else toIdle rs n (stepC rs s)
theorem toIdle_fuel (rs : List Int) : ∀ (n m : Nat) (s : HSt), OkS s → muC s ≤ n → muC s ≤ m → toIdle rs n s = toIdle rs m s := by
  intro n
  induction n with
  | zero =>
    intro m s h hn hm
    have h0 : s.2.1 = 0 := by
      by_cases e : s.2.1 = 0
      · exact e
      · have := mu_dec h e rs; omega
    cases m with
    | zero => rfl
    | succ m => simp [toIdle, h0]
  | succ n ih =>
    intro m s h hn hm
    by_cases e : s.2.1 = 0
    · cases m with
      | zero => simp [toIdle, e]
      | succ m => simp [toIdle, e]
    · have hd := mu_dec h e rs
      cases m with
      | zero => omega
      | succ m =>
        simp only [toIdle, if_neg e]
        exact ih m _ (h.step rs) (by omega) (by omega)
/-- The heap when the phase is Idle again. -/
def idleC (rs : List Int) (s : HSt) : HSt := toIdle rs (muC s) s
theorem idleC_zero {rs : List Int} {s : HSt} (h : s.2.1 = 0) : idleC rs s = s := by
  unfold idleC
  cases muC s with
  | zero => rfl
  | succ n => simp [toIdle, h]
theorem idleC_step {rs : List Int} {s : HSt} (ho : OkS s) (h : s.2.1 ≠ 0) : idleC rs s = idleC rs (stepC rs s) := by
  have hd := mu_dec ho h rs
  unfold idleC
  obtain ⟨n, hn⟩ : ∃ n, muC s = n + 1 := ⟨muC s - 1, by omega⟩
  rw [hn]
  simp only [toIdle, if_neg h]
  exact toIdle_fuel rs n _ _ (ho.step rs) (by omega) (Nat.le_refl _)
def lowC (s : HSt) : Int := firstP (fun c => !c.used) s.1 0
def beginC (s : HSt) : Int × HSt := (lowC s, (s.1.set (lowC s).toNat (freshC (doneB s.2.1 s.2.2 (lowC s).toNat)), s.2.1, s.2.2))
/-- The cell that is taken, or -1; the heap behind it. -/
def takeC (rs : List Int) (s : HSt) : Int × HSt :=
  if 0 ≤ lowC s then beginC s
  else if 0 ≤ lowC (idleC rs s) then beginC (idleC rs s)
  else if 0 ≤ lowC (idleC rs (stepC rs (idleC rs s))) then beginC (idleC rs (stepC rs (idleC rs s)))
  else (-1, idleC rs (stepC rs (idleC rs s)))
end Go.Proofs.YtdmdpindonghdaaDoor
namespace Go.Proofs.YtdmdpindonghdaaDoor
open Go.RowKit
/-- A machine's state. -/
structure MS where
  at_ : Nat
  lo : List (Bool × Int)
  st : List (Bool × Int)
  rd : Nat
  out : List Int
  oc : Nat
  va : Int
  hs : HSt
/-- The machine at its beginning. -/
def startS (L : Nat) (n : Nat) : MS := ⟨0, List.replicate L (false, 0), [], 0, [], 0, 0, (List.replicate n ⟨false, false, false, false, -1, -1, 0⟩, 0, 0)⟩
end Go.Proofs.YtdmdpindonghdaaDoor
namespace Go.Proofs.YtdmdpindonghdaaDoor
open Go.RowKit
def colL (cs : List Cl) (k : Nat) : Nat := ((cs[k]?).map Cl.col).getD 9
def hasL (cs : List Cl) (r : Int) (k : Nat) : Bool := decide (0 ≤ r) && (decide (r < (cs.length : Int)) && colL cs r.toNat == k)
def paintL (k : Nat) (c : Cl) : Cl := { c with col := k }
def shadeL (cs : List Cl) (r : Int) : List Cl := if hasL cs r 1 = true then cs.modify r.toNat (paintL 2) else cs
def shadesL (cs : List Cl) : List Int → List Cl
  | [] => cs
  | r :: rs => shadesL (shadeL cs r) rs
def firstL (p : Cl → Bool) : List Cl → Nat → Int
  | [], _ => -1
  | c :: r, k => if p c = true then (k : Int) else firstL p r (k + 1)
def greyL (cs : List Cl) : Int := firstL (fun c => c.col == 2) cs 0
def zeroL : Cl := ⟨0, false, 0, 0, 0⟩
def blackL (cs : List Cl) (g : Nat) : List Cl := (if (cs.getD g zeroL).weak = true then cs else shadeL (shadeL cs (cs.getD g zeroL).a) (cs.getD g zeroL).b).modify g (paintL 3)
def fgL (cs : List Cl) (c : Cl) : Cl := if (c.weak && hasL cs c.a 1) = true then { c with a := -1 } else c
def forgetL (cs : List Cl) : List Cl := cs.map (fgL cs)
def blankL : Cl := ⟨0, false, -1, -1, 0⟩
def sweepL (cs : List Cl) (hd : Nat) : List Cl := if hasL cs hd 1 = true then cs.set hd blankL else if hasL cs hd 3 = true then cs.modify hd (paintL 1) else cs
def unitL (cs : List Cl) (ph hd : Nat) (rs : List Int) : List Cl × Nat × Nat :=
  if ph = 0 then (shadesL cs rs, 1, hd)
  else if ph = 2 then (if cs.length ≤ hd + 1 then (sweepL cs hd, 0, 0) else (sweepL cs hd, 2, hd + 1))
  else if 0 ≤ greyL cs then (blackL cs (greyL cs).toNat, ph, hd)
  else if greyL (shadesL cs rs) < 0 then (forgetL (shadesL cs rs), 2, 0) else (shadesL cs rs, ph, hd)
theorem shadeL_len (cs : List Cl) (r : Int) : (shadeL cs r).length = cs.length := by unfold shadeL; split <;> simp
theorem shadesL_len : ∀ (rs : List Int) (cs : List Cl), (shadesL cs rs).length = cs.length
  | [], _ => rfl
  | r :: rs, cs => by simp only [shadesL]; rw [shadesL_len rs, shadeL_len]
theorem shadesL_snoc : ∀ (rs : List Int) (cs : List Cl) (r : Int), shadesL cs (rs ++ [r]) = shadeL (shadesL cs rs) r
  | [], _, _ => rfl
  | x :: xs, cs, r => shadesL_snoc xs (shadeL cs x) r
theorem sweepL_len (cs : List Cl) (hd : Nat) : (sweepL cs hd).length = cs.length := by unfold sweepL; split; · simp
                                                                                       · split <;> simp
theorem blackL_len (cs : List Cl) (g : Nat) : (blackL cs g).length = cs.length := by
  unfold blackL
  rw [List.length_modify]
  split
  · rfl
  · rw [shadeL_len, shadeL_len]
theorem forgetL_len (cs : List Cl) : (forgetL cs).length = cs.length := by simp [forgetL]
theorem colL_get {cs : List Cl} {k : Nat} (h : k < cs.length) : colL cs k = cs[k].col := by simp [colL, List.getElem?_eq_getElem h]
theorem modify_setL {cs : List Cl} {k : Nat} (h : k < cs.length) (f : Cl → Cl) : cs.modify k f = cs.set k (f cs[k]) := by
  induction cs generalizing k with
  | nil => simp at h
  | cons a r ih =>
    cases k with
    | zero => rfl
    | succ k =>
      have := ih (k := k) (by simpa using h)
      simp only [List.modify_succ_cons, List.set_cons_succ, List.getElem_cons_succ]
      rw [this]
theorem colL_told {cs : List RC} {k : Nat} (h : k < cs.length) : colL (cs.map toldC) k = colR cs[k] := by
  rw [colL_get (by simpa using h), List.getElem_map]; rfl
theorem hasL_in {cs : List RC} {r k : Nat} (h : r < cs.length) : hasL (cs.map toldC) r k = (colR cs[r] == k) := by
  unfold hasL
  rw [List.length_map, Int.toNat_natCast, colL_told h, decide_eq_true (by omega), decide_eq_true (by omega)]
  simp
theorem hasL_neg {cs : List Cl} {r : Int} {k : Nat} (h : r < 0) : hasL cs r k = false := by
  unfold hasL; rw [decide_eq_false (by omega)]; simp
theorem hasL_out {cs : List Cl} {r : Int} {k : Nat} (h : (cs.length : Int) ≤ r) : hasL cs r k = false := by
  unfold hasL; rw [decide_eq_false (p := r < (cs.length : Int)) (by omega)]; simp
theorem set_self {α : Type} {cs : List α} {k : Nat} (h : k < cs.length) : cs.set k cs[k] = cs := by
  apply List.ext_getElem?
  intro j
  rw [List.getElem?_set]
  split
  · rename_i e; subst e; simp [h]
  · rfl
theorem told_mark (c : RC) : toldC (markC c) = if colR c = 1 then paintL 2 (toldC c) else toldC c := by
  obtain ⟨u, r, k, wk, a, b, n⟩ := c
  cases u <;> cases r <;> cases k <;> simp [toldC, markC, colR, paintL]
theorem told_shade (cs : List RC) (r : Int) : shadeL (cs.map toldC) r = (if 0 ≤ r then cs.modify r.toNat markC else cs).map toldC := by
  by_cases h0 : 0 ≤ r
  · rw [if_pos h0]
    obtain ⟨q, rfl⟩ : ∃ q : Nat, r = (q : Int) := ⟨r.toNat, by omega⟩
    rw [Int.toNat_natCast]
    by_cases hq : q < cs.length
    · have hq' : q < (cs.map toldC).length := by simpa using hq
      rw [modify_set hq, List.map_set, told_mark]
      unfold shadeL
      rw [hasL_in hq, Int.toNat_natCast]
      by_cases h1 : colR cs[q] = 1
      · rw [if_pos (by simpa using h1), if_pos h1, modify_setL hq', List.getElem_map]
      · rw [if_neg (by simpa using h1), if_neg h1]
        have := set_self hq'
        rw [List.getElem_map] at this
        exact this.symm
    · rw [List.modify_eq_self (by omega)]
      unfold shadeL
      rw [hasL_out (by simp; omega), if_neg (by simp)]
  · rw [if_neg h0]
    unfold shadeL
    rw [hasL_neg (by omega), if_neg (by simp)]
theorem told_shades : ∀ (rs : List Int) (cs : List RC), shadesL (cs.map toldC) rs = (reachC cs rs).map toldC
  | [], _ => rfl
  | r :: rs, cs => by
    simp only [shadesL, reachC]
    rw [told_shade, told_shades rs]
theorem told_first (p : Cl → Bool) : ∀ (cs : List RC) (k : Nat), firstL p (cs.map toldC) k = firstP (fun c => p (toldC c)) cs k
  | [], _ => rfl
  | c :: r, k => by
    simp only [List.map_cons, firstL, firstP]
    rw [told_first p r (k + 1)]
theorem told_grey (cs : List RC) : greyL (cs.map toldC) = greyC cs := told_first _ cs 0
theorem shade_comm {T : List Cl} {g : Nat} {r : Int} (hg : g < T.length) (h1 : T[g].col ≠ 1) : shadeL (T.modify g (paintL 3)) r = (shadeL T r).modify g (paintL 3) := by
  by_cases h0 : 0 ≤ r
  · obtain ⟨q, rfl⟩ : ∃ q : Nat, r = (q : Int) := ⟨r.toNat, by omega⟩
    by_cases hq : q < T.length
    · by_cases e : q = g
      · subst e
        have a1 : hasL T (q : Int) 1 = false := by
          unfold hasL; rw [Int.toNat_natCast, colL_get hq]; simp [h1]
        have a2 : hasL (T.modify q (paintL 3)) (q : Int) 1 = false := by
          unfold hasL; rw [Int.toNat_natCast, colL_get (by simpa using hq)]; simp [paintL]
        unfold shadeL
        rw [a1, a2]; simp
      · have a1 : hasL (T.modify g (paintL 3)) (q : Int) 1 = hasL T (q : Int) 1 := by
          unfold hasL
          rw [Int.toNat_natCast, colL_get hq, colL_get (by simpa using hq)]
          simp [Ne.symm e]
        unfold shadeL
        rw [a1]
        split
        · rw [Int.toNat_natCast]
          apply List.ext_getElem?
          intro j
          simp only [List.getElem?_modify]
          by_cases j1 : g = j
          · subst j1; simp [e]
          · simp [j1]
        · rfl
    · unfold shadeL
      rw [hasL_out (by simp; omega), hasL_out (by omega)]; simp
  · unfold shadeL
    rw [hasL_neg (by omega), hasL_neg (by omega)]; simp
theorem shade_col {T : List Cl} {g : Nat} {r : Int} (hg : g < T.length) (h1 : T[g].col ≠ 1) : (shadeL T r)[g]'(by rw [shadeL_len]; exact hg) = T[g] := by
  unfold shadeL
  split
  · rename_i h
    by_cases e : r.toNat = g
    · exfalso
      subst e
      unfold hasL at h
      rw [colL_get hg] at h
      simp [h1] at h
    · simp [e]
  · rfl
theorem told_look (c : RC) (h : colR c = 2) : toldC (lookC c) = paintL 3 (toldC c) := by
  obtain ⟨u, r, k, wk, a, b, n⟩ := c
  revert h
  cases u <;> cases r <;> cases k <;> simp [toldC, lookC, colR, paintL]
theorem told_black {cs : List RC} {g : Nat} (hg : g < cs.length) (h2 : colR cs[g] = 2) : blackL (cs.map toldC) g = (markStep cs g).map toldC := by
  have hT : g < (cs.map toldC).length := by simpa using hg
  have e1 : (cs.map toldC).getD g zeroL = toldC cs[g] := by
    rw [List.getD_eq_getElem?_getD, List.getElem?_eq_getElem hT, List.getElem_map]; rfl
  have e2 : cs.getD g ⟨false, false, false, false, 0, 0, 0⟩ = cs[g] := by
    rw [List.getD_eq_getElem?_getD, List.getElem?_eq_getElem hg]; rfl
  have e3 : (cs.modify g lookC).map toldC = (cs.map toldC).modify g (paintL 3) := by
    rw [modify_set hg, List.map_set, told_look _ h2, modify_setL hT, List.getElem_map]
  have hc : (cs.map toldC)[g].col ≠ 1 := by rw [List.getElem_map]; show colR cs[g] ≠ 1; omega
  unfold blackL markStep
  rw [e1, e2]
  show (if cs[g].weak = true then _ else shadeL (shadeL _ cs[g].a) cs[g].b).modify g _ = _
  by_cases hw : cs[g].weak = true
  · rw [if_pos hw, if_pos hw, e3]
  · rw [if_neg hw, if_neg hw, ← told_shades, e3]
    simp only [shadesL]
    rw [shade_comm hT hc, shade_comm (by rw [shadeL_len]; exact hT) (by rw [shade_col hT hc]; exact hc)]
/-- What holds of each cell, besides; no cell is grey in the phase Sweep. -/
structure CellOk (c : RC) : Prop where
  free : c.used = false → c.weak = false
  lowA : -1 ≤ c.a
  lowB : -1 ≤ c.b
  weak : c.weak = true → c.b = -1 ∧ c.num = 0
structure HpX (cs : List RC) (ph : Nat) : Prop where
  cell : ∀ c ∈ cs, CellOk c
  nogrey : ph = 2 → ∀ c ∈ cs, colR c ≠ 2
theorem CellOk.mark {c : RC} (h : CellOk c) : CellOk (markC c) := ⟨h.free, h.lowA, h.lowB, h.weak⟩
theorem CellOk.look {c : RC} (h : CellOk c) : CellOk (lookC c) := ⟨h.free, h.lowA, h.lowB, h.weak⟩
theorem CellOk.wipe {c : RC} (h : CellOk c) : CellOk (wipeC c) := ⟨h.free, h.lowA, h.lowB, h.weak⟩
theorem CellOk.blank : CellOk ⟨false, false, false, false, -1, -1, 0⟩ := ⟨fun _ => rfl, by simp, by simp, fun h => by (cases h)⟩
theorem CellOk.fg {cs : List RC} {c : RC} (h : CellOk c) : CellOk (fgC cs c) := by
  unfold fgC
  split
  · exact ⟨h.free, by simp, h.lowB, h.weak⟩
  · exact h
theorem told_fg {cs : List RC} {c : RC} (h : CellOk c) (ha : c.a < (cs.length : Int)) : fgL (cs.map toldC) (toldC c) = toldC (fgC cs c) := by
  have e : (c.weak && hasL (cs.map toldC) c.a 1) = fgB cs c := by
    unfold fgB
    cases hw : c.weak
    · simp
    · have hu : c.used = true := by
        cases hx : c.used
        · exact absurd hw (by rw [h.free hx]; simp)
        · rfl
      by_cases h0 : 0 ≤ c.a
      · obtain ⟨q, hq⟩ : ∃ q : Nat, c.a = (q : Int) := ⟨c.a.toNat, by omega⟩
        rw [hq] at ha ⊢
        have hql : q < cs.length := by omega
        rw [hasL_in hql]
        simp [hu, hql]
      · rw [hasL_neg (by omega)]
        simp [hu, h0]
  unfold fgL fgC
  show (if (c.weak && hasL (cs.map toldC) c.a 1) = true then _ else _) = _
  rw [e]
  split
  · rfl
  · rfl
theorem told_forget {cs : List RC} (h : ∀ c ∈ cs, CellOk c) (ha : ∀ c ∈ cs, c.a < (cs.length : Int)) : forgetL (cs.map toldC) = (forgetC cs).map toldC := by
  unfold forgetL forgetC
  rw [List.map_map, List.map_map]
  apply List.map_congr_left
  intro c hc
  exact told_fg (h c hc) (ha c hc)
theorem told_sweep {cs : List RC} {hd : Nat} (hh : hd < cs.length) (h2 : colR cs[hd] ≠ 2) : sweepL (cs.map toldC) hd = (sweepC cs hd).map toldC := by
  have hT : hd < (cs.map toldC).length := by simpa using hh
  have e2 : cs.getD hd ⟨false, false, false, false, 0, 0, 0⟩ = cs[hd] := by
    rw [List.getD_eq_getElem?_getD, List.getElem?_eq_getElem hh]; rfl
  unfold sweepL sweepC
  rw [hasL_in hh, hasL_in hh, e2]
  by_cases h1 : colR cs[hd] = 1
  · rw [if_pos (by simpa using h1), if_pos h1, List.map_set]; rfl
  · rw [if_neg (by simpa using h1), if_neg h1, modify_set hh, List.map_set, modify_setL hT, List.getElem_map]
    have hw : toldC (wipeC cs[hd]) = if colR cs[hd] = 3 then paintL 1 (toldC cs[hd]) else toldC cs[hd] := by
      generalize cs[hd] = c at *
      obtain ⟨u, r, k, wk, a, b, n⟩ := c
      revert h1 h2
      cases u <;> cases r <;> cases k <;> simp [toldC, wipeC, colR, paintL]
    rw [hw]
    by_cases h3 : colR cs[hd] = 3
    · rw [if_pos (by simpa using h3), if_pos h3]
    · rw [if_neg (by simpa using h3), if_neg h3]
      have := set_self hT
      rw [List.getElem_map] at this
      exact this.symm
theorem greyC_at {cs : List RC} (h : 0 ≤ greyC cs) : ∃ hg : (greyC cs).toNat < cs.length, colR cs[(greyC cs).toNat] = 2 := by
  rcases firstP_spec (fun c => colR c == 2) cs 0 with e | ⟨j, hj, e, hq⟩
  · unfold greyC at h; omega
  · have e' : greyC cs = (j : Int) := by unfold greyC; rw [e]; simp
    have : (greyC cs).toNat = j := by omega
    refine ⟨by omega, ?_⟩
    simp only [this]
    simpa using hq
theorem told_unit {cs : List RC} {ph hd : Nat} (ho : HpOk cs ph hd) (hx : HpX cs ph) (rs : List Int) : unitL (cs.map toldC) ph hd rs = ((unitC cs ph hd rs).1.map toldC, (unitC cs ph hd rs).2.1, (unitC cs ph hd rs).2.2) := by
  unfold unitL unitC
  by_cases h0 : ph = 0
  · rw [if_pos h0, if_pos h0, told_shades]
  rw [if_neg h0, if_neg h0]
  by_cases h2 : ph = 2
  · have hh := ho.hand h2
    rw [if_pos h2, if_pos h2, told_sweep hh (hx.nogrey h2 _ (List.getElem_mem hh)), List.length_map]
    by_cases he : hd + 1 = cs.length
    · rw [if_pos he, if_pos (by omega)]
    · rw [if_neg he, if_neg (by omega)]
  rw [if_neg h2, if_neg h2, told_grey, told_shades, told_grey]
  by_cases hg : 0 ≤ greyC cs
  · obtain ⟨hgl, hg2⟩ := greyC_at hg
    rw [if_pos hg, if_pos hg, told_black hgl hg2]
  rw [if_neg hg, if_neg hg]
  split
  · rw [told_forget]
    · rw [ho.nohand h2]
    · exact reachC_a (P := CellOk) (fun _ h => h.mark) rs cs hx.cell
    · rw [reachC_len]
      exact reachC_a (P := fun c => c.a < (cs.length : Int)) (fun _ h => h) rs cs (fun c hc => (ho.refs c hc).1)
  · rfl
theorem firstP_none {p : RC → Bool} : ∀ (cs : List RC) (k : Nat), firstP p cs k < 0 → ∀ c ∈ cs, p c = false
  | [], _, _, c, hc => by simp at hc
  | a :: r, k, h, c, hc => by
    simp only [firstP] at h
    by_cases hp : p a = true
    · rw [if_pos hp] at h; omega
    · rw [if_neg hp] at h
      rcases List.mem_cons.1 hc with rfl | hc
      · simpa using hp
      · exact firstP_none r (k + 1) h c hc
theorem unitC_cell {cs : List RC} (ph hd : Nat) (rs : List Int) (h : ∀ c ∈ cs, CellOk c) : ∀ c ∈ (unitC cs ph hd rs).1, CellOk c := by
  have hr : ∀ (l : List RC) (rs : List Int), (∀ c ∈ l, CellOk c) → ∀ c ∈ reachC l rs, CellOk c := fun l rs hl => reachC_a (P := CellOk) (fun _ h => h.mark) rs l hl
  unfold unitC
  split
  · exact hr _ _ h
  split
  · have hs : ∀ c ∈ sweepC cs hd, CellOk c := by
      unfold sweepC
      split
      · intro c hc
        rcases List.mem_or_eq_of_mem_set hc with h1 | h1
        · exact h c h1
        · rw [h1]; exact .blank
      · exact modify_mem (P := CellOk) (f := wipeC) (fun _ h => h.wipe) h
    split <;> exact hs
  split
  · show ∀ c ∈ markStep cs _, _
    unfold markStep
    have hm : ∀ g, ∀ c ∈ cs.modify g lookC, CellOk c := fun g => modify_mem (P := CellOk) (f := lookC) (fun _ h => h.look) h
    split
    · exact hm _
    · exact hr _ _ (hm _)
  split
  · show ∀ c ∈ forgetC _, _
    intro c hc
    unfold forgetC at hc
    obtain ⟨d, hd', rfl⟩ := List.mem_map.1 hc
    exact (hr _ _ h d hd').fg
  · exact hr _ _ h
theorem wipe_col (c : RC) : colR (wipeC c) ≠ 2 := by
  obtain ⟨u, r, k, wk, a, b, n⟩ := c
  cases u <;> simp [wipeC, colR]
theorem HpX.unit {cs : List RC} {ph hd : Nat} (hx : HpX cs ph) (rs : List Int) : HpX (unitC cs ph hd rs).1 (unitC cs ph hd rs).2.1 := by
  refine ⟨unitC_cell ph hd rs hx.cell, ?_⟩
  intro e
  unfold unitC at e ⊢
  by_cases h0 : ph = 0
  · rw [if_pos h0] at e; simp at e
  rw [if_neg h0] at e ⊢
  by_cases h2 : ph = 2
  · rw [if_pos h2] at e ⊢
    have hn := hx.nogrey h2
    have hs : ∀ c ∈ sweepC cs hd, colR c ≠ 2 := by
      unfold sweepC
      split
      · intro c hc
        rcases List.mem_or_eq_of_mem_set hc with h1 | h1
        · exact hn c h1
        · rw [h1]; simp [colR]
      · intro c hc
        by_cases hl : hd < cs.length
        · rw [modify_set hl] at hc
          rcases List.mem_or_eq_of_mem_set hc with h1 | h1
          · exact hn c h1
          · rw [h1]; exact wipe_col _
        · rw [List.modify_eq_self (by omega)] at hc
          exact hn c hc
    split <;> exact hs
  rw [if_neg h2] at e ⊢
  by_cases hg : 0 ≤ greyC cs
  · rw [if_pos hg] at e; simp at e; omega
  rw [if_neg hg] at e ⊢
  by_cases hg2 : greyC (reachC cs rs) < 0
  · rw [if_pos hg2]
    intro c hc
    obtain ⟨d, hd', rfl⟩ := List.mem_map.1 (show c ∈ (reachC cs rs).map (fgC (reachC cs rs)) from hc)
    rw [fgC_col]
    have := firstP_none (p := fun c => colR c == 2) _ 0 hg2 d hd'
    simpa using this
  · rw [if_neg hg2] at e; simp at e; omega
end Go.Proofs.YtdmdpindonghdaaDoor
namespace Go.Proofs.YtdmdpindonghdaaDoor
open Go.RowKit
theorem RefsAt.two {w w' : World} {b gC : Nat} {v : Value} {rs : List Int} (h : RefsAt w gC v rs) (hb : ∀ a n c, v = .slice (some a) n c → a.block ≠ b) (ht : Two b gC w w') : RefsAt w' gC v rs := by
  rcases h with h | ⟨a, ca, e1, e2, e3, e4⟩
  · exact .inl h
  · refine .inr ⟨a, ca, e1, e2, Nat.lt_of_lt_of_le e3 ht.size, fun j x hj => ?_⟩
    have hbl : (a.add j).block = a.block := by unfold Addr.add; split <;> rfl
    exact (World.cell?_of_block (a := a.add j) (ht.block _ (by rw [hbl]; exact e3) (by rw [hbl]; exact hb a _ _ e1) (by rw [hbl]; exact e2))).trans (e4 j x hj)
theorem stepC_len (rs : List Int) (s : HSt) : (stepC rs s).1.length = s.1.length := unitC_len _ _ _ _
theorem toIdle_len (rs : List Int) : ∀ (n : Nat) (s : HSt), (toIdle rs n s).1.length = s.1.length := by
  intro n
  induction n with
  | zero => intro s; rfl
  | succ n ih =>
    intro s
    simp only [toIdle]
    split
    · rfl
    · rw [ih, stepC_len]
theorem toIdle_ok (rs : List Int) : ∀ (n : Nat) (s : HSt), OkS s → OkS (toIdle rs n s) := by
  intro n
  induction n with
  | zero => intro s h; exact h
  | succ n ih =>
    intro s h
    simp only [toIdle]
    split
    · exact h
    · exact ih _ (h.step rs)
theorem idleC_len (rs : List Int) (s : HSt) : (idleC rs s).1.length = s.1.length := toIdle_len rs _ _
theorem idleC_ok {rs : List Int} {s : HSt} (h : OkS s) : OkS (idleC rs s) := toIdle_ok rs _ _ h
theorem lowC_lt {s : HSt} (h : 0 ≤ lowC s) : (lowC s).toNat < s.1.length := by
  rcases firstP_lt (fun c => !c.used) s.1 0 with e | e
  · unfold lowC at h; omega
  · unfold lowC at *; omega
/-- Where round k stands: the heap s at the beginning of round k, none free in the rounds ahead of it. -/
def Rnd (rs : List Int) (s0 s : HSt) (k : Nat) : Prop := (k = 0 ∧ s = s0) ∨ (k = 1 ∧ s = idleC rs s0 ∧ lowC s0 < 0) ∨ (k = 2 ∧ s = idleC rs (stepC rs (idleC rs s0)) ∧ lowC s0 < 0 ∧ lowC (idleC rs s0) < 0)
theorem Rnd.take {rs : List Int} {s0 s : HSt} {k : Nat} (h : Rnd rs s0 s k) (hl : 0 ≤ lowC s) : takeC rs s0 = beginC s := by
  unfold takeC
  rcases h with ⟨_, rfl⟩ | ⟨_, rfl, h1⟩ | ⟨_, rfl, h1, h2⟩
  · rw [if_pos hl]
  · rw [if_neg (by omega), if_pos hl]
  · rw [if_neg (by omega), if_neg (by omega), if_pos hl]
theorem Rnd.full {rs : List Int} {s0 s : HSt} (h : Rnd rs s0 s 2) (hl : lowC s < 0) : takeC rs s0 = (-1, s) := by
  unfold takeC
  rcases h with ⟨e, _⟩ | ⟨e, _⟩ | ⟨_, rfl, h1, h2⟩
  · cases e
  · cases e
  · rw [if_neg (by omega), if_neg (by omega), if_neg (by omega)]
end Go.Proofs.YtdmdpindonghdaaDoor
namespace Go.Proofs.YtdmdpindonghdaaDoor
open Go.RowKit
/-- What an instruction makes of two words. -/
def sumC (op x y : Int) : Int :=
  if op = 2 then wrap64 (x + y) else if op = 3 then wrap64 (x - y) else if op = 4 then wrap64 (x * y) else if op = 5 then wrap64 (x.tdiv y)
  else if (if op = 6 then decide (x < y) else decide (x = y)) then 1 else 0
end Go.Proofs.YtdmdpindonghdaaDoor
namespace Go.Proofs.YtdmdpindonghdaaDoor
open Go.RowKit
/-- How the machine stands if the cell r must be a weak one, or a plain one. -/
def wantsC (cs : List RC) (r : Int) (weak : Bool) : Int :=
  if r < 0 then 2 else if (cs[r.toNat]?.map (·.weak)) = some weak then 0 else 4
/-- The word k below the top of the stack. -/
def LastPost (x : Bool × Int) (w : World) (e : Ending) (w' : World) : Prop := Below w.heap.size w w' ∧ e = .returned (.agg #[.bool x.1, .int .i64 x.2])
end Go.Proofs.YtdmdpindonghdaaDoor
namespace Go.Proofs.YtdmdpindonghdaaDoor
open Go.RowKit
/-- Block b turned in one cell, and the row of v may have turned, or was left for a new one: nothing else below. -/
structure Grew (b o : Nat) (v v' : Value) (w w' : World) : Prop where
  os : w'.os = w.os
  tape : w'.tape = w.tape
  output : w'.output = w.output
  size : w.heap.size ≤ w'.heap.size
  block : ∀ k, k < w.heap.size → k ≠ b → some k ≠ v.ownBlock → w'.heap[k]? = w.heap[k]?
  own : ∀ g, v'.ownBlock = some g → v.ownBlock = some g ∨ w.heap.size ≤ g
  home : ∀ r t, w.heap[b]? = some (.cells r t) → w'.heap[b]? = some (.cells (r.setIfInBounds o v') t)
end Go.Proofs.YtdmdpindonghdaaDoor
namespace Go.Proofs.YtdmdpindonghdaaDoor
open Go.RowKit
/-- The references among the words that are told. -/
def rootsC (Q : List (Nat × Int)) : List Int := (Q.filter (fun x => x.1 == 1)).map (·.2)
theorem rootsC_next {Q : List (Nat × Int)} {n : Nat} (h : n < Q.length) : rootsC (Q.take (n + 1)) = rootsC (Q.take n) ++ (if Q[n].1 = 1 then [Q[n].2] else []) := by
  unfold rootsC
  rw [List.take_succ_eq_append_getElem h, List.filter_append, List.map_append]
  congr 1
  by_cases e : Q[n].1 = 1 <;> simp [e]
theorem rootsC_len (Q : List (Nat × Int)) : (rootsC Q).length ≤ Q.length := by
  unfold rootsC
  rw [List.length_map]
  exact List.length_filter_le _ _
theorem rootsC_append (A B : List (Nat × Int)) : rootsC (A ++ B) = rootsC A ++ rootsC B := by simp [rootsC]
def RootsPost (rs : List Int) (w : World) (e : Ending) (w' : World) : Prop :=
  Below w.heap.size w w' ∧ ∃ v, e = .returned v ∧ w'.ownsRow w.heap.size 3 1 v rs.length (rs.map (.int .i64))
end Go.Proofs.YtdmdpindonghdaaDoor
namespace Go.Proofs.YtdmdpindonghdaaDoor
open Go.RowKit
theorem refs_of {w1 : World} {B gC : Nat} {v : Value} {rs : List Int} (h : w1.ownsRow B 3 1 v rs.length (rs.map (.int .i64))) (hg : gC < B) : RefsAt w1 gC v rs ∧ ∀ a n c, v = .slice (some a) n c → B ≤ a.block := by
  rcases LsAt.of_owns h with ⟨h1, h2⟩ | ⟨g, cap, e1, e2, e3⟩
  · exact ⟨.inl ⟨h1, List.length_eq_zero_iff.1 h2⟩, fun a n c e => by rw [h1] at e; cases e⟩
  · refine ⟨.inr ⟨⟨g, 0, none⟩, cap, e1, by simp only; omega, e2.2, fun j x hj => ?_⟩, fun a n c e => ?_⟩
    · have := e3 j (.int .i64 x) (by simp [hj])
      have ha : (⟨g, 0, none⟩ : Addr).add j = ⟨g, j, none⟩ := by
        unfold Addr.add
        split
        · rename_i h0
          simp_all
        · simp
      rw [ha]
      exact this
    · rw [e1] at e
      cases e
      exact e2.1
/-- Units one after another, with the same roots. -/
def unitsC (rs : List Int) : Nat → HSt → HSt
  | 0, s => s
  | n + 1, s => stepC rs (unitsC rs n s)
theorem unitsC_len (rs : List Int) (s : HSt) : ∀ n, (unitsC rs n s).1.length = s.1.length := by
  intro n
  induction n with
  | zero => rfl
  | succ n ih => rw [unitsC, stepC_len, ih]
theorem unitsC_ok {rs : List Int} {s : HSt} (h : OkS s) : ∀ n, OkS (unitsC rs n s) := by
  intro n
  induction n with
  | zero => exact h
  | succ n ih => exact ih.step rs
end Go.Proofs.YtdmdpindonghdaaDoor
namespace Go.Proofs.YtdmdpindonghdaaDoor
open Go.RowKit
/-- The word k below the top. -/
def lastW (st : List (Bool × Int)) (k : Nat) : Bool × Int := (st[st.length - 1 - k]?).getD (false, 0)
theorem lastW_at {st : List (Bool × Int)} {k : Nat} (h : k < st.length) : st[st.length - 1 - k]? = some (lastW st k) := by
  unfold lastW
  rw [List.getElem?_eq_getElem (by omega)]
  rfl
def endsC (cs : List RC) (st : List (Bool × Int)) (op : Int) : Int :=
  if op = 0 then 1 else if op = 5 then (if (lastW st 0).2 = 0 then 3 else 0) else if op = 14 ∨ op = 16 then wantsC cs (lastW st 0).2 false else if op = 24 then wantsC cs (lastW st 0).2 true
  else if op = 15 ∨ op = 17 then wantsC cs (lastW st 1).2 false else 0
/-- What ends asks of the stack. -/
structure EndsOk (cs : List RC) (st : List (Bool × Int)) (op : Int) : Prop where
  one : op = 0 ∨ op = 5 ∨ op = 14 ∨ op = 16 ∨ op = 24 → 0 < st.length
  two : op = 15 ∨ op = 17 → 1 < st.length
  lo : op = 14 ∨ op = 16 ∨ op = 24 → (lastW st 0).2 < (cs.length : Int)
  lo2 : op = 15 ∨ op = 17 → (lastW st 1).2 < (cs.length : Int)
def EndsPost (r : Int) (w : World) (e : Ending) (w' : World) : Prop := Below w.heap.size w w' ∧ e = .returned (.int .i64 r)
end Go.Proofs.YtdmdpindonghdaaDoor
namespace Go.Proofs.YtdmdpindonghdaaDoor
open Go.RowKit
theorem plains_get {ls : List Ins} {k : Nat} (h : k < ls.length) : (plains ls)[k]? = some ⟨ls[k], 0⟩ := by
  simp [plains, plain, h]
set_option maxRecDepth 100000 in
set_option maxHeartbeats 400000 in
theorem indexOf_any (ls : List Ins) (g cap p : Nat) (w : World) (hl : ls.length ≤ 200) (hat : CiAt w g (plains ls)) (hg : g < w.heap.size) :
    Calls Tryd.prog 99 #[.slice (some ⟨g, 0, none⟩) ls.length cap, .int .i64 p] w fun e w' => e = .returned (.int .i64 (findP p ls 0)) ∧ Below w.heap.size w w' := by
  go_enter Tryd.func99, Tryd.ntmps99
  go_wp2_with fail
  go_loopw [9] (fun i w' => ∃ k : Nat, k ≤ ls.length ∧ i = .int .i64 k ∧ findP p ls 0 = findP p (ls.drop k) k ∧ Below w.heap.size w w') (fun i _ => ls.length - (intOf i).toNat)
  case atStart => exact ⟨0, Nat.zero_le _, rfl, by simp, Below.refl _ _⟩
  case round =>
    obtain ⟨k, hk, rfl, hf, hbel⟩ := hrel
    have HF : Hid (findP p ls 0 = findP p (ls.drop k) k) := hf
    clear hf
    have hsz := hbel.size
    by_cases hlt : k < ls.length
    · obtain ⟨h0, h1, h2, h3⟩ := (hat.below hbel hg) k _ (plains_get hlt)
      simp only at h0 h1 h2 h3
      have HD : Hid (ls.drop k = ls[k] :: ls.drop (k + 1)) := List.drop_eq_getElem_cons hlt
      by_cases hp : ls[k].place = p
      · have hp' : (((ls[k].place : Nat) : Int) == (p : Int)) = true := by simp; omega
        have HP : Hid (ls[k].place = p) := hp
        clear hp
        go_wp2_with fail
        go_ret
        exact ⟨ret_int (by rw [HF.out, HD.out]; simp [findP, HP.out]), hbel.alloc hsz _⟩
      · have hp' : (((ls[k].place : Nat) : Int) == (p : Int)) = false := by simp; omega
        have HP := hid hp
        clear hp
        go_wp2_with fail
        exact ⟨⟨k + 1, by omega, by go_num, by rw [HF.out, HD.out]; simp [findP, HP.out], hbel.alloc hsz _⟩, by simp [intOf]; omega⟩
    · go_wp2_with fail
      go_ret
      exact ⟨ret_int (by rw [HF.out, List.drop_of_length_le (by omega)]; simp [findP]), hbel⟩
def aim1 (ls : List Ins) (i : Ins) : CI := ⟨i, aimOf ls i⟩
theorem take_map_snoc {ls : List Ins} {k : Nat} (h : k < ls.length) : (ls.take (k + 1)).map (aim1 ls) = (ls.take k).map (aim1 ls) ++ [aim1 ls ls[k]] := by
  rw [List.take_succ_eq_append_getElem h, List.map_append]
  rfl
theorem jumps_false {ls : List Ins} {k : Nat} (h : k < ls.length) (hj : isJump ls[k].op = true) (hf : findP ls[k].n ls 0 < 0) : jumpsOk ls = false := by
  unfold jumpsOk
  rw [List.all_eq_false]
  refine ⟨ls[k], List.getElem_mem h, ?_⟩
  simp [hj]
  exact hf
theorem jumps_true {ls : List Ins} (h : ∀ j (h : j < ls.length), isJump ls[j].op = false ∨ 0 ≤ findP ls[j].n ls 0) : jumpsOk ls = true := by
  unfold jumpsOk
  rw [List.all_eq_true]
  intro i hi
  obtain ⟨j, hj, rfl⟩ := List.getElem_of_mem hi
  rcases h j hj with h | h
  · simp [h]
  · simp [h]
def AimPost (ls : List Ins) (w : World) (e : Ending) (w' : World) : Prop :=
  Below w.heap.size w w' ∧ ((jumpsOk ls = false ∧ e = .returned (.tuple #[.slice none 0 0, .bool false])) ∨
    (jumpsOk ls = true ∧ ∃ g cap, e = .returned (.tuple #[.slice (some ⟨g, 0, none⟩) ls.length cap, .bool true]) ∧ w.heap.size ≤ g ∧ g < w'.heap.size ∧ CiAt w' g (aims ls)))
set_option maxRecDepth 100000 in
set_option maxHeartbeats 1000000 in
theorem withTargets_any (ls : List Ins) (g cap : Nat) (w : World) (hpos : 0 < ls.length) (hl : ls.length ≤ 200) (hat : CiAt w g (plains ls)) (hg : g < w.heap.size) :
    Calls Tryd.prog 82 #[.slice (some ⟨g, 0, none⟩) ls.length cap] w (AimPost ls w) := by
  obtain ⟨i0, hi0, hz0, hz1, hz2⟩ := info_parts Tryd.infoCI
  go_enter Tryd.func82, Tryd.ntmps82
  go_wp2_with fail
  go_loopw [4, 10] (fun v i w' => ∃ k : Nat, k ≤ ls.length ∧ i = .int .i64 k ∧ w'.ownsRow w.heap.size 98 4 v k (ciCells ((ls.take k).map (aim1 ls))) ∧ Below w.heap.size w w' ∧ (∀ j (h : j < ls.length), j < k → isJump ls[j].op = false ∨ 0 ≤ findP ls[j].n ls 0)) (fun _ i _ => ls.length - (intOf i).toNat)
  case atStart => exact ⟨0, Nat.zero_le _, rfl, World.ownsRow_nil _ _ _ _, Below.refl _ _, fun j _ h => by omega⟩
  case round =>
    obtain ⟨k, hk, rfl, hown, hbel, hall⟩ := hrel
    have HA := hid hall
    clear hall
    have hsz := hbel.size
    by_cases hlt : k < ls.length
    · obtain ⟨h0, h1, h2, h3⟩ := (hat.below hbel hg) k _ (plains_get hlt)
      simp only at h0 h1 h2 h3
      have HS := hid (take_map_snoc hlt)
      have hgr : g < wr.heap.size := by omega
      cases hj : isJump ls[k].op
      · have hj' : ((ls[k].op : Int) == 19) = false ∧ ((ls[k].op : Int) == 20) = false := by
          simp [isJump] at hj; simp only [beq_eq_false_iff_ne]; omega
        obtain ⟨t0, t1⟩ := hj'
        have HJ := hid hj
        have HC : Hid (aim1 ls ls[k] = ⟨ls[k], 0⟩) := hid (by simp [aim1, aimOf, hj])
        clear hj
        go_wp2_with (at_builtin; go_must (refine wpList_append_lies _ (by rfl) _ _ _ (by rfl) w.heap.size 98 i0 _ 4 32 Tryd.underlying78 hi0 hz0 hz1 hz2 rfl (by omega) _ k (ciCells ((ls.take k).map (aim1 ls))) (by rfl) ((hown.alloc _).alloc _) ⟨wr.heap.size + 1, 0, none⟩ 1 1 [.int .i64 ls[k].place, .int .i64 ls[k].op, .int .i64 ls[k].n, .int .i64 0] (by rfl) (by rfl) (World.news_of_block (cs := #[.int .i64 ls[k].place, .int .i64 ls[k].op, .int .i64 ls[k].n, .int .i64 0]) (t := 98) (fr := (0, 0)) (heap_two_new wr _ _)) (by simp [Value.oneCell']) (by omega) (by unfold maxLen; omega) (by omega) (by simp; omega) (wr.heap.size + 1 + 1) (by simp) ?_); intro gg cap3 w3 hown3 hgrow hat3 hlt3)
        refine ⟨⟨k + 1, by omega, by go_num, by rw [HS.out, HC.out, ciCells_snoc]; exact hown3, ((hbel.alloc hsz _).alloc (by simp; omega) _).grown hgrow (by simp; omega) (fun k' hk' => (hown.lt k' hk').1), fun j hj2 hjk => ?_⟩, by simp [intOf]; omega⟩
        rcases Nat.lt_or_ge j k with h | h
        · exact HA.out j hj2 h
        · have : j = k := by omega
          subst this
          exact .inl HJ.out
      · have HJ := hid hj
        have hj' : ((ls[k].op : Int) == 19) = true ∧ (0 : Int) ≤ 1 ∨ ((ls[k].op : Int) == 19) = false ∧ ((ls[k].op : Int) == 20) = true := by
          simp [isJump] at hj; simp only [beq_eq_false_iff_ne, beq_iff_eq]; omega
        clear hj
        have hidx := hid (indexOf_any ls g cap ls[k].n (wr.alloc (.cells #[.int .i64 ls[k].place, .int .i64 ls[k].op, .int .i64 ls[k].n, .int .i64 0] 98)) hl (hat.below (hbel.alloc hsz _) hg) (by simp; omega))
        by_cases hf : findP ls[k].n ls 0 < 0
        · have HN := hid (jumps_false hlt HJ.out hf)
          generalize findP ls[k].n ls 0 = F at *
          rcases hj' with ⟨t0, t1⟩ | ⟨t0, t1⟩
          all_goals
            go_wp2_with fail
            refine hidx.out.mono ?_
            clear hidx
            intro e w2 hh
            obtain ⟨he2, hb2⟩ := hh
            subst e
            have hbel2 : Below w.heap.size w w2 := (hbel.alloc hsz _).trans (hb2.mono (by simp; omega))
            go_wp2_with fail
            go_ret2
            exact ⟨hbel2, .inl ⟨HN.out, rfl⟩⟩
        · obtain ⟨tn, htn⟩ : ∃ tn : Nat, findP ls[k].n ls 0 = (tn : Int) := ⟨(findP ls[k].n ls 0).toNat, by omega⟩
          have HC : Hid (aim1 ls ls[k] = ⟨ls[k], tn⟩) := hid (by simp [aim1, aimOf, HJ.out, htn])
          have HTN := hid htn
          have HFN := hid hf
          rw [htn] at hidx
          clear htn hf
          rcases hj' with ⟨t0, t1⟩ | ⟨t0, t1⟩
          all_goals
            go_wp2_with fail
            refine hidx.out.mono ?_
            clear hidx
            intro e w2 hh
            obtain ⟨he2, hb2⟩ := hh
            subst e
            have hb3 := instr_below hb2
            obtain ⟨bx, bo, hz⟩ := box_cells hb3
            have x0 := bx 0
            have x1 := bx 1
            have x2 := bx 2
            have x3 := bx 3
            simp only [List.getElem?_toArray, List.getElem?_cons_zero, List.getElem?_cons_succ] at x0 x1 x2 x3
            have hfz := hb3.frozen (p := ⟨wr.heap.size, 3, none⟩) (by simp)
            have hb4 : Below wr.heap.size wr w2 := box_below (Nat.le_refl _) hb3
            have hown2 := owns_below hown hb4 (fun g' hg' => (hown.lt g' hg').2)
            have hbel2 : Below w.heap.size w w2 := hbel.trans (hb4.mono hsz)
            clear bx bo hb2
            have hown4 := owns_set (a := ⟨wr.heap.size, 3, none⟩) hown2 (by intro h; have := (hown.lt _ h).2; simp at this) (.int .i64 tn)
            have hz5 : (w2.setCell ⟨wr.heap.size, 3, none⟩ (.int .i64 tn)).heap.size = w2.heap.size := by simp [World.setCell]
            have HZ5 := hid hz5
            have hbel4 := hbel2.setCell (p := ⟨wr.heap.size, 3, none⟩) (by simp; omega) (.int .i64 tn)
            clear hz5
            go_wp2_with (at_builtin; go_must (refine wpList_append_lies _ (by rfl) _ _ _ (by rfl) w.heap.size 98 i0 _ 4 32 Tryd.underlying78 hi0 hz0 hz1 hz2 rfl (by omega) _ k (ciCells ((ls.take k).map (aim1 ls))) (by rfl) (hown4.alloc _) ⟨w2.heap.size, 0, none⟩ 1 1 [.int .i64 ls[k].place, .int .i64 ls[k].op, .int .i64 ls[k].n, .int .i64 tn] (by rfl) (by rfl) (World.news_of_block (cs := #[.int .i64 ls[k].place, .int .i64 ls[k].op, .int .i64 ls[k].n, .int .i64 tn]) (t := 98) (fr := (0, 0)) (heap_set_new w2 _ _ _)) (by simp [Value.oneCell']) (by omega) (by unfold maxLen; omega) (by omega) (by simp [World.setCell]; omega) (w2.heap.size + 1) (by simp [World.setCell]) ?_); intro gg cap3 w3 hown3 hgrow hat3 hlt3)
            refine ⟨⟨k + 1, by omega, by go_num, by rw [HS.out, HC.out, ciCells_snoc]; exact hown3, (hbel4.alloc (by rw [HZ5.out]; omega) _).grown hgrow (by simp [World.setCell]; omega) (fun k' hk' => (hown.lt k' hk').1), fun j hj2 hjk => ?_⟩, by simp [intOf]; omega⟩
            rcases Nat.lt_or_ge j k with h | h
            · exact HA.out j hj2 h
            · have : j = k := by omega
              subst this
              exact .inr (by rw [HTN.out]; omega)
    · have hke : k = ls.length := by omega
      subst hke
      have HJ := hid (jumps_true (ls := ls) fun j h => HA.out j h h)
      obtain ⟨g3, cap3, rfl, hg3, hg4⟩ := hown.form (by omega)
      have hat3 := CiAt.of_owns (l := aims ls) (by rw [aims_len]; rw [List.take_length] at hown; exact hown)
      go_wp2_with fail
      go_ret2
      exact ⟨hbel, .inr ⟨HJ.out, g3, cap3, rfl, hg3, hg4, hat3⟩⟩
set_option maxRecDepth 100000 in
set_option maxHeartbeats 400000 in
theorem endsWell_any (ls : List Ins) (cl : List CI) (g cap : Nat) (w : World) (hpos : 0 < ls.length) (hl : ls.length ≤ 200) (hcl : cl = aims ls) (hat : CiAt w g cl) :
    Calls Tryd.prog 83 #[.slice (some ⟨g, 0, none⟩) ls.length cap] w fun e w' => e = .returned (.bool (endsOk ls)) ∧ w' = w := by
  obtain ⟨h0, h1, h2, h3⟩ := hat (ls.length - 1) (aim1 ls (ls[ls.length - 1]'(by omega))) (by
    rw [hcl]; simp only [aims, List.getElem?_map]; rw [List.getElem?_eq_getElem (by omega)]; rfl)
  simp only [aim1] at h0 h1 h2 h3
  have HO : Hid (endsOk ls = ((ls[ls.length - 1]'(by omega)).op == 0 || (ls[ls.length - 1]'(by omega)).op == 19)) := hid (by
    unfold endsOk lastOp
    rw [List.getLast?_eq_getElem?, List.getElem?_eq_getElem (by omega)]
    rfl)
  generalize endsOk ls = E at *
  clear hat hcl
  have hne : (((ls.length : Nat) : Int) == 0) = false := by rw [beq_eq_false_iff_ne]; omega
  go_enter Tryd.func83, Tryd.ntmps83
  go_wp2
  all_goals go_ret
  all_goals simp only [beq_eq_false_iff_ne, ne_eq] at *
  all_goals exact ⟨ret_bool (by rw [HO.out, Bool.eq_iff_iff]; simp; omega), by first | rfl | trivial⟩
end Go.Proofs.YtdmdpindonghdaaDoor
namespace Go.Proofs.YtdmdpindonghdaaDoor
open Go.RowKit
def ReadPost (s : ByteArray) (w : World) (e : Ending) (w' : World) : Prop :=
  Below w.heap.size w w' ∧ ((errOf s ≠ 0 ∧ e = .returned (.tuple #[.agg #[.int .i64 0, .slice none 0 0], .int .i64 (errOf s : Nat)])) ∨
    (errOf s = 0 ∧ ∃ g cap, e = .returned (.tuple #[.agg #[.int .i64 (byteAt s 1 : Nat), .slice (some ⟨g, 0, none⟩) (codeOf s).length cap], .int .i64 0]) ∧ w.heap.size ≤ g ∧ g < w'.heap.size ∧ CiAt w' g (aims (codeOf s))))
theorem readPost_err {s : ByteArray} {w w' : World} {k : Nat} {z : Int} (hb : Below w.heap.size w w') (he : errOf s = k) (hk : k ≠ 0) (hz : z = (k : Int)) : ReadPost s w (.returned (.tuple #[.agg #[.int .i64 0, .slice none 0 0], .int .i64 z])) w' := by
  subst he; subst hz; exact ⟨hb, .inl ⟨hk, rfl⟩⟩
theorem two_set {w w2 : World} {o : Obj} {u v : Value} (hb : Below (w.heap.size + 1) (w.alloc o) w2) : Below w.heap.size w ((w2.setCell ⟨w.heap.size, 0, none⟩ u).setCell ⟨w.heap.size, 1, none⟩ v) :=
  ((box_below (Nat.le_refl _) hb).setCell (by simp) _).setCell (by simp) _
set_option maxRecDepth 100000 in
set_option maxHeartbeats 1000000 in
theorem read_any (s : ByteArray) (w : World) (hs : s.size ≤ maxLen) :
    Calls Tryd.prog 62 #[.string s] w (ReadPost s w) := by
  have hshp := hid (shaped_any s (w.alloc (.cells #[.int .i64 0, .slice none 0 0] 80)) hs)
  cases hsh : shapedP s
  · have HE : Hid (errOf s = 1) := hid (by simp [errOf, hsh])
    rw [hsh] at hshp
    clear hsh hs
    go_enter Tryd.func62, Tryd.ntmps62
    go_wp2_with fail
    refine hshp.out.mono ?_
    intro e w9 hh
    obtain ⟨he9, hw9⟩ := hh
    subst e
    subst w9
    clear hshp
    go_wp2_with fail
    exact bodyPost_ret (v := .tuple #[.agg #[.int .i64 0, .slice none 0 0], .int .i64 1]) (by simp [results, Tryd.results62, go_sem]) rfl (readPost_err ((Below.refl _ _).alloc (Nat.le_refl _) _) HE.out (by decide) rfl)
  · obtain ⟨⟨⟨h3, h4⟩, h0⟩, h1⟩ : ((3 ≤ s.size ∧ s.size ≤ 122) ∧ byteAt s 0 = 84) ∧ byteAt s 1 ≤ 4 := by simpa [shapedP] using hsh
    have hsz : (textOf s).size = s.size - 2 := by simp [textOf]
    have e1 := byteAt_eq s 1 (by omega)
    have HB : Hid (errOf s = match dec (textOf s) (byteAt s 1) 0 with
      | none => 2
      | some l => if jumpsOk l = false then 3 else if endsOk l = false then 4 else 0) := hid (by unfold errOf; rw [hsh]; rfl)
    have HC : Hid (codeOf s = (dec (textOf s) (byteAt s 1) 0).getD []) := hid rfl
    rw [hsh] at hshp
    have HT : Hid (textOf s = s.extract 2 s.size) := hid rfl
    have hins := hid (fun W => instructions_any (textOf s) (byteAt s 1) W (by omega) (by omega))
    generalize hL : byteAt s 1 = L at *
    have HL := hid hL
    have t2 : (textOf s).size ≤ 120 := by omega
    clear hsh h0 hL hs hsz
    go_enter Tryd.func62, Tryd.ntmps62
    go_wp2_with fail
    refine hshp.out.mono ?_
    intro e w9 hh
    obtain ⟨he9, hw9⟩ := hh
    subst e
    subst w9
    clear hshp
    go_wp2_with fail
    rw [← HT.out]
    refine (hins.out _).mono ?_
    clear hins
    intro e w2 hp
    obtain ⟨hb, hp⟩ := hp
    have hb1 := instr_below hb
    obtain ⟨bx, bo, hz⟩ := box_cells hb1
    have x0 := bx 0
    have x1 := bx 1
    simp only [List.getElem?_toArray, List.getElem?_cons_zero, List.getElem?_cons_succ] at x0 x1
    clear bx bo hb
    rcases hp with ⟨hd, rfl⟩ | ⟨ls, g, cap, hd, hpos, hle, rfl, hg1, hg2, hat⟩
    · have HE : Hid (errOf s = 2) := hid (by have := HB.out; rw [hd] at this; exact this)
      clear hd
      have hf0 := hb1.frozen (p := ⟨w.heap.size, 0, none⟩) (by simp)
      have hf1 := hb1.frozen (p := ⟨w.heap.size, 1, none⟩) (by simp)
      go_wp2_with fail
      exact bodyPost_ret (v := .tuple #[.agg #[.int .i64 0, .slice none 0 0], .int .i64 2]) (by simp [results, Tryd.results62, go_sem, x0, x1]) rfl (readPost_err (two_set hb1) HE.out (by decide) rfl)
    · have hws := hid (withTargets_any ls g cap w2 hpos (by omega) hat hg2)
      have hgz : w.heap.size + 1 ≤ g := by simpa using hg1
      clear hg1 hat
      have HD := hid hd
      clear hd
      go_wp2_with fail
      refine hws.out.mono ?_
      clear hws
      intro e w3 hp
      obtain ⟨hb3, hp⟩ := hp
      have hb4 : Below (w.heap.size + 1) (w.alloc (.cells #[.int .i64 0, .slice none 0 0] 80)) w3 := hb1.trans (hb3.mono hz)
      have hz3 := hb3.size
      obtain ⟨bx, bo, hz4⟩ := box_cells hb4
      have y0 := bx 0
      have y1 := bx 1
      simp only [List.getElem?_toArray, List.getElem?_cons_zero, List.getElem?_cons_succ] at y0 y1
      have hf0 := hb4.frozen (p := ⟨w.heap.size, 0, none⟩) (by simp)
      have hf1 := hb4.frozen (p := ⟨w.heap.size, 1, none⟩) (by simp)
      clear bx bo x0 x1
      rcases hp with ⟨hj, rfl⟩ | ⟨hj, g3, cap3, rfl, hg3, hg4, hat3⟩
      · have HE : Hid (errOf s = 3) := hid (by have := HB.out; rw [HD.out] at this; simpa [hj] using this)
        clear hj
        go_wp2_with fail
        exact bodyPost_ret (v := .tuple #[.agg #[.int .i64 0, .slice none 0 0], .int .i64 3]) (by simp [results, Tryd.results62, go_sem, y0, y1]) rfl (readPost_err (two_set hb4) HE.out (by decide) rfl)
      · have HJ := hid hj
        clear hj
        have hew := hid (endsWell_any ls (aims ls) g3 cap3 w3 hpos (by omega) rfl hat3)
        go_wp2_with fail
        refine hew.out.mono ?_
        clear hew
        intro e w9 hh
        obtain ⟨he9, hw9⟩ := hh
        subst e
        subst w9
        cases hen : endsOk ls
        · have HE : Hid (errOf s = 4) := hid (by have := HB.out; rw [HD.out] at this; simpa [HJ.out, hen] using this)
          clear hen
          go_wp2_with fail
          exact bodyPost_ret (v := .tuple #[.agg #[.int .i64 0, .slice none 0 0], .int .i64 4]) (by simp [results, Tryd.results62, go_sem, y0, y1]) rfl (readPost_err (two_set hb4) HE.out (by decide) rfl)
        · have HE : Hid (errOf s = 0) := hid (by have := HB.out; rw [HD.out] at this; simpa [HJ.out, hen] using this)
          have HCO : Hid (codeOf s = ls) := hid (by rw [HC.out, HD.out]; rfl)
          clear hen
          go_wp2_with fail
          refine bodyPost_ret (v := .tuple #[.agg #[.int .i64 L, .slice (some ⟨g3, 0, none⟩) ls.length cap3], .int .i64 0]) (by simp [results, Tryd.results62, go_sem, y0, y1]) rfl ⟨two_set hb4, .inr ⟨HE.out, ?_⟩⟩
          rw [HL.out, HCO.out]
          exact ⟨g3, cap3, rfl, by omega, by simp [World.setCell]; exact hg4, hat3.same (by rw [Below.heap_setCell _ _ _ _ (by simp; omega), Below.heap_setCell _ _ _ _ (by simp; omega)])⟩
end Go.Proofs.YtdmdpindonghdaaDoor
namespace Go.Proofs.YtdmdpindonghdaaDoor
open Go.RowKit
set_option maxRecDepth 100000 in
set_option maxHeartbeats 1000000 in
theorem aft_load (f : Fr) (n pl tg : Nat) (w : World) (ok : FrOk f) (hn : n < 4) :
    Calls Tryd.prog 119 #[.agg (frL f).toArray, .agg #[.int .i64 pl, .int .i64 (7 : Nat), .int .i64 n, .int .i64 tg]] w (AftPost f 7 n w) := by
  have HF : Hid (afterF f 7 n = loadF f n) := hid (rfl)
  have hld := hid (fun W hW => load_any w.heap.size f n W hW ok hn)
  obtain ⟨r, lo, d, st, wg⟩ := f
  obtain ⟨h1, h2, h3d⟩ := ok
  simp only at h1 h2
  obtain ⟨a, b, c, e, rfl⟩ := four h1
  obtain ⟨s0, s1, s2, s3, s4, s5, s6, s7, rfl⟩ := eight h2
  simp only [frL, List.map_cons, List.map_nil, List.cons_append, List.nil_append, numV]
  go_enter Tryd.func119, Tryd.ntmps119
  go_wp2_with fail
  refine (hld.out _ (heap_three_first w _ _ _)).mono ?_
  rintro x w2 ⟨rfl, h3, h4⟩
  have hz := h4.size
  simp at hz
  have hres := hid ((h4.block (w.heap.size + 1 + 1) (by omega)).trans (heap_three_third w _ _ _))
  rw [← HF.out] at h3
  have hok3 : FrOk (afterF ⟨r, [a, b, c, e], d, [s0, s1, s2, s3, s4, s5, s6, s7], wg⟩ 7 n) := afterF_ok ⟨rfl, rfl, h3d⟩ 7 n
  have HPM := hid (fun W b' hb' hr' => aftPost_mk (f := ⟨r, [a, b, c, e], d, [s0, s1, s2, s3, s4, s5, s6, s7], wg⟩) (op := 7) (n := n) (w := w) (W := W) b' hb' hr')
  generalize afterF ⟨r, [a, b, c, e], d, [s0, s1, s2, s3, s4, s5, s6, s7], wg⟩ 7 n = G at *
  obtain ⟨r', lo', d', st', wg'⟩ := G
  obtain ⟨j1, j2, j3⟩ := hok3
  simp only at j1 j2
  obtain ⟨a', b', c', e', rfl⟩ := four j1
  obtain ⟨t0, t1, t2, t3, t4, t5, t6, t7, rfl⟩ := eight j2
  have c0 := RowAt.cell h3 0
  have c1 := RowAt.cell h3 1
  have c2 := RowAt.cell h3 2
  have c3 := RowAt.cell h3 3
  have c4 := RowAt.cell h3 4
  have c5 := RowAt.cell h3 5
  have c6 := RowAt.cell h3 6
  have c7 := RowAt.cell h3 7
  have c8 := RowAt.cell h3 8
  have c9 := RowAt.cell h3 9
  have c10 := RowAt.cell h3 10
  have c11 := RowAt.cell h3 11
  have c12 := RowAt.cell h3 12
  have c13 := RowAt.cell h3 13
  have c14 := RowAt.cell h3 14
  have z0 := cell_of_row w2 (w.heap.size + 1 + 1) 0 _ _ _ hres.out
  have z1 := cell_of_row w2 (w.heap.size + 1 + 1) 1 _ _ _ hres.out
  have z2 := cell_of_row w2 (w.heap.size + 1 + 1) 2 _ _ _ hres.out
  have z3 := cell_of_row w2 (w.heap.size + 1 + 1) 3 _ _ _ hres.out
  have z4 := cell_of_row w2 (w.heap.size + 1 + 1) 4 _ _ _ hres.out
  have z5 := cell_of_row w2 (w.heap.size + 1 + 1) 5 _ _ _ hres.out
  have z6 := cell_of_row w2 (w.heap.size + 1 + 1) 6 _ _ _ hres.out
  have z7 := cell_of_row w2 (w.heap.size + 1 + 1) 7 _ _ _ hres.out
  have z8 := cell_of_row w2 (w.heap.size + 1 + 1) 8 _ _ _ hres.out
  have z9 := cell_of_row w2 (w.heap.size + 1 + 1) 9 _ _ _ hres.out
  have z10 := cell_of_row w2 (w.heap.size + 1 + 1) 10 _ _ _ hres.out
  have z11 := cell_of_row w2 (w.heap.size + 1 + 1) 11 _ _ _ hres.out
  have z12 := cell_of_row w2 (w.heap.size + 1 + 1) 12 _ _ _ hres.out
  have z13 := cell_of_row w2 (w.heap.size + 1 + 1) 13 _ _ _ hres.out
  have z14 := cell_of_row w2 (w.heap.size + 1 + 1) 14 _ _ _ hres.out
  have g0 := frozen_of_row w2 (w.heap.size + 1 + 1) 0 _ _ hres.out
  have g1 := frozen_of_row w2 (w.heap.size + 1 + 1) 1 _ _ hres.out
  have g2 := frozen_of_row w2 (w.heap.size + 1 + 1) 2 _ _ hres.out
  have g3 := frozen_of_row w2 (w.heap.size + 1 + 1) 3 _ _ hres.out
  have g4 := frozen_of_row w2 (w.heap.size + 1 + 1) 4 _ _ hres.out
  have g5 := frozen_of_row w2 (w.heap.size + 1 + 1) 5 _ _ hres.out
  have g6 := frozen_of_row w2 (w.heap.size + 1 + 1) 6 _ _ hres.out
  have g7 := frozen_of_row w2 (w.heap.size + 1 + 1) 7 _ _ hres.out
  have g8 := frozen_of_row w2 (w.heap.size + 1 + 1) 8 _ _ hres.out
  have g9 := frozen_of_row w2 (w.heap.size + 1 + 1) 9 _ _ hres.out
  have g10 := frozen_of_row w2 (w.heap.size + 1 + 1) 10 _ _ hres.out
  have g11 := frozen_of_row w2 (w.heap.size + 1 + 1) 11 _ _ hres.out
  have g12 := frozen_of_row w2 (w.heap.size + 1 + 1) 12 _ _ hres.out
  have g13 := frozen_of_row w2 (w.heap.size + 1 + 1) 13 _ _ hres.out
  have g14 := frozen_of_row w2 (w.heap.size + 1 + 1) 14 _ _ hres.out
  simp only [frL, List.map_cons, List.map_nil, List.cons_append, List.nil_append, numV, List.getElem?_toArray, List.getElem?_cons_zero, List.getElem?_cons_succ] at c0 c1 c2 c3 c4 c5 c6 c7 c8 c9 c10 c11 c12 c13 c14 z0 z1 z2 z3 z4 z5 z6 z7 z8 z9 z10 z11 z12 z13 z14
  simp only [frL, List.map_cons, List.map_nil, List.cons_append, List.nil_append, numV] at HPM
  go_wp2_with fail
  go_region
  go_wp2_with fail
  have hbw : Below w.heap.size w w2 := (three_new w _ _ _).trans (h4.below (Nat.le_refl _))
  exact bodyPost_ret (aft_res (by rfl) (by rfl) (fifteen_set hres.out _ _ _ _ _ _ _ _ _ _ _ _ _ _ _).drew) rfl (HPM.out _ _ (fifteen_below hbw (by omega) _ _ _ _ _ _ _ _ _ _ _ _ _ _ _).drew rfl)
set_option maxRecDepth 100000 in
set_option maxHeartbeats 1000000 in
theorem aft_store (f : Fr) (n pl tg : Nat) (w : World) (ok : FrOk f) (hn : n < 4) :
    Calls Tryd.prog 119 #[.agg (frL f).toArray, .agg #[.int .i64 pl, .int .i64 (8 : Nat), .int .i64 n, .int .i64 tg]] w (AftPost f 8 n w) := by
  have HF : Hid (afterF f 8 n = storeF f n) := hid (rfl)
  have hld := hid (fun W hW => store_any w.heap.size f n W hW ok hn)
  obtain ⟨r, lo, d, st, wg⟩ := f
  obtain ⟨h1, h2, h3d⟩ := ok
  simp only at h1 h2
  obtain ⟨a, b, c, e, rfl⟩ := four h1
  obtain ⟨s0, s1, s2, s3, s4, s5, s6, s7, rfl⟩ := eight h2
  simp only [frL, List.map_cons, List.map_nil, List.cons_append, List.nil_append, numV]
  go_enter Tryd.func119, Tryd.ntmps119
  go_wp2_with fail
  refine (hld.out _ (heap_three_first w _ _ _)).mono ?_
  rintro x w2 ⟨rfl, h3, h4⟩
  have hz := h4.size
  simp at hz
  have hres := hid ((h4.block (w.heap.size + 1 + 1) (by omega)).trans (heap_three_third w _ _ _))
  rw [← HF.out] at h3
  have hok3 : FrOk (afterF ⟨r, [a, b, c, e], d, [s0, s1, s2, s3, s4, s5, s6, s7], wg⟩ 8 n) := afterF_ok ⟨rfl, rfl, h3d⟩ 8 n
  have HPM := hid (fun W b' hb' hr' => aftPost_mk (f := ⟨r, [a, b, c, e], d, [s0, s1, s2, s3, s4, s5, s6, s7], wg⟩) (op := 8) (n := n) (w := w) (W := W) b' hb' hr')
  generalize afterF ⟨r, [a, b, c, e], d, [s0, s1, s2, s3, s4, s5, s6, s7], wg⟩ 8 n = G at *
  obtain ⟨r', lo', d', st', wg'⟩ := G
  obtain ⟨j1, j2, j3⟩ := hok3
  simp only at j1 j2
  obtain ⟨a', b', c', e', rfl⟩ := four j1
  obtain ⟨t0, t1, t2, t3, t4, t5, t6, t7, rfl⟩ := eight j2
  have c0 := RowAt.cell h3 0
  have c1 := RowAt.cell h3 1
  have c2 := RowAt.cell h3 2
  have c3 := RowAt.cell h3 3
  have c4 := RowAt.cell h3 4
  have c5 := RowAt.cell h3 5
  have c6 := RowAt.cell h3 6
  have c7 := RowAt.cell h3 7
  have c8 := RowAt.cell h3 8
  have c9 := RowAt.cell h3 9
  have c10 := RowAt.cell h3 10
  have c11 := RowAt.cell h3 11
  have c12 := RowAt.cell h3 12
  have c13 := RowAt.cell h3 13
  have c14 := RowAt.cell h3 14
  have z0 := cell_of_row w2 (w.heap.size + 1 + 1) 0 _ _ _ hres.out
  have z1 := cell_of_row w2 (w.heap.size + 1 + 1) 1 _ _ _ hres.out
  have z2 := cell_of_row w2 (w.heap.size + 1 + 1) 2 _ _ _ hres.out
  have z3 := cell_of_row w2 (w.heap.size + 1 + 1) 3 _ _ _ hres.out
  have z4 := cell_of_row w2 (w.heap.size + 1 + 1) 4 _ _ _ hres.out
  have z5 := cell_of_row w2 (w.heap.size + 1 + 1) 5 _ _ _ hres.out
  have z6 := cell_of_row w2 (w.heap.size + 1 + 1) 6 _ _ _ hres.out
  have z7 := cell_of_row w2 (w.heap.size + 1 + 1) 7 _ _ _ hres.out
  have z8 := cell_of_row w2 (w.heap.size + 1 + 1) 8 _ _ _ hres.out
  have z9 := cell_of_row w2 (w.heap.size + 1 + 1) 9 _ _ _ hres.out
  have z10 := cell_of_row w2 (w.heap.size + 1 + 1) 10 _ _ _ hres.out
  have z11 := cell_of_row w2 (w.heap.size + 1 + 1) 11 _ _ _ hres.out
  have z12 := cell_of_row w2 (w.heap.size + 1 + 1) 12 _ _ _ hres.out
  have z13 := cell_of_row w2 (w.heap.size + 1 + 1) 13 _ _ _ hres.out
  have z14 := cell_of_row w2 (w.heap.size + 1 + 1) 14 _ _ _ hres.out
  have g0 := frozen_of_row w2 (w.heap.size + 1 + 1) 0 _ _ hres.out
  have g1 := frozen_of_row w2 (w.heap.size + 1 + 1) 1 _ _ hres.out
  have g2 := frozen_of_row w2 (w.heap.size + 1 + 1) 2 _ _ hres.out
  have g3 := frozen_of_row w2 (w.heap.size + 1 + 1) 3 _ _ hres.out
  have g4 := frozen_of_row w2 (w.heap.size + 1 + 1) 4 _ _ hres.out
  have g5 := frozen_of_row w2 (w.heap.size + 1 + 1) 5 _ _ hres.out
  have g6 := frozen_of_row w2 (w.heap.size + 1 + 1) 6 _ _ hres.out
  have g7 := frozen_of_row w2 (w.heap.size + 1 + 1) 7 _ _ hres.out
  have g8 := frozen_of_row w2 (w.heap.size + 1 + 1) 8 _ _ hres.out
  have g9 := frozen_of_row w2 (w.heap.size + 1 + 1) 9 _ _ hres.out
  have g10 := frozen_of_row w2 (w.heap.size + 1 + 1) 10 _ _ hres.out
  have g11 := frozen_of_row w2 (w.heap.size + 1 + 1) 11 _ _ hres.out
  have g12 := frozen_of_row w2 (w.heap.size + 1 + 1) 12 _ _ hres.out
  have g13 := frozen_of_row w2 (w.heap.size + 1 + 1) 13 _ _ hres.out
  have g14 := frozen_of_row w2 (w.heap.size + 1 + 1) 14 _ _ hres.out
  simp only [frL, List.map_cons, List.map_nil, List.cons_append, List.nil_append, numV, List.getElem?_toArray, List.getElem?_cons_zero, List.getElem?_cons_succ] at c0 c1 c2 c3 c4 c5 c6 c7 c8 c9 c10 c11 c12 c13 c14 z0 z1 z2 z3 z4 z5 z6 z7 z8 z9 z10 z11 z12 z13 z14
  simp only [frL, List.map_cons, List.map_nil, List.cons_append, List.nil_append, numV] at HPM
  go_wp2_with fail
  go_region
  go_wp2_with fail
  have hbw : Below w.heap.size w w2 := (three_new w _ _ _).trans (h4.below (Nat.le_refl _))
  exact bodyPost_ret (aft_res (by rfl) (by rfl) (fifteen_set hres.out _ _ _ _ _ _ _ _ _ _ _ _ _ _ _).drew) rfl (HPM.out _ _ (fifteen_below hbw (by omega) _ _ _ _ _ _ _ _ _ _ _ _ _ _ _).drew rfl)
set_option maxRecDepth 100000 in
set_option maxHeartbeats 1000000 in
theorem aft_drop (f : Fr) (n pl tg : Nat) (w : World) (ok : FrOk f) :
    Calls Tryd.prog 119 #[.agg (frL f).toArray, .agg #[.int .i64 pl, .int .i64 (10 : Nat), .int .i64 n, .int .i64 tg]] w (AftPost f 10 n w) := by
  have HF : Hid (afterF f 10 n = (popF f).1) := hid (rfl)
  have hld := hid (fun W hW => pop_any w.heap.size f W hW ok)
  obtain ⟨r, lo, d, st, wg⟩ := f
  obtain ⟨h1, h2, h3d⟩ := ok
  simp only at h1 h2
  obtain ⟨a, b, c, e, rfl⟩ := four h1
  obtain ⟨s0, s1, s2, s3, s4, s5, s6, s7, rfl⟩ := eight h2
  simp only [frL, List.map_cons, List.map_nil, List.cons_append, List.nil_append, numV]
  go_enter Tryd.func119, Tryd.ntmps119
  go_wp2_with fail
  refine (hld.out _ (heap_three_first w _ _ _)).mono ?_
  rintro x w2 ⟨rfl, h3, h4⟩
  have hz := h4.size
  simp at hz
  have hres := hid ((h4.block (w.heap.size + 1 + 1) (by omega)).trans (heap_three_third w _ _ _))
  rw [← HF.out] at h3
  have hok3 : FrOk (afterF ⟨r, [a, b, c, e], d, [s0, s1, s2, s3, s4, s5, s6, s7], wg⟩ 10 n) := afterF_ok ⟨rfl, rfl, h3d⟩ 10 n
  have HPM := hid (fun W b' hb' hr' => aftPost_mk (f := ⟨r, [a, b, c, e], d, [s0, s1, s2, s3, s4, s5, s6, s7], wg⟩) (op := 10) (n := n) (w := w) (W := W) b' hb' hr')
  generalize afterF ⟨r, [a, b, c, e], d, [s0, s1, s2, s3, s4, s5, s6, s7], wg⟩ 10 n = G at *
  obtain ⟨r', lo', d', st', wg'⟩ := G
  obtain ⟨j1, j2, j3⟩ := hok3
  simp only at j1 j2
  obtain ⟨a', b', c', e', rfl⟩ := four j1
  obtain ⟨t0, t1, t2, t3, t4, t5, t6, t7, rfl⟩ := eight j2
  have c0 := RowAt.cell h3 0
  have c1 := RowAt.cell h3 1
  have c2 := RowAt.cell h3 2
  have c3 := RowAt.cell h3 3
  have c4 := RowAt.cell h3 4
  have c5 := RowAt.cell h3 5
  have c6 := RowAt.cell h3 6
  have c7 := RowAt.cell h3 7
  have c8 := RowAt.cell h3 8
  have c9 := RowAt.cell h3 9
  have c10 := RowAt.cell h3 10
  have c11 := RowAt.cell h3 11
  have c12 := RowAt.cell h3 12
  have c13 := RowAt.cell h3 13
  have c14 := RowAt.cell h3 14
  have z0 := cell_of_row w2 (w.heap.size + 1 + 1) 0 _ _ _ hres.out
  have z1 := cell_of_row w2 (w.heap.size + 1 + 1) 1 _ _ _ hres.out
  have z2 := cell_of_row w2 (w.heap.size + 1 + 1) 2 _ _ _ hres.out
  have z3 := cell_of_row w2 (w.heap.size + 1 + 1) 3 _ _ _ hres.out
  have z4 := cell_of_row w2 (w.heap.size + 1 + 1) 4 _ _ _ hres.out
  have z5 := cell_of_row w2 (w.heap.size + 1 + 1) 5 _ _ _ hres.out
  have z6 := cell_of_row w2 (w.heap.size + 1 + 1) 6 _ _ _ hres.out
  have z7 := cell_of_row w2 (w.heap.size + 1 + 1) 7 _ _ _ hres.out
  have z8 := cell_of_row w2 (w.heap.size + 1 + 1) 8 _ _ _ hres.out
  have z9 := cell_of_row w2 (w.heap.size + 1 + 1) 9 _ _ _ hres.out
  have z10 := cell_of_row w2 (w.heap.size + 1 + 1) 10 _ _ _ hres.out
  have z11 := cell_of_row w2 (w.heap.size + 1 + 1) 11 _ _ _ hres.out
  have z12 := cell_of_row w2 (w.heap.size + 1 + 1) 12 _ _ _ hres.out
  have z13 := cell_of_row w2 (w.heap.size + 1 + 1) 13 _ _ _ hres.out
  have z14 := cell_of_row w2 (w.heap.size + 1 + 1) 14 _ _ _ hres.out
  have g0 := frozen_of_row w2 (w.heap.size + 1 + 1) 0 _ _ hres.out
  have g1 := frozen_of_row w2 (w.heap.size + 1 + 1) 1 _ _ hres.out
  have g2 := frozen_of_row w2 (w.heap.size + 1 + 1) 2 _ _ hres.out
  have g3 := frozen_of_row w2 (w.heap.size + 1 + 1) 3 _ _ hres.out
  have g4 := frozen_of_row w2 (w.heap.size + 1 + 1) 4 _ _ hres.out
  have g5 := frozen_of_row w2 (w.heap.size + 1 + 1) 5 _ _ hres.out
  have g6 := frozen_of_row w2 (w.heap.size + 1 + 1) 6 _ _ hres.out
  have g7 := frozen_of_row w2 (w.heap.size + 1 + 1) 7 _ _ hres.out
  have g8 := frozen_of_row w2 (w.heap.size + 1 + 1) 8 _ _ hres.out
  have g9 := frozen_of_row w2 (w.heap.size + 1 + 1) 9 _ _ hres.out
  have g10 := frozen_of_row w2 (w.heap.size + 1 + 1) 10 _ _ hres.out
  have g11 := frozen_of_row w2 (w.heap.size + 1 + 1) 11 _ _ hres.out
  have g12 := frozen_of_row w2 (w.heap.size + 1 + 1) 12 _ _ hres.out
  have g13 := frozen_of_row w2 (w.heap.size + 1 + 1) 13 _ _ hres.out
  have g14 := frozen_of_row w2 (w.heap.size + 1 + 1) 14 _ _ hres.out
  simp only [frL, List.map_cons, List.map_nil, List.cons_append, List.nil_append, numV, List.getElem?_toArray, List.getElem?_cons_zero, List.getElem?_cons_succ] at c0 c1 c2 c3 c4 c5 c6 c7 c8 c9 c10 c11 c12 c13 c14 z0 z1 z2 z3 z4 z5 z6 z7 z8 z9 z10 z11 z12 z13 z14
  simp only [frL, List.map_cons, List.map_nil, List.cons_append, List.nil_append, numV] at HPM
  go_wp2_with fail
  go_region
  go_wp2_with fail
  have hbw : Below w.heap.size w w2 := (three_new w _ _ _).trans (h4.below (Nat.le_refl _))
  exact bodyPost_ret (aft_res (by rfl) (by rfl) (fifteen_set hres.out _ _ _ _ _ _ _ _ _ _ _ _ _ _ _).drew) rfl (HPM.out _ _ (fifteen_below hbw (by omega) _ _ _ _ _ _ _ _ _ _ _ _ _ _ _).drew rfl)
end Go.Proofs.YtdmdpindonghdaaDoor
namespace Go.Proofs.YtdmdpindonghdaaDoor
open Go.RowKit
set_option maxRecDepth 100000 in
set_option maxHeartbeats 1000000 in
theorem aft_dup (f : Fr) (n pl tg : Nat) (w : World) (ok : FrOk f) :
    Calls Tryd.prog 119 #[.agg (frL f).toArray, .agg #[.int .i64 pl, .int .i64 (9 : Nat), .int .i64 n, .int .i64 tg]] w (AftPost f 9 n w) := by
  have HF : Hid (afterF f 9 n = pushF (pushF (popF f).1 (popF f).2) (popF f).2) := hid (rfl)
  have k1 := hid (fun W hW => pop_any w.heap.size f W hW ok)
  have k2 := hid (fun W hW => push_any w.heap.size (popF f).1 (popF f).2 W hW (popF_ok ok))
  have k3 := hid (fun W hW => push_any w.heap.size (pushF (popF f).1 (popF f).2) (popF f).2 W hW (pushF_ok (popF_ok ok) _))
  obtain ⟨r, lo, d, st, wg⟩ := f
  obtain ⟨h1, h2, h3d⟩ := ok
  simp only at h1 h2
  obtain ⟨a, b, c, e, rfl⟩ := four h1
  obtain ⟨s0, s1, s2, s3, s4, s5, s6, s7, rfl⟩ := eight h2
  simp only [frL, List.map_cons, List.map_nil, List.cons_append, List.nil_append, numV]
  go_enter Tryd.func119, Tryd.ntmps119
  go_wp2_with fail
  refine (k1.out _ (heap_three_first w _ _ _)).mono ?_
  rintro x w3 ⟨rfl, h5, h6⟩
  go_wp2_with fail
  refine (k2.out _ h5).mono ?_
  rintro x w4 ⟨rfl, h7, h8⟩
  go_wp2_with fail
  refine (k3.out _ h7).mono ?_
  rintro x w2 ⟨rfl, h3, h9⟩
  have h4 := (h6.trans h8).trans h9
  clear k1 k2 k3 h5 h6 h7 h8 h9
  have hz := h4.size
  simp at hz
  have hres := hid ((h4.block (w.heap.size + 1 + 1) (by omega)).trans (heap_three_third w _ _ _))
  rw [← HF.out] at h3
  have hok3 : FrOk (afterF ⟨r, [a, b, c, e], d, [s0, s1, s2, s3, s4, s5, s6, s7], wg⟩ 9 n) := afterF_ok ⟨rfl, rfl, h3d⟩ 9 n
  have HPM := hid (fun W b' hb' hr' => aftPost_mk (f := ⟨r, [a, b, c, e], d, [s0, s1, s2, s3, s4, s5, s6, s7], wg⟩) (op := 9) (n := n) (w := w) (W := W) b' hb' hr')
  generalize afterF ⟨r, [a, b, c, e], d, [s0, s1, s2, s3, s4, s5, s6, s7], wg⟩ 9 n = G at *
  obtain ⟨r', lo', d', st', wg'⟩ := G
  obtain ⟨j1, j2, j3⟩ := hok3
  simp only at j1 j2
  obtain ⟨a', b', c', e', rfl⟩ := four j1
  obtain ⟨t0, t1, t2, t3, t4, t5, t6, t7, rfl⟩ := eight j2
  have c0 := RowAt.cell h3 0
  have c1 := RowAt.cell h3 1
  have c2 := RowAt.cell h3 2
  have c3 := RowAt.cell h3 3
  have c4 := RowAt.cell h3 4
  have c5 := RowAt.cell h3 5
  have c6 := RowAt.cell h3 6
  have c7 := RowAt.cell h3 7
  have c8 := RowAt.cell h3 8
  have c9 := RowAt.cell h3 9
  have c10 := RowAt.cell h3 10
  have c11 := RowAt.cell h3 11
  have c12 := RowAt.cell h3 12
  have c13 := RowAt.cell h3 13
  have c14 := RowAt.cell h3 14
  have z0 := cell_of_row w2 (w.heap.size + 1 + 1) 0 _ _ _ hres.out
  have z1 := cell_of_row w2 (w.heap.size + 1 + 1) 1 _ _ _ hres.out
  have z2 := cell_of_row w2 (w.heap.size + 1 + 1) 2 _ _ _ hres.out
  have z3 := cell_of_row w2 (w.heap.size + 1 + 1) 3 _ _ _ hres.out
  have z4 := cell_of_row w2 (w.heap.size + 1 + 1) 4 _ _ _ hres.out
  have z5 := cell_of_row w2 (w.heap.size + 1 + 1) 5 _ _ _ hres.out
  have z6 := cell_of_row w2 (w.heap.size + 1 + 1) 6 _ _ _ hres.out
  have z7 := cell_of_row w2 (w.heap.size + 1 + 1) 7 _ _ _ hres.out
  have z8 := cell_of_row w2 (w.heap.size + 1 + 1) 8 _ _ _ hres.out
  have z9 := cell_of_row w2 (w.heap.size + 1 + 1) 9 _ _ _ hres.out
  have z10 := cell_of_row w2 (w.heap.size + 1 + 1) 10 _ _ _ hres.out
  have z11 := cell_of_row w2 (w.heap.size + 1 + 1) 11 _ _ _ hres.out
  have z12 := cell_of_row w2 (w.heap.size + 1 + 1) 12 _ _ _ hres.out
  have z13 := cell_of_row w2 (w.heap.size + 1 + 1) 13 _ _ _ hres.out
  have z14 := cell_of_row w2 (w.heap.size + 1 + 1) 14 _ _ _ hres.out
  have g0 := frozen_of_row w2 (w.heap.size + 1 + 1) 0 _ _ hres.out
  have g1 := frozen_of_row w2 (w.heap.size + 1 + 1) 1 _ _ hres.out
  have g2 := frozen_of_row w2 (w.heap.size + 1 + 1) 2 _ _ hres.out
  have g3 := frozen_of_row w2 (w.heap.size + 1 + 1) 3 _ _ hres.out
  have g4 := frozen_of_row w2 (w.heap.size + 1 + 1) 4 _ _ hres.out
  have g5 := frozen_of_row w2 (w.heap.size + 1 + 1) 5 _ _ hres.out
  have g6 := frozen_of_row w2 (w.heap.size + 1 + 1) 6 _ _ hres.out
  have g7 := frozen_of_row w2 (w.heap.size + 1 + 1) 7 _ _ hres.out
  have g8 := frozen_of_row w2 (w.heap.size + 1 + 1) 8 _ _ hres.out
  have g9 := frozen_of_row w2 (w.heap.size + 1 + 1) 9 _ _ hres.out
  have g10 := frozen_of_row w2 (w.heap.size + 1 + 1) 10 _ _ hres.out
  have g11 := frozen_of_row w2 (w.heap.size + 1 + 1) 11 _ _ hres.out
  have g12 := frozen_of_row w2 (w.heap.size + 1 + 1) 12 _ _ hres.out
  have g13 := frozen_of_row w2 (w.heap.size + 1 + 1) 13 _ _ hres.out
  have g14 := frozen_of_row w2 (w.heap.size + 1 + 1) 14 _ _ hres.out
  simp only [frL, List.map_cons, List.map_nil, List.cons_append, List.nil_append, numV, List.getElem?_toArray, List.getElem?_cons_zero, List.getElem?_cons_succ] at c0 c1 c2 c3 c4 c5 c6 c7 c8 c9 c10 c11 c12 c13 c14 z0 z1 z2 z3 z4 z5 z6 z7 z8 z9 z10 z11 z12 z13 z14
  simp only [frL, List.map_cons, List.map_nil, List.cons_append, List.nil_append, numV] at HPM
  go_wp2_with fail
  go_region
  go_wp2_with fail
  have hbw : Below w.heap.size w w2 := (three_new w _ _ _).trans (h4.below (Nat.le_refl _))
  exact bodyPost_ret (aft_res (by rfl) (by rfl) (fifteen_set hres.out _ _ _ _ _ _ _ _ _ _ _ _ _ _ _).drew) rfl (HPM.out _ _ (fifteen_below hbw (by omega) _ _ _ _ _ _ _ _ _ _ _ _ _ _ _).drew rfl)
set_option maxRecDepth 100000 in
set_option maxHeartbeats 1000000 in
theorem aft_swap (f : Fr) (n pl tg : Nat) (w : World) (ok : FrOk f) :
    Calls Tryd.prog 119 #[.agg (frL f).toArray, .agg #[.int .i64 pl, .int .i64 (11 : Nat), .int .i64 n, .int .i64 tg]] w (AftPost f 11 n w) := by
  have HF : Hid (afterF f 11 n = pushF (pushF (popF (popF f).1).1 (popF f).2) (popF (popF f).1).2) := hid (rfl)
  have k1 := hid (fun W hW => pop_any w.heap.size f W hW ok)
  have k2 := hid (fun W hW => pop_any w.heap.size (popF f).1 W hW (popF_ok ok))
  have k3 := hid (fun W hW => push_any w.heap.size (popF (popF f).1).1 (popF f).2 W hW (popF_ok (popF_ok ok)))
  have k4 := hid (fun W hW => push_any w.heap.size (pushF (popF (popF f).1).1 (popF f).2) (popF (popF f).1).2 W hW (pushF_ok (popF_ok (popF_ok ok)) _))
  obtain ⟨r, lo, d, st, wg⟩ := f
  obtain ⟨h1, h2, h3d⟩ := ok
  simp only at h1 h2
  obtain ⟨a, b, c, e, rfl⟩ := four h1
  obtain ⟨s0, s1, s2, s3, s4, s5, s6, s7, rfl⟩ := eight h2
  simp only [frL, List.map_cons, List.map_nil, List.cons_append, List.nil_append, numV]
  go_enter Tryd.func119, Tryd.ntmps119
  go_wp2_with fail
  refine (k1.out _ (heap_three_first w _ _ _)).mono ?_
  rintro x w3 ⟨rfl, h5, h6⟩
  go_wp2_with fail
  refine (k2.out _ h5).mono ?_
  rintro x w4 ⟨rfl, h7, h8⟩
  go_wp2_with fail
  refine (k3.out _ h7).mono ?_
  rintro x w5 ⟨rfl, h9, h10⟩
  go_wp2_with fail
  refine (k4.out _ h9).mono ?_
  rintro x w2 ⟨rfl, h3, h11⟩
  have h4 := ((h6.trans h8).trans h10).trans h11
  clear k1 k2 k3 k4 h5 h6 h7 h8 h9 h10 h11
  have hz := h4.size
  simp at hz
  have hres := hid ((h4.block (w.heap.size + 1 + 1) (by omega)).trans (heap_three_third w _ _ _))
  rw [← HF.out] at h3
  have hok3 : FrOk (afterF ⟨r, [a, b, c, e], d, [s0, s1, s2, s3, s4, s5, s6, s7], wg⟩ 11 n) := afterF_ok ⟨rfl, rfl, h3d⟩ 11 n
  have HPM := hid (fun W b' hb' hr' => aftPost_mk (f := ⟨r, [a, b, c, e], d, [s0, s1, s2, s3, s4, s5, s6, s7], wg⟩) (op := 11) (n := n) (w := w) (W := W) b' hb' hr')
  generalize afterF ⟨r, [a, b, c, e], d, [s0, s1, s2, s3, s4, s5, s6, s7], wg⟩ 11 n = G at *
  obtain ⟨r', lo', d', st', wg'⟩ := G
  obtain ⟨j1, j2, j3⟩ := hok3
  simp only at j1 j2
  obtain ⟨a', b', c', e', rfl⟩ := four j1
  obtain ⟨t0, t1, t2, t3, t4, t5, t6, t7, rfl⟩ := eight j2
  have c0 := RowAt.cell h3 0
  have c1 := RowAt.cell h3 1
  have c2 := RowAt.cell h3 2
  have c3 := RowAt.cell h3 3
  have c4 := RowAt.cell h3 4
  have c5 := RowAt.cell h3 5
  have c6 := RowAt.cell h3 6
  have c7 := RowAt.cell h3 7
  have c8 := RowAt.cell h3 8
  have c9 := RowAt.cell h3 9
  have c10 := RowAt.cell h3 10
  have c11 := RowAt.cell h3 11
  have c12 := RowAt.cell h3 12
  have c13 := RowAt.cell h3 13
  have c14 := RowAt.cell h3 14
  have z0 := cell_of_row w2 (w.heap.size + 1 + 1) 0 _ _ _ hres.out
  have z1 := cell_of_row w2 (w.heap.size + 1 + 1) 1 _ _ _ hres.out
  have z2 := cell_of_row w2 (w.heap.size + 1 + 1) 2 _ _ _ hres.out
  have z3 := cell_of_row w2 (w.heap.size + 1 + 1) 3 _ _ _ hres.out
  have z4 := cell_of_row w2 (w.heap.size + 1 + 1) 4 _ _ _ hres.out
  have z5 := cell_of_row w2 (w.heap.size + 1 + 1) 5 _ _ _ hres.out
  have z6 := cell_of_row w2 (w.heap.size + 1 + 1) 6 _ _ _ hres.out
  have z7 := cell_of_row w2 (w.heap.size + 1 + 1) 7 _ _ _ hres.out
  have z8 := cell_of_row w2 (w.heap.size + 1 + 1) 8 _ _ _ hres.out
  have z9 := cell_of_row w2 (w.heap.size + 1 + 1) 9 _ _ _ hres.out
  have z10 := cell_of_row w2 (w.heap.size + 1 + 1) 10 _ _ _ hres.out
  have z11 := cell_of_row w2 (w.heap.size + 1 + 1) 11 _ _ _ hres.out
  have z12 := cell_of_row w2 (w.heap.size + 1 + 1) 12 _ _ _ hres.out
  have z13 := cell_of_row w2 (w.heap.size + 1 + 1) 13 _ _ _ hres.out
  have z14 := cell_of_row w2 (w.heap.size + 1 + 1) 14 _ _ _ hres.out
  have g0 := frozen_of_row w2 (w.heap.size + 1 + 1) 0 _ _ hres.out
  have g1 := frozen_of_row w2 (w.heap.size + 1 + 1) 1 _ _ hres.out
  have g2 := frozen_of_row w2 (w.heap.size + 1 + 1) 2 _ _ hres.out
  have g3 := frozen_of_row w2 (w.heap.size + 1 + 1) 3 _ _ hres.out
  have g4 := frozen_of_row w2 (w.heap.size + 1 + 1) 4 _ _ hres.out
  have g5 := frozen_of_row w2 (w.heap.size + 1 + 1) 5 _ _ hres.out
  have g6 := frozen_of_row w2 (w.heap.size + 1 + 1) 6 _ _ hres.out
  have g7 := frozen_of_row w2 (w.heap.size + 1 + 1) 7 _ _ hres.out
  have g8 := frozen_of_row w2 (w.heap.size + 1 + 1) 8 _ _ hres.out
  have g9 := frozen_of_row w2 (w.heap.size + 1 + 1) 9 _ _ hres.out
  have g10 := frozen_of_row w2 (w.heap.size + 1 + 1) 10 _ _ hres.out
  have g11 := frozen_of_row w2 (w.heap.size + 1 + 1) 11 _ _ hres.out
  have g12 := frozen_of_row w2 (w.heap.size + 1 + 1) 12 _ _ hres.out
  have g13 := frozen_of_row w2 (w.heap.size + 1 + 1) 13 _ _ hres.out
  have g14 := frozen_of_row w2 (w.heap.size + 1 + 1) 14 _ _ hres.out
  simp only [frL, List.map_cons, List.map_nil, List.cons_append, List.nil_append, numV, List.getElem?_toArray, List.getElem?_cons_zero, List.getElem?_cons_succ] at c0 c1 c2 c3 c4 c5 c6 c7 c8 c9 c10 c11 c12 c13 c14 z0 z1 z2 z3 z4 z5 z6 z7 z8 z9 z10 z11 z12 z13 z14
  simp only [frL, List.map_cons, List.map_nil, List.cons_append, List.nil_append, numV] at HPM
  go_wp2_with fail
  go_region
  go_wp2_with fail
  have hbw : Below w.heap.size w w2 := (three_new w _ _ _).trans (h4.below (Nat.le_refl _))
  exact bodyPost_ret (aft_res (by rfl) (by rfl) (fifteen_set hres.out _ _ _ _ _ _ _ _ _ _ _ _ _ _ _).drew) rfl (HPM.out _ _ (fifteen_below hbw (by omega) _ _ _ _ _ _ _ _ _ _ _ _ _ _ _).drew rfl)
end Go.Proofs.YtdmdpindonghdaaDoor
namespace Go.Proofs.YtdmdpindonghdaaDoor
open Go.RowKit
set_option maxRecDepth 100000 in
set_option maxHeartbeats 1000000 in
theorem aft_other (f : Fr) (op n pl tg : Nat) (w : World) (ok : FrOk f) (hop : op < 25) (hne : op ≠ 7 ∧ op ≠ 8 ∧ op ≠ 9 ∧ op ≠ 10 ∧ op ≠ 11) (htab : FlowTab w) :
    Calls Tryd.prog 119 #[.agg (frL f).toArray, .agg #[.int .i64 pl, .int .i64 op, .int .i64 n, .int .i64 tg]] w (AftPost f op n w) := by
  have HF : Hid (afterF f op n = pushR (popR f (popsN op).reverse) (pushesN op)) := hid (by unfold afterF; rw [if_neg hne.1, if_neg hne.2.1, if_neg hne.2.2.1, if_neg hne.2.2.2.1, if_neg hne.2.2.2.2])
  have k1 := hid (fun W hW ht => popAll_any w.heap.size f op W hW ok hop ht)
  have k2 := hid (fun W hW ht => pushAll_any w.heap.size (popR f (popsN op).reverse) op W hW (popR_ok _ _ ok) hop ht)
  obtain ⟨q1, q2, q3, q4, q5⟩ : ((op : Int) == 7) = false ∧ ((op : Int) == 8) = false ∧ ((op : Int) == 9) = false ∧ ((op : Int) == 10) = false ∧ ((op : Int) == 11) = false := by
    simp only [beq_eq_false_iff_ne]; omega
  have hg3 := World.block_lt_of_cell? w _ (htab op hop).1
  have hg4 := World.block_lt_of_cell? w _ (htab op hop).2
  simp only at hg3 hg4
  clear hne
  obtain ⟨r, lo, d, st, wg⟩ := f
  obtain ⟨h1, h2, h3d⟩ := ok
  simp only at h1 h2
  obtain ⟨a, b, c, e, rfl⟩ := four h1
  obtain ⟨s0, s1, s2, s3, s4, s5, s6, s7, rfl⟩ := eight h2
  simp only [frL, List.map_cons, List.map_nil, List.cons_append, List.nil_append, numV]
  go_enter Tryd.func119, Tryd.ntmps119
  go_wp2_with fail
  refine (k1.out _ (heap_three_first w _ _ _) (htab.below (three_new w _ _ _))).mono ?_
  rintro x w3 ⟨rfl, h5, h6⟩
  have m1 := (h6.cell (k := w.heap.size + 1) (o := 1) (by omega)).trans (cell_three_second w _ _ _ _ 1)
  simp only [List.getElem?_toArray, List.getElem?_cons_zero, List.getElem?_cons_succ] at m1
  have ht3 := FlowTab.only (htab.below (three_new w _ _ _)) h6 (by omega) (by omega)
  go_wp2_with fail
  refine (k2.out _ h5 ht3).mono ?_
  rintro x w2 ⟨rfl, h3, h9⟩
  have h4 := h6.trans h9
  clear k1 k2 h5 h6 h9 m1 ht3
  have hz := h4.size
  simp at hz
  have hres := hid ((h4.block (w.heap.size + 1 + 1) (by omega)).trans (heap_three_third w _ _ _))
  rw [← HF.out] at h3
  have hok3 : FrOk (afterF ⟨r, [a, b, c, e], d, [s0, s1, s2, s3, s4, s5, s6, s7], wg⟩ op n) := afterF_ok ⟨rfl, rfl, h3d⟩ op n
  have HPM := hid (fun W b' hb' hr' => aftPost_mk (f := ⟨r, [a, b, c, e], d, [s0, s1, s2, s3, s4, s5, s6, s7], wg⟩) (op := op) (n := n) (w := w) (W := W) b' hb' hr')
  generalize afterF ⟨r, [a, b, c, e], d, [s0, s1, s2, s3, s4, s5, s6, s7], wg⟩ op n = G at *
  obtain ⟨r', lo', d', st', wg'⟩ := G
  obtain ⟨j1, j2, j3⟩ := hok3
  simp only at j1 j2
  obtain ⟨a', b', c', e', rfl⟩ := four j1
  obtain ⟨t0, t1, t2, t3, t4, t5, t6, t7, rfl⟩ := eight j2
  have c0 := RowAt.cell h3 0
  have c1 := RowAt.cell h3 1
  have c2 := RowAt.cell h3 2
  have c3 := RowAt.cell h3 3
  have c4 := RowAt.cell h3 4
  have c5 := RowAt.cell h3 5
  have c6 := RowAt.cell h3 6
  have c7 := RowAt.cell h3 7
  have c8 := RowAt.cell h3 8
  have c9 := RowAt.cell h3 9
  have c10 := RowAt.cell h3 10
  have c11 := RowAt.cell h3 11
  have c12 := RowAt.cell h3 12
  have c13 := RowAt.cell h3 13
  have c14 := RowAt.cell h3 14
  have z0 := cell_of_row w2 (w.heap.size + 1 + 1) 0 _ _ _ hres.out
  have z1 := cell_of_row w2 (w.heap.size + 1 + 1) 1 _ _ _ hres.out
  have z2 := cell_of_row w2 (w.heap.size + 1 + 1) 2 _ _ _ hres.out
  have z3 := cell_of_row w2 (w.heap.size + 1 + 1) 3 _ _ _ hres.out
  have z4 := cell_of_row w2 (w.heap.size + 1 + 1) 4 _ _ _ hres.out
  have z5 := cell_of_row w2 (w.heap.size + 1 + 1) 5 _ _ _ hres.out
  have z6 := cell_of_row w2 (w.heap.size + 1 + 1) 6 _ _ _ hres.out
  have z7 := cell_of_row w2 (w.heap.size + 1 + 1) 7 _ _ _ hres.out
  have z8 := cell_of_row w2 (w.heap.size + 1 + 1) 8 _ _ _ hres.out
  have z9 := cell_of_row w2 (w.heap.size + 1 + 1) 9 _ _ _ hres.out
  have z10 := cell_of_row w2 (w.heap.size + 1 + 1) 10 _ _ _ hres.out
  have z11 := cell_of_row w2 (w.heap.size + 1 + 1) 11 _ _ _ hres.out
  have z12 := cell_of_row w2 (w.heap.size + 1 + 1) 12 _ _ _ hres.out
  have z13 := cell_of_row w2 (w.heap.size + 1 + 1) 13 _ _ _ hres.out
  have z14 := cell_of_row w2 (w.heap.size + 1 + 1) 14 _ _ _ hres.out
  have g0 := frozen_of_row w2 (w.heap.size + 1 + 1) 0 _ _ hres.out
  have g1 := frozen_of_row w2 (w.heap.size + 1 + 1) 1 _ _ hres.out
  have g2 := frozen_of_row w2 (w.heap.size + 1 + 1) 2 _ _ hres.out
  have g3 := frozen_of_row w2 (w.heap.size + 1 + 1) 3 _ _ hres.out
  have g4 := frozen_of_row w2 (w.heap.size + 1 + 1) 4 _ _ hres.out
  have g5 := frozen_of_row w2 (w.heap.size + 1 + 1) 5 _ _ hres.out
  have g6 := frozen_of_row w2 (w.heap.size + 1 + 1) 6 _ _ hres.out
  have g7 := frozen_of_row w2 (w.heap.size + 1 + 1) 7 _ _ hres.out
  have g8 := frozen_of_row w2 (w.heap.size + 1 + 1) 8 _ _ hres.out
  have g9 := frozen_of_row w2 (w.heap.size + 1 + 1) 9 _ _ hres.out
  have g10 := frozen_of_row w2 (w.heap.size + 1 + 1) 10 _ _ hres.out
  have g11 := frozen_of_row w2 (w.heap.size + 1 + 1) 11 _ _ hres.out
  have g12 := frozen_of_row w2 (w.heap.size + 1 + 1) 12 _ _ hres.out
  have g13 := frozen_of_row w2 (w.heap.size + 1 + 1) 13 _ _ hres.out
  have g14 := frozen_of_row w2 (w.heap.size + 1 + 1) 14 _ _ hres.out
  simp only [frL, List.map_cons, List.map_nil, List.cons_append, List.nil_append, numV, List.getElem?_toArray, List.getElem?_cons_zero, List.getElem?_cons_succ] at c0 c1 c2 c3 c4 c5 c6 c7 c8 c9 c10 c11 c12 c13 c14 z0 z1 z2 z3 z4 z5 z6 z7 z8 z9 z10 z11 z12 z13 z14
  simp only [frL, List.map_cons, List.map_nil, List.cons_append, List.nil_append, numV] at HPM
  go_wp2_with fail
  go_region
  go_wp2_with fail
  have hbw : Below w.heap.size w w2 := (three_new w _ _ _).trans (h4.below (Nat.le_refl _))
  exact bodyPost_ret (aft_res (by rfl) (by rfl) (fifteen_set hres.out _ _ _ _ _ _ _ _ _ _ _ _ _ _ _).drew) rfl (HPM.out _ _ (fifteen_below hbw (by omega) _ _ _ _ _ _ _ _ _ _ _ _ _ _ _).drew rfl)
end Go.Proofs.YtdmdpindonghdaaDoor
namespace Go.Proofs.YtdmdpindonghdaaDoor
open Go.RowKit
theorem aft_any (f : Fr) (op n pl tg : Nat) (w : World) (ok : FrOk f) (hop : op < 25) (hn : op = 7 ∨ op = 8 → n < 4) (htab : FlowTab w) :
    Calls Tryd.prog 119 #[.agg (frL f).toArray, .agg #[.int .i64 pl, .int .i64 op, .int .i64 n, .int .i64 tg]] w (AftPost f op n w) := by
  by_cases e7 : op = 7
  · subst e7; exact aft_load f n pl tg w ok (hn (.inl rfl))
  by_cases e8 : op = 8
  · subst e8; exact aft_store f n pl tg w ok (hn (.inr rfl))
  by_cases e9 : op = 9
  · subst e9; exact aft_dup f n pl tg w ok
  by_cases e10 : op = 10
  · subst e10; exact aft_drop f n pl tg w ok
  by_cases e11 : op = 11
  · subst e11; exact aft_swap f n pl tg w ok
  exact aft_other f op n pl tg w ok hop ⟨e7, e8, e9, e10, e11⟩ htab
end Go.Proofs.YtdmdpindonghdaaDoor
namespace Go.Proofs.YtdmdpindonghdaaDoor
open Go.RowKit
attribute [local go_sem] eq4 eq8
set_option maxRecDepth 100000 in
set_option maxHeartbeats 1000000 in
theorem reach_old (bw bf cap k : Nat) (fs : List Fr) (way known : Fr) (ch : Bool) (lv : Value) (w : World) (hall : AllAt w bf fs) (hok : AllOk fs) (hk : fs[k]? = some known) (hway : FrOk way)
    (hwalk : WalkAt w bw lv bf fs.length cap ch) (hr : known.reached = true) (hd : known.depth ≠ way.depth) :
    Calls Tryd.prog 84 #[.pointer (some ⟨bw, 0, none⟩), .int .i64 k, .agg (frL way).toArray] w fun e w' =>
      e = .returned (.bool false) ∧ Below w.heap.size w w' := by
  have hkl : k < fs.length := (List.getElem?_eq_some_iff.1 hk).1
  have hkn : FrOk known := hok known (List.mem_of_getElem? hk)
  have HAL := hid hall
  have HWK := hid hwalk
  have w0 := cell_of_row w bw 0 _ _ _ hwalk
  have w1 := cell_of_row w bw 1 _ _ _ hwalk
  have w2 := cell_of_row w bw 2 _ _ _ hwalk
  simp only [List.getElem?_toArray, List.getElem?_cons_zero, List.getElem?_cons_succ] at w0 w1 w2
  have hbw := World.block_lt_of_cell? w _ w0
  have fw2 := frozen_of_row w bw 2 _ _ hwalk
  have c0 := hall.cell hok hk (j := 0) (by omega)
  have c1 := hall.cell hok hk (j := 1) (by omega)
  have c2 := hall.cell hok hk (j := 2) (by omega)
  have c3 := hall.cell hok hk (j := 3) (by omega)
  have c4 := hall.cell hok hk (j := 4) (by omega)
  have c5 := hall.cell hok hk (j := 5) (by omega)
  have c6 := hall.cell hok hk (j := 6) (by omega)
  have c7 := hall.cell hok hk (j := 7) (by omega)
  have c8 := hall.cell hok hk (j := 8) (by omega)
  have c9 := hall.cell hok hk (j := 9) (by omega)
  have c10 := hall.cell hok hk (j := 10) (by omega)
  have c11 := hall.cell hok hk (j := 11) (by omega)
  have c12 := hall.cell hok hk (j := 12) (by omega)
  have c13 := hall.cell hok hk (j := 13) (by omega)
  have c14 := hall.cell hok hk (j := 14) (by omega)
  have f0 := hall.frozen (k * 15)
  have f1 := hall.frozen (k * 15 + 1)
  have f2 := hall.frozen (k * 15 + 2)
  have f3 := hall.frozen (k * 15 + 3)
  have f4 := hall.frozen (k * 15 + 4)
  have f5 := hall.frozen (k * 15 + 5)
  have f6 := hall.frozen (k * 15 + 6)
  have f7 := hall.frozen (k * 15 + 7)
  have f8 := hall.frozen (k * 15 + 8)
  have f9 := hall.frozen (k * 15 + 9)
  have f10 := hall.frozen (k * 15 + 10)
  have f11 := hall.frozen (k * 15 + 11)
  have f12 := hall.frozen (k * 15 + 12)
  have f13 := hall.frozen (k * 15 + 13)
  have f14 := hall.frozen (k * 15 + 14)
  have hbf := World.block_lt_of_cell? w _ (c0.trans (by rfl : (frL known)[0]? = some (.bool known.reached)))
  simp only at hbw hbf
  obtain ⟨kr, klo, kd, kst, kw⟩ := known
  obtain ⟨h1, h2, h3⟩ := hkn
  simp only at h1 h2 hr
  subst hr
  obtain ⟨a, b, c, e, rfl⟩ := four h1
  obtain ⟨s0, s1, s2, s3, s4, s5, s6, s7, rfl⟩ := eight h2
  simp only [frL, List.map_cons, List.map_nil, List.cons_append, List.nil_append, numV, List.getElem?_cons_zero, List.getElem?_cons_succ] at c0 c1 c2 c3 c4 c5 c6 c7 c8 c9 c10 c11 c12 c13 c14
  rw [Nat.add_zero] at c0
  have HWAY := hid hway
  obtain ⟨yr, ylo, yd, yst, yw⟩ := way
  obtain ⟨g1, g2, g3⟩ := hway
  simp only at g1 g2 hd
  obtain ⟨a', b', c', e', rfl⟩ := four g1
  obtain ⟨t0, t1, t2, t3, t4, t5, t6, t7, rfl⟩ := eight g2
  simp only [frL, List.map_cons, List.map_nil, List.cons_append, List.nil_append, numV]
  have i0 : (0 : Int) ≤ (k : Int) := by omega
  have i1 : (k : Int) < (fs.length : Int) := by omega
  have hbw2 : bw ≤ w.heap.size := by omega
  have hbf2 : bf ≤ w.heap.size := by omega
  have d1 : decide ((k : Int) < 0) = false := by simp
  clear hall hwalk
  have hd' : ((kd : Int) != (yd : Int)) = true := by simp; omega
  clear hd
  go_enter Tryd.func84, Tryd.ntmps84
  go_wp2_with fail
  go_ret
  exact ⟨rfl, ((Below.refl _ _).alloc (Nat.le_refl _) _).alloc (by simp) _⟩
set_option maxRecDepth 100000 in
set_option maxHeartbeats 1000000 in
theorem reach_stack (bw bf cap k : Nat) (fs : List Fr) (way known : Fr) (ch : Bool) (lv : Value) (w : World) (hall : AllAt w bf fs) (hok : AllOk fs) (hk : fs[k]? = some known) (hway : FrOk way)
    (hwalk : WalkAt w bw lv bf fs.length cap ch) (hr : known.reached = true) (hd : known.depth = way.depth) (hst : known.stk ≠ way.stk) :
    Calls Tryd.prog 84 #[.pointer (some ⟨bw, 0, none⟩), .int .i64 k, .agg (frL way).toArray] w fun e w' =>
      e = .returned (.bool false) ∧ Below w.heap.size w w' := by
  have hkl : k < fs.length := (List.getElem?_eq_some_iff.1 hk).1
  have hkn : FrOk known := hok known (List.mem_of_getElem? hk)
  have HAL := hid hall
  have HWK := hid hwalk
  have w0 := cell_of_row w bw 0 _ _ _ hwalk
  have w1 := cell_of_row w bw 1 _ _ _ hwalk
  have w2 := cell_of_row w bw 2 _ _ _ hwalk
  simp only [List.getElem?_toArray, List.getElem?_cons_zero, List.getElem?_cons_succ] at w0 w1 w2
  have hbw := World.block_lt_of_cell? w _ w0
  have fw2 := frozen_of_row w bw 2 _ _ hwalk
  have c0 := hall.cell hok hk (j := 0) (by omega)
  have c1 := hall.cell hok hk (j := 1) (by omega)
  have c2 := hall.cell hok hk (j := 2) (by omega)
  have c3 := hall.cell hok hk (j := 3) (by omega)
  have c4 := hall.cell hok hk (j := 4) (by omega)
  have c5 := hall.cell hok hk (j := 5) (by omega)
  have c6 := hall.cell hok hk (j := 6) (by omega)
  have c7 := hall.cell hok hk (j := 7) (by omega)
  have c8 := hall.cell hok hk (j := 8) (by omega)
  have c9 := hall.cell hok hk (j := 9) (by omega)
  have c10 := hall.cell hok hk (j := 10) (by omega)
  have c11 := hall.cell hok hk (j := 11) (by omega)
  have c12 := hall.cell hok hk (j := 12) (by omega)
  have c13 := hall.cell hok hk (j := 13) (by omega)
  have c14 := hall.cell hok hk (j := 14) (by omega)
  have f0 := hall.frozen (k * 15)
  have f1 := hall.frozen (k * 15 + 1)
  have f2 := hall.frozen (k * 15 + 2)
  have f3 := hall.frozen (k * 15 + 3)
  have f4 := hall.frozen (k * 15 + 4)
  have f5 := hall.frozen (k * 15 + 5)
  have f6 := hall.frozen (k * 15 + 6)
  have f7 := hall.frozen (k * 15 + 7)
  have f8 := hall.frozen (k * 15 + 8)
  have f9 := hall.frozen (k * 15 + 9)
  have f10 := hall.frozen (k * 15 + 10)
  have f11 := hall.frozen (k * 15 + 11)
  have f12 := hall.frozen (k * 15 + 12)
  have f13 := hall.frozen (k * 15 + 13)
  have f14 := hall.frozen (k * 15 + 14)
  have hbf := World.block_lt_of_cell? w _ (c0.trans (by rfl : (frL known)[0]? = some (.bool known.reached)))
  simp only at hbw hbf
  obtain ⟨kr, klo, kd, kst, kw⟩ := known
  obtain ⟨h1, h2, h3⟩ := hkn
  simp only at h1 h2 hr
  subst hr
  obtain ⟨a, b, c, e, rfl⟩ := four h1
  obtain ⟨s0, s1, s2, s3, s4, s5, s6, s7, rfl⟩ := eight h2
  simp only [frL, List.map_cons, List.map_nil, List.cons_append, List.nil_append, numV, List.getElem?_cons_zero, List.getElem?_cons_succ] at c0 c1 c2 c3 c4 c5 c6 c7 c8 c9 c10 c11 c12 c13 c14
  rw [Nat.add_zero] at c0
  have HWAY := hid hway
  obtain ⟨yr, ylo, yd, yst, yw⟩ := way
  obtain ⟨g1, g2, g3⟩ := hway
  simp only at g1 g2 hd hst
  obtain ⟨a', b', c', e', rfl⟩ := four g1
  obtain ⟨t0, t1, t2, t3, t4, t5, t6, t7, rfl⟩ := eight g2
  simp only [frL, List.map_cons, List.map_nil, List.cons_append, List.nil_append, numV]
  have i0 : (0 : Int) ≤ (k : Int) := by omega
  have i1 : (k : Int) < (fs.length : Int) := by omega
  have hbw2 : bw ≤ w.heap.size := by omega
  have hbf2 : bf ≤ w.heap.size := by omega
  have d1 : decide ((k : Int) < 0) = false := by simp
  clear hall hwalk
  have hd' : ((kd : Int) != (yd : Int)) = false := by simp; omega
  have HST := hid hst
  clear hst
  clear hd
  go_enter Tryd.func84, Tryd.ntmps84
  go_wp2_with fail
  · go_ret
    exact ⟨rfl, ((Below.refl _ _).alloc (Nat.le_refl _) _).alloc (by simp) _⟩
  · have hall := ‹(!((s0 : Int) == (t0 : Int))) = false ∧ _›
    exfalso
    apply HST.out
    simp only [Bool.not_eq_false', beq_iff_eq] at hall
    obtain ⟨q0, q1, q2, q3, q4, q5, q6, q7⟩ := hall
    rw [show s0 = t0 by omega, show s1 = t1 by omega, show s2 = t2 by omega, show s3 = t3 by omega, show s4 = t4 by omega, show s5 = t5 by omega, show s6 = t6 by omega, show s7 = t7 by omega]
end Go.Proofs.YtdmdpindonghdaaDoor
namespace Go.Proofs.YtdmdpindonghdaaDoor
open Go.RowKit
/-- What a way that leads to instruction k makes of the frames: the frames, have they changed, does the way agree. -/
def reachF (fs : List Fr) (k : Nat) (way : Fr) : List Fr × Bool × Bool :=
  match fs[k]? with
  | none => (fs, false, false)
  | some known =>
    if known.reached = false then (fs.set k { way with reached := true }, true, true)
    else if known.depth ≠ way.depth ∨ known.stk ≠ way.stk then (fs, false, false)
    else if known.lo = List.zipWith joinN known.lo way.lo then (fs, false, true)
    else (fs.set k { way with reached := true, lo := List.zipWith joinN known.lo way.lo }, true, true)
theorem reachF_ok {fs : List Fr} {k : Nat} {way : Fr} (h : AllOk fs) (hw : FrOk way) : AllOk (reachF fs k way).1 := by
  unfold reachF
  cases hk : fs[k]? with
  | none => exact h
  | some known =>
    have hkn := h known (List.mem_of_getElem? hk)
    simp only
    split
    · exact h.set (f := { way with reached := true }) ⟨hw.lo, hw.stk, hw.depth⟩ k
    split
    · exact h
    split
    · exact h
    · exact h.set (f := { way with reached := true, lo := List.zipWith joinN known.lo way.lo }) ⟨by simp [hkn.lo, hw.lo], hw.stk, hw.depth⟩ k
theorem reachF_len (fs : List Fr) (k : Nat) (way : Fr) : (reachF fs k way).1.length = fs.length := by
  unfold reachF
  cases hk : fs[k]? with
  | none => rfl
  | some known =>
    simp only
    split
    · simp
    split
    · rfl
    split
    · rfl
    · simp
theorem reach_any (bw bf cap k : Nat) (fs : List Fr) (way : Fr) (ch : Bool) (lv : Value) (w : World) (hall : AllAt w bf fs) (hok : AllOk fs) (hk : k < fs.length) (hway : FrOk way)
    (hwalk : WalkAt w bw lv bf fs.length cap ch) (hne : bw ≠ bf) :
    Calls Tryd.prog 84 #[.pointer (some ⟨bw, 0, none⟩), .int .i64 k, .agg (frL way).toArray] w fun e w' =>
      e = .returned (.bool (reachF fs k way).2.2) ∧ AllAt w' bf (reachF fs k way).1 ∧ WalkAt w' bw lv bf fs.length cap (ch || (reachF fs k way).2.1) ∧ Two bw bf w w' := by
  obtain ⟨known, hkn⟩ : ∃ f, fs[k]? = some f := ⟨_, List.getElem?_eq_getElem hk⟩
  have hbw : bw < w.heap.size := (Array.getElem?_eq_some_iff.1 hwalk).1
  have hbf : bf < w.heap.size := (Array.getElem?_eq_some_iff.1 hall).1
  have stay : ∀ w', Below w.heap.size w w' → AllAt w' bf fs ∧ WalkAt w' bw lv bf fs.length cap (ch || false) ∧ Two bw bf w w' := fun w' hb =>
    ⟨(hb.block bf hbf).trans hall, by rw [Bool.or_false]; exact (hb.block bw hbw).trans hwalk, .of_below hb⟩
  cases hr : known.reached
  · have e : reachF fs k way = (fs.set k { way with reached := true }, true, true) := by simp [reachF, hkn, hr]
    rw [e]
    refine (reach_new bw bf cap k fs way known ch lv w hall hok hkn hway hwalk hne hr).mono ?_
    rintro x w' ⟨h1, h2, h3, h4⟩
    exact ⟨h1, h2, by rw [Bool.or_true]; exact h3, h4⟩
  by_cases hd : known.depth = way.depth
  · by_cases hst : known.stk = way.stk
    · refine (reach_join bw bf cap k fs way known ch lv w hall hok hkn hway hwalk hr hne hd hst).mono ?_
      rintro x w' ⟨h1, h4, h5⟩
      rcases h5 with ⟨h5, h2, h3⟩ | ⟨h5, h2, h3⟩
      · have e : reachF fs k way = (fs, false, true) := by
          unfold reachF; rw [hkn]; simp only
          rw [if_neg (by simp [hr]), if_neg (by simp [hd, hst]), if_pos h5]
        rw [e]
        exact ⟨h1, h2, by rw [Bool.or_false]; exact h3, h4⟩
      · have e : reachF fs k way = (fs.set k { way with reached := true, lo := List.zipWith joinN known.lo way.lo }, true, true) := by
          unfold reachF; rw [hkn]; simp only
          rw [if_neg (by simp [hr]), if_neg (by simp [hd, hst]), if_neg h5]
        rw [e]
        exact ⟨h1, h2, by rw [Bool.or_true]; exact h3, h4⟩
    · have e : reachF fs k way = (fs, false, false) := by simp [reachF, hkn, hr, hst]
      rw [e]
      refine (reach_stack bw bf cap k fs way known ch lv w hall hok hkn hway hwalk hr hd hst).mono ?_
      rintro x w' ⟨h1, hb⟩
      exact ⟨h1, stay w' hb⟩
  · have e : reachF fs k way = (fs, false, false) := by simp [reachF, hkn, hr, hd]
    rw [e]
    refine (reach_old bw bf cap k fs way known ch lv w hall hok hkn hway hwalk hr hd).mono ?_
    rintro x w' ⟨h1, hb⟩
    exact ⟨h1, stay w' hb⟩
end Go.Proofs.YtdmdpindonghdaaDoor
namespace Go.Proofs.YtdmdpindonghdaaDoor
open Go.RowKit
/-- What is known ahead of instruction k, handed on. -/
def passF (fs : List Fr) (k : Nat) (ci : CI) : List Fr × Bool × Bool :=
  match fs[k]? with
  | none => (fs, false, false)
  | some ahead =>
    if ahead.reached = false then (fs, false, true)
    else if (afterF ahead ci.ins.op ci.ins.n).wrong = true then (fs, false, false)
    else if ci.ins.op = 0 then (fs, false, true)
    else if ci.ins.op = 19 then reachF fs ci.tg (afterF ahead ci.ins.op ci.ins.n)
    else if ci.ins.op = 20 then (if (reachF fs ci.tg (afterF ahead ci.ins.op ci.ins.n)).2.2 = false then reachF fs ci.tg (afterF ahead ci.ins.op ci.ins.n)
      else ((reachF (reachF fs ci.tg (afterF ahead ci.ins.op ci.ins.n)).1 (k + 1) (afterF ahead ci.ins.op ci.ins.n)).1,
        (reachF fs ci.tg (afterF ahead ci.ins.op ci.ins.n)).2.1 || (reachF (reachF fs ci.tg (afterF ahead ci.ins.op ci.ins.n)).1 (k + 1) (afterF ahead ci.ins.op ci.ins.n)).2.1,
        (reachF (reachF fs ci.tg (afterF ahead ci.ins.op ci.ins.n)).1 (k + 1) (afterF ahead ci.ins.op ci.ins.n)).2.2))
    else reachF fs (k + 1) (afterF ahead ci.ins.op ci.ins.n)
def PassPost (bw bf cap : Nat) (fs : List Fr) (k : Nat) (ci : CI) (ch : Bool) (lv : Value) (w : World) (e : Ending) (w' : World) : Prop :=
  e = .returned (.bool (passF fs k ci).2.2) ∧ AllAt w' bf (passF fs k ci).1 ∧ WalkAt w' bw lv bf fs.length cap (ch || (passF fs k ci).2.1) ∧ Two bw bf w w'
theorem passPost_mk {bw bf cap k : Nat} {fs fs' : List Fr} {ci : CI} {ch c b : Bool} {lv : Value} {w w' : World} (h : passF fs k ci = (fs', c, b)) (h1 : AllAt w' bf fs') (h2 : WalkAt w' bw lv bf fs.length cap (ch || c)) (h3 : Two bw bf w w') :
    PassPost bw bf cap fs k ci ch lv w (.returned (.bool b)) w' := by
  unfold PassPost; rw [h]; exact ⟨rfl, h1, h2, h3⟩
set_option maxRecDepth 100000 in
set_option maxHeartbeats 1000000 in
theorem pass_new (bw bf gl cap capl k : Nat) (fs : List Fr) (cl : List CI) (ci : CI) (ahead : Fr) (ch : Bool) (w : World) (hall : AllAt w bf fs) (hok : AllOk fs) (hk : fs[k]? = some ahead) (hlen : cl.length = fs.length)
    (hwalk : WalkAt w bw (.slice (some ⟨gl, 0, none⟩) cl.length capl) bf fs.length cap ch) (hr : ahead.reached = false) :
    Calls Tryd.prog 101 #[.pointer (some ⟨bw, 0, none⟩), .int .i64 k] w (PassPost bw bf cap fs k ci ch (.slice (some ⟨gl, 0, none⟩) cl.length capl) w) := by
  have hkl : k < fs.length := (List.getElem?_eq_some_iff.1 hk).1
  have HF : Hid (passF fs k ci = (fs, false, true)) := hid (by simp [passF, hk, hr])
  have hkn : FrOk ahead := hok ahead (List.mem_of_getElem? hk)
  have HAL := hid hall
  have HWK := hid hwalk
  have w0 := cell_of_row w bw 0 _ _ _ hwalk
  have w1 := cell_of_row w bw 1 _ _ _ hwalk
  simp only [List.getElem?_toArray, List.getElem?_cons_zero, List.getElem?_cons_succ] at w0 w1
  have hbw : bw < w.heap.size := (Array.getElem?_eq_some_iff.1 hwalk).1
  have hbf : bf < w.heap.size := (Array.getElem?_eq_some_iff.1 hall).1
  have c0 := hall.cell hok hk (j := 0) (by omega)
  have c1 := hall.cell hok hk (j := 1) (by omega)
  have c2 := hall.cell hok hk (j := 2) (by omega)
  have c3 := hall.cell hok hk (j := 3) (by omega)
  have c4 := hall.cell hok hk (j := 4) (by omega)
  have c5 := hall.cell hok hk (j := 5) (by omega)
  have c6 := hall.cell hok hk (j := 6) (by omega)
  have c7 := hall.cell hok hk (j := 7) (by omega)
  have c8 := hall.cell hok hk (j := 8) (by omega)
  have c9 := hall.cell hok hk (j := 9) (by omega)
  have c10 := hall.cell hok hk (j := 10) (by omega)
  have c11 := hall.cell hok hk (j := 11) (by omega)
  have c12 := hall.cell hok hk (j := 12) (by omega)
  have c13 := hall.cell hok hk (j := 13) (by omega)
  have c14 := hall.cell hok hk (j := 14) (by omega)
  obtain ⟨kr, klo, kd, kst, kw⟩ := ahead
  obtain ⟨h1, h2, h3⟩ := hkn
  simp only at h1 h2 hr
  subst hr
  obtain ⟨a, b, c, e, rfl⟩ := four h1
  obtain ⟨s0, s1, s2, s3, s4, s5, s6, s7, rfl⟩ := eight h2
  simp only [frL, List.map_cons, List.map_nil, List.cons_append, List.nil_append, numV, List.getElem?_cons_zero, List.getElem?_cons_succ] at c0 c1 c2 c3 c4 c5 c6 c7 c8 c9 c10 c11 c12 c13 c14
  rw [Nat.add_zero] at c0
  have i0 : (0 : Int) ≤ (k : Int) := by omega
  have i1 : (k : Int) < (fs.length : Int) := by omega
  have i2 : (k : Int) < (cl.length : Int) := by omega
  have d1 : decide ((k : Int) < 0) = false := by simp
  clear hall hwalk hk hlen
  go_enter Tryd.func101, Tryd.ntmps101
  go_wp2_with fail
  go_ret
  have hb := (Below.refl w.heap.size w).alloc (Nat.le_refl _) (.cells #[.bool false, .int .i64 a, .int .i64 b, .int .i64 c, .int .i64 e, .int .i64 kd, .int .i64 s0, .int .i64 s1, .int .i64 s2, .int .i64 s3, .int .i64 s4, .int .i64 s5, .int .i64 s6, .int .i64 s7, .bool kw] 93)
  exact passPost_mk HF.out ((hb.block bf hbf).trans HAL.out) (by rw [Bool.or_false]; exact (hb.block bw hbw).trans HWK.out) (.of_below hb)
set_option maxRecDepth 100000 in
set_option maxHeartbeats 1000000 in
theorem pass_go (bw bf gl cap capl k : Nat) (fs : List Fr) (cl : List CI) (ci : CI) (ahead : Fr) (ch : Bool) (w : World) (hall : AllAt w bf fs) (hok : AllOk fs) (hk : fs[k]? = some ahead) (hlen : cl.length = fs.length)
    (hwalk : WalkAt w bw (.slice (some ⟨gl, 0, none⟩) cl.length capl) bf fs.length cap ch) (hr : ahead.reached = true) (hat : CiAt w gl cl) (hgl : gl < w.heap.size) (hci : cl[k]? = some ci) (htab : FlowTab w) (hop : ci.ins.op < 25) (hn : ci.ins.op = 7 ∨ ci.ins.op = 8 → ci.ins.n < 4) (hne : bw ≠ bf) (hle : fs.length ≤ 200) (htg : ci.ins.op = 19 ∨ ci.ins.op = 20 → ci.tg < fs.length) (hnx : ci.ins.op ≠ 0 → ci.ins.op ≠ 19 → k + 1 < fs.length) :
    Calls Tryd.prog 101 #[.pointer (some ⟨bw, 0, none⟩), .int .i64 k] w (PassPost bw bf cap fs k ci ch (.slice (some ⟨gl, 0, none⟩) cl.length capl) w) := by
  have hkl : k < fs.length := (List.getElem?_eq_some_iff.1 hk).1
  have HP : Hid (passF fs k ci = if (afterF ahead ci.ins.op ci.ins.n).wrong = true then (fs, false, false)
    else if ci.ins.op = 0 then (fs, false, true)
    else if ci.ins.op = 19 then reachF fs ci.tg (afterF ahead ci.ins.op ci.ins.n)
    else if ci.ins.op = 20 then (if (reachF fs ci.tg (afterF ahead ci.ins.op ci.ins.n)).2.2 = false then reachF fs ci.tg (afterF ahead ci.ins.op ci.ins.n)
      else ((reachF (reachF fs ci.tg (afterF ahead ci.ins.op ci.ins.n)).1 (k + 1) (afterF ahead ci.ins.op ci.ins.n)).1,
        (reachF fs ci.tg (afterF ahead ci.ins.op ci.ins.n)).2.1 || (reachF (reachF fs ci.tg (afterF ahead ci.ins.op ci.ins.n)).1 (k + 1) (afterF ahead ci.ins.op ci.ins.n)).2.1,
        (reachF (reachF fs ci.tg (afterF ahead ci.ins.op ci.ins.n)).1 (k + 1) (afterF ahead ci.ins.op ci.ins.n)).2.2))
    else reachF fs (k + 1) (afterF ahead ci.ins.op ci.ins.n)) := hid (by simp [passF, hk, hr])
  have HCI := hid (hat k ci hci)
  have hkn : FrOk ahead := hok ahead (List.mem_of_getElem? hk)
  have HAL := hid hall
  have HWK := hid hwalk
  have w0 := cell_of_row w bw 0 _ _ _ hwalk
  have w1 := cell_of_row w bw 1 _ _ _ hwalk
  simp only [List.getElem?_toArray, List.getElem?_cons_zero, List.getElem?_cons_succ] at w0 w1
  have hbw : bw < w.heap.size := (Array.getElem?_eq_some_iff.1 hwalk).1
  have hbf : bf < w.heap.size := (Array.getElem?_eq_some_iff.1 hall).1
  have c0 := hall.cell hok hk (j := 0) (by omega)
  have c1 := hall.cell hok hk (j := 1) (by omega)
  have c2 := hall.cell hok hk (j := 2) (by omega)
  have c3 := hall.cell hok hk (j := 3) (by omega)
  have c4 := hall.cell hok hk (j := 4) (by omega)
  have c5 := hall.cell hok hk (j := 5) (by omega)
  have c6 := hall.cell hok hk (j := 6) (by omega)
  have c7 := hall.cell hok hk (j := 7) (by omega)
  have c8 := hall.cell hok hk (j := 8) (by omega)
  have c9 := hall.cell hok hk (j := 9) (by omega)
  have c10 := hall.cell hok hk (j := 10) (by omega)
  have c11 := hall.cell hok hk (j := 11) (by omega)
  have c12 := hall.cell hok hk (j := 12) (by omega)
  have c13 := hall.cell hok hk (j := 13) (by omega)
  have c14 := hall.cell hok hk (j := 14) (by omega)
  obtain ⟨kr, klo, kd, kst, kw⟩ := ahead
  obtain ⟨h1, h2, h3⟩ := hkn
  simp only at h1 h2 hr
  subst hr
  obtain ⟨a, b, c, e, rfl⟩ := four h1
  obtain ⟨s0, s1, s2, s3, s4, s5, s6, s7, rfl⟩ := eight h2
  simp only [frL, List.map_cons, List.map_nil, List.cons_append, List.nil_append, numV, List.getElem?_cons_zero, List.getElem?_cons_succ] at c0 c1 c2 c3 c4 c5 c6 c7 c8 c9 c10 c11 c12 c13 c14
  rw [Nat.add_zero] at c0
  have i0 : (0 : Int) ≤ (k : Int) := by omega
  have i1 : (k : Int) < (fs.length : Int) := by omega
  have i2 : (k : Int) < (cl.length : Int) := by omega
  have d1 : decide ((k : Int) < 0) = false := by simp
  have haft := hid (fun W hW => aft_any ⟨true, [a, b, c, e], kd, [s0, s1, s2, s3, s4, s5, s6, s7], kw⟩ ci.ins.op ci.ins.n ci.ins.place ci.tg W ⟨rfl, rfl, h3⟩ hop hn hW)
  have hgok : FrOk (afterF ⟨true, [a, b, c, e], kd, [s0, s1, s2, s3, s4, s5, s6, s7], kw⟩ ci.ins.op ci.ins.n) := afterF_ok ⟨rfl, rfl, h3⟩ _ _
  have HG : Hid (afterF ⟨true, [a, b, c, e], kd, [s0, s1, s2, s3, s4, s5, s6, s7], kw⟩ ci.ins.op ci.ins.n = afterF ⟨true, [a, b, c, e], kd, [s0, s1, s2, s3, s4, s5, s6, s7], kw⟩ ci.ins.op ci.ins.n) := hid rfl
  unfold AftPost at haft
  generalize hGG : afterF ⟨true, [a, b, c, e], kd, [s0, s1, s2, s3, s4, s5, s6, s7], kw⟩ ci.ins.op ci.ins.n = G at haft hgok
  have HGG := hid hGG
  clear hGG HG
  obtain ⟨r', lo', d', st', wg'⟩ := G
  have HGOK := hid hgok
  obtain ⟨j1, j2, j3⟩ := hgok
  simp only at j1 j2
  obtain ⟨a', b', c', e', rfl⟩ := four j1
  obtain ⟨t0, t1, t2, t3, t4, t5, t6, t7, rfl⟩ := eight j2
  simp only [frL, List.map_cons, List.map_nil, List.cons_append, List.nil_append, numV] at haft
  obtain ⟨x0, x1, x2, x3⟩ := HCI.out
  have hgl2 : gl ≤ w.heap.size := by omega
  have HTAB := hid htab
  rw [HGG.out] at HP
  have HOP := hid hop
  clear hall hwalk hk hlen htab hat hci
  go_enter Tryd.func101, Tryd.ntmps101
  go_upto_region 7 with fail
  go_cut [7, 8] (fun x7 x8 wc => ∃ B : Nat, x7 = .pointer (some ⟨B, 0, none⟩) ∧ x8 = .bool (!wg') ∧ w.heap.size + 1 + 1 ≤ B ∧ wc.heap[B]? = some (.cells #[.bool r', .int .i64 a', .int .i64 b', .int .i64 c', .int .i64 e', .int .i64 d', .int .i64 t0, .int .i64 t1, .int .i64 t2, .int .i64 t3, .int .i64 t4, .int .i64 t5, .int .i64 t6, .int .i64 t7, .bool wg'] 93) ∧
    wc.heap[w.heap.size + 1]? = some (.cells #[.int .i64 ci.ins.place, .int .i64 ci.ins.op, .int .i64 ci.ins.n, .int .i64 ci.tg] 98) ∧ Below w.heap.size w wc)
  case first =>
    go_wp2_with fail
    refine (haft.out _ (HTAB.out.below (((Below.refl _ _).alloc (Nat.le_refl _) _).alloc (by simp) _))).mono ?_
    intro x w5 hh
    obtain ⟨hb5, hx5⟩ := hh
    subst x
    go_wp2_with fail
    go_meet
    have hz5 := hb5.size
    rw [alloc_size, alloc_size] at hz5
    refine ⟨_, rfl, rfl, hz5, heap_alloc_new _ _, ?_, ?_⟩
    · rw [Below.heap_alloc _ _ _ (by omega), hb5.block _ (by rw [alloc_size, alloc_size]; omega)]
      exact heap_two_new w _ _
    · exact ((((Below.refl _ _).alloc (Nat.le_refl _) _).alloc (by simp) _).trans (hb5.mono (by simp; omega))).alloc (by omega) _
  case rest =>
    obtain ⟨B, rfl, rfl, hB, hrow, hin, hbel⟩ := hcut
    have hA : AllAt wc bf fs := (hbel.block bf hbf).trans HAL.out
    have hW : WalkAt wc bw (.slice (some ⟨gl, 0, none⟩) cl.length capl) bf fs.length cap ch := (hbel.block bw hbw).trans HWK.out
    have m0 := cell_of_row wc B 0 _ _ _ hrow
    have m1 := cell_of_row wc B 1 _ _ _ hrow
    have m2 := cell_of_row wc B 2 _ _ _ hrow
    have m3 := cell_of_row wc B 3 _ _ _ hrow
    have m4 := cell_of_row wc B 4 _ _ _ hrow
    have m5 := cell_of_row wc B 5 _ _ _ hrow
    have m6 := cell_of_row wc B 6 _ _ _ hrow
    have m7 := cell_of_row wc B 7 _ _ _ hrow
    have m8 := cell_of_row wc B 8 _ _ _ hrow
    have m9 := cell_of_row wc B 9 _ _ _ hrow
    have m10 := cell_of_row wc B 10 _ _ _ hrow
    have m11 := cell_of_row wc B 11 _ _ _ hrow
    have m12 := cell_of_row wc B 12 _ _ _ hrow
    have m13 := cell_of_row wc B 13 _ _ _ hrow
    have m14 := cell_of_row wc B 14 _ _ _ hrow
    have n0 := cell_of_row wc (w.heap.size + 1) 0 _ _ _ hin
    have n1 := cell_of_row wc (w.heap.size + 1) 1 _ _ _ hin
    have n2 := cell_of_row wc (w.heap.size + 1) 2 _ _ _ hin
    have n3 := cell_of_row wc (w.heap.size + 1) 3 _ _ _ hin
    simp only [List.getElem?_toArray, List.getElem?_cons_zero, List.getElem?_cons_succ] at m0 m1 m2 m3 m4 m5 m6 m7 m8 m9 m10 m11 m12 m13 m14 n0 n1 n2 n3
    have HA := hid hA
    have HW := hid hW
    clear hA hW haft c0 c1 c2 c3 c4 c5 c6 c7 c8 c9 c10 c11 c12 c13 c14 w0 w1 x0 x1 x2 x3
    cases wg'
    case true =>
      have HF : Hid (passF fs k ci = (fs, false, false)) := hid (by rw [HP.out, if_pos rfl])
      go_wp2_with fail
      go_ret
      exact passPost_mk HF.out HA.out (by rw [Bool.or_false]; exact HW.out) (.of_below hbel)
    case false =>
      by_cases o0 : ci.ins.op = 0
      · have q0 : ((ci.ins.op : Int) == 0) = true := by simp; omega
        have HF : Hid (passF fs k ci = (fs, false, true)) := hid (by rw [HP.out, if_neg (by simp), if_pos o0])
        clear o0
        go_wp2_with fail
        go_ret
        exact passPost_mk HF.out HA.out (by rw [Bool.or_false]; exact HW.out) (.of_below hbel)
      have q0 : ((ci.ins.op : Int) == 0) = false := by simp; omega
      by_cases o19 : ci.ins.op = 19
      · have q1 : ((ci.ins.op : Int) == 19) = true := by simp; omega
        have HF : Hid (passF fs k ci = reachF fs ci.tg ⟨r', [a', b', c', e'], d', [t0, t1, t2, t3, t4, t5, t6, t7], false⟩) := hid (by rw [HP.out, if_neg (by simp), if_neg o0, if_pos o19])
        have hrc := hid (reach_any bw bf cap ci.tg fs ⟨r', [a', b', c', e'], d', [t0, t1, t2, t3, t4, t5, t6, t7], false⟩ ch _ wc HA.out hok (htg (.inl o19)) HGOK.out HW.out hne)
        simp only [frL, List.map_cons, List.map_nil, List.cons_append, List.nil_append, numV] at hrc
        clear o0 o19
        go_wp2_with fail
        refine hrc.out.mono ?_
        clear hrc
        intro x w6 hh
        obtain ⟨hx6, hA6, hW6, hT6⟩ := hh
        subst x
        go_wp2_with fail
        go_ret
        exact passPost_mk HF.out hA6 hW6 ((Two.of_below hbel).trans hT6)
      have q1 : ((ci.ins.op : Int) == 19) = false := by simp; omega
      have hnx2 := hnx o0 o19
      by_cases o20 : ci.ins.op = 20
      · have q2 : ((ci.ins.op : Int) == 20) = true := by simp; omega
        have HF : Hid (passF fs k ci = if (reachF fs ci.tg ⟨r', [a', b', c', e'], d', [t0, t1, t2, t3, t4, t5, t6, t7], false⟩).2.2 = false then reachF fs ci.tg ⟨r', [a', b', c', e'], d', [t0, t1, t2, t3, t4, t5, t6, t7], false⟩ else ((reachF (reachF fs ci.tg ⟨r', [a', b', c', e'], d', [t0, t1, t2, t3, t4, t5, t6, t7], false⟩).1 (k + 1) ⟨r', [a', b', c', e'], d', [t0, t1, t2, t3, t4, t5, t6, t7], false⟩).1, (reachF fs ci.tg ⟨r', [a', b', c', e'], d', [t0, t1, t2, t3, t4, t5, t6, t7], false⟩).2.1 || (reachF (reachF fs ci.tg ⟨r', [a', b', c', e'], d', [t0, t1, t2, t3, t4, t5, t6, t7], false⟩).1 (k + 1) ⟨r', [a', b', c', e'], d', [t0, t1, t2, t3, t4, t5, t6, t7], false⟩).2.1, (reachF (reachF fs ci.tg ⟨r', [a', b', c', e'], d', [t0, t1, t2, t3, t4, t5, t6, t7], false⟩).1 (k + 1) ⟨r', [a', b', c', e'], d', [t0, t1, t2, t3, t4, t5, t6, t7], false⟩).2.2)) := hid (by rw [HP.out, if_neg (by simp), if_neg o0, if_neg o19, if_pos o20])
        have hrc := hid (reach_any bw bf cap ci.tg fs ⟨r', [a', b', c', e'], d', [t0, t1, t2, t3, t4, t5, t6, t7], false⟩ ch _ wc HA.out hok (htg (.inr o20)) HGOK.out HW.out hne)
        have hok2 := reachF_ok (k := ci.tg) (way := ⟨r', [a', b', c', e'], d', [t0, t1, t2, t3, t4, t5, t6, t7], false⟩) hok HGOK.out
        have hln2 := reachF_len fs ci.tg ⟨r', [a', b', c', e'], d', [t0, t1, t2, t3, t4, t5, t6, t7], false⟩
        simp only [frL, List.map_cons, List.map_nil, List.cons_append, List.nil_append, numV] at hrc
        generalize reachF fs ci.tg ⟨r', [a', b', c', e'], d', [t0, t1, t2, t3, t4, t5, t6, t7], false⟩ = R1 at *
        obtain ⟨fs1, ch1, ok1⟩ := R1
        simp only at hok2 hln2 hrc HF
        clear o0 o19 o20
        go_wp2_with fail
        refine hrc.out.mono ?_
        clear hrc
        intro x w6 hh
        obtain ⟨hx6, hA6, hW6, hT6⟩ := hh
        subst x
        cases ok1
        · have HF2 : Hid (passF fs k ci = (fs1, ch1, false)) := hid (by rw [HF.out, if_pos rfl])
          go_wp2_with fail
          go_ret
          exact passPost_mk HF2.out hA6 hW6 ((Two.of_below hbel).trans hT6)
        · have HF2 : Hid (passF fs k ci = ((reachF fs1 (k + 1) ⟨r', [a', b', c', e'], d', [t0, t1, t2, t3, t4, t5, t6, t7], false⟩).1, ch1 || (reachF fs1 (k + 1) ⟨r', [a', b', c', e'], d', [t0, t1, t2, t3, t4, t5, t6, t7], false⟩).2.1, (reachF fs1 (k + 1) ⟨r', [a', b', c', e'], d', [t0, t1, t2, t3, t4, t5, t6, t7], false⟩).2.2)) := hid (by rw [HF.out, if_neg (by simp)])
          have hBz : B < wc.heap.size := (Array.getElem?_eq_some_iff.1 hrow).1
          have hrow6 := (hT6.block B hBz (by omega) (by omega)).trans hrow
          clear m0 m1 m2 m3 m4 m5 m6 m7 m8 m9 m10 m11 m12 m13 m14
          have m0 := cell_of_row w6 B 0 _ _ _ hrow6
          have m1 := cell_of_row w6 B 1 _ _ _ hrow6
          have m2 := cell_of_row w6 B 2 _ _ _ hrow6
          have m3 := cell_of_row w6 B 3 _ _ _ hrow6
          have m4 := cell_of_row w6 B 4 _ _ _ hrow6
          have m5 := cell_of_row w6 B 5 _ _ _ hrow6
          have m6 := cell_of_row w6 B 6 _ _ _ hrow6
          have m7 := cell_of_row w6 B 7 _ _ _ hrow6
          have m8 := cell_of_row w6 B 8 _ _ _ hrow6
          have m9 := cell_of_row w6 B 9 _ _ _ hrow6
          have m10 := cell_of_row w6 B 10 _ _ _ hrow6
          have m11 := cell_of_row w6 B 11 _ _ _ hrow6
          have m12 := cell_of_row w6 B 12 _ _ _ hrow6
          have m13 := cell_of_row w6 B 13 _ _ _ hrow6
          have m14 := cell_of_row w6 B 14 _ _ _ hrow6
          simp only [List.getElem?_toArray, List.getElem?_cons_zero, List.getElem?_cons_succ] at m0 m1 m2 m3 m4 m5 m6 m7 m8 m9 m10 m11 m12 m13 m14
          rw [← hln2] at hW6
          have hrc2 := hid (reach_any bw bf cap (k + 1) fs1 ⟨r', [a', b', c', e'], d', [t0, t1, t2, t3, t4, t5, t6, t7], false⟩ (ch || ch1) _ w6 hA6 hok2 (by omega) HGOK.out hW6 hne)
          simp only [frL, List.map_cons, List.map_nil, List.cons_append, List.nil_append, numV] at hrc2
          rw [show (((k + 1 : Nat)) : Int) = (k : Int) + 1 by omega] at hrc2
          have hk200 : (k : Int) + 1 ≤ 200 := by omega
          have HLN := hid hln2
          clear hA6 hW6 hln2
          go_wp2_with fail
          refine hrc2.out.mono ?_
          clear hrc2
          intro x w7 hh
          obtain ⟨hx7, hA7, hW7, hT7⟩ := hh
          subst x
          go_wp2_with fail
          go_ret
          exact passPost_mk HF2.out hA7 (by rw [← HLN.out, ← Bool.or_assoc]; exact hW7) (((Two.of_below hbel).trans hT6).trans hT7)
      have q2 : ((ci.ins.op : Int) == 20) = false := by simp; omega
      have HF : Hid (passF fs k ci = reachF fs (k + 1) ⟨r', [a', b', c', e'], d', [t0, t1, t2, t3, t4, t5, t6, t7], false⟩) := hid (by rw [HP.out, if_neg (by simp), if_neg o0, if_neg o19, if_neg o20])
      have hrc := hid (reach_any bw bf cap (k + 1) fs ⟨r', [a', b', c', e'], d', [t0, t1, t2, t3, t4, t5, t6, t7], false⟩ ch _ wc HA.out hok hnx2 HGOK.out HW.out hne)
      simp only [frL, List.map_cons, List.map_nil, List.cons_append, List.nil_append, numV] at hrc
      clear o0 o19 o20
      rw [show (((k + 1 : Nat)) : Int) = (k : Int) + 1 by omega] at hrc
      have hk200 : (k : Int) + 1 ≤ 200 := by omega
      go_wp2_with fail
      refine hrc.out.mono ?_
      clear hrc
      intro x w6 hh
      obtain ⟨hx6, hA6, hW6, hT6⟩ := hh
      subst x
      go_wp2_with fail
      go_ret
      exact passPost_mk HF.out hA6 hW6 ((Two.of_below hbel).trans hT6)
end Go.Proofs.YtdmdpindonghdaaDoor
namespace Go.Proofs.YtdmdpindonghdaaDoor
open Go.RowKit
/-- The type of local j. -/
def lk (b : ByteArray) (j : Nat) : Nat := kindN (byteAt b j)
structure Wit (R : ByteArray → ByteArray → Prop) (f : Fr) : Prop where
  wrong : f.wrong = false
  one : ∃ lo st, R lo st ∧ Stk f (tl st)
  lo : ∀ j, j < 4 → (∃ lo st, R lo st ∧ f.lo.getD j 0 = lk lo j) ∨ (f.lo.getD j 0 = 2 ∧ ∃ lo st lo' st', R lo st ∧ R lo' st' ∧ lk lo j ≠ lk lo' j)
theorem Wit.mono {R R' : ByteArray → ByteArray → Prop} {f : Fr} (h : Wit R f) (hr : ∀ lo st, R lo st → R' lo st) : Wit R' f := by
  refine ⟨h.wrong, ?_, fun j hj => ?_⟩
  · obtain ⟨lo, st, a, b⟩ := h.one
    exact ⟨lo, st, hr _ _ a, b⟩
  · rcases h.lo j hj with ⟨lo, st, a, b⟩ | ⟨a, lo, st, lo', st', b, c, d⟩
    · exact .inl ⟨lo, st, hr _ _ a, b⟩
    · exact .inr ⟨a, lo, st, lo', st', hr _ _ b, hr _ _ c, d⟩
def At (l : List Ins) (L k : Nat) (lo st : ByteArray) : Prop := Reach l L ⟨k, lo, st⟩
def Sound (l : List Ins) (L : Nat) (fs : List Fr) : Prop := ∀ k f, fs[k]? = some f → f.reached = true → Wit (At l L k) f
theorem reach_ok {l : List Ins} {L : Nat} (hw : Wf l L) {p : Pt} (h : Reach l L p) : Okp l L p := by
  obtain ⟨n, hn⟩ := h
  induction n generalizing p with
  | zero => rw [show p = initP L from hn]; exact init_ok hw
  | succ n ih =>
    obtain ⟨q, ss, h1, h2, h3⟩ := hn
    exact step_ok hw (ih h1) h2 h3
theorem kindN_inj {l : List Ins} {L n : Nat} {p q : Pt} (hp : Okp l L p) (hq : Okp l L q) (hn : n < L) (h : lk p.lo n = lk q.lo n) : byteAt p.lo n = byteAt q.lo n := by
  obtain ⟨c, c1, c2, _⟩ := tl_get (b := p.lo) (n := n) (by rw [hp.lo]; exact hn)
  obtain ⟨d, d1, d2, _⟩ := tl_get (b := q.lo) (n := n) (by rw [hq.lo]; exact hn)
  unfold lk at h
  rw [c2, d2] at h ⊢
  rw [code8_inj (hp.llo c (List.mem_of_getElem? c1)) (hq.llo d (List.mem_of_getElem? d1)) h]
theorem calm_st {i : Ins} {p q : Pt} (h : clashB i p q = false) (he : p.at_ = q.at_) : p.st = q.st ∧ (i.op = 7 → byteAt p.lo i.n = byteAt q.lo i.n) := by
  simp only [clashB, he, beq_self_eq_true, Bool.true_and, Bool.or_eq_false_iff, Bool.not_eq_false', decide_eq_true_eq, Bool.and_eq_false_iff, beq_eq_false_iff_ne, beq_iff_eq] at h
  refine ⟨h.1.symm, fun h7 => ?_⟩
  rcases h.2 with h2 | h2
  · exact absurd h7 h2
  · exact h2.symm
theorem store_tl {lo st : ByteArray} {n : Nat} (hn : n < lo.size) (hp : 1 ≤ st.size) : ∃ c, byteAt st (st.size - 1) = c.toNat ∧ tl (lo.extract 0 n ++ st.extract (st.size - 1) st.size ++ lo.extract (n + 1) lo.size) = (tl lo).set n c := by
  rcases nil_or_snoc (tl st) with e | ⟨s0, d, e⟩
  · have : st.size = 0 := by rw [← tl_len, e]; rfl
    omega
  · obtain ⟨z, z1, z2, z3⟩ := tl_last e
    refine ⟨d, z3, ?_⟩
    rw [tl_append, tl_append, z1, tl_extract, tl_extract]
    have hl : n < (tl lo).length := hn
    rw [List.set_eq_take_append_cons_drop, if_pos hl, show lo.size = (tl lo).length from rfl]
    rw [List.take_of_length_le (l := (tl lo).drop (n + 1)) (by simp)]
    simp
theorem aft_lk {f : Fr} {lo st : ByteArray} {op n : Nat} (h : Ago f lo st op n) (hn : op = 8 → n < lo.size) (j : Nat) : lk (afterV lo st op n).1 j = if op = 8 ∧ j = n then kindN (byteAt st (st.size - 1)) else lk lo j := by
  rw [h.lv]
  by_cases e8 : op = 8
  · rw [if_pos e8]
    obtain ⟨c, c1, c2⟩ := store_tl (hn e8) (h.pos e8)
    have hb : ∀ b : ByteArray, byteAt b j = ((tl b).getD j 0).toNat := fun _ => rfl
    unfold lk
    rw [hb, c2, List.getD_eq_getElem?_getD, List.getElem?_set]
    by_cases hj : j = n
    · subst hj
      rw [if_pos rfl, if_pos (show j < (tl lo).length from hn e8), if_pos ⟨e8, rfl⟩, c1]; rfl
    · rw [if_neg (fun e => hj e.symm), if_neg (fun e => hj e.2), ← List.getD_eq_getElem?_getD]; rfl
  · rw [if_neg e8, if_neg (fun e => e8 e.1)]
theorem loAft_get {lo : List Nat} {st : ByteArray} {op n : Nat} (hl : op = 8 → n < lo.length) (j : Nat) : (loAft lo st op n).getD j 0 = if op = 8 ∧ j = n then kindN (byteAt st (st.size - 1)) else lo.getD j 0 := by
  unfold loAft
  by_cases e8 : op = 8
  · rw [if_pos e8, List.getD_eq_getElem?_getD, List.getElem?_set]
    by_cases hj : j = n
    · subst hj
      rw [if_pos rfl, if_pos (hl e8), if_pos ⟨e8, rfl⟩]; rfl
    · rw [if_neg (fun e => hj e.symm), if_neg (fun e => hj e.2), ← List.getD_eq_getElem?_getD]
  · rw [if_neg e8, if_neg (fun e => e8 e.1)]
/-- Where the code is well typed, a frame that is found on some way is good for every point there. -/
theorem ago_all {l : List Ins} {L k : Nat} (hw : Wf l L) (hwt : WT l L) {i : Ins} (hi : l[k]? = some i) {f : Fr} (hf : Wit (At l L k) f) {lo st : ByteArray} (hr : At l L k lo st) : Ago f lo st i.op i.n := by
  have hm : i ∈ l := List.mem_of_getElem? hi
  have hok := reach_ok hw hr
  have calm : ∀ lo' st', At l L k lo' st' → st' = st ∧ (i.op = 7 → byteAt lo' i.n = byteAt lo i.n) := fun lo' st' h' =>
    calm_st (p := ⟨k, lo', st'⟩) (q := ⟨k, lo, st⟩) (hwt.2 _ _ i h' hr rfl hi) rfl
  have hL := hw.loc
  have harg := hw.arg i hm
  have hlo : lo.size = L := hok.lo
  obtain ⟨lo0, st0, h0, hs0⟩ := hf.one
  rw [(calm _ _ h0).1] at hs0
  have h7 : i.op = 7 → f.lo.getD i.n 0 = kindN (byteAt lo i.n) := by
    intro e7
    have hn := harg (.inl e7)
    rcases hf.lo i.n (by omega) with ⟨lo1, st1, h1, e1⟩ | ⟨_, lo1, st1, lo2, st2, h1, h2, e1⟩
    · rw [e1]; unfold lk; rw [(calm _ _ h1).2 e7]
    · exfalso; apply e1
      unfold lk
      rw [(calm _ _ h1).2 e7, (calm _ _ h2).2 e7]
  rcases aft_both hs0 hf.wrong hok.lst (fun h => by rw [hlo]; exact harg h) (by omega) h7 with h | h
  · exact h
  · exfalso
    have := hwt.1 _ hr
    rw [stepP_eq (p := ⟨k, lo, st⟩) hi, if_pos h.1] at this
    exact this rfl
/-- What is found behind instruction i, at k. -/
def Behind (l : List Ins) (L k : Nat) (i : Ins) (lo st : ByteArray) : Prop := ∃ lo0 st0, At l L k lo0 st0 ∧ (afterV lo0 st0 i.op i.n).2.2 = true ∧ (afterV lo0 st0 i.op i.n).2.1.size ≤ 8 ∧ lo = (afterV lo0 st0 i.op i.n).1 ∧ st = (afterV lo0 st0 i.op i.n).2.1
theorem wit_step {l : List Ins} {L k : Nat} (hw : Wf l L) (hwt : WT l L) {i : Ins} (hi : l[k]? = some i) {f : Fr} (hok : FrOk f) (hf : Wit (At l L k) f) : Wit (Behind l L k i) (afterF f i.op i.n) := by
  have hm : i ∈ l := List.mem_of_getElem? hi
  have harg := hw.arg i hm
  have hL := hw.loc
  have hall : ∀ lo st, At l L k lo st → Ago f lo st i.op i.n ∧ Behind l L k i (afterV lo st i.op i.n).1 (afterV lo st i.op i.n).2.1 ∧ ∀ j, lk (afterV lo st i.op i.n).1 j = if i.op = 8 ∧ j = i.n then kindN (byteAt st (st.size - 1)) else lk lo j := fun lo st h =>
    have ha := ago_all hw hwt hi hf h
    ⟨ha, ⟨lo, st, h, ha.ok, ha.sm, rfl, rfl⟩, aft_lk ha (fun e => by rw [(reach_ok hw h).lo]; exact harg (.inr e))⟩
  obtain ⟨lo0, st0, h0, hs0⟩ := hf.one
  obtain ⟨g0, b0, k0⟩ := hall _ _ h0
  refine ⟨g0.wr, ⟨_, _, b0, g0.sk⟩, fun j hj => ?_⟩
  rw [g0.fl, loAft_get (fun e => by have := harg (.inr e); rw [hok.lo]; omega)]
  by_cases hc : i.op = 8 ∧ j = i.n
  · rw [if_pos hc]
    refine .inl ⟨_, _, b0, ?_⟩
    rw [k0, if_pos hc]
  · rw [if_neg hc]
    rcases hf.lo j hj with ⟨lo1, st1, h1, e1⟩ | ⟨e2, lo1, st1, lo2, st2, h1, h2, e1⟩
    · obtain ⟨_, b1, k1⟩ := hall _ _ h1
      exact .inl ⟨_, _, b1, by rw [k1, if_neg hc]; exact e1⟩
    · obtain ⟨_, b1, k1⟩ := hall _ _ h1
      obtain ⟨_, b2, k2⟩ := hall _ _ h2
      exact .inr ⟨e2, _, _, _, _, b1, b2, by rw [k1, k2, if_neg hc, if_neg hc]; exact e1⟩
theorem zip_get {a b : List Nat} (ha : a.length = 4) (hb : b.length = 4) {j : Nat} (hj : j < 4) : (List.zipWith joinN a b).getD j 0 = joinN (a.getD j 0) (b.getD j 0) := by
  have h1 : j < a.length := by omega
  have h2 : j < b.length := by omega
  simp [List.getD_eq_getElem?_getD, List.getElem?_zipWith, List.getElem?_eq_getElem h1, List.getElem?_eq_getElem h2]
theorem reach_sound {l : List Ins} {L k : Nat} (hwt : WT l L) {fs : List Fr} {way : Fr} (hok : AllOk fs) (hway : FrOk way) (hs : Sound l L fs) (hlen : fs.length = l.length) (hk : k < fs.length) (h : Wit (At l L k) way) :
    (reachF fs k way).2.2 = true ∧ Sound l L (reachF fs k way).1 := by
  have hset : ∀ g : Fr, Wit (At l L k) g → Sound l L (fs.set k g) := by
    intro g hg m f hm hr
    rw [List.getElem?_set] at hm
    by_cases e : k = m
    · subst e
      rw [if_pos rfl, if_pos hk] at hm
      cases hm; exact hg
    · rw [if_neg e] at hm
      exact hs m f hm hr
  have hkn : fs[k]? = some fs[k] := List.getElem?_eq_getElem hk
  unfold reachF
  rw [hkn]
  simp only
  by_cases hr : fs[k].reached = false
  · rw [if_pos hr]
    exact ⟨rfl, hset _ ⟨h.wrong, by obtain ⟨a, b, c, d⟩ := h.one; exact ⟨a, b, c, ⟨d.le, d.depth, d.stk⟩⟩, h.lo⟩⟩
  rw [if_neg hr]
  have hr' : fs[k].reached = true := by simpa using hr
  have hknw := hs k _ hkn hr'
  have hkok := hok _ (List.getElem_mem hk)
  obtain ⟨lo1, st1, a1, b1⟩ := hknw.one
  obtain ⟨lo2, st2, a2, b2⟩ := h.one
  have hk2 : k < l.length := by omega
  have est : st1 = st2 := (calm_st (p := ⟨k, lo1, st1⟩) (q := ⟨k, lo2, st2⟩) (hwt.2 _ _ _ a1 a2 rfl (List.getElem?_eq_getElem hk2)) rfl).1
  rw [est] at b1
  rw [if_neg (by
    rintro (e | e)
    · exact e (b1.depth.trans b2.depth.symm)
    · exact e (b1.stk.trans b2.stk.symm))]
  by_cases hj : fs[k].lo = List.zipWith joinN fs[k].lo way.lo
  · rw [if_pos hj]; exact ⟨rfl, hs⟩
  rw [if_neg hj]
  refine ⟨rfl, hset _ ⟨h.wrong, ⟨lo2, st2, a2, ⟨b2.le, b2.depth, b2.stk⟩⟩, fun j hj4 => ?_⟩⟩
  simp only
  rw [zip_get hkok.lo hway.lo hj4]
  by_cases e : fs[k].lo.getD j 0 = way.lo.getD j 0
  · rw [joinN_eq e]; exact hknw.lo j hj4
  rw [joinN_ne e]
  refine .inr ⟨rfl, ?_⟩
  rcases hknw.lo j hj4 with ⟨lo3, st3, h3, e3⟩ | ⟨_, t⟩
  · rcases h.lo j hj4 with ⟨lo4, st4, h4, e4⟩ | ⟨_, t⟩
    · exact ⟨lo3, st3, lo4, st4, h3, h4, by rw [← e3, ← e4]; exact e⟩
    · exact t
  · exact t
theorem aims_get {l : List Ins} {k : Nat} {i : Ins} (h : l[k]? = some i) : (aims l)[k]? = some ⟨i, aimOf l i⟩ := by
  unfold aims; rw [List.getElem?_map, h]; rfl
/-- A point behind instruction i, at k, is reached at each next instruction. -/
theorem behind_jump {l : List Ins} {L k : Nat} {i : Ins} (hi : l[k]? = some i) (hj : i.op = 19 ∨ i.op = 20) {lo st : ByteArray} (h : Behind l L k i lo st) : At l L (aimOf l i) lo st := by
  obtain ⟨lo0, st0, h0, e1, e2, rfl, rfl⟩ := h
  have hjj : isJump i.op = true := by unfold isJump; rcases hj with e | e <;> rw [e] <;> rfl
  refine Reach.step h0 (stepP_eq (p := ⟨k, lo0, st0⟩) hi ▸ if_neg (by rintro (e | e); · rw [e1] at e; cases e
                                                                      · simp only at e; omega)) ?_
  rw [if_pos hjj, List.mem_append]
  refine .inl ?_
  rw [List.mem_singleton, show aimOf l i = (findP i.n l 0).toNat by unfold aimOf; rw [if_pos hjj]]
theorem behind_next {l : List Ins} {L k : Nat} {i : Ins} (hi : l[k]? = some i) (hj : i.op ≠ 0 ∧ i.op ≠ 19) {lo st : ByteArray} (h : Behind l L k i lo st) : At l L (k + 1) lo st := by
  obtain ⟨lo0, st0, h0, e1, e2, rfl, rfl⟩ := h
  refine Reach.step h0 (stepP_eq (p := ⟨k, lo0, st0⟩) hi ▸ if_neg (by rintro (e | e); · rw [e1] at e; cases e
                                                                      · simp only at e; omega)) ?_
  rw [List.mem_append, if_pos hj]
  exact .inr (by rw [List.mem_singleton])
theorem aim_lt {l : List Ins} {L : Nat} (hw : Wf l L) {i : Ins} (hm : i ∈ l) (hj : i.op = 19 ∨ i.op = 20) : aimOf l i < l.length := by
  have hjj : isJump i.op = true := by unfold isJump; rcases hj with e | e <;> rw [e] <;> rfl
  have h0 := hw.jump i hm hjj
  have h1 := findP_lt _ l 0 h0
  unfold aimOf; rw [if_pos hjj]; omega
theorem next_lt {l : List Ins} {L k : Nat} (hw : Wf l L) {i : Ins} (hi : l[k]? = some i) (hj : i.op ≠ 0 ∧ i.op ≠ 19) : k + 1 < l.length := by
  have hk := (List.getElem?_eq_some_iff.1 hi).1
  rcases Nat.lt_or_ge (k + 1) l.length with h | h
  · exact h
  · exfalso
    have hlast := hw.last
    have h1 : lastOp l = i.op := by
      unfold lastOp
      rw [List.getLast?_eq_getElem?, show l.length - 1 = k by omega, hi]
      rfl
    simp [endsOk, h1] at hlast
    omega
theorem pass_sound {l : List Ins} {L k : Nat} (hw : Wf l L) (hwt : WT l L) {fs : List Fr} (hok : AllOk fs) (hs : Sound l L fs) (hlen : fs.length = l.length) {i : Ins} (hi : l[k]? = some i) :
    (passF fs k ⟨i, aimOf l i⟩).2.2 = true ∧ Sound l L (passF fs k ⟨i, aimOf l i⟩).1 := by
  have hk := (List.getElem?_eq_some_iff.1 hi).1
  have hm : i ∈ l := List.mem_of_getElem? hi
  have hkn : fs[k]? = some (fs[k]'(by omega)) := List.getElem?_eq_getElem (by omega)
  have hkok := hok _ (List.mem_of_getElem? hkn)
  generalize fs[k]'(by omega) = ahead at hkn hkok
  unfold passF
  rw [hkn]
  simp only
  by_cases hr : ahead.reached = false
  · rw [if_pos hr]; exact ⟨rfl, hs⟩
  rw [if_neg hr]
  have hst := wit_step hw hwt hi hkok (hs k _ hkn (by simpa using hr))
  have haok := afterF_ok hkok i.op i.n
  rw [if_neg (by rw [hst.wrong]; simp)]
  by_cases o0 : i.op = 0
  · rw [if_pos o0]; exact ⟨rfl, hs⟩
  rw [if_neg o0]
  by_cases o19 : i.op = 19
  · rw [if_pos o19]
    exact reach_sound hwt hok haok hs hlen (by rw [hlen]; exact aim_lt hw hm (.inl o19)) (hst.mono fun _ _ h => behind_jump hi (.inl o19) h)
  rw [if_neg o19]
  have hnx := next_lt hw hi ⟨o0, o19⟩
  by_cases o20 : i.op = 20
  · rw [if_pos o20]
    obtain ⟨a, b⟩ := reach_sound hwt hok haok hs hlen (by rw [hlen]; exact aim_lt hw hm (.inr o20)) (hst.mono fun _ _ h => behind_jump hi (.inr o20) h)
    rw [if_neg (by rw [a]; simp)]
    exact reach_sound hwt (reachF_ok hok haok) haok b (by rw [reachF_len]; exact hlen) (by rw [reachF_len]; omega) (hst.mono fun _ _ h => behind_next hi ⟨o0, o19⟩ h)
  rw [if_neg o20]
  exact reach_sound hwt hok haok hs hlen (by omega) (hst.mono fun _ _ h => behind_next hi ⟨o0, o19⟩ h)
end Go.Proofs.YtdmdpindonghdaaDoor
