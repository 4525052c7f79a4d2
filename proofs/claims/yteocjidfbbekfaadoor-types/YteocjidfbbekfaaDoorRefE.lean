/- The contract of the reference's Ways. -/
import Derived.Test.YteocjidfbbekfaaDoorSpecD
import Derived.Test.YteocjidfbbekfaaDoorRefA
import Derived.Test.YteocjidfbbekfaaDoorRefC
import Derived.Test.YteocjidfbbekfaaDoorRefD
import Derived.Deep.RegionHeld3
import Derived.Deep.DeepCutAuto
import Derived.Deep.LoopGhost
namespace Go.Proofs.YteocjidfbbekfaaDoor
open Go.RowKit

theorem InsAt.get {w : World} {g : Nat} {l : List Ins} (h : InsAt w g l) {a : Nat} {i : Ins} (hi : l[a]? = some i) :
    w.cell? ⟨g, a * 3, none⟩ = some (.int .i64 i.op) ∧ w.cell? ⟨g, a * 3 + 1, none⟩ = some (.int .i64 i.n) ∧ w.cell? ⟨g, a * 3 + 2, none⟩ = some (.int .i64 i.place) := by
  obtain ⟨h1, rfl⟩ := List.getElem?_eq_some_iff.1 hi
  exact h a h1
theorem PtAt.get {w : World} {g : Nat} {l : List Pt} (h : PtAt w g l) {a : Nat} {i : Pt} (hi : l[a]? = some i) :
    w.cell? ⟨g, a * 3, none⟩ = some (.int .i64 i.at_) ∧ w.cell? ⟨g, a * 3 + 1, none⟩ = some (.string i.lo) ∧ w.cell? ⟨g, a * 3 + 2, none⟩ = some (.string i.st) := by
  obtain ⟨h1, rfl⟩ := List.getElem?_eq_some_iff.1 hi
  exact h a h1

theorem bcell_r {W w1 : World} (hb : Below W.heap.size W w1) : (∀ b o, b < W.heap.size → w1.cell? ⟨b, o, none⟩ = W.cell? ⟨b, o, none⟩) ∧ (∀ b o, b < W.heap.size → w1.frozen? ⟨b, o, none⟩ = W.frozen? ⟨b, o, none⟩) :=
  ⟨fun b o h => hb.cell (p := ⟨b, o, none⟩) h, fun b o h => hb.frozen (p := ⟨b, o, none⟩) h⟩

theorem cut_i {wr w2 : World} {nb : Obj} (c : Obj) (hb : Below (wr.alloc nb).drew.heap.size (wr.alloc nb).drew w2) : wr.heap.size + 1 ≤ w2.heap.size ∧ (w2.alloc c).heap[w2.heap.size]? = some c ∧ Below (wr.heap.size + 1) (wr.alloc nb) (w2.alloc c) := by
  have e : (wr.alloc nb).drew.heap.size = wr.heap.size + 1 := by simp
  have hs := hb.size
  rw [e] at hb hs
  exact ⟨hs, heap_alloc_new _ _, ((Below.refl _ _).drew.trans hb).alloc hs _⟩
theorem cut_ii {wr w2 : World} {nb : Obj} {z0 z1 z2 : Value} {t : TypeId} (v0 v1 v2 : Value) (hb : Below ((wr.alloc nb).alloc (.cells #[z0, z1, z2] t)).drew.heap.size ((wr.alloc nb).alloc (.cells #[z0, z1, z2] t)).drew w2) :
    (((w2.setCell ⟨wr.heap.size + 1, 0, none⟩ v0).setCell ⟨wr.heap.size + 1, 1, none⟩ v1).setCell ⟨wr.heap.size + 1, 2, none⟩ v2).heap[wr.heap.size + 1]? = some (.cells #[v0, v1, v2] t) ∧
    Below (wr.heap.size + 1) (wr.alloc nb) (((w2.setCell ⟨wr.heap.size + 1, 0, none⟩ v0).setCell ⟨wr.heap.size + 1, 1, none⟩ v1).setCell ⟨wr.heap.size + 1, 2, none⟩ v2) := by
  have e : ((wr.alloc nb).alloc (.cells #[z0, z1, z2] t)).drew.heap.size = wr.heap.size + 1 + 1 := by simp
  rw [e] at hb
  have h0 : w2.heap[wr.heap.size + 1]? = some (.cells #[z0, z1, z2] t) := (hb.block _ (by omega)).trans (heap_two_new wr _ _)
  have h1 := setCell_row 0 v0 h0
  have h2 := setCell_row 1 v1 h1
  have h3 := setCell_row 2 v2 h2
  refine ⟨by simpa using h3, ?_⟩
  have hb1 : Below (wr.heap.size + 1) (wr.alloc nb) w2 := (((Below.refl _ _).alloc (by simp) _).drew).trans (hb.mono (by omega))
  exact ((hb1.setCell (by simp) _).setCell (by simp) _).setCell (by simp) _

theorem joined_wf {l : List Ins} {L gi ci g cap base : Nat} {all : List Pt} {s : Pt} {i : Ins} {W : World} {x : Int} (hw : Wf l L) (hb : Base l L all) (ho : Okp l L s) (hi : l[s.at_]? = some i) (hat : InsAt W gi l) (hgi : gi < W.heap.size)
    (hown : W.ownsRow base 67 3 (.slice (some ⟨g, 0, none⟩) all.length cap) all.length (ptCells all)) (hbase : base ≤ W.heap.size) (hx : x = (s.at_ : Int)) :
    Calls Tryd.prog 22 #[.slice (some ⟨gi, 0, none⟩) l.length ci, .slice (some ⟨g, 0, none⟩) all.length cap, .agg #[.int .i64 x, .string s.lo, .string s.st]] W (JoinPost i all s base g W) := by
  subst hx
  obtain ⟨h1, rfl⟩ := List.getElem?_eq_some_iff.1 hi
  have hlen := hb.len hw
  have hl120 := hw.len
  refine joined_any l gi ci all g cap base s W hat hgi h1 hown hbase (by omega) (fun h => ?_)
  have hn := hw.arg _ (List.getElem_mem h1) (.inl h)
  exact ⟨by rw [ho.lo]; exact hn, fun q hq => by rw [(hb.ok q hq).lo]; exact hn⟩
theorem ways_world {w wr W : World} {nb : Obj} {l : List Ins} {gi g n cap e : Nat} {xs : List Value} (hbel : Below w.heap.size w wr) (hb : Below (wr.heap.size + 1) (wr.alloc nb) W) (hat : InsAt w gi l) (hgi : gi < w.heap.size)
    (hown : wr.ownsRow w.heap.size e 3 (.slice (some ⟨g, 0, none⟩) n cap) n xs) (hg : g < wr.heap.size) :
    Below w.heap.size w W ∧ InsAt W gi l ∧ gi < W.heap.size ∧ W.ownsRow w.heap.size e 3 (.slice (some ⟨g, 0, none⟩) n cap) n xs ∧ w.heap.size ≤ W.heap.size := by
  have h1 : Below wr.heap.size wr W := box_below (Nat.le_refl _) hb
  have hs := hbel.size
  have h2 : Below w.heap.size w W := hbel.trans (h1.mono hs)
  have h3 := h2.size
  exact ⟨h2, hat.below h2 hgi, by omega, owns_below hown h1 (fun g' hg' => by cases hg'; exact hg), h3⟩
theorem done_step {l : List Ins} {all ext ss : List Pt} {k : Nat} {p : Pt} (hd : Done l all k) (hk : k ≤ all.length) (hp : all[k]? = some p) (hs : stepP l p = some ss) (hm : ∀ s ∈ ss, s ∈ all ++ ext) : Done l (all ++ ext) (k + 1) := by
  intro j q hj hq
  by_cases h : j < k
  · exact hd.ext hk j q h hq
  · have : j = k := by omega
    subst this
    obtain ⟨h1, _⟩ := List.getElem?_eq_some_iff.1 hp
    rw [List.getElem?_append_left h1, hp] at hq
    cases hq
    exact ⟨ss, hs, hm⟩

def WaysPost (l : List Ins) (L : Nat) (w : World) (e : Ending) (w' : World) : Prop :=
  Below w.heap.size w w' ∧ ((WT l L ∧ ∃ g cap all, e = .returned (.tuple #[.slice (some ⟨g, 0, none⟩) all.length cap, .bool true]) ∧ w.heap.size ≤ g ∧ g < w'.heap.size ∧ PtAt w' g all ∧ Base l L all ∧ ∀ p, Reach l L p ↔ p ∈ all) ∨
    (¬ WT l L ∧ e = .returned (.tuple #[.slice none 0 0, .bool false])))

set_option maxRecDepth 100000 in
set_option maxHeartbeats 1000000 in
theorem ways_any (l : List Ins) (L gi ci : Nat) (w : World) (hw : Wf l L) (hat : InsAt w gi l) (hgi : gi < w.heap.size) (htab : TypeTab w) :
    Calls Tryd.prog 13 #[.slice (some ⟨gi, 0, none⟩) l.length ci, .int .i64 L] w (WaysPost l L w) := by
  have hL := hw.loc
  have hL0 : (0 : Int) ≤ (L : Int) := by omega
  have hL4 : (L : Int) ≤ 4 := by omega
  go_enter Tryd.func13, Tryd.ntmps13
  go_wp2_with fail
  go_loopw [7, 8] (fun v i w' => ∃ (k : Nat) (all : List Pt) (g cap : Nat), i = .int .i64 k ∧ v = .slice (some ⟨g, 0, none⟩) all.length cap ∧ w'.ownsRow w.heap.size 67 3 (.slice (some ⟨g, 0, none⟩) all.length cap) all.length (ptCells all) ∧
    Below w.heap.size w w' ∧ Base l L all ∧ Done l all k ∧ k ≤ all.length) (fun _ i _ => 16 * l.length + 1 - (intOf i).toNat)
  case atStart =>
    refine ⟨0, [initP L], w.heap.size + 1, 1, rfl, rfl, ⟨rfl, .inr ⟨w.heap.size + 1, 1, #[.int .i64 0, .string ((⟨#[105, 105, 105, 105]⟩ : ByteArray).extract 0 L), .string ⟨#[]⟩], rfl, by omega, heap_two_new w _ _, by simp, by unfold maxLen; simp, rfl, rfl⟩⟩, ((Below.refl _ _).alloc (Nat.le_refl _) _).alloc (by simp) _, Base.init hw, fun j p hj => by omega, by simp⟩
  case round =>
    obtain ⟨k, all, g, cap, rfl, rfl, hown, hbel, hbase, hdone, hk⟩ := hrel
    have hpt := PtAt.of_owns hown
    have hg := hown.lt g rfl
    have hlen := hbase.len hw
    have hl120 := hw.len
    have HB := hid hbase
    have HD := hid hdone
    have hsz := hbel.size
    have hgi2 : gi < wr.heap.size := by omega
    clear hbase hdone
    by_cases hlt : k < all.length
    · obtain ⟨p, hp⟩ : ∃ p, all[k]? = some p := ⟨_, List.getElem?_eq_getElem hlt⟩
      have HPM := hid (List.mem_of_getElem? hp)
      have HOK := hid (HB.out.ok p HPM.out)
      obtain ⟨ins, hins⟩ : ∃ i, l[p.at_]? = some i := ⟨_, List.getElem?_eq_getElem HOK.out.at_⟩
      have HM := hid (List.mem_of_getElem? hins)
      have hop := hw.op ins HM.out
      have harg := hid (hw.arg ins HM.out)
      have hnum := hw.num ins HM.out
      obtain ⟨q0, q1, q2⟩ := hpt.get hp
      obtain ⟨j0, j1, j2⟩ := (hat.below hbel hgi).get hins
      have HP := hid hp
      have HI := hid hins
      have ha0 : (0 : Int) ≤ (p.at_ : Int) := by omega
      have ha1 : (p.at_ : Int) < (l.length : Int) := by have := HOK.out.at_; omega
      have hk0 : (0 : Int) ≤ (k : Int) := by omega
      have hk1 : (k : Int) < (all.length : Int) := by omega
      have hlo : p.lo.size ≤ 4 := by have := HOK.out.lo; omega
      have hst := HOK.out.st
      clear hp hins hpt
      obtain ⟨a, lo, st⟩ := p
      obtain ⟨op, n, pl⟩ := ins
      simp only at q0 q1 q2 j0 j1 j2 ha0 ha1 hop hnum hlo hst
      have HA := hid (fun W (hW : TypeTab W) => after_any a op n pl lo st W hlo hst hop (fun h => by have := harg.out h; have := HOK.out.lo; simp only at *; omega) hW)
      have htab2 := htab.below hbel
      generalize hav : afterV lo st op n = A at *
      have HAV := hid hav
      clear hav
      obtain ⟨lo2, st2, ok⟩ := A
      go_upto_region 7 with fail
      go_cut [10, 11] (fun x10 x11 wc => ∃ B : Nat, x10 = .pointer (some ⟨B, 0, none⟩) ∧ x11 = .bool ok ∧ wr.heap.size + 1 ≤ B ∧ wc.heap[B]? = some (.cells #[.int .i64 a, .string lo2, .string st2] 67) ∧
        Below (wr.heap.size + 1) (wr.alloc (.cells #[.int .i64 op, .int .i64 n, .int .i64 pl] 64)) wc)
      case first =>
        go_region_with (go_at_call 21; go_must (refine (HA.out _ (htab2.below (by repeat (first | exact Below.refl _ _ | refine Below.drew ?_ | refine Below.alloc ?_ (by simp) _)))).mono ?_; intro e w2 hpost; obtain ⟨hb2, he2⟩ := hpost; rw [HAV.out] at he2; subst he2; obtain ⟨hc2, hf2⟩ := bcell_r hb2; have hz2 := hb2.size; simp at hc2 hf2 hz2))
        all_goals (go_wp2_with fail; go_meet)
        all_goals
          first
          | exact ⟨_, rfl, rfl, (cut_i (.cells #[] 0) hb2).1, (cut_i _ hb2).2.1, (cut_i _ hb2).2.2⟩
          | exact ⟨_, rfl, rfl, Nat.le_refl _, (cut_ii _ _ _ hb2).1, (cut_ii _ _ _ hb2).2⟩
      case rest =>
        obtain ⟨B, rfl, rfl, hB, hrow, hbc⟩ := hcut
        obtain ⟨bx, bo, hz⟩ := box_cells hbc
        have n0 := bx 0
        have n1 := bx 1
        have n2 := bx 2
        simp only [List.getElem?_toArray, List.getElem?_cons_zero, List.getElem?_cons_succ] at n0 n1 n2
        have r0 := cell_of_row wc B 0 _ _ _ hrow
        have r1 := cell_of_row wc B 1 _ _ _ hrow
        have r2 := cell_of_row wc B 2 _ _ _ hrow
        simp only [List.getElem?_toArray, List.getElem?_cons_zero, List.getElem?_cons_succ] at r0 r1 r2
        have rf := frozen_of_row wc B 0 _ _ hrow
        have hBz := World.block_lt_of_cell? wc _ r0
        simp only at hBz
        have hbc1 : Below wr.heap.size wr wc := box_below (Nat.le_refl _) hbc
        have hbw : Below w.heap.size w wc := hbel.trans (hbc1.mono (by omega))
        have hown1 := owns_below hown hbc1 (fun g' hg' => by cases hg'; exact hg.2)
        clear q0 q1 q2 j0 j1 j2 bx bo HA
        cases ok
        · have hno : Hid (¬ WT l L) := hid (fun hwt => hwt.1 _ (HB.out.reach _ HPM.out) (by rw [stepP_eq HI.out]; simp [HAV.out]))
          go_wp2_with fail
          go_ret2
          exact ⟨hbw, .inr ⟨hno.out, rfl⟩⟩
        by_cases h8 : 8 < st2.size
        · have hno : Hid (¬ WT l L) := hid (fun hwt => hwt.1 _ (HB.out.reach _ HPM.out) (by rw [stepP_eq HI.out]; simp [HAV.out, h8]))
          go_wp2_with fail
          go_ret2
          exact ⟨hbw, .inr ⟨hno.out, rfl⟩⟩
        have HSS : Hid (stepP l ⟨a, lo, st⟩ = some ((if isJump op = true then [⟨(findP n l 0).toNat, lo2, st2⟩] else []) ++ (if op ≠ 0 ∧ op ≠ 19 then [⟨a + 1, lo2, st2⟩] else []))) := hid (by
          rw [stepP_eq HI.out]; simp only [HAV.out]; rw [if_neg (by simp; omega)])
        have HRCH := hid (HB.out.reach _ HPM.out)
        obtain ⟨q0, q1, q2⟩ := (PtAt.of_owns hown1).get HP.out
        simp only at q0 q1 q2
        clear HAV harg q1 q2
        by_cases h0 : op = 0
        · have t0 : ((op : Int) == 19) = false := by simp; omega
          have t1 : ((op : Int) == 20) = false := by simp; omega
          have t2 : ((op : Int) != 0) = false := by simp; omega
          have HS0 : Hid (stepP l ⟨a, lo, st⟩ = some []) := hid (by rw [HSS.out]; simp [h0, isJump])
          clear h0
          go_wp2_with fail
          refine ⟨⟨k + 1, all, g, cap, by go_num, rfl, hown1, hbw, HB.out, ?_, by omega⟩, by simp [intOf]; omega⟩
          have := done_step (ext := []) HD.out hk HP.out HS0.out (fun s hs => by simp at hs)
          simpa using this
        by_cases h19 : op = 19
        · obtain ⟨tn, htn⟩ : ∃ tn : Nat, findP n l 0 = (tn : Int) := ⟨(findP n l 0).toNat, by have := hw.jump _ HM.out (by simp [isJump, h19]); simp only at this; omega⟩
          have t0 : ((op : Int) == 19) = true := by simp; omega
          have t2 : ((op : Int) != 0) = true := by simp; omega
          have t3 : ((op : Int) != 19) = false := by simp; omega
          have HS0 : Hid (stepP l ⟨a, lo, st⟩ = some [⟨tn, lo2, st2⟩]) := hid (by rw [HSS.out]; simp [h19, isJump, htn])
          have HTN := hid htn
          have HR2 := hid (HRCH.out.step HS0.out (List.mem_singleton.2 rfl))
          have HO2 := hid (step_ok hw HOK.out HS0.out (List.mem_singleton.2 rfl))
          obtain ⟨i2, hi2⟩ : ∃ i, l[tn]? = some i := ⟨_, List.getElem?_eq_getElem HO2.out.at_⟩
          have HI2 := hid hi2
          clear hi2 h0 h19 htn
          have HWS := hid (fun v => ways_world hbel (hbc.setCell (p := ⟨B, 0, none⟩) hB v) hat hgi hown hg.2)
          have HBX := hid (fun v => box_cells (hbc.setCell (p := ⟨B, 0, none⟩) hB v))
          go_wp2_with fail
          refine (find_any l gi ci n wc (by omega) (hat.below hbw hgi)).mono ?_
          intro e w9 hfd
          obtain ⟨he9, hw9⟩ := hfd
          subst e
          subst w9
          rw [HTN.out]
          go_wp2_with fail
          refine (joined_wf (s := ⟨tn, lo2, st2⟩) hw HB.out HO2.out HI2.out (HWS.out _).2.1 (HWS.out _).2.2.1 (HWS.out _).2.2.2.1 (HWS.out _).2.2.2.2 rfl).mono ?_
          intro e w3 hjp
          obtain ⟨hb3, hk3, v3, rfl, hv3, hown3⟩ := hjp
          have hbw3 := (HWS.out _).1.trans hb3
          have m0 := (hk3.cell (b := wr.heap.size) (o := 0) (by have := (HBX.out (.int .i64 tn)).2.2; omega) (by omega)).trans ((HBX.out _).1 0)
          simp only [List.getElem?_toArray, List.getElem?_cons_zero] at m0
          generalize hJ : joinedP i2 all ⟨tn, lo2, st2⟩ = J at *
          have HJ := hid hJ
          clear hJ
          obtain ⟨all2, ok2⟩ := J
          cases ok2
          · have hno := hid (joined_no HB.out HR2.out HI2.out (by rw [HJ.out]))
            clear hk3 hv3 HWS HBX
            go_wp2_with fail
            go_ret2
            exact ⟨hbw3, .inr ⟨hno.out, rfl⟩⟩
          · obtain ⟨hbase2, ⟨ext, hext⟩, hmem⟩ := joined_yes hw HB.out HR2.out HO2.out HI2.out (by rw [HJ.out])
            rw [HJ.out] at hbase2 hext hmem
            simp only at hbase2 hext hmem hown3
            have hlen2 : all.length ≤ all2.length := by rw [hext]; simp
            have hlen3 := hbase2.len hw
            obtain ⟨g3, cap3, rfl, hg3, hg4⟩ := hown3.form (by omega)
            have HB2 := hid hbase2
            have HD2 : Hid (Done l all2 (k + 1)) := hid (by
              rw [hext] at hmem ⊢
              exact done_step HD.out hk HP.out HS0.out (fun s hs => by rw [List.mem_singleton] at hs; subst hs; exact hmem))
            clear hk3 hv3 HWS HBX hbase2 hext hmem
            go_wp2_with fail
            exact ⟨⟨k + 1, all2, g3, cap3, by go_num, rfl, hown3, hbw3, HB2.out, HD2.out, by omega⟩, by simp [intOf]; omega⟩
        by_cases h20 : op = 20
        · obtain ⟨tn, htn⟩ : ∃ tn : Nat, findP n l 0 = (tn : Int) := ⟨(findP n l 0).toNat, by have := hw.jump _ HM.out (by simp [isJump, h20]); simp only at this; omega⟩
          have t0 : ((op : Int) == 19) = false := by simp; omega
          have t1 : ((op : Int) == 20) = true := by simp; omega
          have t2 : ((op : Int) != 0) = true := by simp; omega
          have t3 : ((op : Int) != 19) = true := by simp; omega
          have HS0 : Hid (stepP l ⟨a, lo, st⟩ = some [⟨tn, lo2, st2⟩, ⟨a + 1, lo2, st2⟩]) := hid (by rw [HSS.out]; simp [h20, isJump, htn])
          have HTN := hid htn
          have HR2 := hid (HRCH.out.step HS0.out (p := ⟨tn, lo2, st2⟩) (by simp))
          have HO2 := hid (step_ok hw HOK.out HS0.out (s := ⟨tn, lo2, st2⟩) (by simp))
          have HR4 := hid (HRCH.out.step HS0.out (p := ⟨a + 1, lo2, st2⟩) (by simp))
          have HO4 := hid (step_ok hw HOK.out HS0.out (s := ⟨a + 1, lo2, st2⟩) (by simp))
          obtain ⟨i2, hi2⟩ : ∃ i, l[tn]? = some i := ⟨_, List.getElem?_eq_getElem HO2.out.at_⟩
          have HI2 := hid hi2
          obtain ⟨i4, hi4⟩ : ∃ i, l[a + 1]? = some i := ⟨_, List.getElem?_eq_getElem HO4.out.at_⟩
          have HI4 := hid hi4
          clear hi2 hi4 h0 h19 h20 htn
          have HWS := hid (fun v => ways_world hbel (hbc.setCell (p := ⟨B, 0, none⟩) hB v) hat hgi hown hg.2)
          have HBX := hid (fun v => box_cells (hbc.setCell (p := ⟨B, 0, none⟩) hB v))
          go_wp2_with fail
          refine (find_any l gi ci n wc (by omega) (hat.below hbw hgi)).mono ?_
          intro e w9 hfd
          obtain ⟨he9, hw9⟩ := hfd
          subst e
          subst w9
          rw [HTN.out]
          go_wp2_with fail
          refine (joined_wf (s := ⟨tn, lo2, st2⟩) hw HB.out HO2.out HI2.out (HWS.out _).2.1 (HWS.out _).2.2.1 (HWS.out _).2.2.2.1 (HWS.out _).2.2.2.2 rfl).mono ?_
          intro e w3 hjp
          obtain ⟨hb3, hk3, v3, rfl, hv3, hown3⟩ := hjp
          have hbw3 := (HWS.out _).1.trans hb3
          have hwz := (HBX.out (.int .i64 tn)).2.2
          have hBz2 : B < (wc.setCell ⟨B, 0, none⟩ (.int .i64 tn)).heap.size := by simpa [World.setCell] using hBz
          have m0 := (hk3.cell (b := wr.heap.size) (o := 0) (by omega) (by omega)).trans ((HBX.out _).1 0)
          simp only [List.getElem?_toArray, List.getElem?_cons_zero] at m0
          have hrow3 := (hk3 B hBz2 (by omega)).trans (setCell_row 0 (.int .i64 tn) hrow)
          simp at hrow3
          generalize hJ : joinedP i2 all ⟨tn, lo2, st2⟩ = J at *
          have HJ := hid hJ
          clear hJ
          obtain ⟨all2, ok2⟩ := J
          cases ok2
          · have hno := hid (joined_no HB.out HR2.out HI2.out (by rw [HJ.out]))
            clear hk3 hv3 HWS HBX hrow3
            go_wp2_with fail
            go_ret2
            exact ⟨hbw3, .inr ⟨hno.out, rfl⟩⟩
          obtain ⟨hbase2, ⟨ext, hext⟩, hmem⟩ := joined_yes hw HB.out HR2.out HO2.out HI2.out (by rw [HJ.out])
          rw [HJ.out] at hbase2 hext hmem
          simp only at hbase2 hext hmem hown3
          have hlen2 : all.length ≤ all2.length := by rw [hext]; simp
          have hlen3 := hbase2.len hw
          obtain ⟨g3, cap3, rfl, hg3, hg4⟩ := hown3.form (by omega)
          have hBg : B ≠ g3 := by
            rcases hv3 g3 rfl with h | h
            · omega
            · omega
          have HB2 := hid hbase2
          have HP2 : Hid (all2[k]? = some ⟨a, lo, st⟩) := hid (by rw [hext, List.getElem?_append_left hlt]; exact HP.out)
          have HX2 := hid hext
          have HM2 := hid hmem
          obtain ⟨s0, s1, s2⟩ := (PtAt.of_owns hown3).get HP2.out
          simp only at s0
          have v0 := cell_of_row w3 B 0 _ _ _ hrow3
          have v1 := cell_of_row w3 B 1 _ _ _ hrow3
          have v2 := cell_of_row w3 B 2 _ _ _ hrow3
          simp only [List.getElem?_toArray, List.getElem?_cons_zero, List.getElem?_cons_succ] at v0 v1 v2
          have vf := frozen_of_row w3 B 0 _ _ hrow3
          have hk2a : (k : Int) < (all2.length : Int) := by omega
          have HW3 : Hid (∀ v, Below w.heap.size w (w3.setCell ⟨B, 0, none⟩ v) ∧ (w3.setCell ⟨B, 0, none⟩ v).ownsRow w.heap.size 67 3 (.slice (some ⟨g3, 0, none⟩) all2.length cap3) all2.length (ptCells all2)) := hid (fun v =>
            ⟨hbw3.setCell (p := ⟨B, 0, none⟩) (by simp only; omega) v, owns_set hown3 (by simp only [Value.ownBlock]; intro h; cases h; exact hBg rfl) v⟩)
          clear hk3 hv3 HWS HBX hbase2 hext hmem s1 s2 hrow3
          go_wp2_with fail
          refine (joined_wf (s := ⟨a + 1, lo2, st2⟩) hw HB2.out HO4.out HI4.out (hat.below (HW3.out _).1 hgi) (by have := (HW3.out (.int .i64 0)).1.size; simp [World.setCell] at *; omega) (HW3.out _).2 (HW3.out _).1.size (by simp)).mono ?_
          intro e w5 hjp
          obtain ⟨hb5, hk5, v5, rfl, hv5, hown5⟩ := hjp
          have hbw5 := (HW3.out _).1.trans hb5
          generalize hJ : joinedP i4 all2 ⟨a + 1, lo2, st2⟩ = J at *
          have HJ4 := hid hJ
          clear hJ
          obtain ⟨all4, ok4⟩ := J
          cases ok4
          · have hno := hid (joined_no HB2.out HR4.out HI4.out (by rw [HJ4.out]))
            clear hk5 hv5 HW3
            go_wp2_with fail
            go_ret2
            exact ⟨hbw5, .inr ⟨hno.out, rfl⟩⟩
          obtain ⟨hbase4, ⟨ext4, hext4⟩, hmem4⟩ := joined_yes hw HB2.out HR4.out HO4.out HI4.out (by rw [HJ4.out])
          rw [HJ4.out] at hbase4 hext4 hmem4
          simp only at hbase4 hext4 hmem4 hown5
          have hlen4 : all2.length ≤ all4.length := by rw [hext4]; simp
          have hlen5 := hbase4.len hw
          obtain ⟨g5, cap5, rfl, hg5, hg6⟩ := hown5.form (by omega)
          have HB4 := hid hbase4
          have HD4 : Hid (Done l all4 (k + 1)) := hid (by
            have e : all4 = all ++ (ext ++ ext4) := by rw [hext4, HX2.out, List.append_assoc]
            have hm2 := HM2.out
            rw [HX2.out] at hm2
            rw [e] at hmem4 ⊢
            refine done_step HD.out hk HP.out HS0.out (fun s hs => ?_)
            simp only [List.mem_cons, List.not_mem_nil, or_false] at hs
            rcases hs with rfl | rfl
            · rw [← List.append_assoc]; exact List.mem_append_left _ hm2
            · exact hmem4)
          clear hk5 hv5 HW3 hbase4 hext4 hmem4
          go_wp2_with fail
          exact ⟨⟨k + 1, all4, g5, cap5, by go_num, rfl, hown5, hbw5, HB4.out, HD4.out, by omega⟩, by simp [intOf]; omega⟩
        have t0 : ((op : Int) == 19) = false := by simp; omega
        have t1 : ((op : Int) == 20) = false := by simp; omega
        have t2 : ((op : Int) != 0) = true := by simp; omega
        have t3 : ((op : Int) != 19) = true := by simp; omega
        have HS0 : Hid (stepP l ⟨a, lo, st⟩ = some [⟨a + 1, lo2, st2⟩]) := hid (by rw [HSS.out]; simp [h0, h19, h20, isJump])
        have HR2 := hid (HRCH.out.step HS0.out (List.mem_singleton.2 rfl))
        have HO2 := hid (step_ok hw HOK.out HS0.out (List.mem_singleton.2 rfl))
        obtain ⟨i2, hi2⟩ : ∃ i, l[a + 1]? = some i := ⟨_, List.getElem?_eq_getElem HO2.out.at_⟩
        have HI2 := hid hi2
        clear hi2 h0 h19 h20
        have HWS := hid (fun v => ways_world hbel (hbc.setCell (p := ⟨B, 0, none⟩) hB v) hat hgi hown hg.2)
        go_wp2_with fail
        refine (joined_wf (s := ⟨a + 1, lo2, st2⟩) hw HB.out HO2.out HI2.out (HWS.out _).2.1 (HWS.out _).2.2.1 (HWS.out _).2.2.2.1 (HWS.out _).2.2.2.2 (by simp)).mono ?_
        intro e w3 hjp
        obtain ⟨hb3, hk3, v3, rfl, hv3, hown3⟩ := hjp
        have hbw3 := (HWS.out _).1.trans hb3
        generalize hJ : joinedP i2 all ⟨a + 1, lo2, st2⟩ = J at *
        have HJ := hid hJ
        clear hJ
        obtain ⟨all2, ok2⟩ := J
        cases ok2
        · have hno := hid (joined_no HB.out HR2.out HI2.out (by rw [HJ.out]))
          clear hk3 hv3 HWS
          go_wp2_with fail
          go_ret2
          exact ⟨hbw3, .inr ⟨hno.out, rfl⟩⟩
        · obtain ⟨hbase2, ⟨ext, hext⟩, hmem⟩ := joined_yes hw HB.out HR2.out HO2.out HI2.out (by rw [HJ.out])
          rw [HJ.out] at hbase2 hext hmem
          simp only at hbase2 hext hmem hown3
          have hlen2 : all.length ≤ all2.length := by rw [hext]; simp
          have hlen3 := hbase2.len hw
          obtain ⟨g3, cap3, rfl, hg3, hg4⟩ := hown3.form (by omega)
          have HB2 := hid hbase2
          have HD2 : Hid (Done l all2 (k + 1)) := hid (by
            rw [hext] at hmem ⊢
            exact done_step HD.out hk HP.out HS0.out (fun s hs => by rw [List.mem_singleton] at hs; subst hs; exact hmem))
          clear hk3 hv3 HWS hbase2 hext hmem
          go_wp2_with fail
          exact ⟨⟨k + 1, all2, g3, cap3, by go_num, rfl, hown3, hbw3, HB2.out, HD2.out, by omega⟩, by simp [intOf]; omega⟩
    · have hke : k = all.length := by omega
      subst hke
      have hend := hid (ways_end HB.out HD.out)
      go_wp2_with fail
      go_ret2
      exact ⟨hbel, .inl ⟨hend.out.1, g, cap, all, rfl, hg.1, hg.2, hpt, HB.out, hend.out.2⟩⟩
end Go.Proofs.YteocjidfbbekfaaDoor
