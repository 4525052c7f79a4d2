/- tintkeep.Same is true of all raw bytes, lists of inputs, numbers of cells, two lists of units and numbers of steps: two machines of an image built without Weak stay alike step by step, but for the cells' numbers, whatever is collected in each, and the same comes out; conditions: the two listed variables hold what the program's text lays in them. -/
import Derived.Test.YtdmdpindonghdabDoorRows
import Derived.Test.YtdmdpindonghdabDoorTie
import Derived.Test.YtdmdpindonghdabDoorCards
import Derived.Test.YtdmdpindonghdabDoorOwn7
import Derived.WalkKit
import Derived.WalkSmall
import Derived.Deep.AppendLies
import Derived.Deep.DeepMust
import Derived.Deep.LoopGhost
import Derived.WalkSpells
import Derived.WalkLawsBesides
import Derived.BigRegion
import Derived.Deep.QuietTactic
import Derived.BigQuiet
import Derived.Deep.RegionHeld3
import Derived.OwnWalk
import Derived.Laws.StructEq
import Derived.Deep.RegionLaw
import Derived.Deep.DeepCutAuto
import Derived.Laws.MakeOwn
import Derived.Laws.IdiomCopy
import Derived.Laws.BytesArg
import Derived.ProofKit
import Derived.OpenShut
import Derived.Lay
import Derived.SevenTiedAt
import Derived.Stop.Joined
import Derived.Carry
import Derived.Deep.SlicePairs
namespace Go.Proofs.YtdmdpindonghdabDoor
open Go.RowKit
theorem duo_output {B : Nat} {w : World} {K1 K2 : PK} {s t : MS} (h : Duo B w K1 K2 s t) (hn : s.out.length ≤ 8796093022208) :
    Calls Tryd.prog 19 #[.pointer (some ⟨K1.b, 0, none⟩)] w (CopyPost s.out w) := by
  obtain ⟨F, G, ⟨vI, vO, lo4, st8, hm, _⟩, h2, h3, h4, h5, h6⟩ := h
  exact poutput_any hm hn
theorem duo_alike {B : Nat} {w : World} {K1 K2 : PK} {E : Env} {s t : MS} (h : Duo B w K1 K2 s t) (hk1 : KE K1 E) (hk2 : KE K2 E) (he : EnvOk E) (hs : MInv E s) (ht : MInv E t) (gs : GS s) (gt : GS t) (ha : ∃ R, Alk R s t) :
    Calls Tryd.prog 18 #[.pointer (some ⟨K1.b, 0, none⟩), .pointer (some ⟨K2.b, 0, none⟩)] w fun e w' => e = .returned (.bool true) ∧ Below w.heap.size w w' := by
  obtain ⟨F, G, h1, h2, _⟩ := h
  obtain ⟨R, ha⟩ := ha
  exact alike_any h1 h2 hk1 hk2 he hs ht gs gt ha
theorem alk_opK {E : Env} (he : EnvOk E) (hn : NoMix E) (hnw : ∀ i ∈ E.l, i.op ≠ 23) {s t : MS} (hs : MInv E s) (gs : GS s) (ht : MInv E t) (gt : GS t) (h : ∃ R, Alk R s t) : ∃ R, Alk R (opK E 1 0 s) (opK E 1 0 t) := by
  obtain ⟨R, h⟩ := h
  unfold opK
  rw [if_pos rfl, if_pos rfl]
  by_cases h0 : s.oc = 0
  · rw [if_pos h0, if_pos (by rw [← h.oc]; exact h0)]
    exact h.step he hn hnw hs gs ht gt
  · rw [if_neg h0, if_neg (by rw [← h.oc]; exact h0)]
    exact ⟨R, h⟩
theorem GS.opK2 {E : Env} (he : EnvOk E) (hn : NoMix E) {s : MS} (h : MInv E s) (hg : GS s) : GS (opK E 1 0 s) := by
  unfold Go.Proofs.YtdmdpindonghdabDoor.opK
  rw [if_pos rfl]
  split
  · exact hg.step he hn h
  · exact hg
set_option maxRecDepth 100000 in
set_option maxHeartbeats 8000000 in
theorem same_any (raw : ByteArray) (vi vu vy : Value) (zs us ys : List Int) (cells steps : Int) (w : World) (hr : raw.size ≤ maxLen) (ht : FlowTab w) (hv : ArgInts w vi zs) (hcap : ∀ p n c, vi = .slice p n c → n ≤ c ∧ c ≤ maxLen) (hu : ArgInts w vu us) (hul : us.length ≤ 17592186043904) (hur : ∀ u ∈ us, -9223372036854775808 ≤ u ∧ u ≤ 9223372036854775807) (hy : ArgInts w vy ys) (hyl : ys.length ≤ 17592186043904) (hyr : ∀ u ∈ ys, -9223372036854775808 ≤ u ∧ u ≤ 9223372036854775807)
    (hc1 : -9223372036854775808 ≤ cells) (hc2 : cells ≤ 9223372036854775807) (hs1 : -9223372036854775808 ≤ steps) (hs2 : steps ≤ 9223372036854775807) :
    Calls Tryd.prog 5 #[.string raw, vi, .int .i64 cells, vu, vy, .int .i64 steps] w fun e w' => e = .returned (.bool true) ∧ Below w.heap.size w w' := by
  obtain ⟨q1, q2, q3, q4, q5⟩ := built_ok raw false
  have hnw0 := built_nw raw
  obtain ⟨n1, n2⟩ := roomN_le cells
  have hsz : (builtS raw false).size ≤ maxLen := by
    have h1 := (errOf_zero q1).1
    obtain ⟨⟨⟨h3, h4⟩, _⟩, _⟩ : ((3 ≤ (builtS raw false).size ∧ (builtS raw false).size ≤ 122) ∧ byteAt (builtS raw false) 0 = 84) ∧ byteAt (builtS raw false) 1 ≤ 4 := by simpa [shapedP] using h1
    have : maxLen = 9223372036854775807 := rfl
    omega
  have hzl : (zs.take 64).length ≤ 64 := by rw [List.length_take]; omega
  have hrm := hid (room_any cells w hc1 hc2)
  have hbu := hid (built_any raw false w hr)
  have hso := hid (fun (W : World) (hb : Below w.heap.size w W) => some_any vi zs W (hv.keep hb) hcap)
  obtain ⟨x, hx⟩ : ∃ x, x = builtS raw false := ⟨_, rfl⟩
  rw [← hx] at hbu q1 q2 q3 q4 q5 hsz hnw0
  have hmd := hid (fun (W : World) (hb : Below w.heap.size w W) (v : Value) (hv : ArgInts W v (zs.take 64)) => made_any x v (zs.take 64) (roomN cells) W hsz (ht.below hb) hv hzl n1 n2 q1 q4)
  have hpq := hid (fun (W : World) => pick_any steps 400 W hs1 hs2 (by omega) (by omega))
  have hq4 := pickN_lt steps (n := 400) (by omega)
  have hpu := hid (fun (W : World) (u : Int) (hu : u ∈ us) => pick_any u 100 W (hur u hu).1 (hur u hu).2 (by omega) (by omega))
  have hpy := hid (fun (W : World) (u : Int) (hu : u ∈ ys) => pick_any u 100 W (hyr u hu).1 (hyr u hu).2 (by omega) (by omega))
  have HX : Hid (errOf x = 0 ∧ WT (codeOf x) (byteAt x 1) ∧ Det (codeOf x) (byteAt x 1) ∧ ∀ i ∈ codeOf x, i.op ≠ 23) := hid ⟨q1, q4, q5, hnw0⟩
  obtain ⟨p0, c0, e0⟩ := hv.slice
  subst e0
  obtain ⟨pu, cu, eu⟩ := hu.slice
  obtain ⟨m1, hm1e⟩ : ∃ m1, m1 = us.length := ⟨_, rfl⟩
  rw [← hm1e] at eu hul
  subst eu
  obtain ⟨py, cy, ey⟩ := hy.slice
  obtain ⟨m2, hm2e⟩ : ∃ m2, m2 = ys.length := ⟨_, rfl⟩
  rw [← hm2e] at ey hyl
  subst ey
  have HU := hid hu
  have HY := hid hy
  have HM1 := hid hm1e
  have HM2 := hid hm2e
  clear hr ht hv hcap hu hur hy hyr hc1 hc2 hs1 hs2 q1 q2 q3 q4 q5 hsz hx hnw0 hm1e hm2e
  go_enter Tryd.func5, Tryd.ntmps5
  go_wp2_with fail
  refine hrm.out.mono ?_
  clear hrm
  intro e w1 hh
  obtain ⟨hx, hw⟩ := hh
  subst e
  subst w1
  go_wp2_with fail
  refine hbu.out.mono ?_
  clear hbu
  intro e w1 hh
  obtain ⟨hx, hb1⟩ := hh
  subst e
  have hs1 := hid (hso.out w1 hb1)
  have HB1 := hid hb1
  clear hb1
  go_wp2_with fail
  refine hs1.out.mono ?_
  clear hs1
  intro e w2 hh
  obtain ⟨⟨v1, hx, hv1⟩, hw⟩ := hh
  subst e
  subst w2
  have hm1 := hid (hmd.out w1 HB1.out v1 hv1)
  clear hv1
  go_wp2_with fail
  refine hm1.out.mono ?_
  clear hm1
  intro e w2 hh
  obtain ⟨K1, hx, hM1⟩ := hh
  subst e
  have HB2 := hid (HB1.out.trans (hM1.below.mono HB1.out.size))
  have hs2 := hid (hso.out w2 HB2.out)
  have HMM := hid hM1
  clear hM1 hso
  go_wp2_with fail
  refine hs2.out.mono ?_
  clear hs2
  intro e w3 hh
  obtain ⟨⟨v2, hx, hv2⟩, hw⟩ := hh
  subst e
  subst w3
  have hm2 := hid (hmd.out w2 HB2.out v2 hv2)
  clear hv2 hmd
  go_wp2_with fail
  refine hm2.out.mono ?_
  clear hm2
  intro e w3 hh
  obtain ⟨K2, hx, hM2⟩ := hh
  subst e
  have HB3 := hid (HB2.out.trans (hM2.below.mono HB2.out.size))
  obtain ⟨hxe, hxw, hxd, hxn⟩ := HX.out
  have hM1 := HMM.out
  have hE : envOf x K2.fs (zs.take 64) (roomN cells) = envOf x K1.fs (zs.take 64) (roomN cells) := env_det hxe hxw hxd hM1.set hM1.still hM2.set hM2.still
  have hD := duo_of hM1.pr hM2.below hM2.pr
  have hk1 := hM1.ke
  have hk2 := hM2.ke.env hE
  have hok := hM1.ok
  have hin := hM1.inv
  have hnm : NoMix (envOf x K1.fs (zs.take 64) (roomN cells)) := noMix_of hxe hxw hM1.set hM1.still hxd
  have hgs : GS (startS (byteAt x 1) (roomN cells)) := GS.start _ _
  have hak : ∃ R, Alk R (startS (byteAt x 1) (roomN cells)) (startS (byteAt x 1) (roomN cells)) := ⟨_, Alk.start _ _⟩
  have hEl : ∀ i ∈ (envOf x K1.fs (zs.take 64) (roomN cells)).l, i.op ≠ 23 := hxn
  obtain ⟨E, hEd⟩ : ∃ E, E = envOf x K1.fs (zs.take 64) (roomN cells) := ⟨_, rfl⟩
  obtain ⟨s0, hs0⟩ : ∃ s0, s0 = startS (byteAt x 1) (roomN cells) := ⟨_, rfl⟩
  have h01 : s0.out.length = 0 := by rw [hs0]; rfl
  have hEz : E.zs.length ≤ 64 := by rw [hEd]; exact hzl
  rw [← hEd] at hk1 hk2 hok hin hnm hEl
  rw [← hs0] at hD hin hgs hak
  have HD0 := hid (show Duo w.heap.size w3 K1 K2 s0 s0 from by
    obtain ⟨F, G, d1, d2, d3, d4, d5, d6⟩ := hD
    have := HB1.out.size
    exact ⟨F, G, d1, d2, d3, fun k hk => ⟨by have := (d4 k hk).1; omega, (d4 k hk).2⟩, fun k hk => ⟨by have := (d5 k hk).1; omega, (d5 k hk).2⟩, by omega⟩)
  have HI0 := hid hin
  have HG0 := hid hgs
  have HK0 := hid hak
  have HNM := hid hnm
  have HEL := hid hEl
  have hpl := hid (fun (W : World) (Ka Kb : PK) (s t : MS) (k a : Int) (h : Duo w.heap.size W Ka Kb s t) (hke : KE Ka E) (hi : MInv E s) (hl : s.out.length ≤ 8796093022208) => duo_play k a h hke hok hi hEz hl)
  clear hM1 hM2 hE hD HMM HX hxe hxw hxd hxn hEd hs0 HB1 HB2 hin hgs hak hnm hEl
  generalize pickN steps 400 = M at *
  go_wp2_with fail
  go_loopg [19, 16, 18] M (fun gk x y z w' => ∃ (j : Nat) (s t : MS), j ≤ M ∧ gk = M - j ∧ x = .int .i64 j ∧ y = .bool true ∧ z = .bool true ∧ Duo w.heap.size w' K1 K2 s t ∧ MInv E s ∧ MInv E t ∧ GS s ∧ GS t ∧ (∃ R, Alk R s t) ∧ s.out.length ≤ j ∧ t.out.length ≤ j ∧ Below w.heap.size w w')
  case atStart => exact ⟨0, s0, s0, by omega, by omega, rfl, rfl, rfl, HD0.out, HI0.out, HI0.out, HG0.out, HG0.out, HK0.out, by omega, by omega, HB3.out⟩
  case round =>
    obtain ⟨j, s, t, hj, hgk, rfl, rfl, rfl, hD, hIs, hIt, hGs, hGt, hA, hos, hot, hB⟩ := hrel
    have HD := hid hD
    have HIs := hid hIs
    have HIt := hid hIt
    have HGs := hid hGs
    have HGt := hid hGt
    have HA := hid hA
    have HB := hid hB
    have hpq1 := hid (hpq.out wr)
    clear hD hIs hIt hGs hGt hA hB HD0 HI0 HG0 HK0 HB3
    go_wp2_with fail
    refine hpq1.out.mono ?_
    clear hpq1
    intro e w4 hh
    obtain ⟨hx, hw⟩ := hh
    subst e
    subst w4
    rcases Nat.lt_or_ge j M with hlt | hge
    · have d1 : (j : Int) < (M : Int) := by omega
      have d0 : (0 : Int) ≤ (j : Int) := by omega
      have d2 : (j : Int) + 1 ≤ 17592186044416 := by omega
      rcases Nat.eq_zero_or_pos m1 with hz0 | hz0
      · have z0 : ¬ 0 < m1 := by omega
        clear hz0
        rcases Nat.eq_zero_or_pos m2 with hz1 | hz1
        · have z1 : ¬ 0 < m2 := by omega
          clear hz1
          have hst1 := hid (hpl.out _ K1 K2 s t 1 0 HD.out hk1 HIs.out (by omega))
          have HIsN := hid (HIs.out.opK hok 1 0)
          have HItN := hid (HIt.out.opK hok 1 0)
          have HGsN := hid (HGs.out.opK2 hok HNM.out HIs.out)
          have HGtN := hid (HGt.out.opK2 hok HNM.out HIt.out)
          have HAN := hid (alk_opK hok HNM.out HEL.out HIs.out HGs.out HIt.out HGt.out HA.out)
          have hosN := opK_out E 1 0 s
          have hotN := opK_out E 1 0 t
          generalize hgs : opK E 1 0 s = s' at *
          generalize hgt : opK E 1 0 t = t' at *
          have HGT := hid hgt
          clear HD HA HGs HGt HIs hgs hgt
          go_wp2_with fail
          refine hst1.out.mono ?_
          clear hst1
          intro e w6 hh
          obtain ⟨hx, hD6, hB6⟩ := hh
          subst e
          have hst2 := hid (hpl.out w6 K2 K1 t s' 1 0 hD6.swap hk2 HIt.out (by omega))
          rw [HGT.out] at hst2
          have HB6 := hid (HB.out.trans hB6)
          clear hD6 hB6 HB HIt HGT
          go_wp2_with fail
          refine hst2.out.mono ?_
          clear hst2
          intro e w7 hh
          obtain ⟨hx, hD7, hB7⟩ := hh
          subst e
          have hal := hid (duo_alike hD7.swap hk1 hk2 hok HIsN.out HItN.out HGsN.out HGtN.out HAN.out)
          have HB7 := hid (HB6.out.trans hB7)
          have HD7 := hid hD7.swap
          clear hD7 hB7 HB6
          go_wp2_with fail
          refine hal.out.mono ?_
          clear hal
          intro e w8 hh
          obtain ⟨hx, hb8⟩ := hh
          subst e
          have HD8 := hid (HD7.out.keep hb8)
          have HB8 := hid (HB7.out.trans (hb8.mono HB7.out.size))
          clear hb8 HD7 HB7
          go_wp2_with fail
          go_roundg (M - (j + 1))
          case measure => omega
          case rel => exact ⟨j + 1, s', t', by omega, rfl, by go_num, rfl, rfl, HD8.out, HIsN.out, HItN.out, HGsN.out, HGtN.out, HAN.out, by omega, by omega, HB8.out⟩
        · have z1 : ¬ m2 = 0 := by omega
          obtain ⟨m', hm0'⟩ : ∃ m', m' = j % m2 := ⟨_, rfl⟩
          have hml' : m' < m2 := by rw [hm0']; exact Nat.mod_lt _ hz1
          have hmod' : (j : Int) % (m2 : Int) = (m' : Int) := by rw [hm0']; rfl
          have d3' : (0 : Int) ≤ (m' : Int) := by omega
          have d4' : (m' : Int) < (m2 : Int) := by omega
          have hml2' : m' < ys.length := by rw [← HM2.out]; exact hml'
          rcases (HY.out.keep HB.out) with ⟨hn, _⟩ | ⟨a', cap', hv, hcell, _⟩
          · cases hn; omega
          rw [← HM2.out] at hv
          cases hv
          have y0 := hcell m' ys[m'] (List.getElem?_eq_getElem hml2')
          have hpk := hid (hpy.out wr ys[m'] (List.getElem_mem hml2'))
          have hpk4' := pickN_lt ys[m'] (n := 100) (by omega)
          generalize ys[m'] = u' at *
          clear hcell hm0'
          go_wp2_with fail
          refine hpk.out.mono ?_
          clear hpk
          intro e w5 hh
          obtain ⟨hx, hw⟩ := hh
          subst e
          subst w5
          generalize pickN u' 100 = uv at *
          have hcl := hid (hpl.out _ K2 K1 t s 2 uv HD.out.swap hk2 HIt.out (by omega))
          rw [opK_coll E uv (by omega) t] at hcl
          have HIt2 := hid (HIt.out.coll uv)
          have HGt2 := hid (HGt.out.coll HNM.out HIt.out uv)
          have HA2 : Hid (∃ R, Alk R s (collS E uv t)) := hid (by obtain ⟨R, h⟩ := HA.out; exact ⟨R, h.collR HNM.out HIt.out HGt.out uv⟩)
          have hot2 : (collS E uv t).out.length ≤ j := hot
          generalize collS E uv t = t2 at *
          clear HIt HGt HD HA
          go_wp2_with fail
          refine hcl.out.mono ?_
          clear hcl
          intro e w5 hh
          obtain ⟨hx, hD5, hB5⟩ := hh
          subst e
          have HD := hid hD5.swap
          have HIt := HIt2
          have HGt := HGt2
          have HA := HA2
          have HB5 := hid (HB.out.trans hB5)
          clear hD5 hB5 HIt2 HGt2 HA2 y0 HB hot
          have HB := HB5
          clear HB5
          have hst1 := hid (hpl.out _ K1 K2 s t2 1 0 HD.out hk1 HIs.out (by omega))
          have HIsN := hid (HIs.out.opK hok 1 0)
          have HItN := hid (HIt.out.opK hok 1 0)
          have HGsN := hid (HGs.out.opK2 hok HNM.out HIs.out)
          have HGtN := hid (HGt.out.opK2 hok HNM.out HIt.out)
          have HAN := hid (alk_opK hok HNM.out HEL.out HIs.out HGs.out HIt.out HGt.out HA.out)
          have hosN := opK_out E 1 0 s
          have hotN := opK_out E 1 0 t2
          generalize hgs : opK E 1 0 s = s' at *
          generalize hgt : opK E 1 0 t2 = t' at *
          have HGT := hid hgt
          clear HD HA HGs HGt HIs hgs hgt
          go_wp2_with fail
          refine hst1.out.mono ?_
          clear hst1
          intro e w6 hh
          obtain ⟨hx, hD6, hB6⟩ := hh
          subst e
          have hst2 := hid (hpl.out w6 K2 K1 t2 s' 1 0 hD6.swap hk2 HIt.out (by omega))
          rw [HGT.out] at hst2
          have HB6 := hid (HB.out.trans hB6)
          clear hD6 hB6 HB HIt HGT
          go_wp2_with fail
          refine hst2.out.mono ?_
          clear hst2
          intro e w7 hh
          obtain ⟨hx, hD7, hB7⟩ := hh
          subst e
          have hal := hid (duo_alike hD7.swap hk1 hk2 hok HIsN.out HItN.out HGsN.out HGtN.out HAN.out)
          have HB7 := hid (HB6.out.trans hB7)
          have HD7 := hid hD7.swap
          clear hD7 hB7 HB6
          go_wp2_with fail
          refine hal.out.mono ?_
          clear hal
          intro e w8 hh
          obtain ⟨hx, hb8⟩ := hh
          subst e
          have HD8 := hid (HD7.out.keep hb8)
          have HB8 := hid (HB7.out.trans (hb8.mono HB7.out.size))
          clear hb8 HD7 HB7
          go_wp2_with fail
          go_roundg (M - (j + 1))
          case measure => omega
          case rel => exact ⟨j + 1, s', t', by omega, rfl, by go_num, rfl, rfl, HD8.out, HIsN.out, HItN.out, HGsN.out, HGtN.out, HAN.out, by omega, by omega, HB8.out⟩
      · have z0 : ¬ m1 = 0 := by omega
        obtain ⟨m, hm0⟩ : ∃ m, m = j % m1 := ⟨_, rfl⟩
        have hml : m < m1 := by rw [hm0]; exact Nat.mod_lt _ hz0
        have hmod : (j : Int) % (m1 : Int) = (m : Int) := by rw [hm0]; rfl
        have d3 : (0 : Int) ≤ (m : Int) := by omega
        have d4 : (m : Int) < (m1 : Int) := by omega
        have hml2 : m < us.length := by rw [← HM1.out]; exact hml
        rcases (HU.out.keep HB.out) with ⟨hn, _⟩ | ⟨a, cap, hv, hcell, _⟩
        · cases hn; omega
        rw [← HM1.out] at hv
        cases hv
        have y0 := hcell m us[m] (List.getElem?_eq_getElem hml2)
        have hpk := hid (hpu.out wr us[m] (List.getElem_mem hml2))
        have hpk4 := pickN_lt us[m] (n := 100) (by omega)
        generalize us[m] = u at *
        clear hcell hm0
        go_wp2_with fail
        refine hpk.out.mono ?_
        clear hpk
        intro e w4 hh
        obtain ⟨hx, hw⟩ := hh
        subst e
        subst w4
        generalize pickN u 100 = uu at *
        have hcl := hid (hpl.out wr K1 K2 s t 2 uu HD.out hk1 HIs.out (by omega))
        rw [opK_coll E uu (by omega) s] at hcl
        have HIs2 := hid (HIs.out.coll uu)
        have HGs2 := hid (HGs.out.coll HNM.out HIs.out uu)
        have HA2 : Hid (∃ R, Alk R (collS E uu s) t) := hid (by obtain ⟨R, h⟩ := HA.out; exact ⟨R, h.coll HNM.out HIs.out HGs.out uu⟩)
        have hos2 : (collS E uu s).out.length ≤ j := hos
        generalize collS E uu s = s2 at *
        clear HIs HGs HD HA
        go_wp2_with fail
        refine hcl.out.mono ?_
        clear hcl
        intro e w4 hh
        obtain ⟨hx, hD4, hB4⟩ := hh
        subst e
        have HD := hid hD4
        have HIs := HIs2
        have HGs := HGs2
        have HA := HA2
        have HB4 := hid (HB.out.trans hB4)
        clear hD4 hB4 HIs2 HGs2 HA2 y0 HB hos
        have HB := HB4
        clear HB4
        rcases Nat.eq_zero_or_pos m2 with hz1 | hz1
        · have z1 : ¬ 0 < m2 := by omega
          clear hz1
          have hst1 := hid (hpl.out _ K1 K2 s2 t 1 0 HD.out hk1 HIs.out (by omega))
          have HIsN := hid (HIs.out.opK hok 1 0)
          have HItN := hid (HIt.out.opK hok 1 0)
          have HGsN := hid (HGs.out.opK2 hok HNM.out HIs.out)
          have HGtN := hid (HGt.out.opK2 hok HNM.out HIt.out)
          have HAN := hid (alk_opK hok HNM.out HEL.out HIs.out HGs.out HIt.out HGt.out HA.out)
          have hosN := opK_out E 1 0 s2
          have hotN := opK_out E 1 0 t
          generalize hgs : opK E 1 0 s2 = s' at *
          generalize hgt : opK E 1 0 t = t' at *
          have HGT := hid hgt
          clear HD HA HGs HGt HIs hgs hgt
          go_wp2_with fail
          refine hst1.out.mono ?_
          clear hst1
          intro e w6 hh
          obtain ⟨hx, hD6, hB6⟩ := hh
          subst e
          have hst2 := hid (hpl.out w6 K2 K1 t s' 1 0 hD6.swap hk2 HIt.out (by omega))
          rw [HGT.out] at hst2
          have HB6 := hid (HB.out.trans hB6)
          clear hD6 hB6 HB HIt HGT
          go_wp2_with fail
          refine hst2.out.mono ?_
          clear hst2
          intro e w7 hh
          obtain ⟨hx, hD7, hB7⟩ := hh
          subst e
          have hal := hid (duo_alike hD7.swap hk1 hk2 hok HIsN.out HItN.out HGsN.out HGtN.out HAN.out)
          have HB7 := hid (HB6.out.trans hB7)
          have HD7 := hid hD7.swap
          clear hD7 hB7 HB6
          go_wp2_with fail
          refine hal.out.mono ?_
          clear hal
          intro e w8 hh
          obtain ⟨hx, hb8⟩ := hh
          subst e
          have HD8 := hid (HD7.out.keep hb8)
          have HB8 := hid (HB7.out.trans (hb8.mono HB7.out.size))
          clear hb8 HD7 HB7
          go_wp2_with fail
          go_roundg (M - (j + 1))
          case measure => omega
          case rel => exact ⟨j + 1, s', t', by omega, rfl, by go_num, rfl, rfl, HD8.out, HIsN.out, HItN.out, HGsN.out, HGtN.out, HAN.out, by omega, by omega, HB8.out⟩
        · have z1 : ¬ m2 = 0 := by omega
          obtain ⟨m', hm0'⟩ : ∃ m', m' = j % m2 := ⟨_, rfl⟩
          have hml' : m' < m2 := by rw [hm0']; exact Nat.mod_lt _ hz1
          have hmod' : (j : Int) % (m2 : Int) = (m' : Int) := by rw [hm0']; rfl
          have d3' : (0 : Int) ≤ (m' : Int) := by omega
          have d4' : (m' : Int) < (m2 : Int) := by omega
          have hml2' : m' < ys.length := by rw [← HM2.out]; exact hml'
          rcases (HY.out.keep HB.out) with ⟨hn, _⟩ | ⟨a', cap', hv, hcell, _⟩
          · cases hn; omega
          rw [← HM2.out] at hv
          cases hv
          have y0 := hcell m' ys[m'] (List.getElem?_eq_getElem hml2')
          have hpk := hid (hpy.out w4 ys[m'] (List.getElem_mem hml2'))
          have hpk4' := pickN_lt ys[m'] (n := 100) (by omega)
          generalize ys[m'] = u' at *
          clear hcell hm0'
          go_wp2_with fail
          refine hpk.out.mono ?_
          clear hpk
          intro e w5 hh
          obtain ⟨hx, hw⟩ := hh
          subst e
          subst w5
          generalize pickN u' 100 = uv at *
          have hcl := hid (hpl.out _ K2 K1 t s2 2 uv HD.out.swap hk2 HIt.out (by omega))
          rw [opK_coll E uv (by omega) t] at hcl
          have HIt2 := hid (HIt.out.coll uv)
          have HGt2 := hid (HGt.out.coll HNM.out HIt.out uv)
          have HA2 : Hid (∃ R, Alk R s2 (collS E uv t)) := hid (by obtain ⟨R, h⟩ := HA.out; exact ⟨R, h.collR HNM.out HIt.out HGt.out uv⟩)
          have hot2 : (collS E uv t).out.length ≤ j := hot
          generalize collS E uv t = t2 at *
          clear HIt HGt HD HA
          go_wp2_with fail
          refine hcl.out.mono ?_
          clear hcl
          intro e w5 hh
          obtain ⟨hx, hD5, hB5⟩ := hh
          subst e
          have HD := hid hD5.swap
          have HIt := HIt2
          have HGt := HGt2
          have HA := HA2
          have HB5 := hid (HB.out.trans hB5)
          clear hD5 hB5 HIt2 HGt2 HA2 y0 HB hot
          have HB := HB5
          clear HB5
          have hst1 := hid (hpl.out _ K1 K2 s2 t2 1 0 HD.out hk1 HIs.out (by omega))
          have HIsN := hid (HIs.out.opK hok 1 0)
          have HItN := hid (HIt.out.opK hok 1 0)
          have HGsN := hid (HGs.out.opK2 hok HNM.out HIs.out)
          have HGtN := hid (HGt.out.opK2 hok HNM.out HIt.out)
          have HAN := hid (alk_opK hok HNM.out HEL.out HIs.out HGs.out HIt.out HGt.out HA.out)
          have hosN := opK_out E 1 0 s2
          have hotN := opK_out E 1 0 t2
          generalize hgs : opK E 1 0 s2 = s' at *
          generalize hgt : opK E 1 0 t2 = t' at *
          have HGT := hid hgt
          clear HD HA HGs HGt HIs hgs hgt
          go_wp2_with fail
          refine hst1.out.mono ?_
          clear hst1
          intro e w6 hh
          obtain ⟨hx, hD6, hB6⟩ := hh
          subst e
          have hst2 := hid (hpl.out w6 K2 K1 t2 s' 1 0 hD6.swap hk2 HIt.out (by omega))
          rw [HGT.out] at hst2
          have HB6 := hid (HB.out.trans hB6)
          clear hD6 hB6 HB HIt HGT
          go_wp2_with fail
          refine hst2.out.mono ?_
          clear hst2
          intro e w7 hh
          obtain ⟨hx, hD7, hB7⟩ := hh
          subst e
          have hal := hid (duo_alike hD7.swap hk1 hk2 hok HIsN.out HItN.out HGsN.out HGtN.out HAN.out)
          have HB7 := hid (HB6.out.trans hB7)
          have HD7 := hid hD7.swap
          clear hD7 hB7 HB6
          go_wp2_with fail
          refine hal.out.mono ?_
          clear hal
          intro e w8 hh
          obtain ⟨hx, hb8⟩ := hh
          subst e
          have HD8 := hid (HD7.out.keep hb8)
          have HB8 := hid (HB7.out.trans (hb8.mono HB7.out.size))
          clear hb8 HD7 HB7
          go_wp2_with fail
          go_roundg (M - (j + 1))
          case measure => omega
          case rel => exact ⟨j + 1, s', t', by omega, rfl, by go_num, rfl, rfl, HD8.out, HIsN.out, HItN.out, HGsN.out, HGtN.out, HAN.out, by omega, by omega, HB8.out⟩
    · have d1 : ¬ (j : Int) < (M : Int) := by omega
      have hou1 := hid (duo_output HD.out (by omega))
      have hout : s.out = t.out := by obtain ⟨R, h⟩ := HA.out; exact h.out
      have HOUT := hid hout
      clear hout
      go_wp2_with fail
      refine hou1.out.mono ?_
      clear hou1
      intro e w5 hh
      obtain ⟨hb5, vo1, hx, ho1⟩ := hh
      subst e
      obtain ⟨po1, co1, eo1⟩ := owns_slice ho1
      have hou2 := hid (duo_output (HD.out.keep hb5).swap (by omega))
      have HO1 := hid ho1
      have HB5 := hid (HB.out.trans (hb5.mono HB.out.size))
      subst eo1
      clear hb5 ho1
      go_wp2_with fail
      refine hou2.out.mono ?_
      clear hou2
      intro e w6 hh
      obtain ⟨hb6, vo2, hx, ho2⟩ := hh
      subst e
      rw [← HOUT.out] at ho2
      obtain ⟨po2, co2, eo2⟩ := owns_slice ho2
      have hsm := hid (sameK_any s.out (.slice po1 s.out.length co1) vo2 w6 (zsK_below (zsK_owns HO1.out) hb6) (zsK_owns ho2) (by omega))
      have HB6 := hid (HB5.out.trans (hb6.mono HB5.out.size))
      subst eo2
      clear hb6 ho2
      go_wp2_with fail
      refine hsm.out.mono ?_
      clear hsm
      intro e w7 hh
      obtain ⟨hx, nn, hw⟩ := hh
      subst e
      subst w7
      go_wp2_with fail
      go_ret
      exact ⟨rfl, HB6.out.trans ((below_dn _ _).mono HB6.out.size)⟩
end Go.Proofs.YtdmdpindonghdabDoor
namespace Go.Proofs.YtdmdpindonghdabDoor
open Go.ChangeShapes Go.WideShapes Go.ChangeAt Go.ChangeMaps Go.RowKit
set_option maxRecDepth 100000 in
/-- A list of numbers that is handed in, each in its range. -/
theorem ints_argR {H : Type} {enc : TypeId × Value → H} {W : World} {v : Value} {d : DataW H} {p : List MemPlace} {base : Nat} (hok : Value.okWide Tryd.prog W .any base 22 v) (h : DataW.Trod enc Tryd.prog W 0 (fun _ => true) true 22 v d p) (hlt : ∀ x ∈ p, x.block < W.heap.size) (hw : (d.weights Tryd.prog 22).all (· ≤ reachBytes) = true) :
    ∃ zs : List Int, ArgInts W v zs ∧ zs.length ≤ 17592186043904 ∧ (∀ p n c, v = .slice p n c → n ≤ c ∧ c ≤ maxLen) ∧ ∀ u ∈ zs, -9223372036854775808 ≤ u ∧ u ≤ 9223372036854775807 := by
  obtain ⟨a0, len, cap, rfl⟩ := okWide_slice Tryd.underlying22 hok
  obtain ⟨fuel, hf⟩ := h
  rcases open_ints Tryd.underlying22 Tryd.underlying3 cellsInt hf with ⟨hcs, hx⟩ | ⟨a, len', cap', zs, hcs, _, hl, hm, hz, hx, hcell, hwf⟩
  · simp [Value.cells] at hcs
    obtain ⟨rfl, rfl, rfl⟩ := hcs
    exact ⟨[], .inl ⟨rfl, rfl⟩, by simp, fun p n c h => by cases h; exact ⟨Nat.le_refl _, Nat.zero_le _⟩, fun u hu => by cases hu⟩
  · simp [Value.cells] at hcs
    obtain ⟨rfl, rfl, rfl⟩ := hcs
    simp only [Prod.mk.injEq] at hx
    obtain ⟨rfl, rfl⟩ := hx
    simp only [if_true] at hz
    have hlz : (zs.take len).length = len := by rw [List.length_take]; omega
    refine ⟨zs.take len, .inr ⟨a, cap, by rw [hlz], ?_, ?_⟩, ?_, fun p n c h => by cases h; exact ⟨hl, hm⟩, fun u hu => int_range (hwf u (List.mem_of_mem_take hu))⟩
    · intro j x hj
      have hjl := (List.getElem?_eq_some_iff.1 hj).1
      rw [hlz] at hjl
      rw [List.getElem?_take, if_pos hjl] at hj
      rw [hcell j (by omega), List.getD_eq_getElem?_getD, hj]
      rfl
    · intro hp
      exact hlt (.cell a.block (a.off + 0)) (MemPlace.mem_row.2 ⟨0, by omega, rfl⟩)
    · rw [hlz]
      have := hw
      simp only [DataW.weights, Tryd.underlying22, List.all_cons, Bool.and_eq_true, decide_eq_true_eq, bytesInt] at this
      have h2 := this.1
      simp only [lits, List.length_map, hlz] at h2
      have : reachBytes = 140737488351232 := rfl
      omega
set_option maxRecDepth 100000 in
theorem same_lifted (os : Os) (started : os.Started) (H : Type) (enc : TypeId × Value → H) :
    ReturnsInHanded {} Tryd.checked os 5 .any (fun w args => (Rows.sameSpec.pre enc Tryd.prog Tryd.f5 Rows.sameRow.domain false w args ∧ laidMetH Tryd.prog Rows.sameRow.laid w) ∧ sizedMet enc Tryd.prog Tryd.f5 (OpenSpec.ofChange Rows.sameSpec) false w args)
      (Rows.sameSpec.post enc Tryd.prog Tryd.f5 false true false false) := by
  refine returnsInHanded_of_change_and (C := Tryd.checked) (X := fun w _ => laidMetH Tryd.prog Rows.sameRow.laid w) (fun _ _ _ hh h => h.of_heap hh) knobs started (by kernel_rfl) Tryd.func5
    (ChangeSpec.witness_shaped (enc := enc) (C := Tryd.checked) (os := os) (X := fun w _ => laidMetH Tryd.prog Rows.sameRow.laid w) false (World.laidAll Tryd.prog os Rows.sameRow.laid) #[.string ⟨#[]⟩, .slice none 0 0, .int .i64 0, .slice none 0 0, .slice none 0 0, .int .i64 0] 8 (World.laidAll_os _ _ _)
      (World.shaped_of_ZipB (by kernel_rfl) (by kernel_rfl)) (by kernel_rfl) (by kernel_rfl) (by kernel_rfl)
      (by rw [MakeChecks.laidMetH_plain _ _ _ (by kernel_rfl)]; exact laidMet_laidAll _ (by kernel_rfl) (by kernel_rfl))) ?_
  intro W base args ds gs before hval0 hW _ hsz hL _
  have hval : ∀ (j : Nat) t v, Tryd.f5.params[j]? = some t → args[j]? = some v → Value.okWide Tryd.prog W .any base t v := hval0
  have hW' := hW
  obtain ⟨p, q, hA0, hV, rfl, _, _⟩ := hW
  have hA : DataW.TrodAll enc Tryd.prog W 0 (fun _ => true) true Tryd.f5.params.toList args.toList ds p := hA0
  obtain ⟨rfl, rfl⟩ := trodVars_none hV
  have hlt : ∀ x ∈ p, x.block < W.heap.size := fun x hx => by
    have := hW'.lt x (by simpa using hx)
    exact this
  rw [Tryd.params5] at hA hval hsz
  obtain ⟨v0, v1, v2, v3, v9, v4, d0, d1, d2, d3, d9, d4, p0, p1, p2, p3, p9, p4, rfl, rfl, rfl, h0, h1, h2, h3, h9, h4⟩ := trodAll_six hA
  obtain ⟨s, rfl, rfl, rfl, hs⟩ := open_string Tryd.underlying9 (hval 0 9 v0 rfl rfl) h0
  obtain ⟨n, rfl, rfl, rfl, hn⟩ := open_int Tryd.underlying3 (hval 2 3 v2 rfl rfl) h2
  obtain ⟨m, rfl, rfl, rfl, hm⟩ := open_int Tryd.underlying3 (hval 5 3 v4 rfl rfl) h4
  have hw1 : (d1.weights Tryd.prog 22).all (· ≤ reachBytes) = true := by
    have := hsz
    simp only [List.append_nil, List.cons_append, List.nil_append, DataW.weightsEach, List.all_append, Bool.and_eq_true] at this
    exact this.2.1
  have hw3 : (d3.weights Tryd.prog 22).all (· ≤ reachBytes) = true := by
    have := hsz
    simp only [List.append_nil, List.cons_append, List.nil_append, DataW.weightsEach, List.all_append, Bool.and_eq_true] at this
    exact this.2.2.2.1
  have hw9 : (d9.weights Tryd.prog 22).all (· ≤ reachBytes) = true := by
    have := hsz
    simp only [List.append_nil, List.cons_append, List.nil_append, DataW.weightsEach, List.all_append, Bool.and_eq_true] at this
    exact this.2.2.2.2.1
  have hlt9 : ∀ x ∈ p9, x.block < W.heap.size := fun x hx => hlt x (by simp [hx])
  have hlt1 : ∀ x ∈ p1, x.block < W.heap.size := fun x hx => hlt x (by simp [hx])
  have hlt3 : ∀ x ∈ p3, x.block < W.heap.size := fun x hx => hlt x (by simp [hx])
  obtain ⟨us, hu, hul, _, hur⟩ := ints_argR (hval 3 22 v3 rfl rfl) h3 hlt3 hw3
  obtain ⟨ys, hy, hyl, _, hyr⟩ := ints_argR (hval 4 22 v9 rfl rfl) h9 hlt9 hw9
  obtain ⟨zs, hz, hzl, hcap⟩ := ints_arg (hval 1 22 v1 rfl rfl) h1 hlt1 hw1
  have t1 := flow_of_laid hL
  obtain ⟨n1, n2⟩ := int_range hn
  obtain ⟨m1, m2⟩ := int_range hm
  refine (same_any s v1 v3 v9 zs us ys n m W hs t1 hz hcap hu hul hur hy hyl hyr n1 n2 m1 m2).mono fun e W' ⟨he, hb⟩ => ?_
  subst he
  have hr1 : DataW.Trod enc Tryd.prog W' 0 (fun b => decide (b < W.heap.size)) true 22 v1 d1 p1 := Below.trod laidOutP (by kernel_rfl) (of_decide_eq_true (by kernel_rfl)) h1 hb hlt1
  have hr3 : DataW.Trod enc Tryd.prog W' 0 (fun b => decide (b < W.heap.size)) true 22 v3 d3 p3 := Below.trod laidOutP (by kernel_rfl) (of_decide_eq_true (by kernel_rfl)) h3 hb hlt3
  have hr9 : DataW.Trod enc Tryd.prog W' 0 (fun b => decide (b < W.heap.size)) true 22 v9 d9 p9 := Below.trod laidOutP (by kernel_rfl) (of_decide_eq_true (by kernel_rfl)) h9 hb hlt9
  exact ⟨_, rfl, _, _, _, [], _, [], hW', trodAll_mk1 (shut_bool Tryd.underlying4 _), trodAll_mk6 (shut_string Tryd.underlying9 hs) hr1 (shut_int Tryd.underlying3 hn) hr3 hr9 (shut_int Tryd.underlying3 hm), rfl, hb.frame _, fun h => by cases h⟩
theorem same_holds : Rows.SameSaid :=
  OpenClaim.holds_of_wide 5 Tryd.f5 rfl rfl rfl rfl rfl rfl rfl ⟨rfl, rfl, rfl, rfl, rfl⟩ rfl rfl rfl rfl rfl (by kernel_rfl) Tryd.func5 (by kernel_rfl)
    (of_decide_eq_true (by kernel_rfl)) (by unfold Func.isWrapper; first | (rw [if_pos (by decide +kernel)]; kernel_rfl) | (rw [if_neg (by decide +kernel)]; exact ⟨rfl, rfl⟩))
    (fun os started H enc _ => same_lifted os started H enc)
theorem same_card_holds : Rows.SameCardSaid :=
  Claim7.holds_tied_plain_at .later [] [.data, .data] true Rows.sameCard.stood.harness false
    same_holds (fun _ h => by cases h) (by kernel_rfl) (fun _ h => by cases h) same_row_tie rfl ⟨rfl, rfl⟩ (by kernel_rfl) rfl
    (fun f fn hf hfn => by
      obtain rfl : f = 5 := Option.some.inj ((show Tryd.prog.funcNamed "tint/tintkeep.Same" = some 5 by kernel_rfl).symm.trans hf) |>.symm
      obtain rfl : fn = Tryd.f5 := (Option.some.inj (Tryd.func5.symm.trans hfn)).symm
      exact ⟨by kernel_rfl, fun j t ht => by
        rw [Tryd.params5] at ht
        have hm : t ∈ [9, 22, 3, 22, 22, 3] := by simpa using Array.mem_of_getElem? ht
        have hall : ([9, 22, 3, 22, 22, 3].all fun u => !Tryd.prog.wantsStandIn u) = true := by kernel_rfl
        exact (show Tryd.prog.wantsStandIn t = false by simpa using List.all_eq_true.1 hall t hm)⟩)
    (by kernel_rfl)
#print axioms same_card_holds
end Go.Proofs.YtdmdpindonghdabDoor
