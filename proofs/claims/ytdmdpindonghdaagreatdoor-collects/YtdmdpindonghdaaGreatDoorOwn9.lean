/- What the proofs of these statements stand on, part 9: PmM, PmN, PmO, PmP, LaidA, CardN. -/
import Derived.Test.YtdmdpindonghdaaGreatDoorRows
import Derived.Test.YtdmdpindonghdaaGreatDoorTie
import Derived.Test.YtdmdpindonghdaaGreatDoorCards
import Derived.Test.YtdmdpindonghdaaGreatDoorOwn8
import Derived.WalkKit
import Derived.WalkSmall
import Derived.Deep.AppendLies
import Derived.Deep.DeepMust
import Derived.Deep.LoopGhost
import Derived.WalkSpells
import Derived.WalkLawsBesides
import Derived.BigRegion
import Derived.Deep.QuietTactic
import Derived.BigQuiet
import Derived.Deep.RegionHeld3
import Derived.OwnWalk
import Derived.Laws.StructEq
import Derived.Deep.RegionLaw
import Derived.Deep.DeepCutAuto
import Derived.Laws.MakeOwn
import Derived.Laws.IdiomCopy
import Derived.ProofKit
import Derived.OpenShut
import Derived.Lay
import Derived.SevenTiedAt
import Derived.Stop.Joined
import Derived.Carry
namespace Go.Proofs.YtdmdpindonghdaaGreatDoor
open Go.RowKit
set_option maxRecDepth 100000 in
set_option maxHeartbeats 1000000 in
theorem do_2 {w : World} {K : PK} {E : Env} {vI vO : Value} {lo4 st8 : List Int} {s : MS} {a : Nat} {i : Ins} (h : DoPre K E vI vO lo4 st8 a s i w) (ho : i.op = 2) :
    Calls Tryz.prog 55 #[.pointer (some ⟨K.b, 0, none⟩), doV E i, .pointer (some ⟨a, 0, none⟩)] w (DoPost K vO lo4 st8 a ((s.at_ + 1 : Nat) : Int) s (stepI E i s) w) := by
  have HE : Hid (stepI E i s = goS E i (-1) s) := hid (step_go (by rw [ho]; exact ends_other (by decide) (by decide) (by decide) (by decide) (by decide) (by decide) (by decide)) (by omega) (by omega))
  have hB := BoxI.start w i.place i.op i.n (aimOf E.l i) h.sx.lt
  have h1 := h.sx.below ((Below.refl _ _).alloc (Nat.le_refl _) (.cells #[.int .i64 i.place, .int .i64 i.op, .int .i64 i.n, .int .i64 (aimOf E.l i)] 128))
  have hm1 := h.m.two hB.two h.out
  have hm := hid hm1
  have HOC := hid h.oc
  have PO := h.out
  have hstd := h.can.std ⟨by omega, by omega, by omega, by omega, by omega⟩
  obtain ⟨hp, f1, f2⟩ := hstd.two (c := 105) (d := 105) (by rw [ho]; rfl)
  have hl8 : (s.st.take (s.st.length - 2)).length < 8 := by have := h.inv.st h.ok; rw [List.length_take]; omega
  rw [st_two hp] at h1
  have hc := hid (reckon_2 h1 hl8)
  obtain ⟨op, n, pl⟩ := i
  simp only at ho
  subst ho
  have HT := hid hB.two
  unfold doV
  simp only at HT hm hc ⊢
  unfold insV
  generalize aimOf E.l ⟨2, n, pl⟩ = tg at *
  clear h hB h1 hm1 hstd f1 f2
  go_enter Tryz.func55, Tryz.ntmps55
  go_wp2_with fail
  refine hc.out.mono ?_
  clear hc
  intro e w2 hh
  obtain ⟨hx, hS, hO⟩ := hh
  subst e
  have HS := hid hS
  have HM2 := hid (hm.out.two (Two.of_only hO) PO)
  have HT2 := hid (HT.out.trans (Two.of_only hO))
  clear hS hO hm HT
  go_wp2_with fail
  go_ret
  exact do_fin HE.out HOC.out rfl (by rw [to_next (by simp) (by simp)]) rfl HM2.out HT2.out HS.out
set_option maxRecDepth 100000 in
set_option maxHeartbeats 1000000 in
theorem do_3 {w : World} {K : PK} {E : Env} {vI vO : Value} {lo4 st8 : List Int} {s : MS} {a : Nat} {i : Ins} (h : DoPre K E vI vO lo4 st8 a s i w) (ho : i.op = 3) :
    Calls Tryz.prog 55 #[.pointer (some ⟨K.b, 0, none⟩), doV E i, .pointer (some ⟨a, 0, none⟩)] w (DoPost K vO lo4 st8 a ((s.at_ + 1 : Nat) : Int) s (stepI E i s) w) := by
  have HE : Hid (stepI E i s = goS E i (-1) s) := hid (step_go (by rw [ho]; exact ends_other (by decide) (by decide) (by decide) (by decide) (by decide) (by decide) (by decide)) (by omega) (by omega))
  have hB := BoxI.start w i.place i.op i.n (aimOf E.l i) h.sx.lt
  have h1 := h.sx.below ((Below.refl _ _).alloc (Nat.le_refl _) (.cells #[.int .i64 i.place, .int .i64 i.op, .int .i64 i.n, .int .i64 (aimOf E.l i)] 128))
  have hm1 := h.m.two hB.two h.out
  have hm := hid hm1
  have HOC := hid h.oc
  have PO := h.out
  have hstd := h.can.std ⟨by omega, by omega, by omega, by omega, by omega⟩
  obtain ⟨hp, f1, f2⟩ := hstd.two (c := 105) (d := 105) (by rw [ho]; rfl)
  have hl8 : (s.st.take (s.st.length - 2)).length < 8 := by have := h.inv.st h.ok; rw [List.length_take]; omega
  rw [st_two hp] at h1
  have hc := hid (reckon_3 h1 hl8)
  obtain ⟨op, n, pl⟩ := i
  simp only at ho
  subst ho
  have HT := hid hB.two
  unfold doV
  simp only at HT hm hc ⊢
  unfold insV
  generalize aimOf E.l ⟨3, n, pl⟩ = tg at *
  clear h hB h1 hm1 hstd f1 f2
  go_enter Tryz.func55, Tryz.ntmps55
  go_wp2_with fail
  refine hc.out.mono ?_
  clear hc
  intro e w2 hh
  obtain ⟨hx, hS, hO⟩ := hh
  subst e
  have HS := hid hS
  have HM2 := hid (hm.out.two (Two.of_only hO) PO)
  have HT2 := hid (HT.out.trans (Two.of_only hO))
  clear hS hO hm HT
  go_wp2_with fail
  go_ret
  exact do_fin HE.out HOC.out rfl (by rw [to_next (by simp) (by simp)]) rfl HM2.out HT2.out HS.out
set_option maxRecDepth 100000 in
set_option maxHeartbeats 1000000 in
theorem do_4 {w : World} {K : PK} {E : Env} {vI vO : Value} {lo4 st8 : List Int} {s : MS} {a : Nat} {i : Ins} (h : DoPre K E vI vO lo4 st8 a s i w) (ho : i.op = 4) :
    Calls Tryz.prog 55 #[.pointer (some ⟨K.b, 0, none⟩), doV E i, .pointer (some ⟨a, 0, none⟩)] w (DoPost K vO lo4 st8 a ((s.at_ + 1 : Nat) : Int) s (stepI E i s) w) := by
  have HE : Hid (stepI E i s = goS E i (-1) s) := hid (step_go (by rw [ho]; exact ends_other (by decide) (by decide) (by decide) (by decide) (by decide) (by decide) (by decide)) (by omega) (by omega))
  have hB := BoxI.start w i.place i.op i.n (aimOf E.l i) h.sx.lt
  have h1 := h.sx.below ((Below.refl _ _).alloc (Nat.le_refl _) (.cells #[.int .i64 i.place, .int .i64 i.op, .int .i64 i.n, .int .i64 (aimOf E.l i)] 128))
  have hm1 := h.m.two hB.two h.out
  have hm := hid hm1
  have HOC := hid h.oc
  have PO := h.out
  have hstd := h.can.std ⟨by omega, by omega, by omega, by omega, by omega⟩
  obtain ⟨hp, f1, f2⟩ := hstd.two (c := 105) (d := 105) (by rw [ho]; rfl)
  have hl8 : (s.st.take (s.st.length - 2)).length < 8 := by have := h.inv.st h.ok; rw [List.length_take]; omega
  rw [st_two hp] at h1
  have hc := hid (reckon_4 h1 hl8)
  obtain ⟨op, n, pl⟩ := i
  simp only at ho
  subst ho
  have HT := hid hB.two
  unfold doV
  simp only at HT hm hc ⊢
  unfold insV
  generalize aimOf E.l ⟨4, n, pl⟩ = tg at *
  clear h hB h1 hm1 hstd f1 f2
  go_enter Tryz.func55, Tryz.ntmps55
  go_wp2_with fail
  refine hc.out.mono ?_
  clear hc
  intro e w2 hh
  obtain ⟨hx, hS, hO⟩ := hh
  subst e
  have HS := hid hS
  have HM2 := hid (hm.out.two (Two.of_only hO) PO)
  have HT2 := hid (HT.out.trans (Two.of_only hO))
  clear hS hO hm HT
  go_wp2_with fail
  go_ret
  exact do_fin HE.out HOC.out rfl (by rw [to_next (by simp) (by simp)]) rfl HM2.out HT2.out HS.out
set_option maxRecDepth 100000 in
set_option maxHeartbeats 1000000 in
theorem do_6 {w : World} {K : PK} {E : Env} {vI vO : Value} {lo4 st8 : List Int} {s : MS} {a : Nat} {i : Ins} (h : DoPre K E vI vO lo4 st8 a s i w) (ho : i.op = 6) :
    Calls Tryz.prog 55 #[.pointer (some ⟨K.b, 0, none⟩), doV E i, .pointer (some ⟨a, 0, none⟩)] w (DoPost K vO lo4 st8 a ((s.at_ + 1 : Nat) : Int) s (stepI E i s) w) := by
  have HE : Hid (stepI E i s = goS E i (-1) s) := hid (step_go (by rw [ho]; exact ends_other (by decide) (by decide) (by decide) (by decide) (by decide) (by decide) (by decide)) (by omega) (by omega))
  have hB := BoxI.start w i.place i.op i.n (aimOf E.l i) h.sx.lt
  have h1 := h.sx.below ((Below.refl _ _).alloc (Nat.le_refl _) (.cells #[.int .i64 i.place, .int .i64 i.op, .int .i64 i.n, .int .i64 (aimOf E.l i)] 128))
  have hm1 := h.m.two hB.two h.out
  have hm := hid hm1
  have HOC := hid h.oc
  have PO := h.out
  have hstd := h.can.std ⟨by omega, by omega, by omega, by omega, by omega⟩
  obtain ⟨hp, f1, f2⟩ := hstd.two (c := 105) (d := 105) (by rw [ho]; rfl)
  have hl8 : (s.st.take (s.st.length - 2)).length < 8 := by have := h.inv.st h.ok; rw [List.length_take]; omega
  rw [st_two hp] at h1
  have hc := hid (reckon_6 h1 hl8)
  obtain ⟨op, n, pl⟩ := i
  simp only at ho
  subst ho
  have HT := hid hB.two
  unfold doV
  simp only at HT hm hc ⊢
  unfold insV
  generalize aimOf E.l ⟨6, n, pl⟩ = tg at *
  clear h hB h1 hm1 hstd f1 f2
  go_enter Tryz.func55, Tryz.ntmps55
  go_wp2_with fail
  refine hc.out.mono ?_
  clear hc
  intro e w2 hh
  obtain ⟨hx, hS, hO⟩ := hh
  subst e
  have HS := hid hS
  have HM2 := hid (hm.out.two (Two.of_only hO) PO)
  have HT2 := hid (HT.out.trans (Two.of_only hO))
  clear hS hO hm HT
  go_wp2_with fail
  go_ret
  exact do_fin HE.out HOC.out rfl (by rw [to_next (by simp) (by simp)]) rfl HM2.out HT2.out HS.out
set_option maxRecDepth 100000 in
set_option maxHeartbeats 1000000 in
theorem do_5 {w : World} {K : PK} {E : Env} {vI vO : Value} {lo4 st8 : List Int} {s : MS} {a : Nat} {i : Ins} (h : DoPre K E vI vO lo4 st8 a s i w) (ho : i.op = 5) :
    Calls Tryz.prog 55 #[.pointer (some ⟨K.b, 0, none⟩), doV E i, .pointer (some ⟨a, 0, none⟩)] w (DoPost K vO lo4 st8 a ((s.at_ + 1 : Nat) : Int) s (stepI E i s) w) := by
  have hB := BoxI.start w i.place i.op i.n (aimOf E.l i) h.sx.lt
  have h1 := h.sx.below ((Below.refl _ _).alloc (Nat.le_refl _) (.cells #[.int .i64 i.place, .int .i64 i.op, .int .i64 i.n, .int .i64 (aimOf E.l i)] 128))
  have hm1 := h.m.two hB.two h.out
  have hm := hid hm1
  have HOC := hid h.oc
  have PO := h.out
  have hstd := h.can.std ⟨by omega, by omega, by omega, by omega, by omega⟩
  obtain ⟨hp, f1, f2⟩ := hstd.two (c := 105) (d := 105) (by rw [ho]; rfl)
  have hl8 : (s.st.take (s.st.length - 2)).length < 8 := by have := h.inv.st h.ok; rw [List.length_take]; omega
  rw [st_two hp] at h1
  by_cases hz : (lastW s.st 0).2 = 0
  · have he3 : endsC s.hs.1 s.st i.op = 3 := by rw [ho]; show (if (lastW s.st 0).2 = 0 then (3 : Int) else 0) = 3; rw [if_pos hz]
    have HE : Hid (stepI E i s = { s with oc := 3 }) := hid (by rw [step_trap (by omega) (by omega), he3]; rfl)
    have hc := hid (reckon_50 h1 hz)
    obtain ⟨op, n, pl⟩ := i
    simp only at ho
    subst ho
    have HT := hid hB.two
    unfold doV
    simp only at HT hm hc ⊢
    unfold insV
    generalize aimOf E.l ⟨5, n, pl⟩ = tg at *
    clear h hB h1 hm1 hstd f1 f2 he3
    go_enter Tryz.func55, Tryz.ntmps55
    go_wp2_with fail
    refine hc.out.mono ?_
    clear hc
    intro e w2 hh
    obtain ⟨hx, hS, hO⟩ := hh
    subst e
    have HM2 := hid (hm.out.two (Two.of_only hO) PO)
    have HT2 := hid (HT.out.trans (Two.of_only hO))
    clear hS hO hm HT
    go_wp2_with fail
    go_ret
    rw [HE.out]
    exact ⟨rfl, ⟨vI, vO, HM2.out, fun g hg => .inl hg⟩, two_touch HT2.out, fun e => by (cases e), fun e => by (cases e)⟩
  · have HE : Hid (stepI E i s = goS E i (-1) s) := hid (step_go (by rw [ho]; show (if (lastW s.st 0).2 = 0 then (3 : Int) else 0) = 0; rw [if_neg hz]) (by omega) (by omega))
    have hc := hid (reckon_5 h1 hl8 hz)
    obtain ⟨op, n, pl⟩ := i
    simp only at ho
    subst ho
    have HT := hid hB.two
    unfold doV
    simp only at HT hm hc ⊢
    unfold insV
    generalize aimOf E.l ⟨5, n, pl⟩ = tg at *
    clear h hB h1 hm1 hstd f1 f2
    go_enter Tryz.func55, Tryz.ntmps55
    go_wp2_with fail
    refine hc.out.mono ?_
    clear hc
    intro e w2 hh
    obtain ⟨hx, hS, hO⟩ := hh
    subst e
    have HS := hid hS
    have HM2 := hid (hm.out.two (Two.of_only hO) PO)
    have HT2 := hid (HT.out.trans (Two.of_only hO))
    clear hS hO hm HT
    go_wp2_with fail
    go_ret
    exact do_fin HE.out HOC.out rfl (by rw [to_next (by simp) (by simp)]) rfl HM2.out HT2.out HS.out
set_option maxRecDepth 100000 in
set_option maxHeartbeats 1000000 in
theorem do_14 {w : World} {K : PK} {E : Env} {vI vO : Value} {lo4 st8 : List Int} {s : MS} {a : Nat} {i : Ins} (h : DoPre K E vI vO lo4 st8 a s i w) (ho : i.op = 14) :
    Calls Tryz.prog 55 #[.pointer (some ⟨K.b, 0, none⟩), doV E i, .pointer (some ⟨a, 0, none⟩)] w (DoPost K vO lo4 st8 a ((s.at_ + 1 : Nat) : Int) s (stepI E i s) w) := by
  have hB := BoxI.start w i.place i.op i.n (aimOf E.l i) h.sx.lt
  have h1 := h.sx.below ((Below.refl _ _).alloc (Nat.le_refl _) (.cells #[.int .i64 i.place, .int .i64 i.op, .int .i64 i.n, .int .i64 (aimOf E.l i)] 128))
  have hm1 := h.m.two hB.two h.out
  have hm := hid hm1
  have HOC := hid h.oc
  have PO := h.out
  have hstd := h.can.std ⟨by omega, by omega, by omega, by omega, by omega⟩
  obtain ⟨hp, f1⟩ := hstd.one (c := 114) (by rw [ho]; rfl)
  have hl8 : (s.st.take (s.st.length - 1)).length < 8 := by have := h.inv.st h.ok; rw [List.length_take]; omega
  have hr := (h.inv.ref hp (letB_r f1)).2
  rw [← h.inv.n] at hr
  have hends : endsC s.hs.1 s.st i.op = wantsC s.hs.1 (lastW s.st 0).2 false := by rw [ho]; rfl
  have hwv := wants_vals s.hs.1 (lastW s.st 0).2 false
  rw [st_one hp] at h1
  have HG : Hid (wantsC s.hs.1 (lastW s.st 0).2 false = 0 → stepI E i s = goS E i (-1) s) := hid (fun e => step_go (by rw [hends, e]) (by omega) (by omega))
  have HR : Hid (wantsC s.hs.1 (lastW s.st 0).2 false ≠ 0 → stepI E i s = { s with oc := (wantsC s.hs.1 (lastW s.st 0).2 false).toNat }) := hid (fun e => by rw [step_trap (by rw [hends]; exact e) (by rw [hends]; omega), hends])
  obtain ⟨op, n, pl⟩ := i
  simp only at ho
  subst ho
  have hc := hid (read_14 hm1 h1 hl8 PO hr true pl n (aimOf E.l ⟨14, n, pl⟩))
  have HD : Hid (doesS E ⟨14, n, pl⟩ (-1) s = { s with st := s.st.take (s.st.length - 1) ++ [(true, readV s.hs.1 14 n (lastW s.st 0).2)] }) := hid rfl
  have HT := hid hB.two
  unfold doV
  simp only at HT hm hc ⊢
  unfold insV at hc ⊢
  generalize aimOf E.l ⟨14, n, pl⟩ = tg at *
  generalize readV s.hs.1 14 n (lastW s.st 0).2 = rv at *
  clear h hB h1 hm1 hstd f1 hends
  generalize wantsC s.hs.1 (lastW s.st 0).2 false = q at *
  go_enter Tryz.func55, Tryz.ntmps55
  go_wp2_with fail
  refine hc.out.mono ?_
  clear hc
  intro e w2 hh
  obtain ⟨hx, hS, hO⟩ := hh
  subst e
  have HS := hid hS
  have HM2 := hid (hm.out.two hO PO)
  have HT2 := hid (HT.out.trans hO)
  clear hS hO hm HT
  go_wp2_with fail
  go_ret
  by_cases hq : q = 0
  · have h9 := HS.out
    rw [if_pos hq] at h9
    exact do_fin (HG.out hq) HOC.out HD.out (by rw [to_next (by simp) (by simp)]) (by subst hq; rfl) HM2.out HT2.out h9
  · rw [HR.out hq]
    refine ⟨?_, ⟨vI, vO, HM2.out, fun g hg => .inl hg⟩, two_touch HT2.out, fun e => ?_, fun e => ?_⟩
    · simp only
      rw [show ((q.toNat : Nat) : Int) = q by omega]
      rfl
    · simp only at e; omega
    · simp only at e; omega
set_option maxRecDepth 100000 in
set_option maxHeartbeats 1000000 in
theorem do_16 {w : World} {K : PK} {E : Env} {vI vO : Value} {lo4 st8 : List Int} {s : MS} {a : Nat} {i : Ins} (h : DoPre K E vI vO lo4 st8 a s i w) (ho : i.op = 16) :
    Calls Tryz.prog 55 #[.pointer (some ⟨K.b, 0, none⟩), doV E i, .pointer (some ⟨a, 0, none⟩)] w (DoPost K vO lo4 st8 a ((s.at_ + 1 : Nat) : Int) s (stepI E i s) w) := by
  have hB := BoxI.start w i.place i.op i.n (aimOf E.l i) h.sx.lt
  have h1 := h.sx.below ((Below.refl _ _).alloc (Nat.le_refl _) (.cells #[.int .i64 i.place, .int .i64 i.op, .int .i64 i.n, .int .i64 (aimOf E.l i)] 128))
  have hm1 := h.m.two hB.two h.out
  have hm := hid hm1
  have HOC := hid h.oc
  have PO := h.out
  have hstd := h.can.std ⟨by omega, by omega, by omega, by omega, by omega⟩
  obtain ⟨hp, f1⟩ := hstd.one (c := 114) (by rw [ho]; rfl)
  have hl8 : (s.st.take (s.st.length - 1)).length < 8 := by have := h.inv.st h.ok; rw [List.length_take]; omega
  have hr := (h.inv.ref hp (letB_r f1)).2
  rw [← h.inv.n] at hr
  have hends : endsC s.hs.1 s.st i.op = wantsC s.hs.1 (lastW s.st 0).2 false := by rw [ho]; rfl
  have hwv := wants_vals s.hs.1 (lastW s.st 0).2 false
  rw [st_one hp] at h1
  have HG : Hid (wantsC s.hs.1 (lastW s.st 0).2 false = 0 → stepI E i s = goS E i (-1) s) := hid (fun e => step_go (by rw [hends, e]) (by omega) (by omega))
  have HR : Hid (wantsC s.hs.1 (lastW s.st 0).2 false ≠ 0 → stepI E i s = { s with oc := (wantsC s.hs.1 (lastW s.st 0).2 false).toNat }) := hid (fun e => by rw [step_trap (by rw [hends]; exact e) (by rw [hends]; omega), hends])
  obtain ⟨op, n, pl⟩ := i
  simp only at ho
  subst ho
  have hc := hid (read_16 hm1 h1 hl8 PO hr false pl n (aimOf E.l ⟨16, n, pl⟩))
  have HD : Hid (doesS E ⟨16, n, pl⟩ (-1) s = { s with st := s.st.take (s.st.length - 1) ++ [(false, readV s.hs.1 16 n (lastW s.st 0).2)] }) := hid rfl
  have HT := hid hB.two
  unfold doV
  simp only at HT hm hc ⊢
  unfold insV at hc ⊢
  generalize aimOf E.l ⟨16, n, pl⟩ = tg at *
  generalize readV s.hs.1 16 n (lastW s.st 0).2 = rv at *
  clear h hB h1 hm1 hstd f1 hends
  generalize wantsC s.hs.1 (lastW s.st 0).2 false = q at *
  go_enter Tryz.func55, Tryz.ntmps55
  go_wp2_with fail
  refine hc.out.mono ?_
  clear hc
  intro e w2 hh
  obtain ⟨hx, hS, hO⟩ := hh
  subst e
  have HS := hid hS
  have HM2 := hid (hm.out.two hO PO)
  have HT2 := hid (HT.out.trans hO)
  clear hS hO hm HT
  go_wp2_with fail
  go_ret
  by_cases hq : q = 0
  · have h9 := HS.out
    rw [if_pos hq] at h9
    exact do_fin (HG.out hq) HOC.out HD.out (by rw [to_next (by simp) (by simp)]) (by subst hq; rfl) HM2.out HT2.out h9
  · rw [HR.out hq]
    refine ⟨?_, ⟨vI, vO, HM2.out, fun g hg => .inl hg⟩, two_touch HT2.out, fun e => ?_, fun e => ?_⟩
    · simp only
      rw [show ((q.toNat : Nat) : Int) = q by omega]
      rfl
    · simp only at e; omega
    · simp only at e; omega
set_option maxRecDepth 100000 in
set_option maxHeartbeats 1000000 in
theorem do_24 {w : World} {K : PK} {E : Env} {vI vO : Value} {lo4 st8 : List Int} {s : MS} {a : Nat} {i : Ins} (h : DoPre K E vI vO lo4 st8 a s i w) (ho : i.op = 24) :
    Calls Tryz.prog 55 #[.pointer (some ⟨K.b, 0, none⟩), doV E i, .pointer (some ⟨a, 0, none⟩)] w (DoPost K vO lo4 st8 a ((s.at_ + 1 : Nat) : Int) s (stepI E i s) w) := by
  have hB := BoxI.start w i.place i.op i.n (aimOf E.l i) h.sx.lt
  have h1 := h.sx.below ((Below.refl _ _).alloc (Nat.le_refl _) (.cells #[.int .i64 i.place, .int .i64 i.op, .int .i64 i.n, .int .i64 (aimOf E.l i)] 128))
  have hm1 := h.m.two hB.two h.out
  have hm := hid hm1
  have HOC := hid h.oc
  have PO := h.out
  have hstd := h.can.std ⟨by omega, by omega, by omega, by omega, by omega⟩
  obtain ⟨hp, f1⟩ := hstd.one (c := 114) (by rw [ho]; rfl)
  have hl8 : (s.st.take (s.st.length - 1)).length < 8 := by have := h.inv.st h.ok; rw [List.length_take]; omega
  have hr := (h.inv.ref hp (letB_r f1)).2
  rw [← h.inv.n] at hr
  have hends : endsC s.hs.1 s.st i.op = wantsC s.hs.1 (lastW s.st 0).2 true := by rw [ho]; rfl
  have hwv := wants_vals s.hs.1 (lastW s.st 0).2 true
  have hn0 := h.ok.n0 i h.can.mem (by rw [ho]; rfl)
  rw [st_one hp] at h1
  have HG : Hid (wantsC s.hs.1 (lastW s.st 0).2 true = 0 → stepI E i s = goS E i (-1) s) := hid (fun e => step_go (by rw [hends, e]) (by omega) (by omega))
  have HR : Hid (wantsC s.hs.1 (lastW s.st 0).2 true ≠ 0 → stepI E i s = { s with oc := (wantsC s.hs.1 (lastW s.st 0).2 true).toNat }) := hid (fun e => by rw [step_trap (by rw [hends]; exact e) (by rw [hends]; omega), hends])
  obtain ⟨op, n, pl⟩ := i
  simp only at ho
  subst ho
  simp only at hn0
  subst hn0
  have hc := hid (read_24 hm1 h1 hl8 PO hr true pl (aimOf E.l ⟨24, 0, pl⟩))
  have HD : Hid (doesS E ⟨24, 0, pl⟩ (-1) s = { s with st := s.st.take (s.st.length - 1) ++ [(true, readV s.hs.1 24 0 (lastW s.st 0).2)] }) := hid rfl
  have HT := hid hB.two
  unfold doV
  simp only at HT hm hc ⊢
  unfold insV at hc ⊢
  generalize aimOf E.l ⟨24, 0, pl⟩ = tg at *
  generalize readV s.hs.1 24 0 (lastW s.st 0).2 = rv at *
  clear h hB h1 hm1 hstd f1 hends
  generalize wantsC s.hs.1 (lastW s.st 0).2 true = q at *
  go_enter Tryz.func55, Tryz.ntmps55
  go_wp2_with fail
  refine hc.out.mono ?_
  clear hc
  intro e w2 hh
  obtain ⟨hx, hS, hO⟩ := hh
  subst e
  have HS := hid hS
  have HM2 := hid (hm.out.two hO PO)
  have HT2 := hid (HT.out.trans hO)
  clear hS hO hm HT
  go_wp2_with fail
  go_ret
  by_cases hq : q = 0
  · have h9 := HS.out
    rw [if_pos hq] at h9
    exact do_fin (HG.out hq) HOC.out HD.out (by rw [to_next (by simp) (by simp)]) (by subst hq; rfl) HM2.out HT2.out h9
  · rw [HR.out hq]
    refine ⟨?_, ⟨vI, vO, HM2.out, fun g hg => .inl hg⟩, two_touch HT2.out, fun e => ?_, fun e => ?_⟩
    · simp only
      rw [show ((q.toNat : Nat) : Int) = q by omega]
      rfl
    · simp only at e; omega
    · simp only at e; omega
set_option maxRecDepth 100000 in
set_option maxHeartbeats 1000000 in
theorem do_15 {w : World} {K : PK} {E : Env} {vI vO : Value} {lo4 st8 : List Int} {s : MS} {a : Nat} {i : Ins} (h : DoPre K E vI vO lo4 st8 a s i w) (ho : i.op = 15) :
    Calls Tryz.prog 55 #[.pointer (some ⟨K.b, 0, none⟩), doV E i, .pointer (some ⟨a, 0, none⟩)] w (DoPost K vO lo4 st8 a ((s.at_ + 1 : Nat) : Int) s (stepI E i s) w) := by
  have hB := BoxI.start w i.place i.op i.n (aimOf E.l i) h.sx.lt
  have h1 := h.sx.below ((Below.refl _ _).alloc (Nat.le_refl _) (.cells #[.int .i64 i.place, .int .i64 i.op, .int .i64 i.n, .int .i64 (aimOf E.l i)] 128))
  have hm1 := h.m.two hB.two h.out
  have hm := hid hm1
  have HOC := hid h.oc
  have PO := h.out
  have hstd := h.can.std ⟨by omega, by omega, by omega, by omega, by omega⟩
  obtain ⟨hp, f1, f2⟩ := hstd.two (c := 114) (d := 114) (by rw [ho]; rfl)
  have hl8 : (s.st.take (s.st.length - 2)).length < 8 := by have := h.inv.st h.ok; rw [List.length_take]; omega
  have hr := (h.inv.ref hp (letB_r f1)).2
  rw [← h.inv.n] at hr
  have hends : endsC s.hs.1 s.st i.op = wantsC s.hs.1 (lastW s.st 1).2 false := by rw [ho]; rfl
  have hwv := wants_vals s.hs.1 (lastW s.st 1).2 false
  rw [st_two hp] at h1
  have HG : Hid (wantsC s.hs.1 (lastW s.st 1).2 false = 0 → stepI E i s = goS E i (-1) s) := hid (fun e => step_go (by rw [hends, e]) (by omega) (by omega))
  have HR : Hid (wantsC s.hs.1 (lastW s.st 1).2 false ≠ 0 → stepI E i s = { s with oc := (wantsC s.hs.1 (lastW s.st 1).2 false).toNat }) := hid (fun e => by rw [step_trap (by rw [hends]; exact e) (by rw [hends]; omega), hends])
  have hgC : K.In vO K.gC := .inl ⟨h.m.c1, h.m.c2⟩
  obtain ⟨op, n, pl⟩ := i
  simp only at ho
  subst ho
  have hc := hid (write_15 hm1 h1 PO hr pl n (aimOf E.l ⟨15, n, pl⟩))
  have HD : Hid (doesS E ⟨15, n, pl⟩ (-1) s = { s with hs := (storeC s.hs.1 s.hs.2.1 (lastW s.st 1).2.toNat n (lastW s.st 0).2, s.hs.2), st := s.st.take (s.st.length - 2) }) := hid rfl
  have HP0 : Hid (wantsC s.hs.1 (lastW s.st 1).2 false = 0 → setPost s.hs (lastW s.st 1).2 n (lastW s.st 0).2 = (storeC s.hs.1 s.hs.2.1 (lastW s.st 1).2.toNat n (lastW s.st 0).2, s.hs.2)) := hid (fun e => if_pos e)
  have HP1 : Hid (wantsC s.hs.1 (lastW s.st 1).2 false ≠ 0 → setPost s.hs (lastW s.st 1).2 n (lastW s.st 0).2 = s.hs) := hid (fun e => if_neg e)
  have HT := hid hB.two
  unfold doV
  simp only at HT hm hc ⊢
  unfold insV at hc ⊢
  generalize aimOf E.l ⟨15, n, pl⟩ = tg at *
  generalize setPost s.hs (lastW s.st 1).2 n (lastW s.st 0).2 = hp2 at *
  generalize (storeC s.hs.1 s.hs.2.1 (lastW s.st 1).2.toNat n (lastW s.st 0).2, s.hs.2) = hv2 at *
  clear h hB h1 hm1 hstd f1 f2 hends
  generalize wantsC s.hs.1 (lastW s.st 1).2 false = q at *
  go_enter Tryz.func55, Tryz.ntmps55
  go_wp2_with fail
  refine hc.out.mono ?_
  clear hc
  intro e w2 hh
  obtain ⟨hx, hS, hM, hO⟩ := hh
  subst e
  have HS := hid hS
  have HM2 := hid hM
  have HT2 : Hid (Touch (DoF K vO a) w w2) := hid ((two_touch HT.out).trans (Touch.two hO (F := DoF K vO a) (.inr rfl) (.inl hgC)) (fun _ _ h => h))
  clear hS hO hM hm HT
  go_wp2_with fail
  go_ret
  by_cases hq : q = 0
  · have h9 := HM2.out
    rw [HP0.out hq] at h9
    rw [HG.out hq]
    unfold goS
    rw [HD.out, to_next (by simp) (by simp)]
    refine ⟨by subst hq; simp only [HOC.out]; rfl, ⟨vI, vO, h9, fun g hg => .inl hg⟩, HT2.out, fun _ => HS.out, fun e => ?_⟩
    simp only [HOC.out] at e
    cases e
  · have h9 := HM2.out
    rw [HP1.out hq] at h9
    rw [HR.out hq]
    refine ⟨?_, ⟨vI, vO, h9, fun g hg => .inl hg⟩, HT2.out, fun e => ?_, fun e => ?_⟩
    · simp only
      rw [show ((q.toNat : Nat) : Int) = q by omega]
      rfl
    · simp only at e; omega
    · simp only at e; omega
set_option maxRecDepth 100000 in
set_option maxHeartbeats 1000000 in
theorem do_17 {w : World} {K : PK} {E : Env} {vI vO : Value} {lo4 st8 : List Int} {s : MS} {a : Nat} {i : Ins} (h : DoPre K E vI vO lo4 st8 a s i w) (ho : i.op = 17) :
    Calls Tryz.prog 55 #[.pointer (some ⟨K.b, 0, none⟩), doV E i, .pointer (some ⟨a, 0, none⟩)] w (DoPost K vO lo4 st8 a ((s.at_ + 1 : Nat) : Int) s (stepI E i s) w) := by
  have hB := BoxI.start w i.place i.op i.n (aimOf E.l i) h.sx.lt
  have h1 := h.sx.below ((Below.refl _ _).alloc (Nat.le_refl _) (.cells #[.int .i64 i.place, .int .i64 i.op, .int .i64 i.n, .int .i64 (aimOf E.l i)] 128))
  have hm1 := h.m.two hB.two h.out
  have hm := hid hm1
  have HOC := hid h.oc
  have PO := h.out
  have hstd := h.can.std ⟨by omega, by omega, by omega, by omega, by omega⟩
  obtain ⟨hp, f1, f2⟩ := hstd.two (c := 114) (d := 105) (by rw [ho]; rfl)
  have hl8 : (s.st.take (s.st.length - 2)).length < 8 := by have := h.inv.st h.ok; rw [List.length_take]; omega
  have hr := (h.inv.ref hp (letB_r f1)).2
  rw [← h.inv.n] at hr
  have hends : endsC s.hs.1 s.st i.op = wantsC s.hs.1 (lastW s.st 1).2 false := by rw [ho]; rfl
  have hwv := wants_vals s.hs.1 (lastW s.st 1).2 false
  rw [st_two hp] at h1
  have HG : Hid (wantsC s.hs.1 (lastW s.st 1).2 false = 0 → stepI E i s = goS E i (-1) s) := hid (fun e => step_go (by rw [hends, e]) (by omega) (by omega))
  have HR : Hid (wantsC s.hs.1 (lastW s.st 1).2 false ≠ 0 → stepI E i s = { s with oc := (wantsC s.hs.1 (lastW s.st 1).2 false).toNat }) := hid (fun e => by rw [step_trap (by rw [hends]; exact e) (by rw [hends]; omega), hends])
  have hgC : K.In vO K.gC := .inl ⟨h.m.c1, h.m.c2⟩
  obtain ⟨op, n, pl⟩ := i
  simp only at ho
  subst ho
  have hc := hid (write_17 hm1 h1 PO hr pl n (aimOf E.l ⟨17, n, pl⟩))
  have HD : Hid (doesS E ⟨17, n, pl⟩ (-1) s = { s with hs := (s.hs.1.modify (lastW s.st 1).2.toNat (noteS (lastW s.st 0).2), s.hs.2), st := s.st.take (s.st.length - 2) }) := hid rfl
  have HP0 : Hid (wantsC s.hs.1 (lastW s.st 1).2 false = 0 → notePost s.hs (lastW s.st 1).2 (lastW s.st 0).2 = (s.hs.1.modify (lastW s.st 1).2.toNat (noteS (lastW s.st 0).2), s.hs.2)) := hid (fun e => if_pos e)
  have HP1 : Hid (wantsC s.hs.1 (lastW s.st 1).2 false ≠ 0 → notePost s.hs (lastW s.st 1).2 (lastW s.st 0).2 = s.hs) := hid (fun e => if_neg e)
  have HT := hid hB.two
  unfold doV
  simp only at HT hm hc ⊢
  unfold insV at hc ⊢
  generalize aimOf E.l ⟨17, n, pl⟩ = tg at *
  generalize notePost s.hs (lastW s.st 1).2 (lastW s.st 0).2 = hp2 at *
  generalize (s.hs.1.modify (lastW s.st 1).2.toNat (noteS (lastW s.st 0).2), s.hs.2) = hv2 at *
  clear h hB h1 hm1 hstd f1 f2 hends
  generalize wantsC s.hs.1 (lastW s.st 1).2 false = q at *
  go_enter Tryz.func55, Tryz.ntmps55
  go_wp2_with fail
  refine hc.out.mono ?_
  clear hc
  intro e w2 hh
  obtain ⟨hx, hS, hM, hO⟩ := hh
  subst e
  have HS := hid hS
  have HM2 := hid hM
  have HT2 : Hid (Touch (DoF K vO a) w w2) := hid ((two_touch HT.out).trans (Touch.two hO (F := DoF K vO a) (.inr rfl) (.inl hgC)) (fun _ _ h => h))
  clear hS hO hM hm HT
  go_wp2_with fail
  go_ret
  by_cases hq : q = 0
  · have h9 := HM2.out
    rw [HP0.out hq] at h9
    rw [HG.out hq]
    unfold goS
    rw [HD.out, to_next (by simp) (by simp)]
    refine ⟨by subst hq; simp only [HOC.out]; rfl, ⟨vI, vO, h9, fun g hg => .inl hg⟩, HT2.out, fun _ => HS.out, fun e => ?_⟩
    simp only [HOC.out] at e
    cases e
  · have h9 := HM2.out
    rw [HP1.out hq] at h9
    rw [HR.out hq]
    refine ⟨?_, ⟨vI, vO, h9, fun g hg => .inl hg⟩, HT2.out, fun e => ?_, fun e => ?_⟩
    · simp only
      rw [show ((q.toNat : Nat) : Int) = q by omega]
      rfl
    · simp only at e; omega
    · simp only at e; omega
end Go.Proofs.YtdmdpindonghdaaGreatDoor
namespace Go.Proofs.YtdmdpindonghdaaGreatDoor
open Go.RowKit
set_option maxRecDepth 100000 in
set_option maxHeartbeats 1000000 in
theorem do_13 {w : World} {K : PK} {E : Env} {vI vO : Value} {lo4 st8 : List Int} {s : MS} {a : Nat} {i : Ins} (h : DoPre K E vI vO lo4 st8 a s i w) (ho : i.op = 13) :
    Calls Tryz.prog 55 #[.pointer (some ⟨K.b, 0, none⟩), doV E i, .pointer (some ⟨a, 0, none⟩)] w (DoPost K vO lo4 st8 a ((s.at_ + 1 : Nat) : Int) s (stepI E i s) w) := by
  have hB := BoxI.start w i.place i.op i.n (aimOf E.l i) h.sx.lt
  have h1 := h.sx.below ((Below.refl _ _).alloc (Nat.le_refl _) (.cells #[.int .i64 i.place, .int .i64 i.op, .int .i64 i.n, .int .i64 (aimOf E.l i)] 128))
  have hm1 := h.m.two hB.two h.out
  have hm := hid hm1
  have HOC := hid h.oc
  have PO := h.out
  have hlen := does_len h.ok h.inv h.can (by omega) (-1)
  have hl8 : s.st.length < 8 := by
    rw [show (doesS E i (-1) s).st = s.st ++ [(true, -1)] by unfold doesS touchS; simp [ho]] at hlen
    simp at hlen
    omega
  have hstp := step_take (E := E) (s := s) (i := i) (.inl ho)
  have hc := hid (take_13 hm1 h.ke h.ok h.inv h1 hl8 PO)
  have hKb : K.In vO K.b := .inl ⟨h.m.b1, h.m.b2⟩
  have hgC : K.In vO K.gC := .inl ⟨h.m.c1, h.m.c2⟩
  obtain ⟨op, n, pl⟩ := i
  simp only at ho
  subst ho
  have HD : Hid (∀ c hs', doesS E ⟨13, n, pl⟩ c { s with hs := hs' } = { s with hs := hs', st := s.st ++ [(true, c)] }) := hid (fun _ _ => rfl)
  have HSTP := hid hstp
  have HT := hid hB.two
  unfold doV
  simp only at HT hm hc ⊢
  unfold insV
  generalize aimOf E.l ⟨13, n, pl⟩ = tg at *
  generalize takeC (rootsS E s) s.hs = tk at *
  clear h hB h1 hm1 hstp
  go_enter Tryz.func55, Tryz.ntmps55
  go_wp2_with fail
  refine hc.out.mono ?_
  clear hc
  intro e w2 hh
  obtain ⟨hT2, hh⟩ := hh
  have HT2 : Hid (Touch (DoF K vO a) w w2) := hid ((two_touch HT.out).trans (hT2.mono (G := DoF K vO a) (fun k _ hk => by
    rcases hk with rfl | rfl | rfl
    · exact .inl hKb
    · exact .inl hgC
    · exact .inr rfl)) (fun _ _ h => h))
  clear hT2 HT
  rcases hh with ⟨d1, hx, hM⟩ | ⟨d1, hx, hM, hS⟩
  · subst e
    have HM := hid hM
    clear hM
    go_wp2_with fail
    go_ret
    rw [HSTP.out, if_pos d1]
    exact ⟨rfl, ⟨vI, vO, HM.out, fun g hg => .inl hg⟩, HT2.out, fun e => by (cases e), fun e => by (cases e)⟩
  · subst e
    have HM := hid hM
    have HS := hid hS
    clear hM hS
    go_wp2_with fail
    go_ret
    rw [HSTP.out, if_neg (by omega)]
    unfold goS
    rw [HD.out, to_next (by simp) (by simp)]
    refine ⟨by simp only [HOC.out]; rfl, ⟨vI, vO, by have h9 := HM.out; rw [List.modify_id] at h9; exact h9, fun g hg => .inl hg⟩, HT2.out, fun _ => HS.out, fun e => ?_⟩
    simp only [HOC.out] at e
    cases e
set_option maxRecDepth 100000 in
set_option maxHeartbeats 1000000 in
theorem do_23 {w : World} {K : PK} {E : Env} {vI vO : Value} {lo4 st8 : List Int} {s : MS} {a : Nat} {i : Ins} (h : DoPre K E vI vO lo4 st8 a s i w) (ho : i.op = 23) :
    Calls Tryz.prog 55 #[.pointer (some ⟨K.b, 0, none⟩), doV E i, .pointer (some ⟨a, 0, none⟩)] w (DoPost K vO lo4 st8 a ((s.at_ + 1 : Nat) : Int) s (stepI E i s) w) := by
  have hB := BoxI.start w i.place i.op i.n (aimOf E.l i) h.sx.lt
  have h1 := h.sx.below ((Below.refl _ _).alloc (Nat.le_refl _) (.cells #[.int .i64 i.place, .int .i64 i.op, .int .i64 i.n, .int .i64 (aimOf E.l i)] 128))
  have hm1 := h.m.two hB.two h.out
  have hm := hid hm1
  have HOC := hid h.oc
  have PO := h.out
  have hstd := h.can.std ⟨by omega, by omega, by omega, by omega, by omega⟩
  obtain ⟨hp, f1⟩ := hstd.one (c := 114) (by rw [ho]; rfl)
  have hl8 : (s.st.take (s.st.length - 1)).length < 8 := by have := h.inv.st h.ok; rw [List.length_take]; omega
  rw [st_one hp] at h1
  have hstp := step_take (E := E) (s := s) (i := i) (.inr ho)
  have hc := hid (take_23 hm1 h.ke h.ok h.inv h1 hl8 PO)
  have hKb : K.In vO K.b := .inl ⟨h.m.b1, h.m.b2⟩
  have hgC : K.In vO K.gC := .inl ⟨h.m.c1, h.m.c2⟩
  obtain ⟨op, n, pl⟩ := i
  simp only at ho
  subst ho
  have HD : Hid (∀ c hs', doesS E ⟨23, n, pl⟩ c { s with hs := hs' } = { s with hs := (hs'.1.modify c.toNat (weakS (lastW s.st 0).2), hs'.2), st := s.st.take (s.st.length - 1) ++ [(true, c)] }) := hid (fun _ _ => rfl)
  have HSTP := hid hstp
  have HT := hid hB.two
  unfold doV
  simp only at HT hm hc ⊢
  unfold insV
  generalize aimOf E.l ⟨23, n, pl⟩ = tg at *
  generalize takeC (rootsS E s) s.hs = tk at *
  clear h hB h1 hm1 hstp
  go_enter Tryz.func55, Tryz.ntmps55
  go_wp2_with fail
  refine hc.out.mono ?_
  clear hc
  intro e w2 hh
  obtain ⟨hT2, hh⟩ := hh
  have HT2 : Hid (Touch (DoF K vO a) w w2) := hid ((two_touch HT.out).trans (hT2.mono (G := DoF K vO a) (fun k _ hk => by
    rcases hk with rfl | rfl | rfl
    · exact .inl hKb
    · exact .inl hgC
    · exact .inr rfl)) (fun _ _ h => h))
  clear hT2 HT
  rcases hh with ⟨d1, hx, hM⟩ | ⟨d1, hx, hM, hS⟩
  · subst e
    have HM := hid hM
    clear hM
    go_wp2_with fail
    go_ret
    rw [HSTP.out, if_pos d1]
    exact ⟨rfl, ⟨vI, vO, HM.out, fun g hg => .inl hg⟩, HT2.out, fun e => by (cases e), fun e => by (cases e)⟩
  · subst e
    have HM := hid hM
    have HS := hid hS
    clear hM hS
    go_wp2_with fail
    go_ret
    rw [HSTP.out, if_neg (by omega)]
    unfold goS
    rw [HD.out, to_next (by simp) (by simp)]
    refine ⟨by simp only [HOC.out]; rfl, ⟨vI, vO, HM.out, fun g hg => .inl hg⟩, HT2.out, fun _ => HS.out, fun e => ?_⟩
    simp only [HOC.out] at e
    cases e
set_option maxRecDepth 100000 in
set_option maxHeartbeats 1000000 in
theorem do_21 {w : World} {K : PK} {E : Env} {vI vO : Value} {lo4 st8 : List Int} {s : MS} {a : Nat} {i : Ins} (h : DoPre K E vI vO lo4 st8 a s i w) (ho : i.op = 21) (hz : E.zs.length ≤ 64) :
    Calls Tryz.prog 55 #[.pointer (some ⟨K.b, 0, none⟩), doV E i, .pointer (some ⟨a, 0, none⟩)] w (DoPost K vO lo4 st8 a ((s.at_ + 1 : Nat) : Int) s (stepI E i s) w) := by
  have HE : Hid (stepI E i s = goS E i (-1) s) := hid (step_go (by rw [ho]; exact ends_other (by decide) (by decide) (by decide) (by decide) (by decide) (by decide) (by decide)) (by omega) (by omega))
  have hB := BoxI.start w i.place i.op i.n (aimOf E.l i) h.sx.lt
  have h1 := h.sx.below ((Below.refl _ _).alloc (Nat.le_refl _) (.cells #[.int .i64 i.place, .int .i64 i.op, .int .i64 i.n, .int .i64 (aimOf E.l i)] 128))
  have hm1 := h.m.two hB.two h.out
  have hm := hid hm1
  have HOC := hid h.oc
  have PO := h.out
  have hlen := does_len h.ok h.inv h.can (by omega) (-1)
  have hl8 : s.st.length < 8 := by
    by_cases hr : s.rd < E.zs.length
    · rw [show (doesS E i (-1) s).st = s.st ++ [(false, E.zs.getD s.rd 0)] by unfold doesS; simp [ho, hr]] at hlen
      simp at hlen
      omega
    · rw [show (doesS E i (-1) s).st = s.st ++ [(false, 0)] by unfold doesS; simp [ho, hr]] at hlen
      simp at hlen
      omega
  have hKb : K.In vO K.b := .inl ⟨h.m.b1, h.m.b2⟩
  have hab : a ≠ K.b := fun e => PO (e ▸ hKb)
  have hzs := h.ke.zs
  obtain ⟨vv, rd2, hcall, HD⟩ : ∃ vv rd2, Calls Tryz.prog 95 #[.pointer (some ⟨K.b, 0, none⟩)] (w.alloc (.cells #[.int .i64 i.place, .int .i64 i.op, .int .i64 i.n, .int .i64 (aimOf E.l i)] 128)) (InpPost K vO lo4 st8 s vv rd2 (w.alloc (.cells #[.int .i64 i.place, .int .i64 i.op, .int .i64 i.n, .int .i64 (aimOf E.l i)] 128))) ∧ Hid (doesS E i (-1) s = { s with rd := rd2, st := s.st ++ [(false, vv)] }) := by
    by_cases hr : s.rd < E.zs.length
    · refine ⟨_, _, input_some hm1 (by rw [hzs]; exact hr) (by rw [hzs]; exact hz), hid ?_⟩
      rw [hzs]
      unfold doesS
      simp [ho, hr]
    · refine ⟨_, _, input_none hm1 (by rw [hzs]; omega), hid ?_⟩
      unfold doesS
      simp [ho, hr]
  have hc := hid hcall
  obtain ⟨op, n, pl⟩ := i
  simp only at ho
  subst ho
  have HT := hid hB.two
  have H1 := hid h1
  unfold doV
  simp only at HT hm hc H1 ⊢
  unfold insV
  generalize aimOf E.l ⟨21, n, pl⟩ = tg at *
  clear h hB h1 hm1 hcall hm
  go_enter Tryz.func55, Tryz.ntmps55
  go_wp2_with fail
  refine hc.out.mono ?_
  clear hc
  intro e w2 hh
  obtain ⟨hx, hO, vI2, hM⟩ := hh
  subst e
  have hs2 := H1.out.keep (hO.block a hab)
  have hp := hid (xpush hs2 hl8 (false, vv))
  have HM := hid hM
  have HT2 : Hid (Touch (DoF K vO a) w w2) := hid ((two_touch HT.out).trans (Touch.two (Two.of_only hO) (F := DoF K vO a) (.inl hKb) (.inl hKb)) (fun _ _ h => h))
  simp only at hp
  clear hs2 hM hO HT H1
  go_wp2_with fail
  refine hp.out.mono ?_
  clear hp
  intro e w3 hh
  obtain ⟨hx, hS, hO⟩ := hh
  subst e
  have HS := hid hS
  have HM3 := hid (HM.out.two (Two.of_only hO) PO)
  have HT3 := hid (HT2.out.trans (two_touch (Two.of_only hO)) (fun _ _ h => h))
  clear hS hO
  go_wp2_with fail
  go_ret
  rw [HE.out]
  unfold goS
  rw [HD.out, to_next (by simp) (by simp)]
  refine ⟨by simp only [HOC.out]; rfl, ⟨vI2, vO, HM3.out, fun g hg => .inl hg⟩, HT3.out, fun _ => HS.out, fun e => ?_⟩
  simp only [HOC.out] at e
  cases e
end Go.Proofs.YtdmdpindonghdaaGreatDoor
namespace Go.Proofs.YtdmdpindonghdaaGreatDoor
open Go.RowKit
theorem row_output {K : PK} {vI vO vO' : Value} {lo4 st8 : List Int} {s : MS} (o : List Int) : ((K.row vI vO lo4 st8 s).toArray.setIfInBounds 4 vO') = (K.row vI vO' lo4 st8 { s with out := o }).toArray := by
  rw [List.setIfInBounds_toArray]
  rfl
/-- The output has grown: every other block is as it was. -/
theorem PM.outs {w w' : World} {K : PK} {vI vO vO' : Value} {lo4 st8 : List Int} {s : MS} {o : List Int} (h : PM w K vI vO lo4 st8 s) (hz : w.heap.size ≤ w'.heap.size) (hk : ∀ k, k < w.heap.size → k ≠ K.b → vO.ownBlock ≠ some k → w'.heap[k]? = w.heap[k]?) (hrow : w'.heap[K.b]? = some (.cells (K.row vI vO' lo4 st8 { s with out := o }).toArray 74)) (hout : w'.ownsRow K.B4 3 1 vO' o.length (o.map (.int .i64))) : PM w' K vI vO' lo4 st8 { s with out := o } := by
  have z := h.z
  have hne : ∀ k, k < K.B4 → vO.ownBlock ≠ some k := fun k hk e => by have := (h.out.lt k e).1; omega
  have hin : ∀ k, k < K.B4 → k ≠ K.b → w'.heap[k]? = w.heap[k]? := fun k h1 h2 => hk k (by omega) h2 (hne k h1)
  exact { h with
    row := hrow
    z := by omega
    code := h.code.same (hin _ h.g2 (fun e => h.ne1 e.symm))
    frames := (hin _ h.f2 (fun e => h.ne2 e.symm)).trans h.frames
    cells := owns_keep h.cells (fun g hg => by
      simp only [Value.ownBlock, Option.some.injEq] at hg
      subst hg
      exact hin _ h.c2 (fun e => h.ne3 e.symm))
    inp := h.inp.same (fun a n c e => hin _ (h.inb a n c e).2.1 (h.inb a n c e).2.2.1)
    out := hout }
set_option maxRecDepth 100000 in
set_option maxHeartbeats 4000000 in
theorem do_22 {w : World} {K : PK} {E : Env} {vI vO : Value} {lo4 st8 : List Int} {s : MS} {a : Nat} {i : Ins} (h : DoPre K E vI vO lo4 st8 a s i w) (ho : i.op = 22) (hlen : s.out.length ≤ 8796093022208) :
    Calls Tryz.prog 55 #[.pointer (some ⟨K.b, 0, none⟩), doV E i, .pointer (some ⟨a, 0, none⟩)] w (DoPost K vO lo4 st8 a ((s.at_ + 1 : Nat) : Int) s (stepI E i s) w) := by
  obtain ⟨i0, hi0, hz0, hz1, hz2⟩ := info_parts intInfo
  have HE : Hid (stepI E i s = goS E i (-1) s) := hid (step_go (by rw [ho]; exact ends_other (by decide) (by decide) (by decide) (by decide) (by decide) (by decide) (by decide)) (by omega) (by omega))
  have hB := BoxI.start w i.place i.op i.n (aimOf E.l i) h.sx.lt
  have h1 := h.sx.below ((Below.refl _ _).alloc (Nat.le_refl _) (.cells #[.int .i64 i.place, .int .i64 i.op, .int .i64 i.n, .int .i64 (aimOf E.l i)] 128))
  have hm1 := h.m.two hB.two h.out
  have HOC := hid h.oc
  have PO := h.out
  have hstd := h.can.std ⟨by omega, by omega, by omega, by omega, by omega⟩
  obtain ⟨hp, f1⟩ := hstd.one (c := 105) (by rw [ho]; rfl)
  rw [st_one hp] at h1
  have hc := hid (xpop h1)
  have hKb : K.In vO K.b := .inl ⟨h.m.b1, h.m.b2⟩
  have hbz : K.b < w.heap.size := by have := h.m.b2; have := h.m.z; omega
  have haz := h.sx.lt
  have hfar : some K.b ≠ vO.ownBlock := fun e => by have := (h.m.out.lt _ e.symm).1; have := h.m.b2; omega
  have hav : some a ≠ vO.ownBlock := fun e => PO (.inr e.symm)
  have hab : a ≠ K.b := fun e => PO (e ▸ hKb)
  have HO0 := hid h.m.out
  have HB4 := hid h.m.z
  obtain ⟨op, n, pl⟩ := i
  simp only at ho
  subst ho
  have HD : Hid (doesS E ⟨22, n, pl⟩ (-1) s = { s with out := s.out ++ [(lastW s.st 0).2], st := s.st.take (s.st.length - 1) }) := hid rfl
  have HM := hid (fun (W : World) (hT : Two a a w W) => h.m.two hT PO)
  have HT := hid hB.two
  obtain ⟨pv, cv, ev⟩ := (LsAt.of_owns h.m.out).slice
  subst ev
  unfold doV
  simp only at HT hc ⊢
  unfold insV
  generalize aimOf E.l ⟨22, n, pl⟩ = tg at *
  generalize lastW s.st 0 = x at *
  obtain ⟨xf, xv⟩ := x
  simp only at hc HD
  clear h hB h1 hm1 hstd f1
  go_enter Tryz.func55, Tryz.ntmps55
  go_wp2_with fail
  refine hc.out.mono ?_
  clear hc
  intro e w2 hh
  obtain ⟨hx, hS, hO⟩ := hh
  subst e
  have hT2 := HT.out.trans (Two.of_only hO)
  have hM2 := HM.out w2 hT2
  have hown := hM2.out
  have m4 := hM2.get 4
  have f4 := frozen_of_row w2 K.b 4 _ _ hM2.row
  simp only [PK.row, List.cons_append, List.nil_append, List.getElem?_cons_zero, List.getElem?_cons_succ] at m4
  have hz2' := hT2.size
  have HM2 := hid hM2
  have HS := hid hS
  have HT2 := hid hT2
  have a4 : (w2.alloc (.cells #[.int .i64 xv] 3)).cell? ⟨K.b, 4, none⟩ = some (.slice pv s.out.length cv) := (World.cell?_alloc_past _ _ _ (by omega)).trans m4
  clear hS hO hM2 hT2 HM HT
  have hB4 := HB4.out
  go_wp2_with (at_builtin; go_must (refine wpList_append_lies _ (by rfl) _ _ _ (by rfl) K.B4 3 i0 _ 1 8 Tryz.underlying22 hi0 hz0 hz1 hz2 rfl (by omega) _ s.out.length (s.out.map (.int .i64)) (by rfl) (hown.alloc _) ⟨_, 0, none⟩ 1 1 [.int .i64 xv] (by rfl) (by rfl) (World.news_of_block (cs := #[.int .i64 xv]) (t := 3) (fr := (0, 0)) (heap_alloc_new _ _)) (by simp [Value.oneCell']) (by omega) (by unfold maxLen; omega) (by omega) (by simp; omega) _ rfl ?_); intro gg gcap w6 hown6 hgrow6 hat6 hlt6; obtain ⟨c6, f6⟩ := cell6b hgrow6 (b := K.b) (by omega) hfar 4; rw [m4] at c6; rw [f4] at f6)
  go_ret
  have hsz6 : w2.heap.size + 1 ≤ w6.heap.size := by
    have := hgrow6.size
    rw [alloc_size] at this
    exact this
  have hk6 : ∀ k : Nat, k < w2.heap.size → (Value.slice pv s.out.length cv).ownBlock ≠ some k → w6.heap[k]? = w2.heap[k]? := fun k hk hv => (hgrow6.block k (by rw [alloc_size]; omega) (fun e => hv e.symm)).trans (Below.heap_alloc _ _ _ hk)
  have hks : ∀ k : Nat, k ≠ K.b → (w6.setCell ⟨K.b, 4, none⟩ (.slice (some ⟨gg, 0, none⟩) (s.out.length + 1) gcap)).heap[k]? = w6.heap[k]? := fun k hk => Below.heap_setCell _ _ _ _ hk
  have hzs : (w6.setCell ⟨K.b, 4, none⟩ (.slice (some ⟨gg, 0, none⟩) (s.out.length + 1) gcap)).heap.size = w6.heap.size := by simp [World.setCell]
  have hrow6 := (hk6 K.b (by omega) (fun e => hfar e.symm)).trans HM2.out.row
  have hgb : gg ≠ K.b := by
    rcases hat6 with e | e
    · intro e2; exact hfar (by rw [← e2]; exact e.symm)
    · rw [alloc_size] at e; omega
  have hM : PM (w6.setCell ⟨K.b, 4, none⟩ (.slice (some ⟨gg, 0, none⟩) (s.out.length + 1) gcap)) K vI (.slice (some ⟨gg, 0, none⟩) (s.out.length + 1) gcap) lo4 st8 { s with out := s.out ++ [xv] } := by
    refine HM2.out.outs (by rw [hzs]; omega) (fun k h1 h2 h3 => (hks k h2).trans (hk6 k h1 h3)) ?_ ?_
    · rw [← row_output (vO := .slice pv s.out.length cv)]
      exact setCell_row 4 _ hrow6
    · have h6 := hown6
      rw [show (s.out ++ [xv]).length = s.out.length + 1 by simp, show (s.out ++ [xv]).map (Value.int .i64) = s.out.map (Value.int .i64) ++ [.int .i64 xv] by simp]
      exact owns_set h6 (fun e => hgb (by simpa [Value.ownBlock] using e)) _
  have hSX := HS.out.keep (w' := w6.setCell ⟨K.b, 4, none⟩ (.slice (some ⟨gg, 0, none⟩) (s.out.length + 1) gcap)) ((hks a hab).trans (hk6 a (by omega) (fun e => hav e.symm)))
  have hT : Touch (DoF K (.slice pv s.out.length cv) a) w (w6.setCell ⟨K.b, 4, none⟩ (.slice (some ⟨gg, 0, none⟩) (s.out.length + 1) gcap)) := by
    refine (two_touch HT2.out).trans (G := DoF K (.slice pv s.out.length cv) a) ⟨?_, ?_, ?_, by rw [hzs]; omega, fun k h1 h2 => (hks k (fun e => h2 (.inl (e ▸ hKb)))).trans (hk6 k h1 (fun e => h2 (.inl (.inr e))))⟩ (fun _ _ h => h)
    · exact hgrow6.os
    · exact hgrow6.tape
    · exact hgrow6.output
  rw [HE.out]
  unfold goS
  rw [HD.out, to_next (by simp) (by simp)]
  refine ⟨by simp only [HOC.out]; rfl, ⟨vI, _, hM, fun g hg => ?_⟩, hT, fun _ => hSX, fun e => ?_⟩
  · simp only [Value.ownBlock, Option.some.injEq] at hg
    subst hg
    rcases hat6 with e | e
    · exact .inl e
    · rw [alloc_size] at e; exact .inr (by omega)
  · simp only [HOC.out] at e
    cases e
theorem do_any {w : World} {K : PK} {E : Env} {vI vO : Value} {lo4 st8 : List Int} {s : MS} {a : Nat} {i : Ins} (h : DoPre K E vI vO lo4 st8 a s i w) (hz : E.zs.length ≤ 64) (hlen : s.out.length ≤ 8796093022208) :
    Calls Tryz.prog 55 #[.pointer (some ⟨K.b, 0, none⟩), doV E i, .pointer (some ⟨a, 0, none⟩)] w (DoPost K vO lo4 st8 a ((s.at_ + 1 : Nat) : Int) s (stepI E i s) w) := by
  have hop := h.ok.wf.op i h.can.mem
  have hcases : i.op = 0 ∨ i.op = 1 ∨ i.op = 2 ∨ i.op = 3 ∨ i.op = 4 ∨ i.op = 5 ∨ i.op = 6 ∨ i.op = 7 ∨ i.op = 8 ∨ i.op = 9 ∨ i.op = 10 ∨ i.op = 11 ∨ i.op = 12 ∨ i.op = 13 ∨ i.op = 14 ∨ i.op = 15 ∨ i.op = 16 ∨ i.op = 17 ∨ i.op = 18 ∨ i.op = 19 ∨ i.op = 20 ∨ i.op = 21 ∨ i.op = 22 ∨ i.op = 23 ∨ i.op = 24 := by omega
  rcases hcases with e | e | e | e | e | e | e | e | e | e | e | e | e | e | e | e | e | e | e | e | e | e | e | e | e
  · exact do_0 h e
  · exact do_1 h e
  · exact do_2 h e
  · exact do_3 h e
  · exact do_4 h e
  · exact do_5 h e
  · exact do_6 h e
  · exact do_7 h e
  · exact do_8 h e
  · exact do_9 h e
  · exact do_10 h e
  · exact do_11 h e
  · exact do_12 h e
  · exact do_13 h e
  · exact do_14 h e
  · exact do_15 h e
  · exact do_16 h e
  · exact do_17 h e
  · exact do_18 h e
  · exact do_19 h e
  · exact do_20 h e
  · exact do_21 h e hz
  · exact do_22 h e hlen
  · exact do_23 h e
  · exact do_24 h e
end Go.Proofs.YtdmdpindonghdaaGreatDoor
namespace Go.Proofs.YtdmdpindonghdaaGreatDoor
open Go.RowKit
set_option maxRecDepth 100000 in
set_option maxHeartbeats 1000000 in
theorem pstep_done {w : World} {K : PK} {F : Nat → Prop} {s : MS} (h : PX w K F s) (ho : s.oc ≠ 0) :
    Calls Tryz.prog 34 #[.pointer (some ⟨K.b, 0, none⟩)] w fun e w' => e = .returned (.tuple #[.int .i64 0, .int .i64 9]) ∧ w' = w := by
  obtain ⟨vI, vO, lo4, st8, hm, _⟩ := h
  have m5 := hm.get 5
  have m7 := hm.get 7
  obtain ⟨x0, x1, x2, x3, rfl⟩ := fourZ hm.l4
  obtain ⟨t0, t1, t2, t3, t4, t5, t6, t7, rfl⟩ := eightZ hm.l8
  simp only [PK.row, List.map_cons, List.map_nil, List.cons_append, List.nil_append, List.getElem?_cons_zero, List.getElem?_cons_succ] at m5 m7
  have q : ((s.oc : Int) != 0) = true := by simp; omega
  clear hm ho
  go_enter Tryz.func34, Tryz.ntmps34
  go_wp2_with fail
  exact bodyPost_ret (v := .tuple #[.int .i64 0, .int .i64 9]) (by simp [results, Tryz.results34, go_sem]) rfl ⟨rfl, rfl⟩
theorem row_now {w : World} {b : Nat} {t : TypeId} {x0 x1 x2 x3 x4 x5 x6 x7 x8 x9 x10 x11 x12 x13 x14 x15 x16 x17 x18 x19 x20 x21 x22 x23 : Value} (h : w.heap[b]? = some (.cells [x0, x1, x2, x3, x4, x5, x6, x7, x8, x9, x10, x11, x12, x13, x14, x15, x16, x17, x18, x19, x20, x21, x22, x23].toArray t)) (v5 v7 v8 v9 v10 v11 v12 v13 v14 v15 v16 v17 v18 v19 v20 : Value) : (((((((((((((((w.setCell ⟨b, 5, none⟩ v5).setCell ⟨b, 7, none⟩ v7).setCell ⟨b, 8, none⟩ v8).setCell ⟨b, 9, none⟩ v9).setCell ⟨b, 10, none⟩ v10).setCell ⟨b, 11, none⟩ v11).setCell ⟨b, 12, none⟩ v12).setCell ⟨b, 13, none⟩ v13).setCell ⟨b, 14, none⟩ v14).setCell ⟨b, 15, none⟩ v15).setCell ⟨b, 16, none⟩ v16).setCell ⟨b, 17, none⟩ v17).setCell ⟨b, 18, none⟩ v18).setCell ⟨b, 19, none⟩ v19).setCell ⟨b, 20, none⟩ v20).heap[b]? = some (.cells [x0, x1, x2, x3, x4, v5, x6, v7, v8, v9, v10, v11, v12, v13, v14, v15, v16, v17, v18, v19, v20, x21, x22, x23].toArray t) := by
  have h0 := setCell_row 5 v5 h
  simp only [List.setIfInBounds_toArray, List.set_cons_zero, List.set_cons_succ] at h0
  have h1 := setCell_row 7 v7 h0
  simp only [List.setIfInBounds_toArray, List.set_cons_zero, List.set_cons_succ] at h1
  have h2 := setCell_row 8 v8 h1
  simp only [List.setIfInBounds_toArray, List.set_cons_zero, List.set_cons_succ] at h2
  have h3 := setCell_row 9 v9 h2
  simp only [List.setIfInBounds_toArray, List.set_cons_zero, List.set_cons_succ] at h3
  have h4 := setCell_row 10 v10 h3
  simp only [List.setIfInBounds_toArray, List.set_cons_zero, List.set_cons_succ] at h4
  have h5 := setCell_row 11 v11 h4
  simp only [List.setIfInBounds_toArray, List.set_cons_zero, List.set_cons_succ] at h5
  have h6 := setCell_row 12 v12 h5
  simp only [List.setIfInBounds_toArray, List.set_cons_zero, List.set_cons_succ] at h6
  have h7 := setCell_row 13 v13 h6
  simp only [List.setIfInBounds_toArray, List.set_cons_zero, List.set_cons_succ] at h7
  have h8 := setCell_row 14 v14 h7
  simp only [List.setIfInBounds_toArray, List.set_cons_zero, List.set_cons_succ] at h8
  have h9 := setCell_row 15 v15 h8
  simp only [List.setIfInBounds_toArray, List.set_cons_zero, List.set_cons_succ] at h9
  have h10 := setCell_row 16 v16 h9
  simp only [List.setIfInBounds_toArray, List.set_cons_zero, List.set_cons_succ] at h10
  have h11 := setCell_row 17 v17 h10
  simp only [List.setIfInBounds_toArray, List.set_cons_zero, List.set_cons_succ] at h11
  have h12 := setCell_row 18 v18 h11
  simp only [List.setIfInBounds_toArray, List.set_cons_zero, List.set_cons_succ] at h12
  have h13 := setCell_row 19 v19 h12
  simp only [List.setIfInBounds_toArray, List.set_cons_zero, List.set_cons_succ] at h13
  have h14 := setCell_row 20 v20 h13
  simp only [List.setIfInBounds_toArray, List.set_cons_zero, List.set_cons_succ] at h14
  exact h14
theorem only_now (w : World) (b : Nat) (v5 v7 v8 v9 v10 v11 v12 v13 v14 v15 v16 v17 v18 v19 v20 : Value) : Only b w (((((((((((((((w.setCell ⟨b, 5, none⟩ v5).setCell ⟨b, 7, none⟩ v7).setCell ⟨b, 8, none⟩ v8).setCell ⟨b, 9, none⟩ v9).setCell ⟨b, 10, none⟩ v10).setCell ⟨b, 11, none⟩ v11).setCell ⟨b, 12, none⟩ v12).setCell ⟨b, 13, none⟩ v13).setCell ⟨b, 14, none⟩ v14).setCell ⟨b, 15, none⟩ v15).setCell ⟨b, 16, none⟩ v16).setCell ⟨b, 17, none⟩ v17).setCell ⟨b, 18, none⟩ v18).setCell ⟨b, 19, none⟩ v19).setCell ⟨b, 20, none⟩ v20) := (((((((((((((((Only.refl _ _).set _ _).set _ _).set _ _).set _ _).set _ _).set _ _).set _ _).set _ _).set _ _).set _ _).set _ _).set _ _).set _ _).set _ _).set _ _
theorem row_oc {K : PK} {vI vO : Value} {lo4 st8 : List Int} {s : MS} (oc : Nat) : ((K.row vI vO lo4 st8 s).toArray.setIfInBounds 5 (.int .i64 oc)) = (K.row vI vO lo4 st8 { s with oc := oc }).toArray := by
  rw [List.setIfInBounds_toArray]
  rfl
theorem row_va {K : PK} {vI vO : Value} {lo4 st8 : List Int} {s : MS} (v : Int) : ((K.row vI vO lo4 st8 s).toArray.setIfInBounds 6 (.int .i64 v)) = (K.row vI vO lo4 st8 { s with va := v }).toArray := by
  rw [List.setIfInBounds_toArray]
  rfl
theorem PM.oc {w : World} {K : PK} {vI vO : Value} {lo4 st8 : List Int} {s : MS} (h : PM w K vI vO lo4 st8 s) (oc : Nat) : PM (w.setCell ⟨K.b, 5, none⟩ (.int .i64 oc)) K vI vO lo4 st8 { s with oc := oc } := by
  have honly : Only K.b w (w.setCell ⟨K.b, 5, none⟩ (.int .i64 oc)) := (Only.refl _ _).set _ _
  exact h.turn honly (by rw [← row_oc]; exact setCell_row 5 _ h.row) h.stok h.lol rfl rfl (h.inp.same (fun a n c e => honly.block _ (h.inb a n c e).2.2.1)) h.inb
theorem PM.va {w : World} {K : PK} {vI vO : Value} {lo4 st8 : List Int} {s : MS} (h : PM w K vI vO lo4 st8 s) (v : Int) : PM (w.setCell ⟨K.b, 6, none⟩ (.int .i64 v)) K vI vO lo4 st8 { s with va := v } := by
  have honly : Only K.b w (w.setCell ⟨K.b, 6, none⟩ (.int .i64 v)) := (Only.refl _ _).set _ _
  exact h.turn honly (by rw [← row_va]; exact setCell_row 6 _ h.row) h.stok h.lol rfl rfl (h.inp.same (fun a n c e => honly.block _ (h.inb a n c e).2.2.1)) h.inb
def PStepPost (K : PK) (F : Nat → Prop) (t : MS) (w : World) (e : Ending) (w' : World) : Prop :=
  e = .returned (.tuple #[.int .i64 t.oc, .int .i64 0]) ∧ PX w' K (Grown F w w') t ∧ Touch F w w'
set_option maxRecDepth 100000 in
set_option maxHeartbeats 4000000 in
theorem pstep_x {w : World} {K : PK} {E : Env} {F : Nat → Prop} {s : MS} (h : PX w K F s) (hke : KE K E) (he : EnvOk E) (hi : MInv E s) (hoc : s.oc = 0) (hz : E.zs.length ≤ 64) (hlen : s.out.length ≤ 8796093022208) :
    Calls Tryz.prog 34 #[.pointer (some ⟨K.b, 0, none⟩)] w (PStepPost K F (stepS E s) w) := by
  obtain ⟨i, hcan⟩ := hi.can he
  have hst : stepS E s = stepI E i s := by unfold stepS; rw [hcan.get]
  rw [hst]
  obtain ⟨vI, vO, lo4, st8, hm, hF⟩ := h
  have hlt := hi.lt he
  rw [← hke.l] at hlt
  have hgi : K.l[s.at_]? = some i := by rw [hke.l]; exact hcan.get
  obtain ⟨p0, p1, p2, p3⟩ := hm.code s.at_ _ (aims_get hgi)
  simp only at p0 p1 p2 p3
  rw [hke.l] at p3
  have m1 := hm.get 1
  have m5 := hm.get 5
  have m7 := hm.get 7
  have m8 := hm.get 8
  have m9 := hm.get 9
  have m10 := hm.get 10
  have m11 := hm.get 11
  have m12 := hm.get 12
  have m13 := hm.get 13
  have m14 := hm.get 14
  have m15 := hm.get 15
  have m16 := hm.get 16
  have m17 := hm.get 17
  have m18 := hm.get 18
  have m19 := hm.get 19
  have m20 := hm.get 20
  have H := hid hm
  have hzw := hm.z
  have hb2 := hm.b2
  have hg2 := hm.g2
  have hbz : K.b < w.heap.size := by omega
  have hgz : K.g < w.heap.size := by omega
  obtain ⟨x0, x1, x2, x3, e4⟩ := fourZ hm.l4
  obtain ⟨t0, t1, t2, t3, t4, t5, t6, t7, e8⟩ := eightZ hm.l8
  subst e4
  subst e8
  simp only [PK.row, List.map_cons, List.map_nil, List.cons_append, List.nil_append, List.getElem?_cons_zero, List.getElem?_cons_succ] at m1 m5 m7 m8 m9 m10 m11 m12 m13 m14 m15 m16 m17 m18 m19 m20
  rw [hoc] at m5
  have d0 : ¬ (s.at_ : Int) < 0 := by omega
  have d1 : (s.at_ : Int) < (K.l.length : Int) := by omega
  have d2 : ¬ (K.l.length : Int) ≤ (s.at_ : Int) := by omega
  have d3 : (0 : Int) ≤ (s.at_ : Int) := by omega
  have hl120 := hm.llen
  have hbA : Below w.heap.size w (w.alloc (.cells #[.int .i64 ((s.at_ : Int) + 1), .int .i64 x0, .int .i64 x1, .int .i64 x2, .int .i64 x3, .int .i64 s.st.length, .int .i64 t0, .int .i64 t1, .int .i64 t2, .int .i64 t3, .int .i64 t4, .int .i64 t5, .int .i64 t6, .int .i64 t7] 69)) := (Below.refl _ _).alloc (Nat.le_refl _) _
  have hnin : ¬ K.In vO w.heap.size := by
    rintro (⟨h1, h2⟩ | h1)
    · omega
    · have := (hm.out.lt _ h1).2; omega
  have hdo := hid (do_any (a := w.heap.size) (i := i) ⟨hm.below hbA, hke, he, hi, hoc, hcan, ⟨[x0, x1, x2, x3], [t0, t1, t2, t3, t4, t5, t6, t7], heap_alloc_new w _, hm.stok⟩, hnin⟩ hz hlen)
  have hshape := step_shape (E := E) (i := i) hoc
  have HBA := hid hbA
  have hlo2 := (hi.step he).lo he
  rw [hst, ← hke.L] at hlo2
  have HLO := hid hlo2
  have hstd0 : i.op = 0 → 0 < s.st.length := fun e => ((hcan.std ⟨by omega, by omega, by omega, by omega, by omega⟩).one (c := 105) (by rw [e]; rfl)).1
  clear hlo2
  unfold doV insV at hdo
  generalize stepI E i s = t at *
  clear hm hbA hi hcan hke he
  go_enter Tryz.func34, Tryz.ntmps34
  go_wp2_with fail
  refine hdo.out.mono ?_
  clear hdo
  intro e w2 hp
  obtain ⟨hx, ⟨vI2, vO2, hM, hvO⟩, hT, hon, hhalt⟩ := hp
  subst e
  have FIN : Hid (∀ (W : World) (lo4 st8 : List Int), Two K.b w.heap.size w2 W → PM W K vI2 vO2 lo4 st8 t → PX W K (Grown F w W) t ∧ Touch F w W) := hid (by
    intro W lo4 st8 hO hP
    have hzA : (w.alloc (.cells #[.int .i64 ((s.at_ : Int) + 1), .int .i64 x0, .int .i64 x1, .int .i64 x2, .int .i64 x3, .int .i64 s.st.length, .int .i64 t0, .int .i64 t1, .int .i64 t2, .int .i64 t3, .int .i64 t4, .int .i64 t5, .int .i64 t6, .int .i64 t7] 69)).heap.size = w.heap.size + 1 := alloc_size _ _
    refine ⟨⟨vI2, vO2, lo4, st8, hP, fun k hk => ?_⟩, ?_⟩
    · rcases hk with hk | hk
      · exact .inl (hF k (.inl hk))
      · rcases hvO k hk with h1 | h1
        · exact .inl (hF k (.inr h1))
        · exact .inr ⟨by omega, (hP.out.lt k hk).2⟩
    · have hT1 : Touch F w w2 := (Touch.below (F := F) HBA.out).trans hT (fun k hk h => by
        rcases h with h | h
        · exact hF k h
        · omega)
      exact hT1.trans (Touch.two hO (F := fun k => k = K.b ∨ k = w.heap.size) (.inl rfl) (.inr rfl)) (fun k hk h => by
        rcases h with rfl | h
        · exact hF _ (.inl ⟨H.out.b1, H.out.b2⟩)
        · omega))
  have n5 := hM.get 5
  have g5 := frozen_of_row w2 K.b 5 _ _ hM.row
  have HM := hid hM
  have HT := hid hT
  have HVO := hid hvO
  clear m1 m5 m7 m8 m9 m10 m11 m12 m13 m14 m15 m16 m17 m18 m19 m20 p0 p1 p2 p3 hT hM hvO
  simp only [PK.row, midS, List.map_cons, List.map_nil, List.cons_append, List.nil_append, List.getElem?_cons_zero, List.getElem?_cons_succ] at n5
  rcases hshape with ⟨z1, z2⟩ | z1 | ⟨z1, z2, z3⟩
  · obtain ⟨lo4, st8, hS⟩ := hon z1
    have hsr := hS.row
    have hsok := hS.ok
    obtain ⟨y0, y1, y2, y3, e4⟩ := fourZ hsok.l4
    obtain ⟨u0, u1, u2, u3, u4, u5, u6, u7, e8⟩ := eightZ hsok.l8
    subst e4
    subst e8
    have HSO := hid hsok
    have HSR := hid hsr
    have c0 := cell_of_row w2 w.heap.size 0 _ _ _ hsr
    have c1 := cell_of_row w2 w.heap.size 1 _ _ _ hsr
    have c2 := cell_of_row w2 w.heap.size 2 _ _ _ hsr
    have c3 := cell_of_row w2 w.heap.size 3 _ _ _ hsr
    have c4 := cell_of_row w2 w.heap.size 4 _ _ _ hsr
    have c5 := cell_of_row w2 w.heap.size 5 _ _ _ hsr
    have c6 := cell_of_row w2 w.heap.size 6 _ _ _ hsr
    have c7 := cell_of_row w2 w.heap.size 7 _ _ _ hsr
    have c8 := cell_of_row w2 w.heap.size 8 _ _ _ hsr
    have c9 := cell_of_row w2 w.heap.size 9 _ _ _ hsr
    have c10 := cell_of_row w2 w.heap.size 10 _ _ _ hsr
    have c11 := cell_of_row w2 w.heap.size 11 _ _ _ hsr
    have c12 := cell_of_row w2 w.heap.size 12 _ _ _ hsr
    have c13 := cell_of_row w2 w.heap.size 13 _ _ _ hsr
    have n7 := HM.out.get 7
    have g7 := frozen_of_row w2 K.b 7 _ _ HM.out.row
    have n8 := HM.out.get 8
    have g8 := frozen_of_row w2 K.b 8 _ _ HM.out.row
    have n9 := HM.out.get 9
    have g9 := frozen_of_row w2 K.b 9 _ _ HM.out.row
    have n10 := HM.out.get 10
    have g10 := frozen_of_row w2 K.b 10 _ _ HM.out.row
    have n11 := HM.out.get 11
    have g11 := frozen_of_row w2 K.b 11 _ _ HM.out.row
    have n12 := HM.out.get 12
    have g12 := frozen_of_row w2 K.b 12 _ _ HM.out.row
    have n13 := HM.out.get 13
    have g13 := frozen_of_row w2 K.b 13 _ _ HM.out.row
    have n14 := HM.out.get 14
    have g14 := frozen_of_row w2 K.b 14 _ _ HM.out.row
    have n15 := HM.out.get 15
    have g15 := frozen_of_row w2 K.b 15 _ _ HM.out.row
    have n16 := HM.out.get 16
    have g16 := frozen_of_row w2 K.b 16 _ _ HM.out.row
    have n17 := HM.out.get 17
    have g17 := frozen_of_row w2 K.b 17 _ _ HM.out.row
    have n18 := HM.out.get 18
    have g18 := frozen_of_row w2 K.b 18 _ _ HM.out.row
    have n19 := HM.out.get 19
    have g19 := frozen_of_row w2 K.b 19 _ _ HM.out.row
    have n20 := HM.out.get 20
    have g20 := frozen_of_row w2 K.b 20 _ _ HM.out.row
    simp only [sdL, List.map_cons, List.map_nil, List.cons_append, List.nil_append, List.getElem?_toArray, List.getElem?_cons_zero, List.getElem?_cons_succ] at c0 c1 c2 c3 c4 c5 c6 c7 c8 c9 c10 c11 c12 c13
    simp only [PK.row, midS, List.map_cons, List.map_nil, List.cons_append, List.nil_append, List.getElem?_cons_zero, List.getElem?_cons_succ] at n7 n8 n9 n10 n11 n12 n13 n14 n15 n16 n17 n18 n19 n20
    have hbs : K.b ≠ w.heap.size := by omega
    rw [z1]
    clear hon hhalt hS hsok hsr
    go_wp2_with fail
    have hrow := HM.out.row
    simp only [PK.row, midS, List.map_cons, List.map_nil, List.cons_append, List.nil_append] at hrow
    have hrow2 := row_now hrow (.int .i64 0) (.int .i64 t.at_) (.int .i64 y0) (.int .i64 y1) (.int .i64 y2) (.int .i64 y3) (.int .i64 t.st.length) (.int .i64 u0) (.int .i64 u1) (.int .i64 u2) (.int .i64 u3) (.int .i64 u4) (.int .i64 u5) (.int .i64 u6) (.int .i64 u7)
    have honly := only_now w2 K.b (.int .i64 0) (.int .i64 t.at_) (.int .i64 y0) (.int .i64 y1) (.int .i64 y2) (.int .i64 y3) (.int .i64 t.st.length) (.int .i64 u0) (.int .i64 u1) (.int .i64 u2) (.int .i64 u3) (.int .i64 u4) (.int .i64 u5) (.int .i64 u6) (.int .i64 u7)
    generalize (((((((((((((((w2.setCell ⟨K.b, 5, none⟩ (.int .i64 0)).setCell ⟨K.b, 7, none⟩ (.int .i64 t.at_)).setCell ⟨K.b, 8, none⟩ (.int .i64 y0)).setCell ⟨K.b, 9, none⟩ (.int .i64 y1)).setCell ⟨K.b, 10, none⟩ (.int .i64 y2)).setCell ⟨K.b, 11, none⟩ (.int .i64 y3)).setCell ⟨K.b, 12, none⟩ (.int .i64 t.st.length)).setCell ⟨K.b, 13, none⟩ (.int .i64 u0)).setCell ⟨K.b, 14, none⟩ (.int .i64 u1)).setCell ⟨K.b, 15, none⟩ (.int .i64 u2)).setCell ⟨K.b, 16, none⟩ (.int .i64 u3)).setCell ⟨K.b, 17, none⟩ (.int .i64 u4)).setCell ⟨K.b, 18, none⟩ (.int .i64 u5)).setCell ⟨K.b, 19, none⟩ (.int .i64 u6)).setCell ⟨K.b, 20, none⟩ (.int .i64 u7)) = W at *
    have hP : PM W K vI2 vO2 [y0, y1, y2, y3] [u0, u1, u2, u3, u4, u5, u6, u7] t := by
      refine HM.out.turn honly ?_ HSO.out HLO.out rfl rfl (HM.out.inp.same (fun a n c e => honly.block _ (HM.out.inb a n c e).2.2.1)) HM.out.inb
      rw [hrow2]
      simp only [PK.row, List.map_cons, List.map_nil, List.cons_append, List.nil_append, z1, z2]
      rfl
    obtain ⟨f1, f2⟩ := FIN.out W _ _ (Two.of_only honly).widen.swap hP
    refine bodyPost_ret (v := .tuple #[.int .i64 0, .int .i64 0]) (by simp [results, Tryz.results34, go_sem]) rfl ⟨?_, f1, f2⟩
    rw [z1]
    rfl
  · obtain ⟨z0, z1⟩ := z1
    have hpop := hstd0 z0
    have hS := hhalt (by rw [z1])
    rw [st_one hpop] at hS
    have hS2 := hS.keep (w' := w2.setCell ⟨K.b, 5, none⟩ (.int .i64 1)) (Below.heap_setCell _ _ _ _ (fun e => by simp only at e; omega))
    have hp := hid (xpop hS2)
    have n6 := HM.out.get 6
    have g6 := frozen_of_row w2 K.b 6 _ _ HM.out.row
    simp only [PK.row, midS, List.map_cons, List.map_nil, List.cons_append, List.nil_append, List.getElem?_cons_zero, List.getElem?_cons_succ] at n6
    have HZ1 := hid z1
    have hoc1 : t.oc = 1 := by rw [z1]
    have hbs : K.b ≠ w.heap.size := by omega
    rw [hoc1]
    clear hon hhalt hS hS2 z1
    go_wp2_with fail
    refine hp.out.mono ?_
    clear hp
    intro e w4 hh
    obtain ⟨hx, hS4, hO4⟩ := hh
    subst e
    have k6 : w4.cell? ⟨K.b, 6, none⟩ = some (.int .i64 s.va) := (hO4.cell hbs).trans ((World.cell?_setCell_other _ _ _ _ (by simp)).trans n6)
    have j6 : w4.frozen? ⟨K.b, 6, none⟩ = false := (World.frozen?_of_block (a := ⟨K.b, 6, none⟩) (hO4.block _ hbs)).trans ((World.frozen?_setCell _ _ _ _).trans g6)
    have k5 : w4.cell? ⟨K.b, 5, none⟩ = some (.int .i64 1) := (hO4.cell hbs).trans (World.cell?_setCell_same _ _ _ n5)
    have HO4 := hid hO4
    clear hS4 hO4 n5 n6 g5 g6
    go_wp2_with fail
    have hnin2 : ¬ K.In vO2 w.heap.size := by
      have hzA : (w.alloc (.cells #[.int .i64 ((s.at_ : Int) + 1), .int .i64 x0, .int .i64 x1, .int .i64 x2, .int .i64 x3, .int .i64 s.st.length, .int .i64 t0, .int .i64 t1, .int .i64 t2, .int .i64 t3, .int .i64 t4, .int .i64 t5, .int .i64 t6, .int .i64 t7] 69)).heap.size = w.heap.size + 1 := alloc_size _ _
      rintro (⟨h1, h2⟩ | h1)
      · omega
      · rcases HVO.out _ h1 with h2 | h2
        · exact hnin (.inr h2)
        · omega
    have hP := ((HM.out.oc 1).two (Two.of_only HO4.out) hnin2).va (lastW s.st 0).2
    have hPt : PM (w4.setCell ⟨K.b, 6, none⟩ (.int .i64 (lastW s.st 0).2)) K vI2 vO2 [x0, x1, x2, x3] [t0, t1, t2, t3, t4, t5, t6, t7] t := by
      have e : ({ { midS s t with oc := 1 } with va := (lastW s.st 0).2 } : MS) = t := by
        have h9 := HZ1.out
        rw [h9]
        rfl
      rw [← e]
      exact hP
    have hTW : Two K.b w.heap.size w2 (w4.setCell ⟨K.b, 6, none⟩ (.int .i64 (lastW s.st 0).2)) := (((Two.refl K.b w.heap.size w2).set).trans (Two.of_only HO4.out).widen).set
    obtain ⟨f1, f2⟩ := FIN.out _ _ _ hTW hPt
    refine bodyPost_ret (v := .tuple #[.int .i64 1, .int .i64 0]) (by simp [results, Tryz.results34, go_sem]) rfl ⟨?_, f1, f2⟩
    rw [hoc1]
    rfl
  · have hoc3 : ((t.oc : Int) == 0) = false := by simp; omega
    have hoc4 : ((t.oc : Int) == 1) = false := by simp; omega
    have HZ3 := hid z3
    clear hon hhalt z3
    go_wp2_with fail
    have hP := HM.out.oc t.oc
    have hPt : PM (w2.setCell ⟨K.b, 5, none⟩ (.int .i64 t.oc)) K vI2 vO2 [x0, x1, x2, x3] [t0, t1, t2, t3, t4, t5, t6, t7] t := by
      have e : ({ midS s t with oc := t.oc } : MS) = t := by
        unfold midS
        rw [show t.rd = s.rd by rw [HZ3.out], show t.out = s.out by rw [HZ3.out]]
        exact HZ3.out.symm
      rw [← e]
      exact hP
    obtain ⟨f1, f2⟩ := FIN.out _ _ _ ((Two.refl K.b w.heap.size w2).set) hPt
    exact bodyPost_ret (v := .tuple #[.int .i64 t.oc, .int .i64 0]) (by simp [results, Tryz.results34, go_sem]) rfl ⟨rfl, f1, f2⟩
end Go.Proofs.YtdmdpindonghdaaGreatDoor
namespace Go.Proofs.YtdmdpindonghdaaGreatDoor
open Go.ChangeShapes Go.WideShapes Go.ChangeAt Go.ChangeMaps Go.RowKit
theorem knobs : ownKnob Tryz.prog.godebug = none := by kernel_rfl
theorem arr_cell {α : Type} {cs : List α} {r : Nat} {v : α} (h : (cs.drop r).take 1 = [v]) : cs[r]? = some v := by
  have h0 : ((cs.drop r).take 1)[0]? = some v := by rw [h]; rfl
  simpa using h0
theorem arr_strings {W : World} {g : Nat} {name : String} {cs : Array Value} {fuel : Nat} {p : List MemPlace} {l : List (List UInt8)} {sp : Nat → Bool} {hd : Bool} {b : Nat} {enc : TypeId × Value → Unit}
    (hg : Tryz.prog.globalNamed name = some g) (hv : W.var? Tryz.prog name = some cs) (hl : l.length = 25)
    (h : DataW.trod enc Tryz.prog W b sp hd fuel 176 cs.toList = some (.agg (l.map fun x => .lit (.string x)), p)) (k : Nat) (hk : k < 25) : W.cell? ⟨g, k, none⟩ = some (.string ⟨(l.getD k []).toArray⟩) := by
  obtain ⟨xs, m, _, ex, _, hlx, hel⟩ := DataW.trod_array Tryz.underlying176 h
  have c9 : Tryz.prog.cellsOf 9 = 1 := by kernel_rfl
  have hE := hel k hk
  rw [c9, Nat.mul_one, List.getElem?_eq_getElem (by omega)] at hE
  obtain ⟨z, e1, e2, _⟩ := DataW.trod_string Tryz.underlying9 hE
  have e3 : (xs.map (·.1)) = l.map fun x => .lit (.string x) := (DataW.agg.inj (Prod.mk.inj ex).1).symm
  have e4 : (xs.map (·.1))[k]? = (l.map fun x => (DataW.lit (.string x) : DataW Unit))[k]? := by rw [e3]
  rw [List.getElem?_map, List.getElem?_map, List.getElem?_eq_getElem (by omega : k < xs.length), List.getElem?_eq_getElem (by omega : k < l.length), e2] at e4
  have hz : z.data.toList = l.getD k [] := by
    simp only [Option.map_some, Option.some.injEq, DataW.lit.injEq, Lit.string.injEq] at e4
    rw [e4, List.getD, List.getElem?_eq_getElem (by omega : k < l.length)]; rfl
  rw [World.var?_cell hg hv k, ← hz]
  simpa using arr_cell e1
theorem arr_bools {W : World} {g : Nat} {name : String} {cs : Array Value} {fuel : Nat} {p : List MemPlace} {l : List Bool} {sp : Nat → Bool} {hd : Bool} {b : Nat} {enc : TypeId × Value → Unit}
    (hg : Tryz.prog.globalNamed name = some g) (hv : W.var? Tryz.prog name = some cs) (hl : l.length = 25)
    (h : DataW.trod enc Tryz.prog W b sp hd fuel 174 cs.toList = some (.agg (l.map fun x => .lit (.bool x)), p)) (k : Nat) (hk : k < 25) : W.cell? ⟨g, k, none⟩ = some (.bool (l.getD k false)) := by
  obtain ⟨xs, m, _, ex, _, hlx, hel⟩ := DataW.trod_array Tryz.underlying174 h
  have c9 : Tryz.prog.cellsOf 4 = 1 := by kernel_rfl
  have hE := hel k hk
  rw [c9, Nat.mul_one, List.getElem?_eq_getElem (by omega)] at hE
  obtain ⟨z, e1, e2⟩ := DataW.trod_bool Tryz.underlying4 hE
  have e3 : (xs.map (·.1)) = l.map fun x => .lit (.bool x) := (DataW.agg.inj (Prod.mk.inj ex).1).symm
  have e4 : (xs.map (·.1))[k]? = (l.map fun x => (DataW.lit (.bool x) : DataW Unit))[k]? := by rw [e3]
  rw [List.getElem?_map, List.getElem?_map, List.getElem?_eq_getElem (by omega : k < xs.length), List.getElem?_eq_getElem (by omega : k < l.length), e2] at e4
  have hz : z = l.getD k false := by
    simp only [Option.map_some, Option.some.injEq, DataW.lit.injEq, Lit.bool.injEq] at e4
    rw [e4, List.getD, List.getElem?_eq_getElem (by omega : k < l.length)]; rfl
  rw [World.var?_cell hg hv k, ← hz]
  simpa using arr_cell e1
def popsAll : List (List UInt8) := (List.range 25).map popsL
def pushesAll : List (List UInt8) := (List.range 25).map pushesL
def takesAll : List Bool := (List.range 25).map takesB
theorem popsAll_get {k : Nat} (h : k < 25) : popsAll.getD k [] = popsL k := by simp [popsAll, List.getD_eq_getElem?_getD, h]
theorem pushesAll_get {k : Nat} (h : k < 25) : pushesAll.getD k [] = pushesL k := by simp [pushesAll, List.getD_eq_getElem?_getD, h]
theorem takesAll_get {k : Nat} (h : k < 25) : takesAll.getD k false = takesB k := by simp [takesAll, List.getD_eq_getElem?_getD, h]
theorem e1 : (Rows.laid_tint_flow_pops : DataW Unit) = .agg (popsAll.map fun x => .lit (.string x)) := by kernel_rfl
theorem e2 : (Rows.laid_tint_flow_pushes : DataW Unit) = .agg (pushesAll.map fun x => .lit (.string x)) := by kernel_rfl
theorem e3 : (Rows.laid_tint_tintref_pops : DataW Unit) = .agg (popsAll.map fun x => .lit (.string x)) := by kernel_rfl
theorem e4 : (Rows.laid_tint_tintref_pushes : DataW Unit) = .agg (pushesAll.map fun x => .lit (.string x)) := by kernel_rfl
theorem e5 : (Rows.laid_tint_tintref_takes : DataW Unit) = .agg (takesAll.map fun x => .lit (.bool x)) := by kernel_rfl
theorem tabs_of_laid {W : World} (h : laidMetH Tryz.prog [("tint/flow.pops", Rows.laid_tint_flow_pops), ("tint/flow.pushes", Rows.laid_tint_flow_pushes), ("tint/tintref.pops", Rows.laid_tint_tintref_pops), ("tint/tintref.pushes", Rows.laid_tint_tintref_pushes), ("tint/tintref.takes", Rows.laid_tint_tintref_takes)] W) : FlowTab W ∧ TakesTab W ∧ TypeTab W := by
  rw [MakeChecks.laidMetH_plain _ _ _ (by kernel_rfl)] at h
  obtain ⟨ps, ⟨g0, t0, cs0, f0, p0, q0, hg0, ht0, hv0, hd0, ⟨g1, t1, cs1, f1, p1, q1, hg1, ht1, hv1, hd1, ⟨g2, t2, cs2, f2, p2, q2, hg2, ht2, hv2, hd2, ⟨g3, t3, cs3, f3, p3, q3, hg3, ht3, hv3, hd3, ⟨g4, t4, cs4, f4, p4, q4, hg4, ht4, hv4, hd4, _, _⟩, _⟩, _⟩, _⟩, _⟩, _, _⟩ := h
  obtain rfl := Option.some.inj ((show Tryz.prog.globalNamed "tint/flow.pops" = some 3 by kernel_rfl).symm.trans hg0)
  obtain rfl := Option.some.inj ((show Tryz.prog.globalNamed "tint/flow.pushes" = some 4 by kernel_rfl).symm.trans hg1)
  obtain rfl := Option.some.inj ((show Tryz.prog.globalNamed "tint/tintref.pops" = some 1 by kernel_rfl).symm.trans hg2)
  obtain rfl := Option.some.inj ((show Tryz.prog.globalNamed "tint/tintref.pushes" = some 2 by kernel_rfl).symm.trans hg3)
  obtain rfl := Option.some.inj ((show Tryz.prog.globalNamed "tint/tintref.takes" = some 0 by kernel_rfl).symm.trans hg4)
  obtain rfl := Option.some.inj ((show (Tryz.prog.globals[3]?).map (·.type) = some 176 by kernel_rfl).symm.trans ht0)
  obtain rfl := Option.some.inj ((show (Tryz.prog.globals[4]?).map (·.type) = some 176 by kernel_rfl).symm.trans ht1)
  obtain rfl := Option.some.inj ((show (Tryz.prog.globals[1]?).map (·.type) = some 176 by kernel_rfl).symm.trans ht2)
  obtain rfl := Option.some.inj ((show (Tryz.prog.globals[2]?).map (·.type) = some 176 by kernel_rfl).symm.trans ht3)
  obtain rfl := Option.some.inj ((show (Tryz.prog.globals[0]?).map (·.type) = some 174 by kernel_rfl).symm.trans ht4)
  rw [e1] at hd0
  rw [e2] at hd1
  rw [e3] at hd2
  rw [e4] at hd3
  rw [e5] at hd4
  refine ⟨fun k hk => ⟨?_, ?_⟩, fun k hk => ?_, fun k hk => ⟨?_, ?_⟩⟩
  · rw [arr_strings hg0 hv0 rfl hd0 k hk, popsAll_get hk]; rfl
  · rw [arr_strings hg1 hv1 rfl hd1 k hk, pushesAll_get hk]; rfl
  · rw [arr_bools hg4 hv4 rfl hd4 k hk, takesAll_get hk]
  · rw [arr_strings hg2 hv2 rfl hd2 k hk, popsAll_get hk]; rfl
  · rw [arr_strings hg3 hv3 rfl hd3 k hk, pushesAll_get hk]; rfl
end Go.Proofs.YtdmdpindonghdaaGreatDoor
namespace Go.Proofs.YtdmdpindonghdaaGreatDoor
open Go.ChangeShapes Go.WideShapes Go.ChangeAt Go.ChangeMaps Go.RowKit
theorem cellsInt : Tryz.prog.cellsOf 3 = 1 := by kernel_rfl
theorem bytesInt : Tryz.prog.bytesOf 3 = 8 := by kernel_rfl
theorem laidOutP : laidOutB Tryz.prog = true := by kernel_rfl
set_option maxRecDepth 100000 in
/-- A list of numbers that is handed in. -/
theorem ints_arg {H : Type} {enc : TypeId × Value → H} {W : World} {v : Value} {d : DataW H} {p : List MemPlace} {base : Nat} (hok : Value.okWide Tryz.prog W .any base 22 v) (h : DataW.Trod enc Tryz.prog W 0 (fun _ => true) true 22 v d p) (hlt : ∀ x ∈ p, x.block < W.heap.size) (hw : (d.weights Tryz.prog 22).all (· ≤ reachBytes) = true) :
    ∃ zs : List Int, ArgInts W v zs ∧ zs.length ≤ 17592186044416 := by
  obtain ⟨a0, len, cap, rfl⟩ := okWide_slice Tryz.underlying22 hok
  obtain ⟨fuel, hf⟩ := h
  rcases open_ints Tryz.underlying22 Tryz.underlying3 cellsInt hf with ⟨hcs, hx⟩ | ⟨a, len', cap', zs, hcs, _, hl, hm, hz, hx, hcell, _⟩
  · simp [Value.cells] at hcs
    obtain ⟨rfl, rfl, rfl⟩ := hcs
    exact ⟨[], .inl ⟨rfl, rfl⟩, by simp⟩
  · simp [Value.cells] at hcs
    obtain ⟨rfl, rfl, rfl⟩ := hcs
    simp only [Prod.mk.injEq] at hx
    obtain ⟨rfl, rfl⟩ := hx
    simp only [if_true] at hz
    have hlz : (zs.take len).length = len := by rw [List.length_take]; omega
    refine ⟨zs.take len, .inr ⟨a, cap, by rw [hlz], ?_, ?_⟩, ?_⟩
    · intro j x hj
      have hjl := (List.getElem?_eq_some_iff.1 hj).1
      rw [hlz] at hjl
      rw [List.getElem?_take, if_pos hjl] at hj
      rw [hcell j (by omega), List.getD_eq_getElem?_getD, hj]
      rfl
    · intro hp
      exact hlt (.cell a.block (a.off + 0)) (MemPlace.mem_row.2 ⟨0, by omega, rfl⟩)
    · rw [hlz]
      have := hw
      simp only [DataW.weights, Tryz.underlying22, List.all_cons, Bool.and_eq_true, decide_eq_true_eq, bytesInt] at this
      have h2 := this.1
      simp only [lits, List.length_map, hlz] at h2
      have : reachBytes = 140737488351232 := rfl
      omega
set_option maxRecDepth 100000 in
theorem news_lifted (os : Os) (started : os.Started) (H : Type) (enc : TypeId × Value → H) :
    ReturnsInHanded {} Tryz.checked os 3 .any (fun w args => (Rows.newsSpec.pre enc Tryz.prog Tryz.f3 Rows.newsRow.domain false w args ∧ laidMetH Tryz.prog Rows.newsRow.laid w) ∧ sizedMet enc Tryz.prog Tryz.f3 (OpenSpec.ofChange Rows.newsSpec) false w args)
      (Rows.newsSpec.post enc Tryz.prog Tryz.f3 false true false false) := by
  refine returnsInHanded_of_change_and (C := Tryz.checked) (X := fun w _ => laidMetH Tryz.prog Rows.newsRow.laid w) (fun _ _ _ hh h => h.of_heap hh) knobs started (by kernel_rfl) Tryz.func3
    (ChangeSpec.witness_shaped (enc := enc) (C := Tryz.checked) (os := os) (X := fun w _ => laidMetH Tryz.prog Rows.newsRow.laid w) false (World.laidAll Tryz.prog os Rows.newsRow.laid) #[.string ⟨#[]⟩, .slice none 0 0, .int .i64 0] 8 (World.laidAll_os _ _ _)
      (World.shaped_of_ZipB (by kernel_rfl) (by kernel_rfl)) (by kernel_rfl) (by kernel_rfl) (by kernel_rfl)
      (by rw [MakeChecks.laidMetH_plain _ _ _ (by kernel_rfl)]; exact laidMet_laidAll _ (by kernel_rfl) (by kernel_rfl))) ?_
  intro W base args ds gs before hval0 hW _ hsz hL _
  have hval : ∀ (j : Nat) t v, Tryz.f3.params[j]? = some t → args[j]? = some v → Value.okWide Tryz.prog W .any base t v := hval0
  have hW' := hW
  obtain ⟨p, q, hA0, hV, rfl, _, _⟩ := hW
  have hA : DataW.TrodAll enc Tryz.prog W 0 (fun _ => true) true Tryz.f3.params.toList args.toList ds p := hA0
  obtain ⟨rfl, rfl⟩ := trodVars_none hV
  have hlt : ∀ x ∈ p, x.block < W.heap.size := fun x hx => by
    have := hW'.lt x (by simpa using hx)
    exact this
  rw [Tryz.params3] at hA hval hsz
  obtain ⟨v0, v1, v2, d0, d1, d2, p0, p1, p2, rfl, rfl, rfl, h0, h1, h2⟩ := trodAll_three hA
  obtain ⟨s, rfl, rfl, rfl, hs⟩ := open_string Tryz.underlying9 (hval 0 9 v0 rfl rfl) h0
  obtain ⟨n, rfl, rfl, rfl, hn⟩ := open_int Tryz.underlying3 (hval 2 3 v2 rfl rfl) h2
  have hw1 : (d1.weights Tryz.prog 22).all (· ≤ reachBytes) = true := by
    have := hsz
    simp only [List.append_nil, List.cons_append, List.nil_append, DataW.weightsEach, List.all_append, Bool.and_eq_true] at this
    exact this.2.1
  have hlt1 : ∀ x ∈ p1, x.block < W.heap.size := fun x hx => hlt x (by simp [hx])
  obtain ⟨zs, hz, hzl⟩ := ints_arg (hval 1 22 v1 rfl rfl) h1 hlt1 hw1
  obtain ⟨t1, t2, t3⟩ := tabs_of_laid hL
  refine (news_any s v1 zs n W hs t2 t3 t1 hz hzl).mono fun e W' ⟨he, hb⟩ => ?_
  subst he
  have hr1 : DataW.Trod enc Tryz.prog W' 0 (fun b => decide (b < W.heap.size)) true 22 v1 d1 p1 := Below.trod laidOutP (by kernel_rfl) (of_decide_eq_true (by kernel_rfl)) h1 hb hlt1
  exact ⟨_, rfl, _, _, _, [], _, [], hW', trodAll_mk1 (shut_bool Tryz.underlying4 _), trodAll_mk3 (shut_string Tryz.underlying9 hs) hr1 (shut_int Tryz.underlying3 hn), rfl, hb.frame _, fun h => by cases h⟩
theorem news_holds : Rows.NewsSaid :=
  OpenClaim.holds_of_wide 3 Tryz.f3 rfl rfl rfl rfl rfl rfl rfl ⟨rfl, rfl, rfl, rfl, rfl⟩ rfl rfl rfl rfl rfl (by kernel_rfl) Tryz.func3 (by kernel_rfl)
    (of_decide_eq_true (by kernel_rfl)) (by unfold Func.isWrapper; first | (rw [if_pos (by decide +kernel)]; kernel_rfl) | (rw [if_neg (by decide +kernel)]; exact ⟨rfl, rfl⟩))
    (fun os started H enc _ => news_lifted os started H enc)
theorem news_card_holds : Rows.NewsCardSaid :=
  Claim7.holds_tied_plain_at .later [] [.data, .data, .data, .data, .data] true Rows.newsCard.stood.harness false
    news_holds (fun _ h => by cases h) (by kernel_rfl) (fun _ h => by cases h) news_row_tie rfl ⟨rfl, rfl⟩ (by kernel_rfl) rfl
    (fun f fn hf hfn => by
      obtain rfl : f = 3 := Option.some.inj ((show Tryz.prog.funcNamed "tint/tintlaw.News" = some 3 by kernel_rfl).symm.trans hf) |>.symm
      obtain rfl : fn = Tryz.f3 := (Option.some.inj (Tryz.func3.symm.trans hfn)).symm
      exact ⟨by kernel_rfl, fun j t ht => by
        rw [Tryz.params3] at ht
        have hm : t ∈ [9, 22, 3] := by simpa using Array.mem_of_getElem? ht
        have hall : ([9, 22, 3].all fun u => !Tryz.prog.wantsStandIn u) = true := by kernel_rfl
        exact (show Tryz.prog.wantsStandIn t = false by simpa using List.all_eq_true.1 hall t hm)⟩)
    (by kernel_rfl)
end Go.Proofs.YtdmdpindonghdaaGreatDoor
