/- What the proofs of these statements stand on, part 9: PmM, PmN, PmO, PmP, LawF, LawG, LawH, LawI, LaidA, CardN, CardP, AlA, AlB, AlC, AlD, AlF, AlI, AlS, AlE, AlP, AlG. -/
import Derived.Test.YtdmdpindonghdaaGreatDoorAll8
import Derived.Test.YtdmdpindonghdaaGreatDoorTie
import Derived.Test.YtdmdpindonghdaaGreatDoorCards
import Derived.ProofKit
import Derived.OpenShut
import Derived.Lay
import Derived.SevenTiedAt
import Derived.Stop.Joined
import Derived.Carry
import Derived.Deep.SlicePairs
set_option maxHeartbeats 4000000
set_option maxRecDepth 100000
namespace Go.Proofs.YtdmdpindonghdaaGreatDoor
open Go.RowKit
theorem do_2 {w : World} {K : PK} {E : Env} {vI vO : Value} {lo4 st8 : List Int} {s : MS} {a : Nat} {i : Ins} (h : DoPre K E vI vO lo4 st8 a s i w) (ho : i.op = 2) :
    Calls Tryz.prog 55 #[.pointer (some ⟨K.b, 0, none⟩), doV E i, .pointer (some ⟨a, 0, none⟩)] w (DoPost K vO lo4 st8 a ((s.at_ + 1 : Nat) : Int) s (stepI E i s) w) := by
  have HE : Hid (stepI E i s = goS E i (-1) s) := hid (step_go (by rw [ho]; exact ends_other (by decide) (by decide) (by decide) (by decide) (by decide) (by decide) (by decide)) (by omega) (by omega))
  have hB := BoxI.start w i.place i.op i.n (aimOf E.l i) h.sx.lt
  have h1 := h.sx.below ((Below.refl _ _).alloc (Nat.le_refl _) (.cells #[.int .i64 i.place, .int .i64 i.op, .int .i64 i.n, .int .i64 (aimOf E.l i)] 128))
  have hm1 := h.m.two hB.two h.out
  have hm := hid hm1
  have HOC := hid h.oc
  have PO := h.out
  have hstd := h.can.std ⟨by omega, by omega, by omega, by omega, by omega⟩
  obtain ⟨hp, f1, f2⟩ := hstd.two (c := 105) (d := 105) (by rw [ho]; rfl)
  have hl8 : (s.st.take (s.st.length - 2)).length < 8 := by have := h.inv.st h.ok; rw [List.length_take]; omega
  rw [st_two hp] at h1
  have hc := hid (reckon_2 h1 hl8)
  obtain ⟨op, n, pl⟩ := i
  simp only at ho
  subst ho
  have HT := hid hB.two
  unfold doV
  simp only at HT hm hc ⊢
  unfold insV
  generalize aimOf E.l ⟨2, n, pl⟩ = tg at *
  clear h hB h1 hm1 hstd f1 f2
  go_enter Tryz.func55, Tryz.ntmps55
  go_wp2_with fail
  refine hc.out.mono ?_
  clear hc
  intro e w2 hh
  obtain ⟨hx, hS, hO⟩ := hh
  subst e
  have HS := hid hS
  have HM2 := hid (hm.out.two (Two.of_only hO) PO)
  have HT2 := hid (HT.out.trans (Two.of_only hO))
  clear hS hO hm HT
  go_wp2_with fail
  go_ret
  exact do_fin HE.out HOC.out rfl (by rw [to_next (by simp) (by simp)]) rfl HM2.out HT2.out HS.out
theorem do_3 {w : World} {K : PK} {E : Env} {vI vO : Value} {lo4 st8 : List Int} {s : MS} {a : Nat} {i : Ins} (h : DoPre K E vI vO lo4 st8 a s i w) (ho : i.op = 3) :
    Calls Tryz.prog 55 #[.pointer (some ⟨K.b, 0, none⟩), doV E i, .pointer (some ⟨a, 0, none⟩)] w (DoPost K vO lo4 st8 a ((s.at_ + 1 : Nat) : Int) s (stepI E i s) w) := by
  have HE : Hid (stepI E i s = goS E i (-1) s) := hid (step_go (by rw [ho]; exact ends_other (by decide) (by decide) (by decide) (by decide) (by decide) (by decide) (by decide)) (by omega) (by omega))
  have hB := BoxI.start w i.place i.op i.n (aimOf E.l i) h.sx.lt
  have h1 := h.sx.below ((Below.refl _ _).alloc (Nat.le_refl _) (.cells #[.int .i64 i.place, .int .i64 i.op, .int .i64 i.n, .int .i64 (aimOf E.l i)] 128))
  have hm1 := h.m.two hB.two h.out
  have hm := hid hm1
  have HOC := hid h.oc
  have PO := h.out
  have hstd := h.can.std ⟨by omega, by omega, by omega, by omega, by omega⟩
  obtain ⟨hp, f1, f2⟩ := hstd.two (c := 105) (d := 105) (by rw [ho]; rfl)
  have hl8 : (s.st.take (s.st.length - 2)).length < 8 := by have := h.inv.st h.ok; rw [List.length_take]; omega
  rw [st_two hp] at h1
  have hc := hid (reckon_3 h1 hl8)
  obtain ⟨op, n, pl⟩ := i
  simp only at ho
  subst ho
  have HT := hid hB.two
  unfold doV
  simp only at HT hm hc ⊢
  unfold insV
  generalize aimOf E.l ⟨3, n, pl⟩ = tg at *
  clear h hB h1 hm1 hstd f1 f2
  go_enter Tryz.func55, Tryz.ntmps55
  go_wp2_with fail
  refine hc.out.mono ?_
  clear hc
  intro e w2 hh
  obtain ⟨hx, hS, hO⟩ := hh
  subst e
  have HS := hid hS
  have HM2 := hid (hm.out.two (Two.of_only hO) PO)
  have HT2 := hid (HT.out.trans (Two.of_only hO))
  clear hS hO hm HT
  go_wp2_with fail
  go_ret
  exact do_fin HE.out HOC.out rfl (by rw [to_next (by simp) (by simp)]) rfl HM2.out HT2.out HS.out
theorem do_4 {w : World} {K : PK} {E : Env} {vI vO : Value} {lo4 st8 : List Int} {s : MS} {a : Nat} {i : Ins} (h : DoPre K E vI vO lo4 st8 a s i w) (ho : i.op = 4) :
    Calls Tryz.prog 55 #[.pointer (some ⟨K.b, 0, none⟩), doV E i, .pointer (some ⟨a, 0, none⟩)] w (DoPost K vO lo4 st8 a ((s.at_ + 1 : Nat) : Int) s (stepI E i s) w) := by
  have HE : Hid (stepI E i s = goS E i (-1) s) := hid (step_go (by rw [ho]; exact ends_other (by decide) (by decide) (by decide) (by decide) (by decide) (by decide) (by decide)) (by omega) (by omega))
  have hB := BoxI.start w i.place i.op i.n (aimOf E.l i) h.sx.lt
  have h1 := h.sx.below ((Below.refl _ _).alloc (Nat.le_refl _) (.cells #[.int .i64 i.place, .int .i64 i.op, .int .i64 i.n, .int .i64 (aimOf E.l i)] 128))
  have hm1 := h.m.two hB.two h.out
  have hm := hid hm1
  have HOC := hid h.oc
  have PO := h.out
  have hstd := h.can.std ⟨by omega, by omega, by omega, by omega, by omega⟩
  obtain ⟨hp, f1, f2⟩ := hstd.two (c := 105) (d := 105) (by rw [ho]; rfl)
  have hl8 : (s.st.take (s.st.length - 2)).length < 8 := by have := h.inv.st h.ok; rw [List.length_take]; omega
  rw [st_two hp] at h1
  have hc := hid (reckon_4 h1 hl8)
  obtain ⟨op, n, pl⟩ := i
  simp only at ho
  subst ho
  have HT := hid hB.two
  unfold doV
  simp only at HT hm hc ⊢
  unfold insV
  generalize aimOf E.l ⟨4, n, pl⟩ = tg at *
  clear h hB h1 hm1 hstd f1 f2
  go_enter Tryz.func55, Tryz.ntmps55
  go_wp2_with fail
  refine hc.out.mono ?_
  clear hc
  intro e w2 hh
  obtain ⟨hx, hS, hO⟩ := hh
  subst e
  have HS := hid hS
  have HM2 := hid (hm.out.two (Two.of_only hO) PO)
  have HT2 := hid (HT.out.trans (Two.of_only hO))
  clear hS hO hm HT
  go_wp2_with fail
  go_ret
  exact do_fin HE.out HOC.out rfl (by rw [to_next (by simp) (by simp)]) rfl HM2.out HT2.out HS.out
theorem do_6 {w : World} {K : PK} {E : Env} {vI vO : Value} {lo4 st8 : List Int} {s : MS} {a : Nat} {i : Ins} (h : DoPre K E vI vO lo4 st8 a s i w) (ho : i.op = 6) :
    Calls Tryz.prog 55 #[.pointer (some ⟨K.b, 0, none⟩), doV E i, .pointer (some ⟨a, 0, none⟩)] w (DoPost K vO lo4 st8 a ((s.at_ + 1 : Nat) : Int) s (stepI E i s) w) := by
  have HE : Hid (stepI E i s = goS E i (-1) s) := hid (step_go (by rw [ho]; exact ends_other (by decide) (by decide) (by decide) (by decide) (by decide) (by decide) (by decide)) (by omega) (by omega))
  have hB := BoxI.start w i.place i.op i.n (aimOf E.l i) h.sx.lt
  have h1 := h.sx.below ((Below.refl _ _).alloc (Nat.le_refl _) (.cells #[.int .i64 i.place, .int .i64 i.op, .int .i64 i.n, .int .i64 (aimOf E.l i)] 128))
  have hm1 := h.m.two hB.two h.out
  have hm := hid hm1
  have HOC := hid h.oc
  have PO := h.out
  have hstd := h.can.std ⟨by omega, by omega, by omega, by omega, by omega⟩
  obtain ⟨hp, f1, f2⟩ := hstd.two (c := 105) (d := 105) (by rw [ho]; rfl)
  have hl8 : (s.st.take (s.st.length - 2)).length < 8 := by have := h.inv.st h.ok; rw [List.length_take]; omega
  rw [st_two hp] at h1
  have hc := hid (reckon_6 h1 hl8)
  obtain ⟨op, n, pl⟩ := i
  simp only at ho
  subst ho
  have HT := hid hB.two
  unfold doV
  simp only at HT hm hc ⊢
  unfold insV
  generalize aimOf E.l ⟨6, n, pl⟩ = tg at *
  clear h hB h1 hm1 hstd f1 f2
  go_enter Tryz.func55, Tryz.ntmps55
  go_wp2_with fail
  refine hc.out.mono ?_
  clear hc
  intro e w2 hh
  obtain ⟨hx, hS, hO⟩ := hh
  subst e
  have HS := hid hS
  have HM2 := hid (hm.out.two (Two.of_only hO) PO)
  have HT2 := hid (HT.out.trans (Two.of_only hO))
  clear hS hO hm HT
  go_wp2_with fail
  go_ret
  exact do_fin HE.out HOC.out rfl (by rw [to_next (by simp) (by simp)]) rfl HM2.out HT2.out HS.out
theorem do_5 {w : World} {K : PK} {E : Env} {vI vO : Value} {lo4 st8 : List Int} {s : MS} {a : Nat} {i : Ins} (h : DoPre K E vI vO lo4 st8 a s i w) (ho : i.op = 5) :
    Calls Tryz.prog 55 #[.pointer (some ⟨K.b, 0, none⟩), doV E i, .pointer (some ⟨a, 0, none⟩)] w (DoPost K vO lo4 st8 a ((s.at_ + 1 : Nat) : Int) s (stepI E i s) w) := by
  have hB := BoxI.start w i.place i.op i.n (aimOf E.l i) h.sx.lt
  have h1 := h.sx.below ((Below.refl _ _).alloc (Nat.le_refl _) (.cells #[.int .i64 i.place, .int .i64 i.op, .int .i64 i.n, .int .i64 (aimOf E.l i)] 128))
  have hm1 := h.m.two hB.two h.out
  have hm := hid hm1
  have HOC := hid h.oc
  have PO := h.out
  have hstd := h.can.std ⟨by omega, by omega, by omega, by omega, by omega⟩
  obtain ⟨hp, f1, f2⟩ := hstd.two (c := 105) (d := 105) (by rw [ho]; rfl)
  have hl8 : (s.st.take (s.st.length - 2)).length < 8 := by have := h.inv.st h.ok; rw [List.length_take]; omega
  rw [st_two hp] at h1
  by_cases hz : (lastW s.st 0).2 = 0
  · have he3 : endsC s.hs.1 s.st i.op = 3 := by rw [ho]; show (if (lastW s.st 0).2 = 0 then (3 : Int) else 0) = 3; rw [if_pos hz]
    have HE : Hid (stepI E i s = { s with oc := 3 }) := hid (by rw [step_trap (by omega) (by omega), he3]; rfl)
    have hc := hid (reckon_50 h1 hz)
    obtain ⟨op, n, pl⟩ := i
    simp only at ho
    subst ho
    have HT := hid hB.two
    unfold doV
    simp only at HT hm hc ⊢
    unfold insV
    generalize aimOf E.l ⟨5, n, pl⟩ = tg at *
    clear h hB h1 hm1 hstd f1 f2 he3
    go_enter Tryz.func55, Tryz.ntmps55
    go_wp2_with fail
    refine hc.out.mono ?_
    clear hc
    intro e w2 hh
    obtain ⟨hx, hS, hO⟩ := hh
    subst e
    have HM2 := hid (hm.out.two (Two.of_only hO) PO)
    have HT2 := hid (HT.out.trans (Two.of_only hO))
    clear hS hO hm HT
    go_wp2_with fail
    go_ret
    rw [HE.out]
    exact ⟨rfl, ⟨vI, vO, HM2.out, fun g hg => .inl hg⟩, two_touch HT2.out, fun e => by (cases e), fun e => by (cases e)⟩
  · have HE : Hid (stepI E i s = goS E i (-1) s) := hid (step_go (by rw [ho]; show (if (lastW s.st 0).2 = 0 then (3 : Int) else 0) = 0; rw [if_neg hz]) (by omega) (by omega))
    have hc := hid (reckon_5 h1 hl8 hz)
    obtain ⟨op, n, pl⟩ := i
    simp only at ho
    subst ho
    have HT := hid hB.two
    unfold doV
    simp only at HT hm hc ⊢
    unfold insV
    generalize aimOf E.l ⟨5, n, pl⟩ = tg at *
    clear h hB h1 hm1 hstd f1 f2
    go_enter Tryz.func55, Tryz.ntmps55
    go_wp2_with fail
    refine hc.out.mono ?_
    clear hc
    intro e w2 hh
    obtain ⟨hx, hS, hO⟩ := hh
    subst e
    have HS := hid hS
    have HM2 := hid (hm.out.two (Two.of_only hO) PO)
    have HT2 := hid (HT.out.trans (Two.of_only hO))
    clear hS hO hm HT
    go_wp2_with fail
    go_ret
    exact do_fin HE.out HOC.out rfl (by rw [to_next (by simp) (by simp)]) rfl HM2.out HT2.out HS.out
theorem do_14 {w : World} {K : PK} {E : Env} {vI vO : Value} {lo4 st8 : List Int} {s : MS} {a : Nat} {i : Ins} (h : DoPre K E vI vO lo4 st8 a s i w) (ho : i.op = 14) :
    Calls Tryz.prog 55 #[.pointer (some ⟨K.b, 0, none⟩), doV E i, .pointer (some ⟨a, 0, none⟩)] w (DoPost K vO lo4 st8 a ((s.at_ + 1 : Nat) : Int) s (stepI E i s) w) := by
  have hB := BoxI.start w i.place i.op i.n (aimOf E.l i) h.sx.lt
  have h1 := h.sx.below ((Below.refl _ _).alloc (Nat.le_refl _) (.cells #[.int .i64 i.place, .int .i64 i.op, .int .i64 i.n, .int .i64 (aimOf E.l i)] 128))
  have hm1 := h.m.two hB.two h.out
  have hm := hid hm1
  have HOC := hid h.oc
  have PO := h.out
  have hstd := h.can.std ⟨by omega, by omega, by omega, by omega, by omega⟩
  obtain ⟨hp, f1⟩ := hstd.one (c := 114) (by rw [ho]; rfl)
  have hl8 : (s.st.take (s.st.length - 1)).length < 8 := by have := h.inv.st h.ok; rw [List.length_take]; omega
  have hr := (h.inv.ref hp (letB_r f1)).2
  rw [← h.inv.n] at hr
  have hends : endsC s.hs.1 s.st i.op = wantsC s.hs.1 (lastW s.st 0).2 false := by rw [ho]; rfl
  have hwv := wants_vals s.hs.1 (lastW s.st 0).2 false
  rw [st_one hp] at h1
  have HG : Hid (wantsC s.hs.1 (lastW s.st 0).2 false = 0 → stepI E i s = goS E i (-1) s) := hid (fun e => step_go (by rw [hends, e]) (by omega) (by omega))
  have HR : Hid (wantsC s.hs.1 (lastW s.st 0).2 false ≠ 0 → stepI E i s = { s with oc := (wantsC s.hs.1 (lastW s.st 0).2 false).toNat }) := hid (fun e => by rw [step_trap (by rw [hends]; exact e) (by rw [hends]; omega), hends])
  obtain ⟨op, n, pl⟩ := i
  simp only at ho
  subst ho
  have hc := hid (read_14 hm1 h1 hl8 PO hr true pl n (aimOf E.l ⟨14, n, pl⟩))
  have HD : Hid (doesS E ⟨14, n, pl⟩ (-1) s = { s with st := s.st.take (s.st.length - 1) ++ [(true, readV s.hs.1 14 n (lastW s.st 0).2)] }) := hid rfl
  have HT := hid hB.two
  unfold doV
  simp only at HT hm hc ⊢
  unfold insV at hc ⊢
  generalize aimOf E.l ⟨14, n, pl⟩ = tg at *
  generalize readV s.hs.1 14 n (lastW s.st 0).2 = rv at *
  clear h hB h1 hm1 hstd f1 hends
  generalize wantsC s.hs.1 (lastW s.st 0).2 false = q at *
  go_enter Tryz.func55, Tryz.ntmps55
  go_wp2_with fail
  refine hc.out.mono ?_
  clear hc
  intro e w2 hh
  obtain ⟨hx, hS, hO⟩ := hh
  subst e
  have HS := hid hS
  have HM2 := hid (hm.out.two hO PO)
  have HT2 := hid (HT.out.trans hO)
  clear hS hO hm HT
  go_wp2_with fail
  go_ret
  by_cases hq : q = 0
  · have h9 := HS.out
    rw [if_pos hq] at h9
    exact do_fin (HG.out hq) HOC.out HD.out (by rw [to_next (by simp) (by simp)]) (by subst hq; rfl) HM2.out HT2.out h9
  · rw [HR.out hq]
    refine ⟨?_, ⟨vI, vO, HM2.out, fun g hg => .inl hg⟩, two_touch HT2.out, fun e => ?_, fun e => ?_⟩
    · simp only
      rw [show ((q.toNat : Nat) : Int) = q by omega]
      rfl
    · simp only at e; omega
    · simp only at e; omega
theorem do_16 {w : World} {K : PK} {E : Env} {vI vO : Value} {lo4 st8 : List Int} {s : MS} {a : Nat} {i : Ins} (h : DoPre K E vI vO lo4 st8 a s i w) (ho : i.op = 16) :
    Calls Tryz.prog 55 #[.pointer (some ⟨K.b, 0, none⟩), doV E i, .pointer (some ⟨a, 0, none⟩)] w (DoPost K vO lo4 st8 a ((s.at_ + 1 : Nat) : Int) s (stepI E i s) w) := by
  have hB := BoxI.start w i.place i.op i.n (aimOf E.l i) h.sx.lt
  have h1 := h.sx.below ((Below.refl _ _).alloc (Nat.le_refl _) (.cells #[.int .i64 i.place, .int .i64 i.op, .int .i64 i.n, .int .i64 (aimOf E.l i)] 128))
  have hm1 := h.m.two hB.two h.out
  have hm := hid hm1
  have HOC := hid h.oc
  have PO := h.out
  have hstd := h.can.std ⟨by omega, by omega, by omega, by omega, by omega⟩
  obtain ⟨hp, f1⟩ := hstd.one (c := 114) (by rw [ho]; rfl)
  have hl8 : (s.st.take (s.st.length - 1)).length < 8 := by have := h.inv.st h.ok; rw [List.length_take]; omega
  have hr := (h.inv.ref hp (letB_r f1)).2
  rw [← h.inv.n] at hr
  have hends : endsC s.hs.1 s.st i.op = wantsC s.hs.1 (lastW s.st 0).2 false := by rw [ho]; rfl
  have hwv := wants_vals s.hs.1 (lastW s.st 0).2 false
  rw [st_one hp] at h1
  have HG : Hid (wantsC s.hs.1 (lastW s.st 0).2 false = 0 → stepI E i s = goS E i (-1) s) := hid (fun e => step_go (by rw [hends, e]) (by omega) (by omega))
  have HR : Hid (wantsC s.hs.1 (lastW s.st 0).2 false ≠ 0 → stepI E i s = { s with oc := (wantsC s.hs.1 (lastW s.st 0).2 false).toNat }) := hid (fun e => by rw [step_trap (by rw [hends]; exact e) (by rw [hends]; omega), hends])
  obtain ⟨op, n, pl⟩ := i
  simp only at ho
  subst ho
  have hc := hid (read_16 hm1 h1 hl8 PO hr false pl n (aimOf E.l ⟨16, n, pl⟩))
  have HD : Hid (doesS E ⟨16, n, pl⟩ (-1) s = { s with st := s.st.take (s.st.length - 1) ++ [(false, readV s.hs.1 16 n (lastW s.st 0).2)] }) := hid rfl
  have HT := hid hB.two
  unfold doV
  simp only at HT hm hc ⊢
  unfold insV at hc ⊢
  generalize aimOf E.l ⟨16, n, pl⟩ = tg at *
  generalize readV s.hs.1 16 n (lastW s.st 0).2 = rv at *
  clear h hB h1 hm1 hstd f1 hends
  generalize wantsC s.hs.1 (lastW s.st 0).2 false = q at *
  go_enter Tryz.func55, Tryz.ntmps55
  go_wp2_with fail
  refine hc.out.mono ?_
  clear hc
  intro e w2 hh
  obtain ⟨hx, hS, hO⟩ := hh
  subst e
  have HS := hid hS
  have HM2 := hid (hm.out.two hO PO)
  have HT2 := hid (HT.out.trans hO)
  clear hS hO hm HT
  go_wp2_with fail
  go_ret
  by_cases hq : q = 0
  · have h9 := HS.out
    rw [if_pos hq] at h9
    exact do_fin (HG.out hq) HOC.out HD.out (by rw [to_next (by simp) (by simp)]) (by subst hq; rfl) HM2.out HT2.out h9
  · rw [HR.out hq]
    refine ⟨?_, ⟨vI, vO, HM2.out, fun g hg => .inl hg⟩, two_touch HT2.out, fun e => ?_, fun e => ?_⟩
    · simp only
      rw [show ((q.toNat : Nat) : Int) = q by omega]
      rfl
    · simp only at e; omega
    · simp only at e; omega
theorem do_24 {w : World} {K : PK} {E : Env} {vI vO : Value} {lo4 st8 : List Int} {s : MS} {a : Nat} {i : Ins} (h : DoPre K E vI vO lo4 st8 a s i w) (ho : i.op = 24) :
    Calls Tryz.prog 55 #[.pointer (some ⟨K.b, 0, none⟩), doV E i, .pointer (some ⟨a, 0, none⟩)] w (DoPost K vO lo4 st8 a ((s.at_ + 1 : Nat) : Int) s (stepI E i s) w) := by
  have hB := BoxI.start w i.place i.op i.n (aimOf E.l i) h.sx.lt
  have h1 := h.sx.below ((Below.refl _ _).alloc (Nat.le_refl _) (.cells #[.int .i64 i.place, .int .i64 i.op, .int .i64 i.n, .int .i64 (aimOf E.l i)] 128))
  have hm1 := h.m.two hB.two h.out
  have hm := hid hm1
  have HOC := hid h.oc
  have PO := h.out
  have hstd := h.can.std ⟨by omega, by omega, by omega, by omega, by omega⟩
  obtain ⟨hp, f1⟩ := hstd.one (c := 114) (by rw [ho]; rfl)
  have hl8 : (s.st.take (s.st.length - 1)).length < 8 := by have := h.inv.st h.ok; rw [List.length_take]; omega
  have hr := (h.inv.ref hp (letB_r f1)).2
  rw [← h.inv.n] at hr
  have hends : endsC s.hs.1 s.st i.op = wantsC s.hs.1 (lastW s.st 0).2 true := by rw [ho]; rfl
  have hwv := wants_vals s.hs.1 (lastW s.st 0).2 true
  have hn0 := h.ok.n0 i h.can.mem (by rw [ho]; rfl)
  rw [st_one hp] at h1
  have HG : Hid (wantsC s.hs.1 (lastW s.st 0).2 true = 0 → stepI E i s = goS E i (-1) s) := hid (fun e => step_go (by rw [hends, e]) (by omega) (by omega))
  have HR : Hid (wantsC s.hs.1 (lastW s.st 0).2 true ≠ 0 → stepI E i s = { s with oc := (wantsC s.hs.1 (lastW s.st 0).2 true).toNat }) := hid (fun e => by rw [step_trap (by rw [hends]; exact e) (by rw [hends]; omega), hends])
  obtain ⟨op, n, pl⟩ := i
  simp only at ho
  subst ho
  simp only at hn0
  subst hn0
  have hc := hid (read_24 hm1 h1 hl8 PO hr true pl (aimOf E.l ⟨24, 0, pl⟩))
  have HD : Hid (doesS E ⟨24, 0, pl⟩ (-1) s = { s with st := s.st.take (s.st.length - 1) ++ [(true, readV s.hs.1 24 0 (lastW s.st 0).2)] }) := hid rfl
  have HT := hid hB.two
  unfold doV
  simp only at HT hm hc ⊢
  unfold insV at hc ⊢
  generalize aimOf E.l ⟨24, 0, pl⟩ = tg at *
  generalize readV s.hs.1 24 0 (lastW s.st 0).2 = rv at *
  clear h hB h1 hm1 hstd f1 hends
  generalize wantsC s.hs.1 (lastW s.st 0).2 true = q at *
  go_enter Tryz.func55, Tryz.ntmps55
  go_wp2_with fail
  refine hc.out.mono ?_
  clear hc
  intro e w2 hh
  obtain ⟨hx, hS, hO⟩ := hh
  subst e
  have HS := hid hS
  have HM2 := hid (hm.out.two hO PO)
  have HT2 := hid (HT.out.trans hO)
  clear hS hO hm HT
  go_wp2_with fail
  go_ret
  by_cases hq : q = 0
  · have h9 := HS.out
    rw [if_pos hq] at h9
    exact do_fin (HG.out hq) HOC.out HD.out (by rw [to_next (by simp) (by simp)]) (by subst hq; rfl) HM2.out HT2.out h9
  · rw [HR.out hq]
    refine ⟨?_, ⟨vI, vO, HM2.out, fun g hg => .inl hg⟩, two_touch HT2.out, fun e => ?_, fun e => ?_⟩
    · simp only
      rw [show ((q.toNat : Nat) : Int) = q by omega]
      rfl
    · simp only at e; omega
    · simp only at e; omega
theorem do_15 {w : World} {K : PK} {E : Env} {vI vO : Value} {lo4 st8 : List Int} {s : MS} {a : Nat} {i : Ins} (h : DoPre K E vI vO lo4 st8 a s i w) (ho : i.op = 15) :
    Calls Tryz.prog 55 #[.pointer (some ⟨K.b, 0, none⟩), doV E i, .pointer (some ⟨a, 0, none⟩)] w (DoPost K vO lo4 st8 a ((s.at_ + 1 : Nat) : Int) s (stepI E i s) w) := by
  have hB := BoxI.start w i.place i.op i.n (aimOf E.l i) h.sx.lt
  have h1 := h.sx.below ((Below.refl _ _).alloc (Nat.le_refl _) (.cells #[.int .i64 i.place, .int .i64 i.op, .int .i64 i.n, .int .i64 (aimOf E.l i)] 128))
  have hm1 := h.m.two hB.two h.out
  have hm := hid hm1
  have HOC := hid h.oc
  have PO := h.out
  have hstd := h.can.std ⟨by omega, by omega, by omega, by omega, by omega⟩
  obtain ⟨hp, f1, f2⟩ := hstd.two (c := 114) (d := 114) (by rw [ho]; rfl)
  have hl8 : (s.st.take (s.st.length - 2)).length < 8 := by have := h.inv.st h.ok; rw [List.length_take]; omega
  have hr := (h.inv.ref hp (letB_r f1)).2
  rw [← h.inv.n] at hr
  have hends : endsC s.hs.1 s.st i.op = wantsC s.hs.1 (lastW s.st 1).2 false := by rw [ho]; rfl
  have hwv := wants_vals s.hs.1 (lastW s.st 1).2 false
  rw [st_two hp] at h1
  have HG : Hid (wantsC s.hs.1 (lastW s.st 1).2 false = 0 → stepI E i s = goS E i (-1) s) := hid (fun e => step_go (by rw [hends, e]) (by omega) (by omega))
  have HR : Hid (wantsC s.hs.1 (lastW s.st 1).2 false ≠ 0 → stepI E i s = { s with oc := (wantsC s.hs.1 (lastW s.st 1).2 false).toNat }) := hid (fun e => by rw [step_trap (by rw [hends]; exact e) (by rw [hends]; omega), hends])
  have hgC : K.In vO K.gC := .inl ⟨h.m.c1, h.m.c2⟩
  obtain ⟨op, n, pl⟩ := i
  simp only at ho
  subst ho
  have hc := hid (write_15 hm1 h1 PO hr pl n (aimOf E.l ⟨15, n, pl⟩))
  have HD : Hid (doesS E ⟨15, n, pl⟩ (-1) s = { s with hs := (storeC s.hs.1 s.hs.2.1 (lastW s.st 1).2.toNat n (lastW s.st 0).2, s.hs.2), st := s.st.take (s.st.length - 2) }) := hid rfl
  have HP0 : Hid (wantsC s.hs.1 (lastW s.st 1).2 false = 0 → setPost s.hs (lastW s.st 1).2 n (lastW s.st 0).2 = (storeC s.hs.1 s.hs.2.1 (lastW s.st 1).2.toNat n (lastW s.st 0).2, s.hs.2)) := hid (fun e => if_pos e)
  have HP1 : Hid (wantsC s.hs.1 (lastW s.st 1).2 false ≠ 0 → setPost s.hs (lastW s.st 1).2 n (lastW s.st 0).2 = s.hs) := hid (fun e => if_neg e)
  have HT := hid hB.two
  unfold doV
  simp only at HT hm hc ⊢
  unfold insV at hc ⊢
  generalize aimOf E.l ⟨15, n, pl⟩ = tg at *
  generalize setPost s.hs (lastW s.st 1).2 n (lastW s.st 0).2 = hp2 at *
  generalize (storeC s.hs.1 s.hs.2.1 (lastW s.st 1).2.toNat n (lastW s.st 0).2, s.hs.2) = hv2 at *
  clear h hB h1 hm1 hstd f1 f2 hends
  generalize wantsC s.hs.1 (lastW s.st 1).2 false = q at *
  go_enter Tryz.func55, Tryz.ntmps55
  go_wp2_with fail
  refine hc.out.mono ?_
  clear hc
  intro e w2 hh
  obtain ⟨hx, hS, hM, hO⟩ := hh
  subst e
  have HS := hid hS
  have HM2 := hid hM
  have HT2 : Hid (Touch (DoF K vO a) w w2) := hid ((two_touch HT.out).trans (Touch.two hO (F := DoF K vO a) (.inr rfl) (.inl hgC)) (fun _ _ h => h))
  clear hS hO hM hm HT
  go_wp2_with fail
  go_ret
  by_cases hq : q = 0
  · have h9 := HM2.out
    rw [HP0.out hq] at h9
    rw [HG.out hq]
    unfold goS
    rw [HD.out, to_next (by simp) (by simp)]
    refine ⟨by subst hq; simp only [HOC.out]; rfl, ⟨vI, vO, h9, fun g hg => .inl hg⟩, HT2.out, fun _ => HS.out, fun e => ?_⟩
    simp only [HOC.out] at e
    cases e
  · have h9 := HM2.out
    rw [HP1.out hq] at h9
    rw [HR.out hq]
    refine ⟨?_, ⟨vI, vO, h9, fun g hg => .inl hg⟩, HT2.out, fun e => ?_, fun e => ?_⟩
    · simp only
      rw [show ((q.toNat : Nat) : Int) = q by omega]
      rfl
    · simp only at e; omega
    · simp only at e; omega
theorem do_17 {w : World} {K : PK} {E : Env} {vI vO : Value} {lo4 st8 : List Int} {s : MS} {a : Nat} {i : Ins} (h : DoPre K E vI vO lo4 st8 a s i w) (ho : i.op = 17) :
    Calls Tryz.prog 55 #[.pointer (some ⟨K.b, 0, none⟩), doV E i, .pointer (some ⟨a, 0, none⟩)] w (DoPost K vO lo4 st8 a ((s.at_ + 1 : Nat) : Int) s (stepI E i s) w) := by
  have hB := BoxI.start w i.place i.op i.n (aimOf E.l i) h.sx.lt
  have h1 := h.sx.below ((Below.refl _ _).alloc (Nat.le_refl _) (.cells #[.int .i64 i.place, .int .i64 i.op, .int .i64 i.n, .int .i64 (aimOf E.l i)] 128))
  have hm1 := h.m.two hB.two h.out
  have hm := hid hm1
  have HOC := hid h.oc
  have PO := h.out
  have hstd := h.can.std ⟨by omega, by omega, by omega, by omega, by omega⟩
  obtain ⟨hp, f1, f2⟩ := hstd.two (c := 114) (d := 105) (by rw [ho]; rfl)
  have hl8 : (s.st.take (s.st.length - 2)).length < 8 := by have := h.inv.st h.ok; rw [List.length_take]; omega
  have hr := (h.inv.ref hp (letB_r f1)).2
  rw [← h.inv.n] at hr
  have hends : endsC s.hs.1 s.st i.op = wantsC s.hs.1 (lastW s.st 1).2 false := by rw [ho]; rfl
  have hwv := wants_vals s.hs.1 (lastW s.st 1).2 false
  rw [st_two hp] at h1
  have HG : Hid (wantsC s.hs.1 (lastW s.st 1).2 false = 0 → stepI E i s = goS E i (-1) s) := hid (fun e => step_go (by rw [hends, e]) (by omega) (by omega))
  have HR : Hid (wantsC s.hs.1 (lastW s.st 1).2 false ≠ 0 → stepI E i s = { s with oc := (wantsC s.hs.1 (lastW s.st 1).2 false).toNat }) := hid (fun e => by rw [step_trap (by rw [hends]; exact e) (by rw [hends]; omega), hends])
  have hgC : K.In vO K.gC := .inl ⟨h.m.c1, h.m.c2⟩
  obtain ⟨op, n, pl⟩ := i
  simp only at ho
  subst ho
  have hc := hid (write_17 hm1 h1 PO hr pl n (aimOf E.l ⟨17, n, pl⟩))
  have HD : Hid (doesS E ⟨17, n, pl⟩ (-1) s = { s with hs := (s.hs.1.modify (lastW s.st 1).2.toNat (noteS (lastW s.st 0).2), s.hs.2), st := s.st.take (s.st.length - 2) }) := hid rfl
  have HP0 : Hid (wantsC s.hs.1 (lastW s.st 1).2 false = 0 → notePost s.hs (lastW s.st 1).2 (lastW s.st 0).2 = (s.hs.1.modify (lastW s.st 1).2.toNat (noteS (lastW s.st 0).2), s.hs.2)) := hid (fun e => if_pos e)
  have HP1 : Hid (wantsC s.hs.1 (lastW s.st 1).2 false ≠ 0 → notePost s.hs (lastW s.st 1).2 (lastW s.st 0).2 = s.hs) := hid (fun e => if_neg e)
  have HT := hid hB.two
  unfold doV
  simp only at HT hm hc ⊢
  unfold insV at hc ⊢
  generalize aimOf E.l ⟨17, n, pl⟩ = tg at *
  generalize notePost s.hs (lastW s.st 1).2 (lastW s.st 0).2 = hp2 at *
  generalize (s.hs.1.modify (lastW s.st 1).2.toNat (noteS (lastW s.st 0).2), s.hs.2) = hv2 at *
  clear h hB h1 hm1 hstd f1 f2 hends
  generalize wantsC s.hs.1 (lastW s.st 1).2 false = q at *
  go_enter Tryz.func55, Tryz.ntmps55
  go_wp2_with fail
  refine hc.out.mono ?_
  clear hc
  intro e w2 hh
  obtain ⟨hx, hS, hM, hO⟩ := hh
  subst e
  have HS := hid hS
  have HM2 := hid hM
  have HT2 : Hid (Touch (DoF K vO a) w w2) := hid ((two_touch HT.out).trans (Touch.two hO (F := DoF K vO a) (.inr rfl) (.inl hgC)) (fun _ _ h => h))
  clear hS hO hM hm HT
  go_wp2_with fail
  go_ret
  by_cases hq : q = 0
  · have h9 := HM2.out
    rw [HP0.out hq] at h9
    rw [HG.out hq]
    unfold goS
    rw [HD.out, to_next (by simp) (by simp)]
    refine ⟨by subst hq; simp only [HOC.out]; rfl, ⟨vI, vO, h9, fun g hg => .inl hg⟩, HT2.out, fun _ => HS.out, fun e => ?_⟩
    simp only [HOC.out] at e
    cases e
  · have h9 := HM2.out
    rw [HP1.out hq] at h9
    rw [HR.out hq]
    refine ⟨?_, ⟨vI, vO, h9, fun g hg => .inl hg⟩, HT2.out, fun e => ?_, fun e => ?_⟩
    · simp only
      rw [show ((q.toNat : Nat) : Int) = q by omega]
      rfl
    · simp only at e; omega
    · simp only at e; omega
theorem do_13 {w : World} {K : PK} {E : Env} {vI vO : Value} {lo4 st8 : List Int} {s : MS} {a : Nat} {i : Ins} (h : DoPre K E vI vO lo4 st8 a s i w) (ho : i.op = 13) :
    Calls Tryz.prog 55 #[.pointer (some ⟨K.b, 0, none⟩), doV E i, .pointer (some ⟨a, 0, none⟩)] w (DoPost K vO lo4 st8 a ((s.at_ + 1 : Nat) : Int) s (stepI E i s) w) := by
  have hB := BoxI.start w i.place i.op i.n (aimOf E.l i) h.sx.lt
  have h1 := h.sx.below ((Below.refl _ _).alloc (Nat.le_refl _) (.cells #[.int .i64 i.place, .int .i64 i.op, .int .i64 i.n, .int .i64 (aimOf E.l i)] 128))
  have hm1 := h.m.two hB.two h.out
  have hm := hid hm1
  have HOC := hid h.oc
  have PO := h.out
  have hlen := does_len h.ok h.inv h.can (by omega) (-1)
  have hl8 : s.st.length < 8 := by
    rw [show (doesS E i (-1) s).st = s.st ++ [(true, -1)] by unfold doesS touchS; simp [ho]] at hlen
    simp at hlen
    omega
  have hstp := step_take (E := E) (s := s) (i := i) (.inl ho)
  have hc := hid (take_13 hm1 h.ke h.ok h.inv h1 hl8 PO)
  have hKb : K.In vO K.b := .inl ⟨h.m.b1, h.m.b2⟩
  have hgC : K.In vO K.gC := .inl ⟨h.m.c1, h.m.c2⟩
  obtain ⟨op, n, pl⟩ := i
  simp only at ho
  subst ho
  have HD : Hid (∀ c hs', doesS E ⟨13, n, pl⟩ c { s with hs := hs' } = { s with hs := hs', st := s.st ++ [(true, c)] }) := hid (fun _ _ => rfl)
  have HSTP := hid hstp
  have HT := hid hB.two
  unfold doV
  simp only at HT hm hc ⊢
  unfold insV
  generalize aimOf E.l ⟨13, n, pl⟩ = tg at *
  generalize takeC (rootsS E s) s.hs = tk at *
  clear h hB h1 hm1 hstp
  go_enter Tryz.func55, Tryz.ntmps55
  go_wp2_with fail
  refine hc.out.mono ?_
  clear hc
  intro e w2 hh
  obtain ⟨hT2, hh⟩ := hh
  have HT2 : Hid (Touch (DoF K vO a) w w2) := hid ((two_touch HT.out).trans (hT2.mono (G := DoF K vO a) (fun k _ hk => by
    rcases hk with rfl | rfl | rfl
    · exact .inl hKb
    · exact .inl hgC
    · exact .inr rfl)) (fun _ _ h => h))
  clear hT2 HT
  rcases hh with ⟨d1, hx, hM⟩ | ⟨d1, hx, hM, hS⟩
  · subst e
    have HM := hid hM
    clear hM
    go_wp2_with fail
    go_ret
    rw [HSTP.out, if_pos d1]
    exact ⟨rfl, ⟨vI, vO, HM.out, fun g hg => .inl hg⟩, HT2.out, fun e => by (cases e), fun e => by (cases e)⟩
  · subst e
    have HM := hid hM
    have HS := hid hS
    clear hM hS
    go_wp2_with fail
    go_ret
    rw [HSTP.out, if_neg (by omega)]
    unfold goS
    rw [HD.out, to_next (by simp) (by simp)]
    refine ⟨by simp only [HOC.out]; rfl, ⟨vI, vO, by have h9 := HM.out; rw [List.modify_id] at h9; exact h9, fun g hg => .inl hg⟩, HT2.out, fun _ => HS.out, fun e => ?_⟩
    simp only [HOC.out] at e
    cases e
theorem do_23 {w : World} {K : PK} {E : Env} {vI vO : Value} {lo4 st8 : List Int} {s : MS} {a : Nat} {i : Ins} (h : DoPre K E vI vO lo4 st8 a s i w) (ho : i.op = 23) :
    Calls Tryz.prog 55 #[.pointer (some ⟨K.b, 0, none⟩), doV E i, .pointer (some ⟨a, 0, none⟩)] w (DoPost K vO lo4 st8 a ((s.at_ + 1 : Nat) : Int) s (stepI E i s) w) := by
  have hB := BoxI.start w i.place i.op i.n (aimOf E.l i) h.sx.lt
  have h1 := h.sx.below ((Below.refl _ _).alloc (Nat.le_refl _) (.cells #[.int .i64 i.place, .int .i64 i.op, .int .i64 i.n, .int .i64 (aimOf E.l i)] 128))
  have hm1 := h.m.two hB.two h.out
  have hm := hid hm1
  have HOC := hid h.oc
  have PO := h.out
  have hstd := h.can.std ⟨by omega, by omega, by omega, by omega, by omega⟩
  obtain ⟨hp, f1⟩ := hstd.one (c := 114) (by rw [ho]; rfl)
  have hl8 : (s.st.take (s.st.length - 1)).length < 8 := by have := h.inv.st h.ok; rw [List.length_take]; omega
  rw [st_one hp] at h1
  have hstp := step_take (E := E) (s := s) (i := i) (.inr ho)
  have hc := hid (take_23 hm1 h.ke h.ok h.inv h1 hl8 PO)
  have hKb : K.In vO K.b := .inl ⟨h.m.b1, h.m.b2⟩
  have hgC : K.In vO K.gC := .inl ⟨h.m.c1, h.m.c2⟩
  obtain ⟨op, n, pl⟩ := i
  simp only at ho
  subst ho
  have HD : Hid (∀ c hs', doesS E ⟨23, n, pl⟩ c { s with hs := hs' } = { s with hs := (hs'.1.modify c.toNat (weakS (lastW s.st 0).2), hs'.2), st := s.st.take (s.st.length - 1) ++ [(true, c)] }) := hid (fun _ _ => rfl)
  have HSTP := hid hstp
  have HT := hid hB.two
  unfold doV
  simp only at HT hm hc ⊢
  unfold insV
  generalize aimOf E.l ⟨23, n, pl⟩ = tg at *
  generalize takeC (rootsS E s) s.hs = tk at *
  clear h hB h1 hm1 hstp
  go_enter Tryz.func55, Tryz.ntmps55
  go_wp2_with fail
  refine hc.out.mono ?_
  clear hc
  intro e w2 hh
  obtain ⟨hT2, hh⟩ := hh
  have HT2 : Hid (Touch (DoF K vO a) w w2) := hid ((two_touch HT.out).trans (hT2.mono (G := DoF K vO a) (fun k _ hk => by
    rcases hk with rfl | rfl | rfl
    · exact .inl hKb
    · exact .inl hgC
    · exact .inr rfl)) (fun _ _ h => h))
  clear hT2 HT
  rcases hh with ⟨d1, hx, hM⟩ | ⟨d1, hx, hM, hS⟩
  · subst e
    have HM := hid hM
    clear hM
    go_wp2_with fail
    go_ret
    rw [HSTP.out, if_pos d1]
    exact ⟨rfl, ⟨vI, vO, HM.out, fun g hg => .inl hg⟩, HT2.out, fun e => by (cases e), fun e => by (cases e)⟩
  · subst e
    have HM := hid hM
    have HS := hid hS
    clear hM hS
    go_wp2_with fail
    go_ret
    rw [HSTP.out, if_neg (by omega)]
    unfold goS
    rw [HD.out, to_next (by simp) (by simp)]
    refine ⟨by simp only [HOC.out]; rfl, ⟨vI, vO, HM.out, fun g hg => .inl hg⟩, HT2.out, fun _ => HS.out, fun e => ?_⟩
    simp only [HOC.out] at e
    cases e
theorem do_21 {w : World} {K : PK} {E : Env} {vI vO : Value} {lo4 st8 : List Int} {s : MS} {a : Nat} {i : Ins} (h : DoPre K E vI vO lo4 st8 a s i w) (ho : i.op = 21) (hz : E.zs.length ≤ 64) :
    Calls Tryz.prog 55 #[.pointer (some ⟨K.b, 0, none⟩), doV E i, .pointer (some ⟨a, 0, none⟩)] w (DoPost K vO lo4 st8 a ((s.at_ + 1 : Nat) : Int) s (stepI E i s) w) := by
  have HE : Hid (stepI E i s = goS E i (-1) s) := hid (step_go (by rw [ho]; exact ends_other (by decide) (by decide) (by decide) (by decide) (by decide) (by decide) (by decide)) (by omega) (by omega))
  have hB := BoxI.start w i.place i.op i.n (aimOf E.l i) h.sx.lt
  have h1 := h.sx.below ((Below.refl _ _).alloc (Nat.le_refl _) (.cells #[.int .i64 i.place, .int .i64 i.op, .int .i64 i.n, .int .i64 (aimOf E.l i)] 128))
  have hm1 := h.m.two hB.two h.out
  have hm := hid hm1
  have HOC := hid h.oc
  have PO := h.out
  have hlen := does_len h.ok h.inv h.can (by omega) (-1)
  have hl8 : s.st.length < 8 := by
    by_cases hr : s.rd < E.zs.length
    · rw [show (doesS E i (-1) s).st = s.st ++ [(false, E.zs.getD s.rd 0)] by unfold doesS; simp [ho, hr]] at hlen
      simp at hlen
      omega
    · rw [show (doesS E i (-1) s).st = s.st ++ [(false, 0)] by unfold doesS; simp [ho, hr]] at hlen
      simp at hlen
      omega
  have hKb : K.In vO K.b := .inl ⟨h.m.b1, h.m.b2⟩
  have hab : a ≠ K.b := fun e => PO (e ▸ hKb)
  have hzs := h.ke.zs
  obtain ⟨vv, rd2, hcall, HD⟩ : ∃ vv rd2, Calls Tryz.prog 95 #[.pointer (some ⟨K.b, 0, none⟩)] (w.alloc (.cells #[.int .i64 i.place, .int .i64 i.op, .int .i64 i.n, .int .i64 (aimOf E.l i)] 128)) (InpPost K vO lo4 st8 s vv rd2 (w.alloc (.cells #[.int .i64 i.place, .int .i64 i.op, .int .i64 i.n, .int .i64 (aimOf E.l i)] 128))) ∧ Hid (doesS E i (-1) s = { s with rd := rd2, st := s.st ++ [(false, vv)] }) := by
    by_cases hr : s.rd < E.zs.length
    · refine ⟨_, _, input_some hm1 (by rw [hzs]; exact hr) (by rw [hzs]; exact hz), hid ?_⟩
      rw [hzs]
      unfold doesS
      simp [ho, hr]
    · refine ⟨_, _, input_none hm1 (by rw [hzs]; omega), hid ?_⟩
      unfold doesS
      simp [ho, hr]
  have hc := hid hcall
  obtain ⟨op, n, pl⟩ := i
  simp only at ho
  subst ho
  have HT := hid hB.two
  have H1 := hid h1
  unfold doV
  simp only at HT hm hc H1 ⊢
  unfold insV
  generalize aimOf E.l ⟨21, n, pl⟩ = tg at *
  clear h hB h1 hm1 hcall hm
  go_enter Tryz.func55, Tryz.ntmps55
  go_wp2_with fail
  refine hc.out.mono ?_
  clear hc
  intro e w2 hh
  obtain ⟨hx, hO, vI2, hM⟩ := hh
  subst e
  have hs2 := H1.out.keep (hO.block a hab)
  have hp := hid (xpush hs2 hl8 (false, vv))
  have HM := hid hM
  have HT2 : Hid (Touch (DoF K vO a) w w2) := hid ((two_touch HT.out).trans (Touch.two (Two.of_only hO) (F := DoF K vO a) (.inl hKb) (.inl hKb)) (fun _ _ h => h))
  simp only at hp
  clear hs2 hM hO HT H1
  go_wp2_with fail
  refine hp.out.mono ?_
  clear hp
  intro e w3 hh
  obtain ⟨hx, hS, hO⟩ := hh
  subst e
  have HS := hid hS
  have HM3 := hid (HM.out.two (Two.of_only hO) PO)
  have HT3 := hid (HT2.out.trans (two_touch (Two.of_only hO)) (fun _ _ h => h))
  clear hS hO
  go_wp2_with fail
  go_ret
  rw [HE.out]
  unfold goS
  rw [HD.out, to_next (by simp) (by simp)]
  refine ⟨by simp only [HOC.out]; rfl, ⟨vI2, vO, HM3.out, fun g hg => .inl hg⟩, HT3.out, fun _ => HS.out, fun e => ?_⟩
  simp only [HOC.out] at e
  cases e
theorem row_output {K : PK} {vI vO vO' : Value} {lo4 st8 : List Int} {s : MS} (o : List Int) : ((K.row vI vO lo4 st8 s).toArray.setIfInBounds 4 vO') = (K.row vI vO' lo4 st8 { s with out := o }).toArray := by
  rw [List.setIfInBounds_toArray]
  rfl
/-- The output has grown: every other block is as it was. -/
theorem PM.outs {w w' : World} {K : PK} {vI vO vO' : Value} {lo4 st8 : List Int} {s : MS} {o : List Int} (h : PM w K vI vO lo4 st8 s) (hz : w.heap.size ≤ w'.heap.size) (hk : ∀ k, k < w.heap.size → k ≠ K.b → vO.ownBlock ≠ some k → w'.heap[k]? = w.heap[k]?) (hrow : w'.heap[K.b]? = some (.cells (K.row vI vO' lo4 st8 { s with out := o }).toArray 74)) (hout : w'.ownsRow K.B4 3 1 vO' o.length (o.map (.int .i64))) : PM w' K vI vO' lo4 st8 { s with out := o } := by
  have z := h.z
  have hne : ∀ k, k < K.B4 → vO.ownBlock ≠ some k := fun k hk e => by have := (h.out.lt k e).1; omega
  have hin : ∀ k, k < K.B4 → k ≠ K.b → w'.heap[k]? = w.heap[k]? := fun k h1 h2 => hk k (by omega) h2 (hne k h1)
  exact { h with
    row := hrow
    z := by omega
    code := h.code.same (hin _ h.g2 (fun e => h.ne1 e.symm))
    frames := (hin _ h.f2 (fun e => h.ne2 e.symm)).trans h.frames
    cells := owns_keep h.cells (fun g hg => by
      simp only [Value.ownBlock, Option.some.injEq] at hg
      subst hg
      exact hin _ h.c2 (fun e => h.ne3 e.symm))
    inp := h.inp.same (fun a n c e => hin _ (h.inb a n c e).2.1 (h.inb a n c e).2.2.1)
    out := hout }
theorem do_22 {w : World} {K : PK} {E : Env} {vI vO : Value} {lo4 st8 : List Int} {s : MS} {a : Nat} {i : Ins} (h : DoPre K E vI vO lo4 st8 a s i w) (ho : i.op = 22) (hlen : s.out.length ≤ 8796093022208) :
    Calls Tryz.prog 55 #[.pointer (some ⟨K.b, 0, none⟩), doV E i, .pointer (some ⟨a, 0, none⟩)] w (DoPost K vO lo4 st8 a ((s.at_ + 1 : Nat) : Int) s (stepI E i s) w) := by
  obtain ⟨i0, hi0, hz0, hz1, hz2⟩ := info_parts intInfo
  have HE : Hid (stepI E i s = goS E i (-1) s) := hid (step_go (by rw [ho]; exact ends_other (by decide) (by decide) (by decide) (by decide) (by decide) (by decide) (by decide)) (by omega) (by omega))
  have hB := BoxI.start w i.place i.op i.n (aimOf E.l i) h.sx.lt
  have h1 := h.sx.below ((Below.refl _ _).alloc (Nat.le_refl _) (.cells #[.int .i64 i.place, .int .i64 i.op, .int .i64 i.n, .int .i64 (aimOf E.l i)] 128))
  have hm1 := h.m.two hB.two h.out
  have HOC := hid h.oc
  have PO := h.out
  have hstd := h.can.std ⟨by omega, by omega, by omega, by omega, by omega⟩
  obtain ⟨hp, f1⟩ := hstd.one (c := 105) (by rw [ho]; rfl)
  rw [st_one hp] at h1
  have hc := hid (xpop h1)
  have hKb : K.In vO K.b := .inl ⟨h.m.b1, h.m.b2⟩
  have hbz : K.b < w.heap.size := by have := h.m.b2; have := h.m.z; omega
  have haz := h.sx.lt
  have hfar : some K.b ≠ vO.ownBlock := fun e => by have := (h.m.out.lt _ e.symm).1; have := h.m.b2; omega
  have hav : some a ≠ vO.ownBlock := fun e => PO (.inr e.symm)
  have hab : a ≠ K.b := fun e => PO (e ▸ hKb)
  have HO0 := hid h.m.out
  have HB4 := hid h.m.z
  obtain ⟨op, n, pl⟩ := i
  simp only at ho
  subst ho
  have HD : Hid (doesS E ⟨22, n, pl⟩ (-1) s = { s with out := s.out ++ [(lastW s.st 0).2], st := s.st.take (s.st.length - 1) }) := hid rfl
  have HM := hid (fun (W : World) (hT : Two a a w W) => h.m.two hT PO)
  have HT := hid hB.two
  obtain ⟨pv, cv, ev⟩ := (LsAt.of_owns h.m.out).slice
  subst ev
  unfold doV
  simp only at HT hc ⊢
  unfold insV
  generalize aimOf E.l ⟨22, n, pl⟩ = tg at *
  generalize lastW s.st 0 = x at *
  obtain ⟨xf, xv⟩ := x
  simp only at hc HD
  clear h hB h1 hm1 hstd f1
  go_enter Tryz.func55, Tryz.ntmps55
  go_wp2_with fail
  refine hc.out.mono ?_
  clear hc
  intro e w2 hh
  obtain ⟨hx, hS, hO⟩ := hh
  subst e
  have hT2 := HT.out.trans (Two.of_only hO)
  have hM2 := HM.out w2 hT2
  have hown := hM2.out
  have m4 := hM2.get 4
  have f4 := frozen_of_row w2 K.b 4 _ _ hM2.row
  simp only [PK.row, List.cons_append, List.nil_append, List.getElem?_cons_zero, List.getElem?_cons_succ] at m4
  have hz2' := hT2.size
  have HM2 := hid hM2
  have HS := hid hS
  have HT2 := hid hT2
  have a4 : (w2.alloc (.cells #[.int .i64 xv] 3)).cell? ⟨K.b, 4, none⟩ = some (.slice pv s.out.length cv) := (World.cell?_alloc_past _ _ _ (by omega)).trans m4
  clear hS hO hM2 hT2 HM HT
  have hB4 := HB4.out
  go_wp2_with (at_builtin; go_must (refine wpList_append_lies _ (by rfl) _ _ _ (by rfl) K.B4 3 i0 _ 1 8 Tryz.underlying22 hi0 hz0 hz1 hz2 rfl (by omega) _ s.out.length (s.out.map (.int .i64)) (by rfl) (hown.alloc _) ⟨_, 0, none⟩ 1 1 [.int .i64 xv] (by rfl) (by rfl) (World.news_of_block (cs := #[.int .i64 xv]) (t := 3) (fr := (0, 0)) (heap_alloc_new _ _)) (by simp [Value.oneCell']) (by omega) (by unfold maxLen; omega) (by omega) (by simp; omega) _ rfl ?_); intro gg gcap w6 hown6 hgrow6 hat6 hlt6; obtain ⟨c6, f6⟩ := cell6b hgrow6 (b := K.b) (by omega) hfar 4; rw [m4] at c6; rw [f4] at f6)
  go_ret
  have hsz6 : w2.heap.size + 1 ≤ w6.heap.size := by
    have := hgrow6.size
    rw [alloc_size] at this
    exact this
  have hk6 : ∀ k : Nat, k < w2.heap.size → (Value.slice pv s.out.length cv).ownBlock ≠ some k → w6.heap[k]? = w2.heap[k]? := fun k hk hv => (hgrow6.block k (by rw [alloc_size]; omega) (fun e => hv e.symm)).trans (Below.heap_alloc _ _ _ hk)
  have hks : ∀ k : Nat, k ≠ K.b → (w6.setCell ⟨K.b, 4, none⟩ (.slice (some ⟨gg, 0, none⟩) (s.out.length + 1) gcap)).heap[k]? = w6.heap[k]? := fun k hk => Below.heap_setCell _ _ _ _ hk
  have hzs : (w6.setCell ⟨K.b, 4, none⟩ (.slice (some ⟨gg, 0, none⟩) (s.out.length + 1) gcap)).heap.size = w6.heap.size := by simp [World.setCell]
  have hrow6 := (hk6 K.b (by omega) (fun e => hfar e.symm)).trans HM2.out.row
  have hgb : gg ≠ K.b := by
    rcases hat6 with e | e
    · intro e2; exact hfar (by rw [← e2]; exact e.symm)
    · rw [alloc_size] at e; omega
  have hM : PM (w6.setCell ⟨K.b, 4, none⟩ (.slice (some ⟨gg, 0, none⟩) (s.out.length + 1) gcap)) K vI (.slice (some ⟨gg, 0, none⟩) (s.out.length + 1) gcap) lo4 st8 { s with out := s.out ++ [xv] } := by
    refine HM2.out.outs (by rw [hzs]; omega) (fun k h1 h2 h3 => (hks k h2).trans (hk6 k h1 h3)) ?_ ?_
    · rw [← row_output (vO := .slice pv s.out.length cv)]
      exact setCell_row 4 _ hrow6
    · have h6 := hown6
      rw [show (s.out ++ [xv]).length = s.out.length + 1 by simp, show (s.out ++ [xv]).map (Value.int .i64) = s.out.map (Value.int .i64) ++ [.int .i64 xv] by simp]
      exact owns_set h6 (fun e => hgb (by simpa [Value.ownBlock] using e)) _
  have hSX := HS.out.keep (w' := w6.setCell ⟨K.b, 4, none⟩ (.slice (some ⟨gg, 0, none⟩) (s.out.length + 1) gcap)) ((hks a hab).trans (hk6 a (by omega) (fun e => hav e.symm)))
  have hT : Touch (DoF K (.slice pv s.out.length cv) a) w (w6.setCell ⟨K.b, 4, none⟩ (.slice (some ⟨gg, 0, none⟩) (s.out.length + 1) gcap)) := by
    refine (two_touch HT2.out).trans (G := DoF K (.slice pv s.out.length cv) a) ⟨?_, ?_, ?_, by rw [hzs]; omega, fun k h1 h2 => (hks k (fun e => h2 (.inl (e ▸ hKb)))).trans (hk6 k h1 (fun e => h2 (.inl (.inr e))))⟩ (fun _ _ h => h)
    · exact hgrow6.os
    · exact hgrow6.tape
    · exact hgrow6.output
  rw [HE.out]
  unfold goS
  rw [HD.out, to_next (by simp) (by simp)]
  refine ⟨by simp only [HOC.out]; rfl, ⟨vI, _, hM, fun g hg => ?_⟩, hT, fun _ => hSX, fun e => ?_⟩
  · simp only [Value.ownBlock, Option.some.injEq] at hg
    subst hg
    rcases hat6 with e | e
    · exact .inl e
    · rw [alloc_size] at e; exact .inr (by omega)
  · simp only [HOC.out] at e
    cases e
theorem do_any {w : World} {K : PK} {E : Env} {vI vO : Value} {lo4 st8 : List Int} {s : MS} {a : Nat} {i : Ins} (h : DoPre K E vI vO lo4 st8 a s i w) (hz : E.zs.length ≤ 64) (hlen : s.out.length ≤ 8796093022208) :
    Calls Tryz.prog 55 #[.pointer (some ⟨K.b, 0, none⟩), doV E i, .pointer (some ⟨a, 0, none⟩)] w (DoPost K vO lo4 st8 a ((s.at_ + 1 : Nat) : Int) s (stepI E i s) w) := by
  have hop := h.ok.wf.op i h.can.mem
  have hcases : i.op = 0 ∨ i.op = 1 ∨ i.op = 2 ∨ i.op = 3 ∨ i.op = 4 ∨ i.op = 5 ∨ i.op = 6 ∨ i.op = 7 ∨ i.op = 8 ∨ i.op = 9 ∨ i.op = 10 ∨ i.op = 11 ∨ i.op = 12 ∨ i.op = 13 ∨ i.op = 14 ∨ i.op = 15 ∨ i.op = 16 ∨ i.op = 17 ∨ i.op = 18 ∨ i.op = 19 ∨ i.op = 20 ∨ i.op = 21 ∨ i.op = 22 ∨ i.op = 23 ∨ i.op = 24 := by omega
  rcases hcases with e | e | e | e | e | e | e | e | e | e | e | e | e | e | e | e | e | e | e | e | e | e | e | e | e
  · exact do_0 h e
  · exact do_1 h e
  · exact do_2 h e
  · exact do_3 h e
  · exact do_4 h e
  · exact do_5 h e
  · exact do_6 h e
  · exact do_7 h e
  · exact do_8 h e
  · exact do_9 h e
  · exact do_10 h e
  · exact do_11 h e
  · exact do_12 h e
  · exact do_13 h e
  · exact do_14 h e
  · exact do_15 h e
  · exact do_16 h e
  · exact do_17 h e
  · exact do_18 h e
  · exact do_19 h e
  · exact do_20 h e
  · exact do_21 h e hz
  · exact do_22 h e hlen
  · exact do_23 h e
  · exact do_24 h e
theorem pstep_done {w : World} {K : PK} {F : Nat → Prop} {s : MS} (h : PX w K F s) (ho : s.oc ≠ 0) :
    Calls Tryz.prog 34 #[.pointer (some ⟨K.b, 0, none⟩)] w fun e w' => e = .returned (.tuple #[.int .i64 0, .int .i64 9]) ∧ w' = w := by
  obtain ⟨vI, vO, lo4, st8, hm, _⟩ := h
  have m5 := hm.get 5
  have m7 := hm.get 7
  obtain ⟨x0, x1, x2, x3, rfl⟩ := fourZ hm.l4
  obtain ⟨t0, t1, t2, t3, t4, t5, t6, t7, rfl⟩ := eightZ hm.l8
  simp only [PK.row, List.map_cons, List.map_nil, List.cons_append, List.nil_append, List.getElem?_cons_zero, List.getElem?_cons_succ] at m5 m7
  have q : ((s.oc : Int) != 0) = true := by simp; omega
  clear hm ho
  go_enter Tryz.func34, Tryz.ntmps34
  go_wp2_with fail
  exact bodyPost_ret (v := .tuple #[.int .i64 0, .int .i64 9]) (by simp [results, Tryz.results34, go_sem]) rfl ⟨rfl, rfl⟩
theorem row_now {w : World} {b : Nat} {t : TypeId} {x0 x1 x2 x3 x4 x5 x6 x7 x8 x9 x10 x11 x12 x13 x14 x15 x16 x17 x18 x19 x20 x21 x22 x23 : Value} (h : w.heap[b]? = some (.cells [x0, x1, x2, x3, x4, x5, x6, x7, x8, x9, x10, x11, x12, x13, x14, x15, x16, x17, x18, x19, x20, x21, x22, x23].toArray t)) (v5 v7 v8 v9 v10 v11 v12 v13 v14 v15 v16 v17 v18 v19 v20 : Value) : (((((((((((((((w.setCell ⟨b, 5, none⟩ v5).setCell ⟨b, 7, none⟩ v7).setCell ⟨b, 8, none⟩ v8).setCell ⟨b, 9, none⟩ v9).setCell ⟨b, 10, none⟩ v10).setCell ⟨b, 11, none⟩ v11).setCell ⟨b, 12, none⟩ v12).setCell ⟨b, 13, none⟩ v13).setCell ⟨b, 14, none⟩ v14).setCell ⟨b, 15, none⟩ v15).setCell ⟨b, 16, none⟩ v16).setCell ⟨b, 17, none⟩ v17).setCell ⟨b, 18, none⟩ v18).setCell ⟨b, 19, none⟩ v19).setCell ⟨b, 20, none⟩ v20).heap[b]? = some (.cells [x0, x1, x2, x3, x4, v5, x6, v7, v8, v9, v10, v11, v12, v13, v14, v15, v16, v17, v18, v19, v20, x21, x22, x23].toArray t) := by
  have h0 := setCell_row 5 v5 h
  simp only [List.setIfInBounds_toArray, List.set_cons_zero, List.set_cons_succ] at h0
  have h1 := setCell_row 7 v7 h0
  simp only [List.setIfInBounds_toArray, List.set_cons_zero, List.set_cons_succ] at h1
  have h2 := setCell_row 8 v8 h1
  simp only [List.setIfInBounds_toArray, List.set_cons_zero, List.set_cons_succ] at h2
  have h3 := setCell_row 9 v9 h2
  simp only [List.setIfInBounds_toArray, List.set_cons_zero, List.set_cons_succ] at h3
  have h4 := setCell_row 10 v10 h3
  simp only [List.setIfInBounds_toArray, List.set_cons_zero, List.set_cons_succ] at h4
  have h5 := setCell_row 11 v11 h4
  simp only [List.setIfInBounds_toArray, List.set_cons_zero, List.set_cons_succ] at h5
  have h6 := setCell_row 12 v12 h5
  simp only [List.setIfInBounds_toArray, List.set_cons_zero, List.set_cons_succ] at h6
  have h7 := setCell_row 13 v13 h6
  simp only [List.setIfInBounds_toArray, List.set_cons_zero, List.set_cons_succ] at h7
  have h8 := setCell_row 14 v14 h7
  simp only [List.setIfInBounds_toArray, List.set_cons_zero, List.set_cons_succ] at h8
  have h9 := setCell_row 15 v15 h8
  simp only [List.setIfInBounds_toArray, List.set_cons_zero, List.set_cons_succ] at h9
  have h10 := setCell_row 16 v16 h9
  simp only [List.setIfInBounds_toArray, List.set_cons_zero, List.set_cons_succ] at h10
  have h11 := setCell_row 17 v17 h10
  simp only [List.setIfInBounds_toArray, List.set_cons_zero, List.set_cons_succ] at h11
  have h12 := setCell_row 18 v18 h11
  simp only [List.setIfInBounds_toArray, List.set_cons_zero, List.set_cons_succ] at h12
  have h13 := setCell_row 19 v19 h12
  simp only [List.setIfInBounds_toArray, List.set_cons_zero, List.set_cons_succ] at h13
  have h14 := setCell_row 20 v20 h13
  simp only [List.setIfInBounds_toArray, List.set_cons_zero, List.set_cons_succ] at h14
  exact h14
theorem only_now (w : World) (b : Nat) (v5 v7 v8 v9 v10 v11 v12 v13 v14 v15 v16 v17 v18 v19 v20 : Value) : Only b w (((((((((((((((w.setCell ⟨b, 5, none⟩ v5).setCell ⟨b, 7, none⟩ v7).setCell ⟨b, 8, none⟩ v8).setCell ⟨b, 9, none⟩ v9).setCell ⟨b, 10, none⟩ v10).setCell ⟨b, 11, none⟩ v11).setCell ⟨b, 12, none⟩ v12).setCell ⟨b, 13, none⟩ v13).setCell ⟨b, 14, none⟩ v14).setCell ⟨b, 15, none⟩ v15).setCell ⟨b, 16, none⟩ v16).setCell ⟨b, 17, none⟩ v17).setCell ⟨b, 18, none⟩ v18).setCell ⟨b, 19, none⟩ v19).setCell ⟨b, 20, none⟩ v20) := (((((((((((((((Only.refl _ _).set _ _).set _ _).set _ _).set _ _).set _ _).set _ _).set _ _).set _ _).set _ _).set _ _).set _ _).set _ _).set _ _).set _ _).set _ _
theorem row_oc {K : PK} {vI vO : Value} {lo4 st8 : List Int} {s : MS} (oc : Nat) : ((K.row vI vO lo4 st8 s).toArray.setIfInBounds 5 (.int .i64 oc)) = (K.row vI vO lo4 st8 { s with oc := oc }).toArray := by
  rw [List.setIfInBounds_toArray]
  rfl
theorem row_va {K : PK} {vI vO : Value} {lo4 st8 : List Int} {s : MS} (v : Int) : ((K.row vI vO lo4 st8 s).toArray.setIfInBounds 6 (.int .i64 v)) = (K.row vI vO lo4 st8 { s with va := v }).toArray := by
  rw [List.setIfInBounds_toArray]
  rfl
theorem PM.oc {w : World} {K : PK} {vI vO : Value} {lo4 st8 : List Int} {s : MS} (h : PM w K vI vO lo4 st8 s) (oc : Nat) : PM (w.setCell ⟨K.b, 5, none⟩ (.int .i64 oc)) K vI vO lo4 st8 { s with oc := oc } := by
  have honly : Only K.b w (w.setCell ⟨K.b, 5, none⟩ (.int .i64 oc)) := (Only.refl _ _).set _ _
  exact h.turn honly (by rw [← row_oc]; exact setCell_row 5 _ h.row) h.stok h.lol rfl rfl (h.inp.same (fun a n c e => honly.block _ (h.inb a n c e).2.2.1)) h.inb
theorem PM.va {w : World} {K : PK} {vI vO : Value} {lo4 st8 : List Int} {s : MS} (h : PM w K vI vO lo4 st8 s) (v : Int) : PM (w.setCell ⟨K.b, 6, none⟩ (.int .i64 v)) K vI vO lo4 st8 { s with va := v } := by
  have honly : Only K.b w (w.setCell ⟨K.b, 6, none⟩ (.int .i64 v)) := (Only.refl _ _).set _ _
  exact h.turn honly (by rw [← row_va]; exact setCell_row 6 _ h.row) h.stok h.lol rfl rfl (h.inp.same (fun a n c e => honly.block _ (h.inb a n c e).2.2.1)) h.inb
def PStepPost (K : PK) (F : Nat → Prop) (t : MS) (w : World) (e : Ending) (w' : World) : Prop :=
  e = .returned (.tuple #[.int .i64 t.oc, .int .i64 0]) ∧ PX w' K (Grown F w w') t ∧ Touch F w w'
theorem pstep_x {w : World} {K : PK} {E : Env} {F : Nat → Prop} {s : MS} (h : PX w K F s) (hke : KE K E) (he : EnvOk E) (hi : MInv E s) (hoc : s.oc = 0) (hz : E.zs.length ≤ 64) (hlen : s.out.length ≤ 8796093022208) :
    Calls Tryz.prog 34 #[.pointer (some ⟨K.b, 0, none⟩)] w (PStepPost K F (stepS E s) w) := by
  obtain ⟨i, hcan⟩ := hi.can he
  have hst : stepS E s = stepI E i s := by unfold stepS; rw [hcan.get]
  rw [hst]
  obtain ⟨vI, vO, lo4, st8, hm, hF⟩ := h
  have hlt := hi.lt he
  rw [← hke.l] at hlt
  have hgi : K.l[s.at_]? = some i := by rw [hke.l]; exact hcan.get
  obtain ⟨p0, p1, p2, p3⟩ := hm.code s.at_ _ (aims_get hgi)
  simp only at p0 p1 p2 p3
  rw [hke.l] at p3
  have m1 := hm.get 1
  have m5 := hm.get 5
  have m7 := hm.get 7
  have m8 := hm.get 8
  have m9 := hm.get 9
  have m10 := hm.get 10
  have m11 := hm.get 11
  have m12 := hm.get 12
  have m13 := hm.get 13
  have m14 := hm.get 14
  have m15 := hm.get 15
  have m16 := hm.get 16
  have m17 := hm.get 17
  have m18 := hm.get 18
  have m19 := hm.get 19
  have m20 := hm.get 20
  have H := hid hm
  have hzw := hm.z
  have hb2 := hm.b2
  have hg2 := hm.g2
  have hbz : K.b < w.heap.size := by omega
  have hgz : K.g < w.heap.size := by omega
  obtain ⟨x0, x1, x2, x3, e4⟩ := fourZ hm.l4
  obtain ⟨t0, t1, t2, t3, t4, t5, t6, t7, e8⟩ := eightZ hm.l8
  subst e4
  subst e8
  simp only [PK.row, List.map_cons, List.map_nil, List.cons_append, List.nil_append, List.getElem?_cons_zero, List.getElem?_cons_succ] at m1 m5 m7 m8 m9 m10 m11 m12 m13 m14 m15 m16 m17 m18 m19 m20
  rw [hoc] at m5
  have d0 : ¬ (s.at_ : Int) < 0 := by omega
  have d1 : (s.at_ : Int) < (K.l.length : Int) := by omega
  have d2 : ¬ (K.l.length : Int) ≤ (s.at_ : Int) := by omega
  have d3 : (0 : Int) ≤ (s.at_ : Int) := by omega
  have hl120 := hm.llen
  have hbA : Below w.heap.size w (w.alloc (.cells #[.int .i64 ((s.at_ : Int) + 1), .int .i64 x0, .int .i64 x1, .int .i64 x2, .int .i64 x3, .int .i64 s.st.length, .int .i64 t0, .int .i64 t1, .int .i64 t2, .int .i64 t3, .int .i64 t4, .int .i64 t5, .int .i64 t6, .int .i64 t7] 69)) := (Below.refl _ _).alloc (Nat.le_refl _) _
  have hnin : ¬ K.In vO w.heap.size := by
    rintro (⟨h1, h2⟩ | h1)
    · omega
    · have := (hm.out.lt _ h1).2; omega
  have hdo := hid (do_any (a := w.heap.size) (i := i) ⟨hm.below hbA, hke, he, hi, hoc, hcan, ⟨[x0, x1, x2, x3], [t0, t1, t2, t3, t4, t5, t6, t7], heap_alloc_new w _, hm.stok⟩, hnin⟩ hz hlen)
  have hshape := step_shape (E := E) (i := i) hoc
  have HBA := hid hbA
  have hlo2 := (hi.step he).lo he
  rw [hst, ← hke.L] at hlo2
  have HLO := hid hlo2
  have hstd0 : i.op = 0 → 0 < s.st.length := fun e => ((hcan.std ⟨by omega, by omega, by omega, by omega, by omega⟩).one (c := 105) (by rw [e]; rfl)).1
  clear hlo2
  unfold doV insV at hdo
  generalize stepI E i s = t at *
  clear hm hbA hi hcan hke he
  go_enter Tryz.func34, Tryz.ntmps34
  go_wp2_with fail
  refine hdo.out.mono ?_
  clear hdo
  intro e w2 hp
  obtain ⟨hx, ⟨vI2, vO2, hM, hvO⟩, hT, hon, hhalt⟩ := hp
  subst e
  have FIN : Hid (∀ (W : World) (lo4 st8 : List Int), Two K.b w.heap.size w2 W → PM W K vI2 vO2 lo4 st8 t → PX W K (Grown F w W) t ∧ Touch F w W) := hid (by
    intro W lo4 st8 hO hP
    have hzA : (w.alloc (.cells #[.int .i64 ((s.at_ : Int) + 1), .int .i64 x0, .int .i64 x1, .int .i64 x2, .int .i64 x3, .int .i64 s.st.length, .int .i64 t0, .int .i64 t1, .int .i64 t2, .int .i64 t3, .int .i64 t4, .int .i64 t5, .int .i64 t6, .int .i64 t7] 69)).heap.size = w.heap.size + 1 := alloc_size _ _
    refine ⟨⟨vI2, vO2, lo4, st8, hP, fun k hk => ?_⟩, ?_⟩
    · rcases hk with hk | hk
      · exact .inl (hF k (.inl hk))
      · rcases hvO k hk with h1 | h1
        · exact .inl (hF k (.inr h1))
        · exact .inr ⟨by omega, (hP.out.lt k hk).2⟩
    · have hT1 : Touch F w w2 := (Touch.below (F := F) HBA.out).trans hT (fun k hk h => by
        rcases h with h | h
        · exact hF k h
        · omega)
      exact hT1.trans (Touch.two hO (F := fun k => k = K.b ∨ k = w.heap.size) (.inl rfl) (.inr rfl)) (fun k hk h => by
        rcases h with rfl | h
        · exact hF _ (.inl ⟨H.out.b1, H.out.b2⟩)
        · omega))
  have n5 := hM.get 5
  have g5 := frozen_of_row w2 K.b 5 _ _ hM.row
  have HM := hid hM
  have HT := hid hT
  have HVO := hid hvO
  clear m1 m5 m7 m8 m9 m10 m11 m12 m13 m14 m15 m16 m17 m18 m19 m20 p0 p1 p2 p3 hT hM hvO
  simp only [PK.row, midS, List.map_cons, List.map_nil, List.cons_append, List.nil_append, List.getElem?_cons_zero, List.getElem?_cons_succ] at n5
  rcases hshape with ⟨z1, z2⟩ | z1 | ⟨z1, z2, z3⟩
  · obtain ⟨lo4, st8, hS⟩ := hon z1
    have hsr := hS.row
    have hsok := hS.ok
    obtain ⟨y0, y1, y2, y3, e4⟩ := fourZ hsok.l4
    obtain ⟨u0, u1, u2, u3, u4, u5, u6, u7, e8⟩ := eightZ hsok.l8
    subst e4
    subst e8
    have HSO := hid hsok
    have HSR := hid hsr
    have c0 := cell_of_row w2 w.heap.size 0 _ _ _ hsr
    have c1 := cell_of_row w2 w.heap.size 1 _ _ _ hsr
    have c2 := cell_of_row w2 w.heap.size 2 _ _ _ hsr
    have c3 := cell_of_row w2 w.heap.size 3 _ _ _ hsr
    have c4 := cell_of_row w2 w.heap.size 4 _ _ _ hsr
    have c5 := cell_of_row w2 w.heap.size 5 _ _ _ hsr
    have c6 := cell_of_row w2 w.heap.size 6 _ _ _ hsr
    have c7 := cell_of_row w2 w.heap.size 7 _ _ _ hsr
    have c8 := cell_of_row w2 w.heap.size 8 _ _ _ hsr
    have c9 := cell_of_row w2 w.heap.size 9 _ _ _ hsr
    have c10 := cell_of_row w2 w.heap.size 10 _ _ _ hsr
    have c11 := cell_of_row w2 w.heap.size 11 _ _ _ hsr
    have c12 := cell_of_row w2 w.heap.size 12 _ _ _ hsr
    have c13 := cell_of_row w2 w.heap.size 13 _ _ _ hsr
    have n7 := HM.out.get 7
    have g7 := frozen_of_row w2 K.b 7 _ _ HM.out.row
    have n8 := HM.out.get 8
    have g8 := frozen_of_row w2 K.b 8 _ _ HM.out.row
    have n9 := HM.out.get 9
    have g9 := frozen_of_row w2 K.b 9 _ _ HM.out.row
    have n10 := HM.out.get 10
    have g10 := frozen_of_row w2 K.b 10 _ _ HM.out.row
    have n11 := HM.out.get 11
    have g11 := frozen_of_row w2 K.b 11 _ _ HM.out.row
    have n12 := HM.out.get 12
    have g12 := frozen_of_row w2 K.b 12 _ _ HM.out.row
    have n13 := HM.out.get 13
    have g13 := frozen_of_row w2 K.b 13 _ _ HM.out.row
    have n14 := HM.out.get 14
    have g14 := frozen_of_row w2 K.b 14 _ _ HM.out.row
    have n15 := HM.out.get 15
    have g15 := frozen_of_row w2 K.b 15 _ _ HM.out.row
    have n16 := HM.out.get 16
    have g16 := frozen_of_row w2 K.b 16 _ _ HM.out.row
    have n17 := HM.out.get 17
    have g17 := frozen_of_row w2 K.b 17 _ _ HM.out.row
    have n18 := HM.out.get 18
    have g18 := frozen_of_row w2 K.b 18 _ _ HM.out.row
    have n19 := HM.out.get 19
    have g19 := frozen_of_row w2 K.b 19 _ _ HM.out.row
    have n20 := HM.out.get 20
    have g20 := frozen_of_row w2 K.b 20 _ _ HM.out.row
    simp only [sdL, List.map_cons, List.map_nil, List.cons_append, List.nil_append, List.getElem?_toArray, List.getElem?_cons_zero, List.getElem?_cons_succ] at c0 c1 c2 c3 c4 c5 c6 c7 c8 c9 c10 c11 c12 c13
    simp only [PK.row, midS, List.map_cons, List.map_nil, List.cons_append, List.nil_append, List.getElem?_cons_zero, List.getElem?_cons_succ] at n7 n8 n9 n10 n11 n12 n13 n14 n15 n16 n17 n18 n19 n20
    have hbs : K.b ≠ w.heap.size := by omega
    rw [z1]
    clear hon hhalt hS hsok hsr
    go_wp2_with fail
    have hrow := HM.out.row
    simp only [PK.row, midS, List.map_cons, List.map_nil, List.cons_append, List.nil_append] at hrow
    have hrow2 := row_now hrow (.int .i64 0) (.int .i64 t.at_) (.int .i64 y0) (.int .i64 y1) (.int .i64 y2) (.int .i64 y3) (.int .i64 t.st.length) (.int .i64 u0) (.int .i64 u1) (.int .i64 u2) (.int .i64 u3) (.int .i64 u4) (.int .i64 u5) (.int .i64 u6) (.int .i64 u7)
    have honly := only_now w2 K.b (.int .i64 0) (.int .i64 t.at_) (.int .i64 y0) (.int .i64 y1) (.int .i64 y2) (.int .i64 y3) (.int .i64 t.st.length) (.int .i64 u0) (.int .i64 u1) (.int .i64 u2) (.int .i64 u3) (.int .i64 u4) (.int .i64 u5) (.int .i64 u6) (.int .i64 u7)
    generalize (((((((((((((((w2.setCell ⟨K.b, 5, none⟩ (.int .i64 0)).setCell ⟨K.b, 7, none⟩ (.int .i64 t.at_)).setCell ⟨K.b, 8, none⟩ (.int .i64 y0)).setCell ⟨K.b, 9, none⟩ (.int .i64 y1)).setCell ⟨K.b, 10, none⟩ (.int .i64 y2)).setCell ⟨K.b, 11, none⟩ (.int .i64 y3)).setCell ⟨K.b, 12, none⟩ (.int .i64 t.st.length)).setCell ⟨K.b, 13, none⟩ (.int .i64 u0)).setCell ⟨K.b, 14, none⟩ (.int .i64 u1)).setCell ⟨K.b, 15, none⟩ (.int .i64 u2)).setCell ⟨K.b, 16, none⟩ (.int .i64 u3)).setCell ⟨K.b, 17, none⟩ (.int .i64 u4)).setCell ⟨K.b, 18, none⟩ (.int .i64 u5)).setCell ⟨K.b, 19, none⟩ (.int .i64 u6)).setCell ⟨K.b, 20, none⟩ (.int .i64 u7)) = W at *
    have hP : PM W K vI2 vO2 [y0, y1, y2, y3] [u0, u1, u2, u3, u4, u5, u6, u7] t := by
      refine HM.out.turn honly ?_ HSO.out HLO.out rfl rfl (HM.out.inp.same (fun a n c e => honly.block _ (HM.out.inb a n c e).2.2.1)) HM.out.inb
      rw [hrow2]
      simp only [PK.row, List.map_cons, List.map_nil, List.cons_append, List.nil_append, z1, z2]
      rfl
    obtain ⟨f1, f2⟩ := FIN.out W _ _ (Two.of_only honly).widen.swap hP
    refine bodyPost_ret (v := .tuple #[.int .i64 0, .int .i64 0]) (by simp [results, Tryz.results34, go_sem]) rfl ⟨?_, f1, f2⟩
    rw [z1]
    rfl
  · obtain ⟨z0, z1⟩ := z1
    have hpop := hstd0 z0
    have hS := hhalt (by rw [z1])
    rw [st_one hpop] at hS
    have hS2 := hS.keep (w' := w2.setCell ⟨K.b, 5, none⟩ (.int .i64 1)) (Below.heap_setCell _ _ _ _ (fun e => by simp only at e; omega))
    have hp := hid (xpop hS2)
    have n6 := HM.out.get 6
    have g6 := frozen_of_row w2 K.b 6 _ _ HM.out.row
    simp only [PK.row, midS, List.map_cons, List.map_nil, List.cons_append, List.nil_append, List.getElem?_cons_zero, List.getElem?_cons_succ] at n6
    have HZ1 := hid z1
    have hoc1 : t.oc = 1 := by rw [z1]
    have hbs : K.b ≠ w.heap.size := by omega
    rw [hoc1]
    clear hon hhalt hS hS2 z1
    go_wp2_with fail
    refine hp.out.mono ?_
    clear hp
    intro e w4 hh
    obtain ⟨hx, hS4, hO4⟩ := hh
    subst e
    have k6 : w4.cell? ⟨K.b, 6, none⟩ = some (.int .i64 s.va) := (hO4.cell hbs).trans ((World.cell?_setCell_other _ _ _ _ (by simp)).trans n6)
    have j6 : w4.frozen? ⟨K.b, 6, none⟩ = false := (World.frozen?_of_block (a := ⟨K.b, 6, none⟩) (hO4.block _ hbs)).trans ((World.frozen?_setCell _ _ _ _).trans g6)
    have k5 : w4.cell? ⟨K.b, 5, none⟩ = some (.int .i64 1) := (hO4.cell hbs).trans (World.cell?_setCell_same _ _ _ n5)
    have HO4 := hid hO4
    clear hS4 hO4 n5 n6 g5 g6
    go_wp2_with fail
    have hnin2 : ¬ K.In vO2 w.heap.size := by
      have hzA : (w.alloc (.cells #[.int .i64 ((s.at_ : Int) + 1), .int .i64 x0, .int .i64 x1, .int .i64 x2, .int .i64 x3, .int .i64 s.st.length, .int .i64 t0, .int .i64 t1, .int .i64 t2, .int .i64 t3, .int .i64 t4, .int .i64 t5, .int .i64 t6, .int .i64 t7] 69)).heap.size = w.heap.size + 1 := alloc_size _ _
      rintro (⟨h1, h2⟩ | h1)
      · omega
      · rcases HVO.out _ h1 with h2 | h2
        · exact hnin (.inr h2)
        · omega
    have hP := ((HM.out.oc 1).two (Two.of_only HO4.out) hnin2).va (lastW s.st 0).2
    have hPt : PM (w4.setCell ⟨K.b, 6, none⟩ (.int .i64 (lastW s.st 0).2)) K vI2 vO2 [x0, x1, x2, x3] [t0, t1, t2, t3, t4, t5, t6, t7] t := by
      have e : ({ { midS s t with oc := 1 } with va := (lastW s.st 0).2 } : MS) = t := by
        have h9 := HZ1.out
        rw [h9]
        rfl
      rw [← e]
      exact hP
    have hTW : Two K.b w.heap.size w2 (w4.setCell ⟨K.b, 6, none⟩ (.int .i64 (lastW s.st 0).2)) := (((Two.refl K.b w.heap.size w2).set).trans (Two.of_only HO4.out).widen).set
    obtain ⟨f1, f2⟩ := FIN.out _ _ _ hTW hPt
    refine bodyPost_ret (v := .tuple #[.int .i64 1, .int .i64 0]) (by simp [results, Tryz.results34, go_sem]) rfl ⟨?_, f1, f2⟩
    rw [hoc1]
    rfl
  · have hoc3 : ((t.oc : Int) == 0) = false := by simp; omega
    have hoc4 : ((t.oc : Int) == 1) = false := by simp; omega
    have HZ3 := hid z3
    clear hon hhalt z3
    go_wp2_with fail
    have hP := HM.out.oc t.oc
    have hPt : PM (w2.setCell ⟨K.b, 5, none⟩ (.int .i64 t.oc)) K vI2 vO2 [x0, x1, x2, x3] [t0, t1, t2, t3, t4, t5, t6, t7] t := by
      have e : ({ midS s t with oc := t.oc } : MS) = t := by
        unfold midS
        rw [show t.rd = s.rd by rw [HZ3.out], show t.out = s.out by rw [HZ3.out]]
        exact HZ3.out.symm
      rw [← e]
      exact hP
    obtain ⟨f1, f2⟩ := FIN.out _ _ _ ((Two.refl K.b w.heap.size w2).set) hPt
    exact bodyPost_ret (v := .tuple #[.int .i64 t.oc, .int .i64 0]) (by simp [results, Tryz.results34, go_sem]) rfl ⟨rfl, f1, f2⟩
theorem Touch.under {F : Nat → Prop} {w w' : World} {B : Nat} (h : Touch F w w') (hF : ∀ k, F k → B ≤ k) (hB : B ≤ w.heap.size) : Below B w w' :=
  ⟨h.os, h.tape, h.output, h.size, fun k hk => h.block k (by omega) (fun hf => by have := hF k hf; omega)⟩
theorem LW.mid {E : Env} {w w1 : World} {q : Nat} {r : Array Value} {K : PK} {R : RK} {F G : Nat → Prop} {s : MS} (h : LW E w q r K R F G s) (ht : Touch F w w1) : RX w1 R G s := h.rm.keep ht.size (fun k hk hg => ht.block k hk (fun hf => h.fg k hf hg))
theorem LW.next {E : Env} {w w1 w2 : World} {q : Nat} {r : Array Value} {K : PK} {R : RK} {F G : Nat → Prop} {s t : MS} (h : LW E w q r K R F G s) (hp : PX w1 K (Grown F w w1) t) (t1 : Touch F w w1) (hr : RX w2 R (Grown G w1 w2) t) (t2 : Touch G w1 w2) (hinv : MInv E t) : LW E w2 q r K R (Grown F w w1) (Grown G w1 w2) t := by
  have hqz := (Array.getElem?_eq_some_iff.1 h.row).1
  have hz1 := t1.size
  have hz2 := t2.size
  have hne : ∀ k, Grown F w w1 k → ¬ G k := fun k hf hg => by
    rcases hf with hf | hf
    · exact h.fg k hf hg
    · have := h.gz k hg; omega
  have hlt : ∀ k, Grown F w w1 k → k < w1.heap.size := fun k hf => by
    rcases hf with hf | hf
    · have := h.fz k hf; omega
    · exact hf.2
  refine ⟨?_, h.r0, h.r1, hp.keep hz2 (fun k hk hf => t2.block k hk (hne k hf)), hr, h.ke, h.re, ?_, ?_, ?_, fun k hk => Nat.lt_of_lt_of_le (hlt k hk) hz2, ?_, hinv, h.ok⟩
  · exact (t2.block q (by omega) h.gq).trans ((t1.block q hqz h.fq).trans h.row)
  · rintro k hf (hg | hg)
    · exact hne k hf hg
    · have := hlt k hf; omega
  · rintro (hf | hf)
    · exact h.fq hf
    · omega
  · rintro (hg | hg)
    · exact h.gq hg
    · omega
  · rintro k (hg | hg)
    · have := h.gz k hg; omega
    · exact hg.2
/-- Both machines and the law's world lie above B. -/
def LS (E : Env) (B : Nat) (w : World) (q : Nat) (r : Array Value) (K : PK) (R : RK) (s : MS) : Prop := ∃ F G, LW E w q r K R F G s ∧ (∀ k, F k → B ≤ k) ∧ (∀ k, G k → B ≤ k) ∧ B ≤ q ∧ B ≤ w.heap.size
/-- What one step of a script makes of a machine. -/
def opS (E : Env) (k a : Int) (s : MS) : MS := if k = 1 then (if s.oc = 0 then stepS E s else s) else if k = 2 then (if 0 ≤ a ∧ a ≤ 1000 then collS E a.toNat s else s) else s
/-- What a call of the program's machine answers, and what it leaves. -/
def PCall (K : PK) (F : Nat → Prop) (x : Int) (y : Nat) (t : MS) (w : World) (e : Ending) (w' : World) : Prop := e = .returned (.tuple #[.int .i64 x, .int .i64 y]) ∧ PX w' K (Grown F w w') t ∧ Touch F w w'
def RCall (R : RK) (G : Nat → Prop) (x : Int) (y : Nat) (t : MS) (w : World) (e : Ending) (w' : World) : Prop := e = .returned (.tuple #[.int .i64 x, .int .i64 y]) ∧ RX w' R (Grown G w w') t ∧ Touch G w w'
theorem MInv.op {E : Env} (he : EnvOk E) {s : MS} (h : MInv E s) (k a : Int) : MInv E (opS E k a s) := by
  unfold opS
  split
  · split
    · exact h.step he
    · exact h
  split
  · split
    · exact h.coll _
    · exact h
  · exact h
theorem ite_len {P : Prop} [Decidable P] {a b : List Int} {n : Nat} (h1 : a.length ≤ n) (h2 : b.length ≤ n) : (if P then a else b).length ≤ n := by split <;> assumption
theorem does_out (E : Env) (i : Ins) (cell : Int) (s : MS) : (doesS E i cell s).out.length ≤ s.out.length + 1 := by
  have h0 : s.out.length ≤ s.out.length + 1 := by omega
  unfold doesS touchS
  simp only [apply_ite MS.out, ite_self]
  exact ite_len h0 (ite_len h0 (ite_len h0 (ite_len h0 (ite_len h0 (ite_len h0 (ite_len h0 (ite_len h0 (ite_len h0 (ite_len (by simp) h0)))))))))
theorem step_out (E : Env) (s : MS) : (stepS E s).out.length ≤ s.out.length + 1 := by
  have h0 : s.out.length ≤ s.out.length + 1 := by omega
  unfold stepS
  split
  · exact h0
  · unfold stepI goS
    simp only [apply_ite MS.out]
    exact ite_len h0 (ite_len h0 (ite_len (ite_len h0 (does_out _ _ _ _)) (does_out _ _ _ _)))
theorem op_out (E : Env) (k a : Int) (s : MS) : (opS E k a s).out.length ≤ s.out.length + 1 := by
  have h0 : s.out.length ≤ s.out.length + 1 := by omega
  unfold opS
  simp only [apply_ite MS.out]
  exact ite_len (ite_len (step_out _ _) h0) (ite_len (ite_len h0 h0) h0)
/-- A script that is handed in. -/
def ArgOps (w : World) (v : Value) (ops : List (Int × Int)) : Prop :=
  (v = .slice none 0 0 ∧ ops = []) ∨ ∃ a cap, v = .slice (some a) ops.length cap ∧ (∀ (j : Nat) (x : Int × Int), ops[j]? = some x → w.cell? (a.add (j * 2)) = some (.int .i64 x.1) ∧ w.cell? (a.add (j * 2 + 1)) = some (.int .i64 x.2)) ∧ (0 < ops.length → a.block < w.heap.size)
theorem ArgOps.slice {w : World} {v : Value} {ops : List (Int × Int)} (h : ArgOps w v ops) : ∃ p cap, v = .slice p ops.length cap := by
  rcases h with ⟨h1, h2⟩ | ⟨a, cap, hv, _⟩
  · exact ⟨none, 0, by rw [h1, h2]; rfl⟩
  · exact ⟨some a, cap, hv⟩
theorem add_block (a : Addr) (k : Nat) : (a.add k).block = a.block := by unfold Addr.add; split <;> rfl
theorem add_none (g o k : Nat) : (⟨g, o, none⟩ : Addr).add k = ⟨g, o + k, none⟩ := by unfold Addr.add; split <;> simp_all
theorem plain_of_cell {w : World} {a : Addr} {v : Value} (h : w.cell? a = some v) : ∃ g o, a = ⟨g, o, none⟩ := by
  obtain ⟨g, o, sp⟩ := a
  cases sp with
  | none => exact ⟨g, o, rfl⟩
  | some b =>
    exfalso
    unfold World.cell? at h
    simp only at h
    split at h <;> simp_all
/-- Is this step of a script left out? -/
def skipB (b1 b2 : Bool) (k : Int) : Prop := (k = 2 ∧ b1 = false) ∨ (k = 6 ∧ b2 = false)
/-- What holds behind every step: P j, once j steps are done. -/
structure Script (B : Nat) (q : Nat) (ops : List (Int × Int)) (b1 b2 : Bool) (P : Nat → World → Prop) : Prop where
  more : ∀ j W, P j W → P (j + 1) W
  step : ∀ j W x, ops[j]? = some x → ¬ skipB b1 b2 x.1 → P j W → Calls Tryz.prog 18 #[.pointer (some ⟨q, 0, none⟩), .agg #[.int .i64 x.1, .int .i64 x.2]] W (fun e w' => e = .returned (.bool true) ∧ P (j + 1) w' ∧ Below B W w')
  looks : ∀ j W, P j W → Calls Tryz.prog 19 #[.pointer (some ⟨q, 0, none⟩)] W (fun e w' => e = .returned (.bool true) ∧ P j w' ∧ Below B W w')
  agrees : ∀ W, P ops.length W → Calls Tryz.prog 20 #[.pointer (some ⟨q, 0, none⟩)] W (fun e w' => e = .returned (.bool true) ∧ Below B W w')
  drew : ∀ j W, P j W → P j W.drew
theorem plays_gen (s : ByteArray) (vi vo : Value) (zs : List Int) (ops : List (Int × Int)) (cells : Int) (b1 b2 : Bool) (w : World) (hs : s.size ≤ maxLen) (t1 : TakesTab w) (t2 : TypeTab w) (t3 : FlowTab w) (hv : ArgInts w vi zs) (hlen : zs.length ≤ 17592186044416) (ho : ArgOps w vo ops) (hol : ops.length ≤ 8796093022208)
    (hst : ∀ n q K R w1, cells = ((n : Nat) : Int) → NewErr s zs.length cells 0 → Begun s zs n w w1 q K R → ∃ P, P 0 w1 ∧ Script w.heap.size q ops b1 b2 P) :
    Calls Tryz.prog 8 #[.string s, vi, .int .i64 cells, vo, .bool b1, .bool b2] w fun e w' => e = .returned (.bool true) ∧ Below w.heap.size w w' := by
  have hbg := hid (begin_any s vi zs cells w hs t1 t2 t3 hv hlen)
  obtain ⟨p0, c0, e0⟩ := hv.slice
  subst e0
  have HO := hid ho
  obtain ⟨po, co, eo⟩ := ho.slice
  subst eo
  clear hs t1 t2 t3 hv ho
  go_enter Tryz.func8, Tryz.ntmps8
  go_wp2_with fail
  refine hbg.out.mono ?_
  clear hbg
  intro x w1 hp
  rcases hp with ⟨r, hr, he, hx, hb⟩ | ⟨n, q, K, R, hc, he, hx, hB⟩
  · subst x
    have HB := hid hb
    clear hb
    go_wp2_with fail
    go_ret
    exact ⟨rfl, HB.out⟩
  · subst x
    obtain ⟨P, hP0, hS⟩ := hst n q K R w1 hc he hB
    have HS := hid hS
    have HP0 := hid hP0
    have HB := hid hB.below
    clear hB hS hP0 he hst
    go_wp2_with fail
    go_loopg [15, 14] ops.length (fun g x y w' => ∃ j : Nat, j ≤ ops.length ∧ g = ops.length - j ∧ x = .int .i64 j ∧ y = .bool true ∧ P j w' ∧ Below w.heap.size w w')
    case atStart => exact ⟨0, by omega, by omega, rfl, rfl, HP0.out, HB.out⟩
    case round =>
      obtain ⟨j, hj, hg, rfl, rfl, hP, hB⟩ := hrel
      rcases Nat.lt_or_ge j ops.length with hlt | hge
      · have d0 : (0 : Int) ≤ (j : Int) := by omega
        have d1 : (j : Int) < (ops.length : Int) := by omega
        have d2 : (j : Int) + 1 ≤ 17592186044416 := by omega
        rcases HO.out with ⟨_, h0⟩ | ⟨a, cap, hv, hcell, hbl⟩
        · rw [h0] at hlt; simp at hlt
        cases hv
        obtain ⟨x, hx⟩ : ∃ x, ops[j]? = some x := ⟨_, List.getElem?_eq_getElem hlt⟩
        obtain ⟨y0, y1⟩ := hcell j x hx
        have hbz := hbl (by omega)
        obtain ⟨g, o, rfl⟩ : ∃ g o, a = ⟨g, o, none⟩ := by
          obtain ⟨q0, q1⟩ : ∃ x0, ops[0]? = some x0 := ⟨_, List.getElem?_eq_getElem (by omega)⟩
          have h0 := (hcell 0 _ q1).1
          exact plain_of_cell (a := a) (by simpa [Addr.add] using h0)
        have z0 : wr.cell? ⟨g, o + j * 2, none⟩ = some (.int .i64 x.1) := by
          have := (hB.cell (p := (⟨g, o, none⟩ : Addr).add (j * 2)) (by rw [add_block]; exact hbz)).trans y0
          rw [add_none] at this
          exact this
        have z1 : wr.cell? ⟨g, o + j * 2 + 1, none⟩ = some (.int .i64 x.2) := by
          have := (hB.cell (p := (⟨g, o, none⟩ : Addr).add (j * 2 + 1)) (by rw [add_block]; exact hbz)).trans y1
          rw [add_none] at this
          exact this
        obtain ⟨x1, x2⟩ := x
        simp only at z0 z1
        have HP := hid hP
        have HB1 := hid hB
        have HX := hid hx
        clear hcell hbl y0 y1 hP hB hx hbz HO HB HP0
        by_cases hsk : skipB b1 b2 x1
        · have HP1 := hid (HS.out.more j _ HP.out)
          rcases hsk with ⟨rfl, rfl⟩ | ⟨rfl, rfl⟩
          all_goals
            clear HX HP
            go_wp2_with fail
            go_roundg (ops.length - (j + 1))
            case measure => omega
            case rel => exact ⟨j + 1, by omega, rfl, by go_num, rfl, HP1.out, HB1.out⟩
        · have hst := hid (HS.out.step j _ _ HX.out hsk HP.out)
          have hcase : (x1 = 2 ∧ b1 = true) ∨ (x1 = 6 ∧ b2 = true) ∨ (x1 ≠ 2 ∧ x1 ≠ 6) := by
            unfold skipB at hsk
            by_cases h2 : x1 = 2
            · cases b1
              · exact absurd (.inl ⟨h2, rfl⟩) hsk
              · exact .inl ⟨h2, rfl⟩
            by_cases h6 : x1 = 6
            · cases b2
              · exact absurd (.inr ⟨h6, rfl⟩) hsk
              · exact .inr (.inl ⟨h6, rfl⟩)
            · exact .inr (.inr ⟨h2, h6⟩)
          clear HX HP hsk
          rcases hcase with ⟨rfl, rfl⟩ | ⟨rfl, rfl⟩ | ⟨h2, h6⟩
          · skip
            go_wp2_with fail
            refine hst.out.mono ?_
            clear hst
            intro e w2 hp
            obtain ⟨hx, hP2, hB2⟩ := hp
            subst e
            have hlk := hid (HS.out.looks _ _ hP2)
            have HB2 := hid (HB1.out.trans hB2)
            clear hP2 hB2 HB1 z0 z1
            go_wp2_with fail
            refine hlk.out.mono ?_
            clear hlk
            intro e w3 hp
            obtain ⟨hx, hP3, hB3⟩ := hp
            subst e
            have HP3 := hid hP3
            have HB3 := hid (HB2.out.trans hB3)
            clear hP3 hB3 HB2
            go_wp2_with fail
            go_roundg (ops.length - (j + 1))
            case measure => omega
            case rel => exact ⟨j + 1, by omega, rfl, by go_num, rfl, HP3.out, HB3.out⟩
          · skip
            go_wp2_with fail
            refine hst.out.mono ?_
            clear hst
            intro e w2 hp
            obtain ⟨hx, hP2, hB2⟩ := hp
            subst e
            have hlk := hid (HS.out.looks _ _ hP2)
            have HB2 := hid (HB1.out.trans hB2)
            clear hP2 hB2 HB1 z0 z1
            go_wp2_with fail
            refine hlk.out.mono ?_
            clear hlk
            intro e w3 hp
            obtain ⟨hx, hP3, hB3⟩ := hp
            subst e
            have HP3 := hid hP3
            have HB3 := hid (HB2.out.trans hB3)
            clear hP3 hB3 HB2
            go_wp2_with fail
            go_roundg (ops.length - (j + 1))
            case measure => omega
            case rel => exact ⟨j + 1, by omega, rfl, by go_num, rfl, HP3.out, HB3.out⟩
          · have y2 : (x1 == 2) = false := by simp [h2]
            have y6 : (x1 == 6) = false := by simp [h6]
            go_wp2_with fail
            refine hst.out.mono ?_
            clear hst
            intro e w2 hp
            obtain ⟨hx, hP2, hB2⟩ := hp
            subst e
            have hlk := hid (HS.out.looks _ _ hP2)
            have HB2 := hid (HB1.out.trans hB2)
            clear hP2 hB2 HB1 z0 z1
            go_wp2_with fail
            refine hlk.out.mono ?_
            clear hlk
            intro e w3 hp
            obtain ⟨hx, hP3, hB3⟩ := hp
            subst e
            have HP3 := hid hP3
            have HB3 := hid (HB2.out.trans hB3)
            clear hP3 hB3 HB2
            go_wp2_with fail
            go_roundg (ops.length - (j + 1))
            case measure => omega
            case rel => exact ⟨j + 1, by omega, rfl, by go_num, rfl, HP3.out, HB3.out⟩
      · have e : j = ops.length := by omega
        subst e
        have hag := hid (HS.out.agrees _ hP)
        have HB2 := hid hB
        clear hP hB
        go_wp2_with fail
        refine hag.out.mono ?_
        clear hag
        intro x w2 hp
        obtain ⟨hx, hb2⟩ := hp
        subst x
        have HB3 := hid (HB2.out.trans hb2)
        clear hb2
        go_wp2_with fail
        go_ret
        exact ⟨rfl, HB3.out⟩
theorem LS.start {s : ByteArray} {zs : List Int} {n : Nat} {w w' : World} {q : Nat} {K : PK} {R : RK} (h : Begun s zs n w w' q K R) (he : NewErr s zs.length (n : Int) 0) :
    LS (envOf s K.fs zs n) w.heap.size w' q (startRow K.b R.b s) K R (startS (byteAt s 1) n) := by
  have hap := h.apart
  have hqa := h.qa
  have hka := h.ka
  obtain ⟨vI, hPM⟩ := h.pm
  have b1 := hPM.b1
  have b2 := hPM.b2
  have o1 := h.rm.o1
  have o9 := h.rm.o9
  have hL := LW.start h he
  have hlq := h.lq
  have o2 := h.rm.o2
  have o3 := h.rm.o3
  have o4 := h.rm.o4
  have o5 := h.rm.o5
  have o6 := h.rm.o6
  have o7 := h.rm.o7
  have o8 := h.rm.o8
  refine ⟨_, _, hL, ?_, ?_, by omega, h.below.size⟩
  · rintro k (⟨h1, _⟩ | h1)
    · omega
    · cases h1
  · rintro k (⟨h1, _⟩ | h1 | h1)
    · omega
    · cases h1
    · cases h1
end Go.Proofs.YtdmdpindonghdaaGreatDoor
namespace Go.Proofs.YtdmdpindonghdaaGreatDoor
open Go.ChangeShapes Go.WideShapes Go.ChangeAt Go.ChangeMaps Go.RowKit
theorem knobs : ownKnob Tryz.prog.godebug = none := by kernel_rfl
theorem arr_cell {α : Type} {cs : List α} {r : Nat} {v : α} (h : (cs.drop r).take 1 = [v]) : cs[r]? = some v := by
  have h0 : ((cs.drop r).take 1)[0]? = some v := by rw [h]; rfl
  simpa using h0
theorem arr_strings {W : World} {g : Nat} {name : String} {cs : Array Value} {fuel : Nat} {p : List MemPlace} {l : List (List UInt8)} {sp : Nat → Bool} {hd : Bool} {b : Nat} {enc : TypeId × Value → Unit}
    (hg : Tryz.prog.globalNamed name = some g) (hv : W.var? Tryz.prog name = some cs) (hl : l.length = 25)
    (h : DataW.trod enc Tryz.prog W b sp hd fuel 176 cs.toList = some (.agg (l.map fun x => .lit (.string x)), p)) (k : Nat) (hk : k < 25) : W.cell? ⟨g, k, none⟩ = some (.string ⟨(l.getD k []).toArray⟩) := by
  obtain ⟨xs, m, _, ex, _, hlx, hel⟩ := DataW.trod_array Tryz.underlying176 h
  have c9 : Tryz.prog.cellsOf 9 = 1 := by kernel_rfl
  have hE := hel k hk
  rw [c9, Nat.mul_one, List.getElem?_eq_getElem (by omega)] at hE
  obtain ⟨z, e1, e2, _⟩ := DataW.trod_string Tryz.underlying9 hE
  have e3 : (xs.map (·.1)) = l.map fun x => .lit (.string x) := (DataW.agg.inj (Prod.mk.inj ex).1).symm
  have e4 : (xs.map (·.1))[k]? = (l.map fun x => (DataW.lit (.string x) : DataW Unit))[k]? := by rw [e3]
  rw [List.getElem?_map, List.getElem?_map, List.getElem?_eq_getElem (by omega : k < xs.length), List.getElem?_eq_getElem (by omega : k < l.length), e2] at e4
  have hz : z.data.toList = l.getD k [] := by
    simp only [Option.map_some, Option.some.injEq, DataW.lit.injEq, Lit.string.injEq] at e4
    rw [e4, List.getD, List.getElem?_eq_getElem (by omega : k < l.length)]; rfl
  rw [World.var?_cell hg hv k, ← hz]
  simpa using arr_cell e1
theorem arr_bools {W : World} {g : Nat} {name : String} {cs : Array Value} {fuel : Nat} {p : List MemPlace} {l : List Bool} {sp : Nat → Bool} {hd : Bool} {b : Nat} {enc : TypeId × Value → Unit}
    (hg : Tryz.prog.globalNamed name = some g) (hv : W.var? Tryz.prog name = some cs) (hl : l.length = 25)
    (h : DataW.trod enc Tryz.prog W b sp hd fuel 174 cs.toList = some (.agg (l.map fun x => .lit (.bool x)), p)) (k : Nat) (hk : k < 25) : W.cell? ⟨g, k, none⟩ = some (.bool (l.getD k false)) := by
  obtain ⟨xs, m, _, ex, _, hlx, hel⟩ := DataW.trod_array Tryz.underlying174 h
  have c9 : Tryz.prog.cellsOf 4 = 1 := by kernel_rfl
  have hE := hel k hk
  rw [c9, Nat.mul_one, List.getElem?_eq_getElem (by omega)] at hE
  obtain ⟨z, e1, e2⟩ := DataW.trod_bool Tryz.underlying4 hE
  have e3 : (xs.map (·.1)) = l.map fun x => .lit (.bool x) := (DataW.agg.inj (Prod.mk.inj ex).1).symm
  have e4 : (xs.map (·.1))[k]? = (l.map fun x => (DataW.lit (.bool x) : DataW Unit))[k]? := by rw [e3]
  rw [List.getElem?_map, List.getElem?_map, List.getElem?_eq_getElem (by omega : k < xs.length), List.getElem?_eq_getElem (by omega : k < l.length), e2] at e4
  have hz : z = l.getD k false := by
    simp only [Option.map_some, Option.some.injEq, DataW.lit.injEq, Lit.bool.injEq] at e4
    rw [e4, List.getD, List.getElem?_eq_getElem (by omega : k < l.length)]; rfl
  rw [World.var?_cell hg hv k, ← hz]
  simpa using arr_cell e1
def popsAll : List (List UInt8) := (List.range 25).map popsL
def pushesAll : List (List UInt8) := (List.range 25).map pushesL
def takesAll : List Bool := (List.range 25).map takesB
theorem popsAll_get {k : Nat} (h : k < 25) : popsAll.getD k [] = popsL k := by simp [popsAll, List.getD_eq_getElem?_getD, h]
theorem pushesAll_get {k : Nat} (h : k < 25) : pushesAll.getD k [] = pushesL k := by simp [pushesAll, List.getD_eq_getElem?_getD, h]
theorem takesAll_get {k : Nat} (h : k < 25) : takesAll.getD k false = takesB k := by simp [takesAll, List.getD_eq_getElem?_getD, h]
theorem e1 : (Rows.laid_tint_flow_pops : DataW Unit) = .agg (popsAll.map fun x => .lit (.string x)) := by kernel_rfl
theorem e2 : (Rows.laid_tint_flow_pushes : DataW Unit) = .agg (pushesAll.map fun x => .lit (.string x)) := by kernel_rfl
theorem e3 : (Rows.laid_tint_tintref_pops : DataW Unit) = .agg (popsAll.map fun x => .lit (.string x)) := by kernel_rfl
theorem e4 : (Rows.laid_tint_tintref_pushes : DataW Unit) = .agg (pushesAll.map fun x => .lit (.string x)) := by kernel_rfl
theorem e5 : (Rows.laid_tint_tintref_takes : DataW Unit) = .agg (takesAll.map fun x => .lit (.bool x)) := by kernel_rfl
theorem tabs_of_laid {W : World} (h : laidMetH Tryz.prog [("tint/flow.pops", Rows.laid_tint_flow_pops), ("tint/flow.pushes", Rows.laid_tint_flow_pushes), ("tint/tintref.pops", Rows.laid_tint_tintref_pops), ("tint/tintref.pushes", Rows.laid_tint_tintref_pushes), ("tint/tintref.takes", Rows.laid_tint_tintref_takes)] W) : FlowTab W ∧ TakesTab W ∧ TypeTab W := by
  rw [MakeChecks.laidMetH_plain _ _ _ (by kernel_rfl)] at h
  obtain ⟨ps, ⟨g0, t0, cs0, f0, p0, q0, hg0, ht0, hv0, hd0, ⟨g1, t1, cs1, f1, p1, q1, hg1, ht1, hv1, hd1, ⟨g2, t2, cs2, f2, p2, q2, hg2, ht2, hv2, hd2, ⟨g3, t3, cs3, f3, p3, q3, hg3, ht3, hv3, hd3, ⟨g4, t4, cs4, f4, p4, q4, hg4, ht4, hv4, hd4, _, _⟩, _⟩, _⟩, _⟩, _⟩, _, _⟩ := h
  obtain rfl := Option.some.inj ((show Tryz.prog.globalNamed "tint/flow.pops" = some 3 by kernel_rfl).symm.trans hg0)
  obtain rfl := Option.some.inj ((show Tryz.prog.globalNamed "tint/flow.pushes" = some 4 by kernel_rfl).symm.trans hg1)
  obtain rfl := Option.some.inj ((show Tryz.prog.globalNamed "tint/tintref.pops" = some 1 by kernel_rfl).symm.trans hg2)
  obtain rfl := Option.some.inj ((show Tryz.prog.globalNamed "tint/tintref.pushes" = some 2 by kernel_rfl).symm.trans hg3)
  obtain rfl := Option.some.inj ((show Tryz.prog.globalNamed "tint/tintref.takes" = some 0 by kernel_rfl).symm.trans hg4)
  obtain rfl := Option.some.inj ((show (Tryz.prog.globals[3]?).map (·.type) = some 176 by kernel_rfl).symm.trans ht0)
  obtain rfl := Option.some.inj ((show (Tryz.prog.globals[4]?).map (·.type) = some 176 by kernel_rfl).symm.trans ht1)
  obtain rfl := Option.some.inj ((show (Tryz.prog.globals[1]?).map (·.type) = some 176 by kernel_rfl).symm.trans ht2)
  obtain rfl := Option.some.inj ((show (Tryz.prog.globals[2]?).map (·.type) = some 176 by kernel_rfl).symm.trans ht3)
  obtain rfl := Option.some.inj ((show (Tryz.prog.globals[0]?).map (·.type) = some 174 by kernel_rfl).symm.trans ht4)
  rw [e1] at hd0
  rw [e2] at hd1
  rw [e3] at hd2
  rw [e4] at hd3
  rw [e5] at hd4
  refine ⟨fun k hk => ⟨?_, ?_⟩, fun k hk => ?_, fun k hk => ⟨?_, ?_⟩⟩
  · rw [arr_strings hg0 hv0 rfl hd0 k hk, popsAll_get hk]; rfl
  · rw [arr_strings hg1 hv1 rfl hd1 k hk, pushesAll_get hk]; rfl
  · rw [arr_bools hg4 hv4 rfl hd4 k hk, takesAll_get hk]
  · rw [arr_strings hg2 hv2 rfl hd2 k hk, popsAll_get hk]; rfl
  · rw [arr_strings hg3 hv3 rfl hd3 k hk, pushesAll_get hk]; rfl
theorem cellsInt : Tryz.prog.cellsOf 3 = 1 := by kernel_rfl
theorem bytesInt : Tryz.prog.bytesOf 3 = 8 := by kernel_rfl
theorem laidOutP : laidOutB Tryz.prog = true := by kernel_rfl
/-- A list of numbers that is handed in. -/
theorem ints_arg {H : Type} {enc : TypeId × Value → H} {W : World} {v : Value} {d : DataW H} {p : List MemPlace} {base : Nat} (hok : Value.okWide Tryz.prog W .any base 22 v) (h : DataW.Trod enc Tryz.prog W 0 (fun _ => true) true 22 v d p) (hlt : ∀ x ∈ p, x.block < W.heap.size) (hw : (d.weights Tryz.prog 22).all (· ≤ reachBytes) = true) :
    ∃ zs : List Int, ArgInts W v zs ∧ zs.length ≤ 17592186044416 := by
  obtain ⟨a0, len, cap, rfl⟩ := okWide_slice Tryz.underlying22 hok
  obtain ⟨fuel, hf⟩ := h
  rcases open_ints Tryz.underlying22 Tryz.underlying3 cellsInt hf with ⟨hcs, hx⟩ | ⟨a, len', cap', zs, hcs, _, hl, hm, hz, hx, hcell, _⟩
  · simp [Value.cells] at hcs
    obtain ⟨rfl, rfl, rfl⟩ := hcs
    exact ⟨[], .inl ⟨rfl, rfl⟩, by simp⟩
  · simp [Value.cells] at hcs
    obtain ⟨rfl, rfl, rfl⟩ := hcs
    simp only [Prod.mk.injEq] at hx
    obtain ⟨rfl, rfl⟩ := hx
    simp only [if_true] at hz
    have hlz : (zs.take len).length = len := by rw [List.length_take]; omega
    refine ⟨zs.take len, .inr ⟨a, cap, by rw [hlz], ?_, ?_⟩, ?_⟩
    · intro j x hj
      have hjl := (List.getElem?_eq_some_iff.1 hj).1
      rw [hlz] at hjl
      rw [List.getElem?_take, if_pos hjl] at hj
      rw [hcell j (by omega), List.getD_eq_getElem?_getD, hj]
      rfl
    · intro hp
      exact hlt (.cell a.block (a.off + 0)) (MemPlace.mem_row.2 ⟨0, by omega, rfl⟩)
    · rw [hlz]
      have := hw
      simp only [DataW.weights, Tryz.underlying22, List.all_cons, Bool.and_eq_true, decide_eq_true_eq, bytesInt] at this
      have h2 := this.1
      simp only [lits, List.length_map, hlz] at h2
      have : reachBytes = 140737488351232 := rfl
      omega
theorem cellsOp : Tryz.prog.cellsOf 44 = 2 := by kernel_rfl
/-- The number that a value holds. -/
def vint (v : Value) : Int := match v with | .int _ x => x | _ => 0
end Go.Proofs.YtdmdpindonghdaaGreatDoor
namespace Go.Proofs.YtdmdpindonghdaaGreatDoor
open Go.RowKit
/-- A list whose whole block is its own, its spare room too. -/
def Box (w : World) (P : Nat → Prop) (t : TypeId) (k : Nat) (v : Value) (cap : Nat) : Prop :=
  (v = .slice none 0 0 ∧ cap = 0) ∨ ∃ g n r, v = .slice (some ⟨g, 0, none⟩) n cap ∧ P g ∧ w.heap[g]? = some (.cells r t) ∧ n ≤ cap ∧ cap ≤ maxLen ∧ r.size = cap * k
/-- A list that its owner wrote full, over and over with the cells cs. -/
def Full (w : World) (P : Nat → Prop) (t : TypeId) (cs : List Value) (v : Value) : Prop :=
  v = .slice none 0 0 ∨ ∃ g cap r, v = .slice (some ⟨g, 0, none⟩) cap cap ∧ P g ∧ w.heap[g]? = some (.cells r t) ∧ cap ≤ maxLen ∧ ∀ (i c : Nat) (x : Value), i < cap → cs[c]? = some x → r[i * cs.length + c]? = some x
theorem Box.of_owns {w : World} {base : Nat} {t : TypeId} {k n : Nat} {v : Value} {cs : List Value} (h : w.ownsRow base t k v n cs) : ∃ cap, Box w (fun g => base ≤ g ∧ g < w.heap.size) t k v cap := by
  rcases h.2 with ⟨h1, h2⟩ | ⟨g, cap, cur, hv, hg, hh, h3, h4, h5, _⟩
  · exact ⟨0, .inl ⟨h1, rfl⟩⟩
  · exact ⟨cap, .inr ⟨g, n, cur, hv, ⟨hg, (Array.getElem?_eq_some_iff.1 hh).1⟩, hh, h3, h4, h5⟩⟩
theorem Box.keep {w w' : World} {P P' : Nat → Prop} {t : TypeId} {k cap : Nat} {v : Value} (h : Box w P t k v cap) (hP : ∀ g, v.ownBlock = some g → P g → P' g ∧ w'.heap[g]? = w.heap[g]?) : Box w' P' t k v cap := by
  rcases h with h | ⟨g, n, r, hv, hp, hr, h4⟩
  · exact .inl h
  · have := hP g (by rw [hv]; rfl) hp
    exact .inr ⟨g, n, r, hv, this.1, this.2.trans hr, h4⟩
theorem Full.keep {w w' : World} {P P' : Nat → Prop} {t : TypeId} {cs : List Value} {v : Value} (h : Full w P t cs v) (hP : ∀ g, P g → g < w.heap.size → P' g ∧ w'.heap[g]? = w.heap[g]?) : Full w' P' t cs v := by
  rcases h with h | ⟨g, cap, r, hv, hp, hr, h4⟩
  · exact .inl h
  · have := hP g hp (Array.getElem?_eq_some_iff.1 hr).1
    exact .inr ⟨g, cap, r, hv, this.1, this.2.trans hr, h4⟩
/-- One kind of lists that are kept: v the lists, vm their marks; whose block is whose tells lab. -/
structure KL (w : World) (B : Nat) (lab : Nat → Nat) (a : Nat) (te t : TypeId) (pat : Int → List Value) (v vm : Value) (es : List (Value × Int)) : Prop where
  o : w.ownsRow B te 1 v es.length (es.map (fun e => e.1))
  m : w.ownsRow B 3 1 vm es.length (es.map (fun e => Value.int .i64 e.2))
  lo : ∀ g, v.ownBlock = some g → lab g = a
  lm : ∀ g, vm.ownBlock = some g → lab g = a + 1
  f : ∀ e ∈ es, Full w (fun g => lab g = 1) t (pat e.2) e.1
theorem KL.keep {w w' : World} {B : Nat} {lab lab' : Nat → Nat} {a : Nat} {te t : TypeId} {pat : Int → List Value} {v vm : Value} {es : List (Value × Int)} (h : KL w B lab a te t pat v vm es)
    (hk : ∀ g, g < w.heap.size → (lab g = 1 ∨ lab g = a ∨ lab g = a + 1) → w'.heap[g]? = w.heap[g]? ∧ lab' g = lab g) : KL w' B lab' a te t pat v vm es := by
  have k1 : ∀ g, v.ownBlock = some g → w'.heap[g]? = w.heap[g]? ∧ lab' g = lab g := fun g hg => hk g (h.o.lt g hg).2 (.inr (.inl (h.lo g hg)))
  have k2 : ∀ g, vm.ownBlock = some g → w'.heap[g]? = w.heap[g]? ∧ lab' g = lab g := fun g hg => hk g (h.m.lt g hg).2 (.inr (.inr (h.lm g hg)))
  refine ⟨owns_keep h.o (fun g hg => (k1 g hg).1), owns_keep h.m (fun g hg => (k2 g hg).1), fun g hg => (k1 g hg).2.trans (h.lo g hg), fun g hg => (k2 g hg).2.trans (h.lm g hg), fun e he => (h.f e he).keep (fun g hg hz => ?_)⟩
  obtain ⟨x, y⟩ := hk g hz (.inl hg)
  exact ⟨y.trans hg, x⟩
/-- The fields of the law's world. -/
structure KV where
  a0 : Value
  a1 : Value
  a2 : Value
  mark : Int
  vI : Value
  vJ : Value
  vS : Value
  vT : Value
  vC : Value
  vD : Value
  vM : Value
  vN : Value
def KV.row (V : KV) : Array Value := #[V.a0, V.a1, V.a2, .int .i64 V.mark, V.vI, V.vJ, V.vS, V.vT, V.vC, V.vD, V.vM, V.vN]
def patI (m : Int) : List Value := [.int .i64 m]
def patS (m : Int) : List Value := [.int .i64 m, .int .i64 m]
def patC (m : Int) : List Value := [.int .i64 m, .bool false, .int .i64 m, .int .i64 0, .int .i64 m]
def patM (m : Int) : List Value := [.int .i64 m, .bool false, .slice none 0 0, .slice none 0 0]
/-- All that is kept. -/
structure KS (w : World) (B q : Nat) (lab : Nat → Nat) (V : KV) (Is Ss Cs Ms : List (Value × Int)) : Prop where
  row : w.heap[q]? = some (.cells V.row 58)
  lq : lab q = 10
  li : KL w B lab 2 22 3 patI V.vI V.vJ Is
  ls : KL w B lab 4 96 98 patS V.vS V.vT Ss
  lc : KL w B lab 6 70 100 patC V.vC V.vD Cs
  lm : KL w B lab 8 76 102 patM V.vM V.vN Ms
  hz : ∀ g, lab g ≠ 0 → B ≤ g ∧ g < w.heap.size
  hB : B ≤ w.heap.size
theorem KS.keep {w w' : World} {B q : Nat} {lab : Nat → Nat} {V : KV} {Is Ss Cs Ms : List (Value × Int)} (h : KS w B q lab V Is Ss Cs Ms) (hs : w.heap.size ≤ w'.heap.size) (hk : ∀ g, lab g ≠ 0 → w'.heap[g]? = w.heap[g]?) : KS w' B q lab V Is Ss Cs Ms := by
  refine ⟨(hk q (by rw [h.lq]; omega)).trans h.row, h.lq, h.li.keep ?_, h.ls.keep ?_, h.lc.keep ?_, h.lm.keep ?_, fun g hg => ⟨(h.hz g hg).1, Nat.lt_of_lt_of_le (h.hz g hg).2 hs⟩, Nat.le_trans h.hB hs⟩
  all_goals
    intro g _ hg
    exact ⟨hk g (by omega), rfl⟩
theorem KS.below {w w' : World} {B q : Nat} {lab : Nat → Nat} {V : KV} {Is Ss Cs Ms : List (Value × Int)} (h : KS w B q lab V Is Ss Cs Ms) (hb : Below w.heap.size w w') : KS w' B q lab V Is Ss Cs Ms := h.keep hb.size (fun g hg => hb.block g (h.hz g hg).2)
theorem KL.push {w wF : World} {B : Nat} {lab lab' : Nat → Nat} {a : Nat} {te t : TypeId} {pat : Int → List Value} {v vm v' vm' all : Value} {m : Int} {es : List (Value × Int)} (h : KL w B lab a te t pat v vm es)
    (o' : wF.ownsRow B te 1 v' (es.length + 1) (es.map (fun e => e.1) ++ [all])) (m' : wF.ownsRow B 3 1 vm' (es.length + 1) (es.map (fun e => Value.int .i64 e.2) ++ [.int .i64 m]))
    (lo' : ∀ g, v'.ownBlock = some g → lab' g = a) (lm' : ∀ g, vm'.ownBlock = some g → lab' g = a + 1) (hf : Full wF (fun g => lab' g = 1) t (pat m) all)
    (hk : ∀ g, g < w.heap.size → lab g = 1 → wF.heap[g]? = w.heap[g]? ∧ lab' g = 1) : KL wF B lab' a te t pat v' vm' (es ++ [(all, m)]) := by
  refine ⟨by simpa using o', by simpa using m', lo', lm', fun e he => ?_⟩
  rcases List.mem_append.1 he with he | he
  · exact (h.f e he).keep (fun g hg hz => ⟨(hk g hz hg).2, (hk g hz hg).1⟩)
  · rw [List.mem_singleton] at he
    rw [he]
    exact hf
/-- Whose block is whose, when a list more is kept. -/
def labP (lab : Nat → Nat) (a : Nat) (b v' vm' : Option Nat) : Nat → Nat := fun g => if b = some g then 1 else if v' = some g then a else if vm' = some g then a + 1 else lab g
theorem labP_old {lab : Nat → Nat} {a : Nat} {b v' vm' : Option Nat} {g : Nat} (h0 : lab g ≠ 0) (hb : b = some g → lab g = 0) (h1 : v' = some g → lab g = a) (h2 : vm' = some g → lab g = a + 1) : labP lab a b v' vm' g = lab g := by
  unfold labP
  split
  · exact absurd (hb ‹_›) h0
  split
  · exact (h1 ‹_›).symm
  split
  · exact (h2 ‹_›).symm
  · rfl
theorem labP_none {lab : Nat → Nat} {a : Nat} {b v' vm' : Option Nat} {g : Nat} (h0 : lab g = 0) (ha : a ≠ 0) (hb : b ≠ some g) (h1 : v' = some g → lab g = a) (h2 : vm' = some g → lab g = a + 1) : labP lab a b v' vm' g = 0 := by
  unfold labP
  rw [if_neg hb, if_neg (fun e => by have := h1 e; omega), if_neg (fun e => by have := h2 e; omega)]
  exact h0
theorem KS.pushI {w wF : World} {B q : Nat} {lab : Nat → Nat} {V : KV} {Is Ss Cs Ms : List (Value × Int)} (h : KS w B q lab V Is Ss Cs Ms) {all v1 v2 : Value} {m : Int}
    (hrow : wF.heap[q]? = some (.cells { V with mark := m, vI := v1, vJ := v2 : KV }.row 58))
    (o' : wF.ownsRow B 22 1 v1 (Is.length + 1) (Is.map (fun e => e.1) ++ [all])) (m' : wF.ownsRow B 3 1 v2 (Is.length + 1) (Is.map (fun e => Value.int .i64 e.2) ++ [.int .i64 m]))
    (av : ∀ g, v1.ownBlock = some g → V.vI.ownBlock = some g ∨ w.heap.size ≤ g) (am : ∀ g, v2.ownBlock = some g → V.vJ.ownBlock = some g ∨ w.heap.size ≤ g) (ne : ∀ g, v1.ownBlock = some g → v2.ownBlock ≠ some g)
    (hb : ∀ g, all.ownBlock = some g → lab g = 0 ∧ B ≤ g ∧ g < w.heap.size) (hf : Full wF (fun g => all.ownBlock = some g) 3 (patI m) all) (hs : w.heap.size ≤ wF.heap.size)
    (hk : ∀ g, g < w.heap.size → g ≠ q → all.ownBlock ≠ some g → V.vI.ownBlock ≠ some g → V.vJ.ownBlock ≠ some g → wF.heap[g]? = w.heap[g]?) :
    KS wF B q (labP lab 2 all.ownBlock v1.ownBlock v2.ownBlock) { V with mark := m, vI := v1, vJ := v2 } (Is ++ [(all, m)]) Ss Cs Ms ∧ ∀ g, g < w.heap.size → lab g = 0 → all.ownBlock ≠ some g → wF.heap[g]? = w.heap[g]? ∧ labP lab 2 all.ownBlock v1.ownBlock v2.ownBlock g = 0 := by
  have lo := h.li.lo
  have lm := h.li.lm
  have hq := h.lq
  have lbig : ∀ g, w.heap.size ≤ g → lab g = 0 := fun g hg => by
    by_cases h0 : lab g = 0
    · exact h0
    · have := (h.hz g h0).2; omega
  have a1 : ∀ g, g < w.heap.size → v1.ownBlock = some g → lab g = 2 := fun g hg hh => by
    rcases av g hh with h' | h'
    · exact lo g h'
    · omega
  have a2 : ∀ g, g < w.heap.size → v2.ownBlock = some g → lab g = 2 + 1 := fun g hg hh => by
    rcases am g hh with h' | h'
    · exact lm g h'
    · omega
  have old : ∀ g, lab g ≠ 0 → labP lab 2 all.ownBlock v1.ownBlock v2.ownBlock g = lab g := fun g hg => labP_old hg (fun e => (hb g e).1) (a1 g (h.hz g hg).2) (a2 g (h.hz g hg).2)
  have kk : ∀ g, g < w.heap.size → lab g ≠ 10 → lab g ≠ 2 → lab g ≠ 2 + 1 → all.ownBlock ≠ some g → wF.heap[g]? = w.heap[g]? := fun g hg h1 h2 h3 h4 => hk g hg (fun e => h1 (by rw [e]; exact hq)) h4 (fun e => h2 (lo g e)) (fun e => h3 (lm g e))
  have kl : ∀ g, lab g ≠ 0 → all.ownBlock ≠ some g := fun g hg e => hg (hb g e).1
  refine ⟨⟨hrow, by rw [old q (by omega)]; exact hq, ?_, ?_, ?_, ?_, ?_, Nat.le_trans h.hB hs⟩, ?_⟩
  · refine h.li.push o' m' (fun g hg => ?_) (fun g hg => ?_) (hf.keep (fun g hg _ => ⟨?_, rfl⟩)) (fun g hg h1 => ?_)
    · by_cases hz : g < w.heap.size
      · rw [old g (by have := a1 g hz hg; omega)]; exact a1 g hz hg
      · unfold labP
        rw [if_neg (fun e => by have := (hb g e).2.2; omega), if_pos hg]
    · by_cases hz : g < w.heap.size
      · rw [old g (by have := a2 g hz hg; omega)]; exact a2 g hz hg
      · unfold labP
        rw [if_neg (fun e => by have := (hb g e).2.2; omega), if_neg (fun e => ne g e hg), if_pos hg]
    · unfold labP
      rw [if_pos hg]
    · exact ⟨kk g hg (by omega) (by omega) (by omega) (kl g (by omega)), by rw [old g (by omega)]; exact h1⟩
  · refine h.ls.keep (fun g hg h1 => ?_)
    exact ⟨kk g hg (by omega) (by omega) (by omega) (kl g (by omega)), old g (by omega)⟩
  · refine h.lc.keep (fun g hg h1 => ?_)
    exact ⟨kk g hg (by omega) (by omega) (by omega) (kl g (by omega)), old g (by omega)⟩
  · refine h.lm.keep (fun g hg h1 => ?_)
    exact ⟨kk g hg (by omega) (by omega) (by omega) (kl g (by omega)), old g (by omega)⟩
  · intro g hg
    by_cases h0 : lab g = 0
    · unfold labP at hg
      by_cases h1 : all.ownBlock = some g
      · have := hb g h1; omega
      by_cases h2 : v1.ownBlock = some g
      · exact o'.lt g h2
      by_cases h3 : v2.ownBlock = some g
      · exact m'.lt g h3
      rw [if_neg h1, if_neg h2, if_neg h3] at hg
      exact absurd h0 hg
    · have := h.hz g h0; omega
  · intro g hg h0 h1
    exact ⟨kk g hg (by omega) (by omega) (by omega) h1, labP_none h0 (by omega) h1 (a1 g hg) (a2 g hg)⟩
theorem KS.pushS {w wF : World} {B q : Nat} {lab : Nat → Nat} {V : KV} {Is Ss Cs Ms : List (Value × Int)} (h : KS w B q lab V Is Ss Cs Ms) {all v1 v2 : Value} {m : Int}
    (hrow : wF.heap[q]? = some (.cells { V with mark := m, vS := v1, vT := v2 : KV }.row 58))
    (o' : wF.ownsRow B 96 1 v1 (Ss.length + 1) (Ss.map (fun e => e.1) ++ [all])) (m' : wF.ownsRow B 3 1 v2 (Ss.length + 1) (Ss.map (fun e => Value.int .i64 e.2) ++ [.int .i64 m]))
    (av : ∀ g, v1.ownBlock = some g → V.vS.ownBlock = some g ∨ w.heap.size ≤ g) (am : ∀ g, v2.ownBlock = some g → V.vT.ownBlock = some g ∨ w.heap.size ≤ g) (ne : ∀ g, v1.ownBlock = some g → v2.ownBlock ≠ some g)
    (hb : ∀ g, all.ownBlock = some g → lab g = 0 ∧ B ≤ g ∧ g < w.heap.size) (hf : Full wF (fun g => all.ownBlock = some g) 98 (patS m) all) (hs : w.heap.size ≤ wF.heap.size)
    (hk : ∀ g, g < w.heap.size → g ≠ q → all.ownBlock ≠ some g → V.vS.ownBlock ≠ some g → V.vT.ownBlock ≠ some g → wF.heap[g]? = w.heap[g]?) :
    KS wF B q (labP lab 4 all.ownBlock v1.ownBlock v2.ownBlock) { V with mark := m, vS := v1, vT := v2 } Is (Ss ++ [(all, m)]) Cs Ms ∧ ∀ g, g < w.heap.size → lab g = 0 → all.ownBlock ≠ some g → wF.heap[g]? = w.heap[g]? ∧ labP lab 4 all.ownBlock v1.ownBlock v2.ownBlock g = 0 := by
  have lo := h.ls.lo
  have lm := h.ls.lm
  have hq := h.lq
  have lbig : ∀ g, w.heap.size ≤ g → lab g = 0 := fun g hg => by
    by_cases h0 : lab g = 0
    · exact h0
    · have := (h.hz g h0).2; omega
  have a1 : ∀ g, g < w.heap.size → v1.ownBlock = some g → lab g = 4 := fun g hg hh => by
    rcases av g hh with h' | h'
    · exact lo g h'
    · omega
  have a2 : ∀ g, g < w.heap.size → v2.ownBlock = some g → lab g = 4 + 1 := fun g hg hh => by
    rcases am g hh with h' | h'
    · exact lm g h'
    · omega
  have old : ∀ g, lab g ≠ 0 → labP lab 4 all.ownBlock v1.ownBlock v2.ownBlock g = lab g := fun g hg => labP_old hg (fun e => (hb g e).1) (a1 g (h.hz g hg).2) (a2 g (h.hz g hg).2)
  have kk : ∀ g, g < w.heap.size → lab g ≠ 10 → lab g ≠ 4 → lab g ≠ 4 + 1 → all.ownBlock ≠ some g → wF.heap[g]? = w.heap[g]? := fun g hg h1 h2 h3 h4 => hk g hg (fun e => h1 (by rw [e]; exact hq)) h4 (fun e => h2 (lo g e)) (fun e => h3 (lm g e))
  have kl : ∀ g, lab g ≠ 0 → all.ownBlock ≠ some g := fun g hg e => hg (hb g e).1
  refine ⟨⟨hrow, by rw [old q (by omega)]; exact hq, ?_, ?_, ?_, ?_, ?_, Nat.le_trans h.hB hs⟩, ?_⟩
  · refine h.li.keep (fun g hg h1 => ?_)
    exact ⟨kk g hg (by omega) (by omega) (by omega) (kl g (by omega)), old g (by omega)⟩
  · refine h.ls.push o' m' (fun g hg => ?_) (fun g hg => ?_) (hf.keep (fun g hg _ => ⟨?_, rfl⟩)) (fun g hg h1 => ?_)
    · by_cases hz : g < w.heap.size
      · rw [old g (by have := a1 g hz hg; omega)]; exact a1 g hz hg
      · unfold labP
        rw [if_neg (fun e => by have := (hb g e).2.2; omega), if_pos hg]
    · by_cases hz : g < w.heap.size
      · rw [old g (by have := a2 g hz hg; omega)]; exact a2 g hz hg
      · unfold labP
        rw [if_neg (fun e => by have := (hb g e).2.2; omega), if_neg (fun e => ne g e hg), if_pos hg]
    · unfold labP
      rw [if_pos hg]
    · exact ⟨kk g hg (by omega) (by omega) (by omega) (kl g (by omega)), by rw [old g (by omega)]; exact h1⟩
  · refine h.lc.keep (fun g hg h1 => ?_)
    exact ⟨kk g hg (by omega) (by omega) (by omega) (kl g (by omega)), old g (by omega)⟩
  · refine h.lm.keep (fun g hg h1 => ?_)
    exact ⟨kk g hg (by omega) (by omega) (by omega) (kl g (by omega)), old g (by omega)⟩
  · intro g hg
    by_cases h0 : lab g = 0
    · unfold labP at hg
      by_cases h1 : all.ownBlock = some g
      · have := hb g h1; omega
      by_cases h2 : v1.ownBlock = some g
      · exact o'.lt g h2
      by_cases h3 : v2.ownBlock = some g
      · exact m'.lt g h3
      rw [if_neg h1, if_neg h2, if_neg h3] at hg
      exact absurd h0 hg
    · have := h.hz g h0; omega
  · intro g hg h0 h1
    exact ⟨kk g hg (by omega) (by omega) (by omega) h1, labP_none h0 (by omega) h1 (a1 g hg) (a2 g hg)⟩
theorem KS.pushC {w wF : World} {B q : Nat} {lab : Nat → Nat} {V : KV} {Is Ss Cs Ms : List (Value × Int)} (h : KS w B q lab V Is Ss Cs Ms) {all v1 v2 : Value} {m : Int}
    (hrow : wF.heap[q]? = some (.cells { V with mark := m, vC := v1, vD := v2 : KV }.row 58))
    (o' : wF.ownsRow B 70 1 v1 (Cs.length + 1) (Cs.map (fun e => e.1) ++ [all])) (m' : wF.ownsRow B 3 1 v2 (Cs.length + 1) (Cs.map (fun e => Value.int .i64 e.2) ++ [.int .i64 m]))
    (av : ∀ g, v1.ownBlock = some g → V.vC.ownBlock = some g ∨ w.heap.size ≤ g) (am : ∀ g, v2.ownBlock = some g → V.vD.ownBlock = some g ∨ w.heap.size ≤ g) (ne : ∀ g, v1.ownBlock = some g → v2.ownBlock ≠ some g)
    (hb : ∀ g, all.ownBlock = some g → lab g = 0 ∧ B ≤ g ∧ g < w.heap.size) (hf : Full wF (fun g => all.ownBlock = some g) 100 (patC m) all) (hs : w.heap.size ≤ wF.heap.size)
    (hk : ∀ g, g < w.heap.size → g ≠ q → all.ownBlock ≠ some g → V.vC.ownBlock ≠ some g → V.vD.ownBlock ≠ some g → wF.heap[g]? = w.heap[g]?) :
    KS wF B q (labP lab 6 all.ownBlock v1.ownBlock v2.ownBlock) { V with mark := m, vC := v1, vD := v2 } Is Ss (Cs ++ [(all, m)]) Ms ∧ ∀ g, g < w.heap.size → lab g = 0 → all.ownBlock ≠ some g → wF.heap[g]? = w.heap[g]? ∧ labP lab 6 all.ownBlock v1.ownBlock v2.ownBlock g = 0 := by
  have lo := h.lc.lo
  have lm := h.lc.lm
  have hq := h.lq
  have lbig : ∀ g, w.heap.size ≤ g → lab g = 0 := fun g hg => by
    by_cases h0 : lab g = 0
    · exact h0
    · have := (h.hz g h0).2; omega
  have a1 : ∀ g, g < w.heap.size → v1.ownBlock = some g → lab g = 6 := fun g hg hh => by
    rcases av g hh with h' | h'
    · exact lo g h'
    · omega
  have a2 : ∀ g, g < w.heap.size → v2.ownBlock = some g → lab g = 6 + 1 := fun g hg hh => by
    rcases am g hh with h' | h'
    · exact lm g h'
    · omega
  have old : ∀ g, lab g ≠ 0 → labP lab 6 all.ownBlock v1.ownBlock v2.ownBlock g = lab g := fun g hg => labP_old hg (fun e => (hb g e).1) (a1 g (h.hz g hg).2) (a2 g (h.hz g hg).2)
  have kk : ∀ g, g < w.heap.size → lab g ≠ 10 → lab g ≠ 6 → lab g ≠ 6 + 1 → all.ownBlock ≠ some g → wF.heap[g]? = w.heap[g]? := fun g hg h1 h2 h3 h4 => hk g hg (fun e => h1 (by rw [e]; exact hq)) h4 (fun e => h2 (lo g e)) (fun e => h3 (lm g e))
  have kl : ∀ g, lab g ≠ 0 → all.ownBlock ≠ some g := fun g hg e => hg (hb g e).1
  refine ⟨⟨hrow, by rw [old q (by omega)]; exact hq, ?_, ?_, ?_, ?_, ?_, Nat.le_trans h.hB hs⟩, ?_⟩
  · refine h.li.keep (fun g hg h1 => ?_)
    exact ⟨kk g hg (by omega) (by omega) (by omega) (kl g (by omega)), old g (by omega)⟩
  · refine h.ls.keep (fun g hg h1 => ?_)
    exact ⟨kk g hg (by omega) (by omega) (by omega) (kl g (by omega)), old g (by omega)⟩
  · refine h.lc.push o' m' (fun g hg => ?_) (fun g hg => ?_) (hf.keep (fun g hg _ => ⟨?_, rfl⟩)) (fun g hg h1 => ?_)
    · by_cases hz : g < w.heap.size
      · rw [old g (by have := a1 g hz hg; omega)]; exact a1 g hz hg
      · unfold labP
        rw [if_neg (fun e => by have := (hb g e).2.2; omega), if_pos hg]
    · by_cases hz : g < w.heap.size
      · rw [old g (by have := a2 g hz hg; omega)]; exact a2 g hz hg
      · unfold labP
        rw [if_neg (fun e => by have := (hb g e).2.2; omega), if_neg (fun e => ne g e hg), if_pos hg]
    · unfold labP
      rw [if_pos hg]
    · exact ⟨kk g hg (by omega) (by omega) (by omega) (kl g (by omega)), by rw [old g (by omega)]; exact h1⟩
  · refine h.lm.keep (fun g hg h1 => ?_)
    exact ⟨kk g hg (by omega) (by omega) (by omega) (kl g (by omega)), old g (by omega)⟩
  · intro g hg
    by_cases h0 : lab g = 0
    · unfold labP at hg
      by_cases h1 : all.ownBlock = some g
      · have := hb g h1; omega
      by_cases h2 : v1.ownBlock = some g
      · exact o'.lt g h2
      by_cases h3 : v2.ownBlock = some g
      · exact m'.lt g h3
      rw [if_neg h1, if_neg h2, if_neg h3] at hg
      exact absurd h0 hg
    · have := h.hz g h0; omega
  · intro g hg h0 h1
    exact ⟨kk g hg (by omega) (by omega) (by omega) h1, labP_none h0 (by omega) h1 (a1 g hg) (a2 g hg)⟩
theorem KS.pushM {w wF : World} {B q : Nat} {lab : Nat → Nat} {V : KV} {Is Ss Cs Ms : List (Value × Int)} (h : KS w B q lab V Is Ss Cs Ms) {all v1 v2 : Value} {m : Int}
    (hrow : wF.heap[q]? = some (.cells { V with mark := m, vM := v1, vN := v2 : KV }.row 58))
    (o' : wF.ownsRow B 76 1 v1 (Ms.length + 1) (Ms.map (fun e => e.1) ++ [all])) (m' : wF.ownsRow B 3 1 v2 (Ms.length + 1) (Ms.map (fun e => Value.int .i64 e.2) ++ [.int .i64 m]))
    (av : ∀ g, v1.ownBlock = some g → V.vM.ownBlock = some g ∨ w.heap.size ≤ g) (am : ∀ g, v2.ownBlock = some g → V.vN.ownBlock = some g ∨ w.heap.size ≤ g) (ne : ∀ g, v1.ownBlock = some g → v2.ownBlock ≠ some g)
    (hb : ∀ g, all.ownBlock = some g → lab g = 0 ∧ B ≤ g ∧ g < w.heap.size) (hf : Full wF (fun g => all.ownBlock = some g) 102 (patM m) all) (hs : w.heap.size ≤ wF.heap.size)
    (hk : ∀ g, g < w.heap.size → g ≠ q → all.ownBlock ≠ some g → V.vM.ownBlock ≠ some g → V.vN.ownBlock ≠ some g → wF.heap[g]? = w.heap[g]?) :
    KS wF B q (labP lab 8 all.ownBlock v1.ownBlock v2.ownBlock) { V with mark := m, vM := v1, vN := v2 } Is Ss Cs (Ms ++ [(all, m)]) ∧ ∀ g, g < w.heap.size → lab g = 0 → all.ownBlock ≠ some g → wF.heap[g]? = w.heap[g]? ∧ labP lab 8 all.ownBlock v1.ownBlock v2.ownBlock g = 0 := by
  have lo := h.lm.lo
  have lm := h.lm.lm
  have hq := h.lq
  have lbig : ∀ g, w.heap.size ≤ g → lab g = 0 := fun g hg => by
    by_cases h0 : lab g = 0
    · exact h0
    · have := (h.hz g h0).2; omega
  have a1 : ∀ g, g < w.heap.size → v1.ownBlock = some g → lab g = 8 := fun g hg hh => by
    rcases av g hh with h' | h'
    · exact lo g h'
    · omega
  have a2 : ∀ g, g < w.heap.size → v2.ownBlock = some g → lab g = 8 + 1 := fun g hg hh => by
    rcases am g hh with h' | h'
    · exact lm g h'
    · omega
  have old : ∀ g, lab g ≠ 0 → labP lab 8 all.ownBlock v1.ownBlock v2.ownBlock g = lab g := fun g hg => labP_old hg (fun e => (hb g e).1) (a1 g (h.hz g hg).2) (a2 g (h.hz g hg).2)
  have kk : ∀ g, g < w.heap.size → lab g ≠ 10 → lab g ≠ 8 → lab g ≠ 8 + 1 → all.ownBlock ≠ some g → wF.heap[g]? = w.heap[g]? := fun g hg h1 h2 h3 h4 => hk g hg (fun e => h1 (by rw [e]; exact hq)) h4 (fun e => h2 (lo g e)) (fun e => h3 (lm g e))
  have kl : ∀ g, lab g ≠ 0 → all.ownBlock ≠ some g := fun g hg e => hg (hb g e).1
  refine ⟨⟨hrow, by rw [old q (by omega)]; exact hq, ?_, ?_, ?_, ?_, ?_, Nat.le_trans h.hB hs⟩, ?_⟩
  · refine h.li.keep (fun g hg h1 => ?_)
    exact ⟨kk g hg (by omega) (by omega) (by omega) (kl g (by omega)), old g (by omega)⟩
  · refine h.ls.keep (fun g hg h1 => ?_)
    exact ⟨kk g hg (by omega) (by omega) (by omega) (kl g (by omega)), old g (by omega)⟩
  · refine h.lc.keep (fun g hg h1 => ?_)
    exact ⟨kk g hg (by omega) (by omega) (by omega) (kl g (by omega)), old g (by omega)⟩
  · refine h.lm.push o' m' (fun g hg => ?_) (fun g hg => ?_) (hf.keep (fun g hg _ => ⟨?_, rfl⟩)) (fun g hg h1 => ?_)
    · by_cases hz : g < w.heap.size
      · rw [old g (by have := a1 g hz hg; omega)]; exact a1 g hz hg
      · unfold labP
        rw [if_neg (fun e => by have := (hb g e).2.2; omega), if_pos hg]
    · by_cases hz : g < w.heap.size
      · rw [old g (by have := a2 g hz hg; omega)]; exact a2 g hz hg
      · unfold labP
        rw [if_neg (fun e => by have := (hb g e).2.2; omega), if_neg (fun e => ne g e hg), if_pos hg]
    · unfold labP
      rw [if_pos hg]
    · exact ⟨kk g hg (by omega) (by omega) (by omega) (kl g (by omega)), by rw [old g (by omega)]; exact h1⟩
  · intro g hg
    by_cases h0 : lab g = 0
    · unfold labP at hg
      by_cases h1 : all.ownBlock = some g
      · have := hb g h1; omega
      by_cases h2 : v1.ownBlock = some g
      · exact o'.lt g h2
      by_cases h3 : v2.ownBlock = some g
      · exact m'.lt g h3
      rw [if_neg h1, if_neg h2, if_neg h3] at hg
      exact absurd h0 hg
    · have := h.hz g h0; omega
  · intro g hg h0 h1
    exact ⟨kk g hg (by omega) (by omega) (by omega) h1, labP_none h0 (by omega) h1 (a1 g hg) (a2 g hg)⟩
structure KM (E : Env) (B : Nat) (w : World) (q : Nat) (lab : Nat → Nat) (V : KV) (K : PK) (R : RK) (F G : Nat → Prop) (s : MS) (Is Ss Cs Ms : List (Value × Int)) : Prop where
  lw : LW E w q V.row K R F G s
  ks : KS w B q lab V Is Ss Cs Ms
  fl : ∀ k, F k → lab k = 0
  gl : ∀ k, G k → lab k = 0
  fB : ∀ k, F k → B ≤ k
  gB : ∀ k, G k → B ≤ k
  mark : V.mark = -1000 - ((Is.length + Ss.length + Cs.length + Ms.length : Nat) : Int)
theorem KM.below {E : Env} {B : Nat} {w w' : World} {q : Nat} {lab : Nat → Nat} {V : KV} {K : PK} {R : RK} {F G : Nat → Prop} {s : MS} {Is Ss Cs Ms : List (Value × Int)} (h : KM E B w q lab V K R F G s Is Ss Cs Ms) (hb : Below w.heap.size w w') : KM E B w' q lab V K R F G s Is Ss Cs Ms :=
  ⟨h.lw.keep hb, h.ks.below hb, h.fl, h.gl, h.fB, h.gB, h.mark⟩
/-- What a keeping leaves: KS is what is kept now. -/
structure KeptBy (w : World) (B : Nat) (lab lab' : Nat → Nat) (V V' : KV) (b : Option Nat) (w' : World) : Prop where
  a0 : V'.a0 = V.a0
  a1 : V'.a1 = V.a1
  a2 : V'.a2 = V.a2
  mark : V'.mark = V.mark - 1
  rest : ∀ g, g < w.heap.size → lab g = 0 → b ≠ some g → w'.heap[g]? = w.heap[g]? ∧ lab' g = 0
  bel : Below B w w'
theorem KM.kept {E : Env} {B : Nat} {w w' : World} {q : Nat} {lab lab' : Nat → Nat} {V V' : KV} {K : PK} {R : RK} {F G : Nat → Prop} {s : MS} {Is Ss Cs Ms Is' Ss' Cs' Ms' : List (Value × Int)} (h : KM E B w q lab V K R F G s Is Ss Cs Ms) {b : Option Nat} (hk : KeptBy w B lab lab' V V' b w') (hs : KS w' B q lab' V' Is' Ss' Cs' Ms')
    (hb : ∀ g, b = some g → ¬ F g ∧ ¬ G g) (hl : Is'.length + Ss'.length + Cs'.length + Ms'.length = Is.length + Ss.length + Cs.length + Ms.length + 1) : KM E B w' q lab' V' K R F G s Is' Ss' Cs' Ms' := by
  have kF : ∀ k, F k → w'.heap[k]? = w.heap[k]? ∧ lab' k = 0 := fun k hf => hk.rest k (h.lw.fz k hf) (h.fl k hf) (fun e => (hb k e).1 hf)
  have kG : ∀ k, G k → w'.heap[k]? = w.heap[k]? ∧ lab' k = 0 := fun k hf => hk.rest k (h.lw.gz k hf) (h.gl k hf) (fun e => (hb k e).2 hf)
  have hz := hk.bel.size
  have r0 := h.lw.r0
  have r1 := h.lw.r1
  refine ⟨⟨hs.row, ?_, ?_, h.lw.pm.keep hz (fun k _ hf => (kF k hf).1), h.lw.rm.keep hz (fun k _ hf => (kG k hf).1), h.lw.ke, h.lw.re, h.lw.fg, h.lw.fq, h.lw.gq, fun k hf => Nat.lt_of_lt_of_le (h.lw.fz k hf) hz, fun k hf => Nat.lt_of_lt_of_le (h.lw.gz k hf) hz, h.lw.inv, h.lw.ok⟩, hs, fun k hf => (kF k hf).2, fun k hf => (kG k hf).2, h.fB, h.gB, ?_⟩
  · show some V'.a0 = _
    rw [hk.a0]
    exact r0
  · show some V'.a1 = _
    rw [hk.a1]
    exact r1
  · rw [hk.mark, h.mark, hl]
    omega
/-- Nothing but the law's world and one list was written. -/
structure Fill (w w' : World) (q : Nat) (r : Array Value) (b : Option Addr) : Prop where
  row : w'.heap[q]? = some (.cells r 58)
  size : w'.heap.size = w.heap.size
  os : w'.os = w.os
  tape : w'.tape = w.tape
  output : w'.output = w.output
  rest : ∀ k, k ≠ q → b ≠ some ⟨k, 0, none⟩ → w'.heap[k]? = w.heap[k]?
theorem Fill.start {w : World} {q : Nat} {V : KV} (h : w.heap[q]? = some (.cells V.row 58)) (m : Int) (b : Option Addr) : Fill w (w.setCell ⟨q, 3, none⟩ (.int .i64 m)) q { V with mark := m : KV }.row b := by
  have ho : Only q w (w.setCell ⟨q, 3, none⟩ (.int .i64 m)) := (Only.refl _ _).set _ _
  exact ⟨setCell_row 3 (.int .i64 m) h, ho.size, ho.os, ho.tape, ho.output, fun k hk _ => ho.block k hk⟩
theorem Fill.only {w w' w'' : World} {q g : Nat} {r : Array Value} (h : Fill w w' q r (some ⟨g, 0, none⟩)) (ho : Only g w' w'') (hne : q ≠ g) : Fill w w'' q r (some ⟨g, 0, none⟩) :=
  ⟨(ho.block q hne).trans h.row, ho.size.trans h.size, ho.os.trans h.os, ho.tape.trans h.tape, ho.output.trans h.output, fun k h1 h2 => (ho.block k (fun e => h2 (by rw [e]))).trans (h.rest k h1 h2)⟩
/-- How far a list is written full with cs. -/
def UptoF (t : TypeId) (n : Nat) (cs : List Value) (w : World) (p : Option Addr) (cap j : Nat) : Prop := ∀ g, p = some ⟨g, 0, none⟩ → ∃ r : Array Value, w.heap[g]? = some (.cells r t) ∧ r.size = cap * n ∧ ∀ (i c : Nat) (x : Value), i < j → cs[c]? = some x → r[i * n + c]? = some x
theorem UptoF.start {w w' : World} {P : Nat → Prop} {t : TypeId} {n cap m : Nat} {cs : List Value} {p : Option Addr} (h : Box w P t n (.slice p m cap) cap) (hk : ∀ g, P g → w'.heap[g]? = w.heap[g]?) : UptoF t n cs w' p cap 0 := by
  intro g hg
  rcases h with ⟨h1, _⟩ | ⟨g', n', r, h1, h2, h3, _, _, h4⟩
  · cases h1
    cases hg
  · cases h1
    cases hg
    exact ⟨r, (hk _ h2).trans h3, h4, fun i c x hi => by omega⟩
theorem upto_next {n j : Nat} {cs : List Value} {r r' : Array Value} (hn : cs.length = n) (h : ∀ (i c : Nat) (x : Value), i < j → cs[c]? = some x → r[i * n + c]? = some x) (h1 : ∀ o, o < j * n → r'[o]? = r[o]?) (h2 : ∀ (c : Nat) (x : Value), cs[c]? = some x → r'[j * n + c]? = some x) :
    ∀ (i c : Nat) (x : Value), i < j + 1 → cs[c]? = some x → r'[i * n + c]? = some x := by
  intro i c x hi hx
  have hc := (List.getElem?_eq_some_iff.1 hx).1
  rcases Nat.lt_or_ge i j with hlt | hge
  · rw [h1 _ (by
      have : (i + 1) * n ≤ j * n := Nat.mul_le_mul_right n (by omega)
      rw [Nat.add_mul] at this
      omega)]
    exact h i c x hlt hx
  · obtain rfl : i = j := by omega
    exact h2 c x hx
theorem UptoF.full {w : World} {t : TypeId} {n cap m : Nat} {cs : List Value} {p : Option Addr} {w0 : World} {P : Nat → Prop} (hb : Box w0 P t n (.slice p m cap) cap) (hn : cs.length = n) (h : UptoF t n cs w p cap cap) : Full w (fun g => (Value.slice p cap cap).ownBlock = some g) t cs (.slice p cap cap) := by
  rcases hb with ⟨h1, h0⟩ | ⟨g', n', r, h1, h2, h3, _, hm, h4⟩
  · cases h1
    exact .inl rfl
  · cases h1
    obtain ⟨r', e1, e2, e3⟩ := h g' rfl
    refine .inr ⟨g', cap, r', rfl, rfl, e1, hm, ?_⟩
    rw [hn]
    exact e3
theorem keep_a {w wr w6 : World} {q : Nat} {r1 : Array Value} {p : Option Addr} {v : Value} {o1 : Obj} (hF : Fill w wr q r1 p) (g6 : (wr.alloc o1).grownBy w6 v.ownBlock) {g : Nat} (hg : g < w.heap.size) (hv : v.ownBlock ≠ some g) : w6.heap[g]? = wr.heap[g]? := by
  have hz := hF.size
  exact (g6.block g (by rw [alloc_size]; omega) (fun e => hv e.symm)).trans (Below.heap_alloc _ _ _ (by omega))
theorem keep_b {w6 w8 : World} {q f1 : Nat} {vm v1 : Value} {o2 : Obj} (g8 : ((w6.setCell ⟨q, f1, none⟩ v1).alloc o2).grownBy w8 vm.ownBlock) {g : Nat} (hg : g < w6.heap.size) (hq : g ≠ q) (hv : vm.ownBlock ≠ some g) : w8.heap[g]? = w6.heap[g]? := by
  have ho : Only q w6 (w6.setCell ⟨q, f1, none⟩ v1) := (Only.refl _ _).set _ _
  have hz := ho.size
  exact ((g8.block g (by rw [alloc_size]; omega) (fun e => hv e.symm)).trans (Below.heap_alloc _ _ _ (by omega))).trans (ho.block g hq)
theorem keep_row {w wr w6 w8 : World} {q f1 : Nat} {r1 : Array Value} {p : Option Addr} {v vm v1 : Value} {o1 o2 : Obj} (hqz : q < w.heap.size) (hF : Fill w wr q r1 p) (g6 : (wr.alloc o1).grownBy w6 v.ownBlock) (g8 : ((w6.setCell ⟨q, f1, none⟩ v1).alloc o2).grownBy w8 vm.ownBlock) (h1 : v.ownBlock ≠ some q) (h2 : vm.ownBlock ≠ some q) : w8.heap[q]? = some (.cells (r1.setIfInBounds f1 v1) 58) := by
  have r6 : w6.heap[q]? = some (.cells r1 58) := (keep_a hF g6 hqz h1).trans hF.row
  have hz6 := g6.size
  have hz := hF.size
  rw [alloc_size] at hz6
  have ho : Only q w6 (w6.setCell ⟨q, f1, none⟩ v1) := (Only.refl _ _).set _ _
  have hzo := ho.size
  exact ((g8.block q (by rw [alloc_size]; omega) (fun e => h2 e.symm)).trans (Below.heap_alloc _ _ _ (by omega))).trans (setCell_row f1 v1 r6)
/-- All that a keeping leaves. -/
theorem keep_end {w wr w6 w8 : World} {B q f1 f2 a L : Nat} {lab : Nat → Nat} {r1 : Array Value} {p : Option Addr} {te : TypeId} {v vm v1 v2 : Value} {es1 es2 : List Value} {o1 o2 : Obj} (hlq : lab q = 10) (hqz : q < w.heap.size) (hF : Fill w wr q r1 p)
    (hlo : ∀ g, v.ownBlock = some g → lab g = a ∧ g < w.heap.size) (hlm : ∀ g, vm.ownBlock = some g → lab g = a + 1 ∧ g < w.heap.size) (ha : a ≤ 8)
    (o6 : w6.ownsRow B te 1 v1 (L + 1) es1) (g6 : (wr.alloc o1).grownBy w6 v.ownBlock) (at6 : ∀ g, v1.ownBlock = some g → v.ownBlock = some g ∨ g = wr.heap.size + 1)
    (o8 : w8.ownsRow B 3 1 v2 (L + 1) es2) (g8 : ((w6.setCell ⟨q, f1, none⟩ v1).alloc o2).grownBy w8 vm.ownBlock) (at8 : ∀ g, v2.ownBlock = some g → vm.ownBlock = some g ∨ g = w6.heap.size + 1) :
    (w8.setCell ⟨q, f2, none⟩ v2).heap[q]? = some (.cells ((r1.setIfInBounds f1 v1).setIfInBounds f2 v2) 58) ∧ (w8.setCell ⟨q, f2, none⟩ v2).ownsRow B te 1 v1 (L + 1) es1 ∧ (w8.setCell ⟨q, f2, none⟩ v2).ownsRow B 3 1 v2 (L + 1) es2 ∧
    (∀ g, v1.ownBlock = some g → v.ownBlock = some g ∨ w.heap.size ≤ g) ∧ (∀ g, v2.ownBlock = some g → vm.ownBlock = some g ∨ w.heap.size ≤ g) ∧ (∀ g, v1.ownBlock = some g → v2.ownBlock ≠ some g) ∧ w.heap.size ≤ (w8.setCell ⟨q, f2, none⟩ v2).heap.size ∧
    (∀ g, g < w.heap.size → g ≠ q → v.ownBlock ≠ some g → vm.ownBlock ≠ some g → (w8.setCell ⟨q, f2, none⟩ v2).heap[g]? = wr.heap[g]?) ∧
    (w8.setCell ⟨q, f2, none⟩ v2).os = w.os ∧ (w8.setCell ⟨q, f2, none⟩ v2).tape = w.tape ∧ (w8.setCell ⟨q, f2, none⟩ v2).output = w.output := by
  have hz := hF.size
  have hz6 := g6.size
  rw [alloc_size] at hz6
  have ho6 : Only q w6 (w6.setCell ⟨q, f1, none⟩ v1) := (Only.refl _ _).set _ _
  have hzo := ho6.size
  have hz8 := g8.size
  rw [alloc_size, hzo] at hz8
  have ho8 : Only q w8 (w8.setCell ⟨q, f2, none⟩ v2) := (Only.refl _ _).set _ _
  have hz9 := ho8.size
  have nv : v.ownBlock ≠ some q := fun e => by have := (hlo q e).1; omega
  have nm : vm.ownBlock ≠ some q := fun e => by have := (hlm q e).1; omega
  have q1 : ∀ g, v1.ownBlock = some g → g ≠ q ∧ vm.ownBlock ≠ some g := fun g hg => by
    rcases at6 g hg with h | h
    · exact ⟨fun e => nv (e ▸ h), fun e => by have h1 := (hlo g h).1; have h2 := (hlm g e).1; omega⟩
    · exact ⟨by omega, fun e => by have := (hlm g e).2; omega⟩
  have q2 : ∀ g, v2.ownBlock = some g → g ≠ q := fun g hg => by
    rcases at8 g hg with h | h
    · exact fun e => nm (e ▸ h)
    · omega
  refine ⟨setCell_row f2 v2 (keep_row hqz hF g6 g8 nv nm), owns_keep o6 (fun g hg => ?_), owns_keep o8 (fun g hg => ho8.block g (q2 g hg)), ?_, ?_, ?_, by omega, ?_, ?_, ?_, ?_⟩
  · exact (ho8.block g (q1 g hg).1).trans (keep_b g8 (o6.lt g hg).2 (q1 g hg).1 (q1 g hg).2)
  · intro g hg
    rcases at6 g hg with h | h
    · exact .inl h
    · exact .inr (by omega)
  · intro g hg
    rcases at8 g hg with h | h
    · exact .inl h
    · exact .inr (by omega)
  · intro g h1 h2
    rcases at8 g h2 with h | h
    · exact (q1 g h1).2 h
    · have := (o6.lt g h1).2
      omega
  · intro g h1 h2 h3 h4
    exact ((ho8.block g h2).trans (keep_b g8 (by omega) h2 h4)).trans (keep_a hF g6 h1 h3)
  · exact ho8.os.trans (g8.os.trans (ho6.os.trans (g6.os.trans hF.os)))
  · exact ho8.tape.trans (g8.tape.trans (ho6.tape.trans (g6.tape.trans hF.tape)))
  · exact ho8.output.trans (g8.output.trans (ho6.output.trans (g6.output.trans hF.output)))
theorem sliceInfoI : (Tryz.prog.info? 22).map (fun i => (i.zero, i.size, i.bytes)) = some (some (.slice none 0 0), 1, 24) := by kernel_rfl
theorem putRI {cap j : Nat} {m : Int} {r : Array Value} (hz : r.size = cap * 1) (hj : j < cap) (h : ∀ (i c : Nat) (x : Value), i < j → (patI m)[c]? = some x → r[i * 1 + c]? = some x) :
    ∀ (i c : Nat) (x : Value), i < j + 1 → (patI m)[c]? = some x → (r.setIfInBounds (j) (.int .i64 (m)))[i * 1 + c]? = some x := by
  refine upto_next rfl h (fun o ho => ?_) (fun c x hx => ?_)
  · simp only [Array.getElem?_setIfInBounds]
    repeat rw [if_neg (by omega)]
  · have hc := (List.getElem?_eq_some_iff.1 hx).1
    simp only [patI, List.length_cons, List.length_nil] at hc
    simp only [Array.getElem?_setIfInBounds]
    have hcc : c = 0 := by omega
    rcases hcc with rfl
    all_goals
      simp only [patI, List.getElem?_cons_zero, Option.some.injEq] at hx
      subst hx
      repeat (first | rw [if_pos (by omega), if_pos (by omega)] | rw [if_neg (by omega)])
theorem keepInts_any {w : World} {B q : Nat} {lab : Nat → Nat} {V : KV} {Is Ss Cs Ms : List (Value × Int)} (h : KS w B q lab V Is Ss Cs Ms) {v : Value} {cap : Nat} (hv : Box w (fun g => B ≤ g ∧ lab g = 0) 3 1 v cap) (hl : Is.length ≤ 1000000000) (hm1 : -4611686018427387904 ≤ V.mark) (hm2 : V.mark ≤ 0) :
    Calls Tryz.prog 68 #[.pointer (some ⟨q, 0, none⟩), v] w fun e w' => e = .returned (.tuple #[]) ∧ ∃ p lab' V', KeptBy w B lab lab' V V' v.ownBlock w' ∧ KS w' B q lab' V' (Is ++ [(.slice p cap cap, V.mark - 1)]) Ss Cs Ms := by
  obtain ⟨i0, hi0, hz0, hz1, hz2⟩ := info_parts sliceInfoI
  obtain ⟨i1, hi1, hy0, hy1, hy2⟩ := info_parts intInfo
  have HK := hid h
  have hqz := (Array.getElem?_eq_some_iff.1 h.row).1
  obtain ⟨p1, c1, e1⟩ := owns_slice h.li.o
  obtain ⟨p2, c2, e2⟩ := owns_slice h.li.m
  have h3 : w.cell? ⟨q, 3, none⟩ = some (.int .i64 V.mark) := (cell_of_row w q 3 _ _ _ h.row).trans rfl
  have g3 := frozen_of_row w q 3 _ _ h.row
  have hbq : ∀ g, B ≤ g ∧ lab g = 0 → g ≠ q := fun g hg e => by
    have := h.lq
    rw [e] at hg
    omega
  obtain ⟨p, n, ep, hnc, hcm⟩ : ∃ (p : Option Addr) (n : Nat), v = .slice p n cap ∧ n ≤ cap ∧ cap ≤ maxLen := by
    rcases hv with ⟨h1, h2⟩ | ⟨g, n, r, h1, _, _, h2, h3, _⟩
    · exact ⟨none, 0, by rw [h1, h2], by omega, by unfold maxLen; omega⟩
    · exact ⟨_, n, h1, h2, h3⟩
  subst ep
  have hmx : maxLen = 9223372036854775807 := rfl
  rw [hmx] at hcm
  have HV := hid hv
  have HS : Hid (Fill w (w.setCell ⟨q, 3, none⟩ (.int .i64 (V.mark - 1))) q { V with mark := V.mark - 1 : KV }.row p) := hid (Fill.start h.row _ _)
  have HU : Hid (UptoF 3 1 (patI (V.mark - 1)) (w.setCell ⟨q, 3, none⟩ (.int .i64 (V.mark - 1))) p cap 0) := hid (UptoF.start hv (fun g hg => by
    have ho : Only q w (w.setCell ⟨q, 3, none⟩ (.int .i64 (V.mark - 1))) := (Only.refl _ _).set _ _
    exact ho.block g (hbq g hg)))
  have HQ : Hid (∀ g, p = some ⟨g, 0, none⟩ → g ≠ q ∧ B ≤ g ∧ lab g = 0 ∧ g < w.heap.size) := hid (fun g hg => by
    rcases hv with ⟨h1, _⟩ | ⟨g', n', r, h1, h2, h3, _⟩
    · rw [hg] at h1; cases h1
    · rw [hg] at h1
      cases h1
      exact ⟨hbq _ h2, h2.1, h2.2, (Array.getElem?_eq_some_iff.1 h3).1⟩)
  have HP : Hid (0 < cap → ∃ g, p = some ⟨g, 0, none⟩) := hid (fun hc => by
    rcases hv with ⟨h1, h2⟩ | ⟨g', n', r, h1, _⟩
    · omega
    · cases h1
      exact ⟨g', rfl⟩)
  have HE1 := hid e1
  have HE2 := hid e2
  clear h hv hmx hbq e1 e2
  go_enter Tryz.func68, Tryz.ntmps68
  go_wp2_with fail
  clear h3 g3
  go_loopg [5] cap (fun gk x w' => ∃ j : Nat, j ≤ cap ∧ gk = cap - j ∧ x = .int .i64 j ∧ Fill w w' q { V with mark := V.mark - 1 : KV }.row p ∧ UptoF 3 1 (patI (V.mark - 1)) w' p cap j)
  case atStart => exact ⟨0, by omega, by omega, rfl, HS.out, HU.out⟩
  case round =>
    obtain ⟨j, hj, hgk, rfl, hF, hU⟩ := hrel
    have k3 : wr.cell? ⟨q, 3, none⟩ = some (.int .i64 (V.mark - 1)) := (cell_of_row wr q 3 _ _ _ hF.row).trans rfl
    have HF := hid hF
    have hsz := hF.size
    rcases Nat.lt_or_ge j cap with hlt | hge
    · have d0 : (0 : Int) ≤ (j : Int) := by omega
      have d1 : (j : Int) < (cap : Int) := by omega
      have d2 : (j : Int) + 1 ≤ 9223372036854775807 := by omega
      obtain ⟨g, rfl⟩ := HP.out (by omega)
      obtain ⟨r5, hr5, hz5, hu5⟩ := hU g rfl
      obtain ⟨hgq, _, _, hgz⟩ := HQ.out g rfl
      have x0 := cell_of_row wr g (j) _ _ _ hr5
      rw [Array.getElem?_eq_getElem (by omega)] at x0
      have f0 := frozen_of_row wr g (j) _ _ hr5
      have HF6 : Hid (Fill w (wr.setCell ⟨g, j, none⟩ (.int .i64 (V.mark - 1))) q { V with mark := V.mark - 1 : KV }.row (some ⟨g, 0, none⟩)) := hid (hF.only ((Only.refl _ _).set _ _) (fun e => hgq e.symm))
      have HU6 : Hid (UptoF 3 1 (patI (V.mark - 1)) (wr.setCell ⟨g, j, none⟩ (.int .i64 (V.mark - 1))) (some ⟨g, 0, none⟩) cap (j + 1)) := hid (fun g' hg' => by
        cases hg'
        exact ⟨_, (setCell_row (j) (.int .i64 (V.mark - 1)) hr5), by simpa using hz5, putRI hz5 hlt hu5⟩)
      have hgq' : q ≠ g := fun e => hgq e.symm
      generalize r5[j] = zz0 at *
      clear hF hU hr5 hu5 HF
      go_wp2_with fail
      go_roundg (cap - (j + 1))
      case measure => omega
      case rel => exact ⟨j + 1, by omega, rfl, by go_num, HF6.out, HU6.out⟩
    · have d1 : ¬ (j : Int) < (cap : Int) := by omega
      obtain rfl : j = cap := by omega
      have k4 : wr.cell? ⟨q, 4, none⟩ = some V.vI := (cell_of_row wr q 4 _ _ _ hF.row).trans rfl
      rw [HE1.out] at k4
      have HFU := hid (UptoF.full HV.out rfl hU)
      have HSZ := hid hsz
      have hlo : ∀ g, (Value.slice p1 Is.length c1).ownBlock = some g → lab g = 2 ∧ g < w.heap.size := fun g hg => by
        rw [← HE1.out] at hg
        exact ⟨HK.out.li.lo g hg, (HK.out.li.o.lt g hg).2⟩
      have hlm : ∀ g, (Value.slice p2 Is.length c2).ownBlock = some g → lab g = 2 + 1 ∧ g < w.heap.size := fun g hg => by
        rw [← HE2.out] at hg
        exact ⟨HK.out.li.lm g hg, (HK.out.li.m.lt g hg).2⟩
      have hlq := HK.out.lq
      have hpn : ∀ g, lab g ≠ 0 → p ≠ some ⟨g, 0, none⟩ := fun g hg e => hg (HQ.out g e).2.2.1
      have hBz := HK.out.hB
      have hoI : wr.ownsRow B 22 1 (.slice p1 Is.length c1) Is.length (Is.map (fun e => e.1)) := by
        have := HK.out.li.o
        rw [HE1.out] at this
        exact owns_keep this (fun g hg => hF.rest g (fun e => by have := (hlo g hg).1; rw [e] at this; omega) (hpn g (by have := (hlo g hg).1; omega)))
      have hoJ : wr.ownsRow B 3 1 (.slice p2 Is.length c2) Is.length (Is.map (fun e => Value.int .i64 e.2)) := by
        have := HK.out.li.m
        rw [HE2.out] at this
        exact owns_keep this (fun g hg => hF.rest g (fun e => by have := (hlm g hg).1; rw [e] at this; omega) (hpn g (by have := (hlm g hg).1; omega)))
      have HJ := hid hoJ
      have HLO := hid hlo
      have HLM := hid hlm
      have HPN := hid hpn
      have hBr : B ≤ wr.heap.size := by omega
      clear hF hU hsz hlo hlm hpn hoJ hlq
      generalize hES : Is.map (fun e => e.1) = ES at *
      have HES := hid hES
      clear hES
      go_wp2_with (at_builtin; go_must (refine wpList_append_lies _ (by rfl) _ _ _ (by rfl) B 22 i0 _ 1 24 Tryz.underlying53 hi0 hz0 hz1 hz2 rfl (by omega) _ Is.length ES (by rfl) (hoI.alloc _) ⟨wr.heap.size, 0, none⟩ 1 1 [.slice p j j] (by rfl) (by rfl) (World.news_of_block (cs := #[.slice p j j]) (t := 22) (fr := (0, 0)) (heap_alloc_new wr _)) (by simp [Value.oneCell']) (by omega) (by unfold maxLen; omega) (by omega) (by simp; omega) _ rfl ?_); intro gg gcap w6 hown6 hgrow6 hat6 hlt6; apply Hid.out)
      refine hid ?_
      have nv : (Value.slice p1 Is.length c1).ownBlock ≠ some q := fun e => by have := (HLO.out q e).1; have := HK.out.lq; omega
      have r6 := (keep_a HF.out hgrow6 hqz nv).trans HF.out.row
      have c6 : w6.cell? ⟨q, 4, none⟩ = some V.vI := (cell_of_row w6 q 4 _ _ _ r6).trans rfl
      have c6f := frozen_of_row w6 q 4 _ _ r6
      have ho6 : Only q w6 (w6.setCell ⟨q, 4, none⟩ (.slice (some ⟨gg, 0, none⟩) (Is.length + 1) gcap)) := (Only.refl _ _).set _ _
      have r7 := setCell_row 4 (.slice (some ⟨gg, 0, none⟩) (Is.length + 1) gcap) r6
      have c73 : (w6.setCell ⟨q, 4, none⟩ (.slice (some ⟨gg, 0, none⟩) (Is.length + 1) gcap)).cell? ⟨q, 3, none⟩ = some (.int .i64 (V.mark - 1)) := (cell_of_row _ q 3 _ _ _ r7).trans rfl
      have c75 : (w6.setCell ⟨q, 4, none⟩ (.slice (some ⟨gg, 0, none⟩) (Is.length + 1) gcap)).cell? ⟨q, 5, none⟩ = some V.vJ := (cell_of_row _ q 5 _ _ _ r7).trans rfl
      rw [HE2.out] at c75
      rw [HE1.out] at c6
      have hoJ7 : (w6.setCell ⟨q, 4, none⟩ (.slice (some ⟨gg, 0, none⟩) (Is.length + 1) gcap)).ownsRow B 3 1 (.slice p2 Is.length c2) Is.length (Is.map (fun e => Value.int .i64 e.2)) := owns_keep HJ.out (fun g hg => by
        have h1 := HLM.out g hg
        have h2 := HK.out.lq
        exact (ho6.block g (fun e => by rw [e] at h1; omega)).trans (keep_a HF.out hgrow6 h1.2 (fun e => by have := (HLO.out g e).1; omega)))
      have hz6 := hgrow6.size
      rw [alloc_size] at hz6
      have hz7 := ho6.size
      have HG6 := hid hgrow6
      have HO6 := hid hown6
      have HAT6 := hid hat6
      have HOO := hid ho6
      have HR7 := hid r7
      clear hgrow6 hown6 hat6 hoI r6 r7 ho6 hlt6
      have nm : (Value.slice p2 Is.length c2).ownBlock ≠ some q := fun e => by have := (HLM.out q e).1; have := HK.out.lq; omega
      have KR := hid (fun (w8 : World) (g8 : ((w6.setCell ⟨q, 4, none⟩ (.slice (some ⟨gg, 0, none⟩) (Is.length + 1) gcap)).alloc (.cells #[.int .i64 (V.mark - 1)] 3)).grownBy w8 (Value.slice p2 Is.length c2).ownBlock) => (⟨(cell_of_row w8 q 5 _ _ _ (keep_row hqz HF.out HG6.out g8 nv nm)).trans rfl, frozen_of_row w8 q 5 _ _ (keep_row hqz HF.out HG6.out g8 nv nm)⟩ : w8.cell? ⟨q, 5, none⟩ = some V.vJ ∧ w8.frozen? ⟨q, 5, none⟩ = false))
      rw [HE2.out] at KR
      have KE := hid (fun (w8 : World) (gg2 gcap2 : Nat) (hown8 : w8.ownsRow B 3 1 (.slice (some ⟨gg2, 0, none⟩) (Is.length + 1) gcap2) (Is.length + 1) (Is.map (fun e => Value.int .i64 e.2) ++ [.int .i64 (V.mark - 1)])) (g8 : ((w6.setCell ⟨q, 4, none⟩ (.slice (some ⟨gg, 0, none⟩) (Is.length + 1) gcap)).alloc (.cells #[.int .i64 (V.mark - 1)] 3)).grownBy w8 (Value.slice p2 Is.length c2).ownBlock) (hat8 : (Value.slice p2 Is.length c2).ownBlock = some gg2 ∨ gg2 = w6.heap.size + 1) => keep_end (f2 := 5) HK.out.lq hqz HF.out HLO.out HLM.out (by omega) HO6.out HG6.out (fun g hg => by
        simp only [Value.ownBlock, Option.some.injEq] at hg
        subst hg
        have := HAT6.out
        rw [alloc_size] at this
        exact this) hown8 g8 (fun g hg => by
        simp only [Value.ownBlock, Option.some.injEq] at hg
        subst hg
        exact hat8))
      obtain ⟨W7, hW7⟩ : ∃ W7, W7 = w6.setCell ⟨q, 4, none⟩ (.slice (some ⟨gg, 0, none⟩) (Is.length + 1) gcap) := ⟨_, rfl⟩
      rw [← hW7] at c73 c75 hoJ7 hz7 KR KE
      clear HOO HR7
      go_wp2_with fail
      rw [← hW7]
      clear hW7 c6 c6f
      have hqz7 : q < W7.heap.size := by have := HSZ.out; omega
      have hnew7 : (W7.alloc (.cells #[.int .i64 (V.mark - 1)] 3)).drew.heap[W7.heap.size]? = some (.cells #[.int .i64 (V.mark - 1)] 3) := heap_alloc_new _ _
      have a75 : (W7.alloc (.cells #[.int .i64 (V.mark - 1)] 3)).cell? ⟨q, 5, none⟩ = some (.slice p2 Is.length c2) := (World.cell?_alloc_past _ _ _ (by omega)).trans c75
      have hB7 : B ≤ W7.heap.size := by omega
      have HZ7 := hid hz7
      clear hz7
      go_region_law ((first | (refine step_append_lies _ (by rfl) _ _ _ (by rfl) B 3 i1 _ 1 8 Tryz.underlying22 hi1 hy0 hy1 hy2 rfl (by omega) _ Is.length (Is.map (fun e => Value.int .i64 e.2)) (by rfl) (hoJ7.alloc _).drew ⟨W7.heap.size, 0, none⟩ 1 1 [.int .i64 (V.mark - 1)] (by rfl) (by rfl) (World.news_of_block (cs := #[.int .i64 (V.mark - 1)]) (t := 3) (fr := (0, 0)) hnew7) (by simp [Value.oneCell']) (by omega) (by unfold maxLen; omega) (by omega) (by simp [World.drew]; omega) (W7.heap.size + 1) (by simp [World.drew]) ?_; intro gg2 gcap2 w8 hown8 hgrow8 hat8 hlt8; obtain ⟨c85, c8f⟩ := KR.out w8 ⟨hgrow8.os, hgrow8.tape, hgrow8.output, hgrow8.size, hgrow8.block⟩)))
      all_goals
        have FIN := hid (KE.out w8 gg2 gcap2 hown8 ⟨hgrow8.os, hgrow8.tape, hgrow8.output, hgrow8.size, hgrow8.block⟩ (by rw [← HZ7.out]; exact hat8))
        clear hown8 hgrow8 hat8 hlt8 c73 c75 hoJ7 KR KE
        go_wp2_with fail
        go_end0
        obtain ⟨x1, x2, x3, x4, x5, x6, x7, x8, x9, x10, x11⟩ := FIN.out
        rw [← HES.out] at x2
        have hall : ∀ g, (Value.slice p j j).ownBlock = some g → p = some ⟨g, 0, none⟩ := fun g hg => by
          rcases HV.out with ⟨h1, _⟩ | ⟨g', n', r, h1, _⟩
          · cases h1
            cases hg
          · cases h1
            simp only [Value.ownBlock, Option.some.injEq] at hg
            subst hg
            rfl
        have PU := HK.out.pushI (m := V.mark - 1) x1 x2 x3 (fun g hg => by rw [HE1.out]; exact x4 g hg) (fun g hg => by rw [HE2.out]; exact x5 g hg) x6 (all := .slice p j j) (fun g hg => by
          obtain ⟨_, y2, y3, y4⟩ := HQ.out g (hall g hg)
          exact ⟨y3, y2, y4⟩) (HFU.out.keep (fun g hg hz => by
          obtain ⟨y1, y2, y3, y4⟩ := HQ.out g (hall g hg)
          exact ⟨hg, x8 g y4 y1 (fun e => by have := (HLO.out g e).1; omega) (fun e => by have := (HLM.out g e).1; omega)⟩)) x7 (fun g h1 h2 h3 h4 h5 => by
          rw [HE1.out] at h4
          rw [HE2.out] at h5
          refine (x8 g h1 h2 h4 h5).trans (HF.out.rest g h2 (fun e => h3 ?_))
          rw [e]
          rfl)
        refine ⟨rfl, p, _, { V with mark := V.mark - 1, vI := .slice (some ⟨gg, 0, none⟩) (Is.length + 1) gcap, vJ := .slice (some ⟨gg2, 0, none⟩) (Is.length + 1) gcap2 : KV }, ⟨rfl, rfl, rfl, rfl, fun g h1 h2 h3 => PU.2 g h1 h2 (fun e => h3 ?_), ⟨x9, x10, x11, x7, fun g hg => ?_⟩⟩, PU.1⟩
        · rw [hall g e]
          rfl
        · have hgz : g < w.heap.size := by omega
          by_cases h0 : lab g = 0
          · refine (PU.2 g hgz h0 (fun e => ?_)).1
            have := (HQ.out g (hall g e)).2.1
            omega
          · have := (HK.out.hz g h0).1
            omega
theorem sliceInfoS : (Tryz.prog.info? 96).map (fun i => (i.zero, i.size, i.bytes)) = some (some (.slice none 0 0), 1, 24) := by kernel_rfl
theorem putRS {cap j : Nat} {m : Int} {r : Array Value} (hz : r.size = cap * 2) (hj : j < cap) (h : ∀ (i c : Nat) (x : Value), i < j → (patS m)[c]? = some x → r[i * 2 + c]? = some x) :
    ∀ (i c : Nat) (x : Value), i < j + 1 → (patS m)[c]? = some x → ((r.setIfInBounds (j * 2) (.int .i64 (m))).setIfInBounds (j * 2 + 1) (.int .i64 (m)))[i * 2 + c]? = some x := by
  refine upto_next rfl h (fun o ho => ?_) (fun c x hx => ?_)
  · simp only [Array.getElem?_setIfInBounds]
    repeat rw [if_neg (by omega)]
  · have hc := (List.getElem?_eq_some_iff.1 hx).1
    simp only [patS, List.length_cons, List.length_nil] at hc
    simp only [Array.getElem?_setIfInBounds, Array.size_setIfInBounds]
    have hcc : c = 0 ∨ c = 1 := by omega
    rcases hcc with rfl | rfl
    all_goals
      simp only [patS, List.getElem?_cons_zero, List.getElem?_cons_succ, Option.some.injEq] at hx
      subst hx
      repeat (first | rw [if_pos (by omega), if_pos (by omega)] | rw [if_neg (by omega)])
theorem keepSlots_any {w : World} {B q : Nat} {lab : Nat → Nat} {V : KV} {Is Ss Cs Ms : List (Value × Int)} (h : KS w B q lab V Is Ss Cs Ms) {v : Value} {cap : Nat} (hv : Box w (fun g => B ≤ g ∧ lab g = 0) 98 2 v cap) (hl : Ss.length ≤ 1000000000) (hm1 : -4611686018427387904 ≤ V.mark) (hm2 : V.mark ≤ 0) :
    Calls Tryz.prog 66 #[.pointer (some ⟨q, 0, none⟩), v] w fun e w' => e = .returned (.tuple #[]) ∧ ∃ p lab' V', KeptBy w B lab lab' V V' v.ownBlock w' ∧ KS w' B q lab' V' Is (Ss ++ [(.slice p cap cap, V.mark - 1)]) Cs Ms := by
  obtain ⟨i0, hi0, hz0, hz1, hz2⟩ := info_parts sliceInfoS
  obtain ⟨i1, hi1, hy0, hy1, hy2⟩ := info_parts intInfo
  have HK := hid h
  have hqz := (Array.getElem?_eq_some_iff.1 h.row).1
  obtain ⟨p1, c1, e1⟩ := owns_slice h.ls.o
  obtain ⟨p2, c2, e2⟩ := owns_slice h.ls.m
  have h3 : w.cell? ⟨q, 3, none⟩ = some (.int .i64 V.mark) := (cell_of_row w q 3 _ _ _ h.row).trans rfl
  have g3 := frozen_of_row w q 3 _ _ h.row
  have hbq : ∀ g, B ≤ g ∧ lab g = 0 → g ≠ q := fun g hg e => by
    have := h.lq
    rw [e] at hg
    omega
  obtain ⟨p, n, ep, hnc, hcm⟩ : ∃ (p : Option Addr) (n : Nat), v = .slice p n cap ∧ n ≤ cap ∧ cap ≤ maxLen := by
    rcases hv with ⟨h1, h2⟩ | ⟨g, n, r, h1, _, _, h2, h3, _⟩
    · exact ⟨none, 0, by rw [h1, h2], by omega, by unfold maxLen; omega⟩
    · exact ⟨_, n, h1, h2, h3⟩
  subst ep
  have hmx : maxLen = 9223372036854775807 := rfl
  rw [hmx] at hcm
  have HV := hid hv
  have HS : Hid (Fill w (w.setCell ⟨q, 3, none⟩ (.int .i64 (V.mark - 1))) q { V with mark := V.mark - 1 : KV }.row p) := hid (Fill.start h.row _ _)
  have HU : Hid (UptoF 98 2 (patS (V.mark - 1)) (w.setCell ⟨q, 3, none⟩ (.int .i64 (V.mark - 1))) p cap 0) := hid (UptoF.start hv (fun g hg => by
    have ho : Only q w (w.setCell ⟨q, 3, none⟩ (.int .i64 (V.mark - 1))) := (Only.refl _ _).set _ _
    exact ho.block g (hbq g hg)))
  have HQ : Hid (∀ g, p = some ⟨g, 0, none⟩ → g ≠ q ∧ B ≤ g ∧ lab g = 0 ∧ g < w.heap.size) := hid (fun g hg => by
    rcases hv with ⟨h1, _⟩ | ⟨g', n', r, h1, h2, h3, _⟩
    · rw [hg] at h1; cases h1
    · rw [hg] at h1
      cases h1
      exact ⟨hbq _ h2, h2.1, h2.2, (Array.getElem?_eq_some_iff.1 h3).1⟩)
  have HP : Hid (0 < cap → ∃ g, p = some ⟨g, 0, none⟩) := hid (fun hc => by
    rcases hv with ⟨h1, h2⟩ | ⟨g', n', r, h1, _⟩
    · omega
    · cases h1
      exact ⟨g', rfl⟩)
  have HE1 := hid e1
  have HE2 := hid e2
  clear h hv hmx hbq e1 e2
  go_enter Tryz.func66, Tryz.ntmps66
  go_wp2_with fail
  clear h3 g3
  go_loopg [5] cap (fun gk x w' => ∃ j : Nat, j ≤ cap ∧ gk = cap - j ∧ x = .int .i64 j ∧ Fill w w' q { V with mark := V.mark - 1 : KV }.row p ∧ UptoF 98 2 (patS (V.mark - 1)) w' p cap j)
  case atStart => exact ⟨0, by omega, by omega, rfl, HS.out, HU.out⟩
  case round =>
    obtain ⟨j, hj, hgk, rfl, hF, hU⟩ := hrel
    have k3 : wr.cell? ⟨q, 3, none⟩ = some (.int .i64 (V.mark - 1)) := (cell_of_row wr q 3 _ _ _ hF.row).trans rfl
    have HF := hid hF
    have hsz := hF.size
    rcases Nat.lt_or_ge j cap with hlt | hge
    · have d0 : (0 : Int) ≤ (j : Int) := by omega
      have d1 : (j : Int) < (cap : Int) := by omega
      have d2 : (j : Int) + 1 ≤ 9223372036854775807 := by omega
      obtain ⟨g, rfl⟩ := HP.out (by omega)
      obtain ⟨r5, hr5, hz5, hu5⟩ := hU g rfl
      obtain ⟨hgq, _, _, hgz⟩ := HQ.out g rfl
      have x0 := cell_of_row wr g (j * 2) _ _ _ hr5
      rw [Array.getElem?_eq_getElem (by omega)] at x0
      have f0 := frozen_of_row wr g (j * 2) _ _ hr5
      have x1 := cell_of_row wr g (j * 2 + 1) _ _ _ hr5
      rw [Array.getElem?_eq_getElem (by omega)] at x1
      have f1 := frozen_of_row wr g (j * 2 + 1) _ _ hr5
      have HF6 : Hid (Fill w ((wr.setCell ⟨g, j * 2, none⟩ (.int .i64 (V.mark - 1))).setCell ⟨g, j * 2 + 1, none⟩ (.int .i64 (V.mark - 1))) q { V with mark := V.mark - 1 : KV }.row (some ⟨g, 0, none⟩)) := hid (hF.only (((Only.refl _ _).set _ _).set _ _) (fun e => hgq e.symm))
      have HU6 : Hid (UptoF 98 2 (patS (V.mark - 1)) ((wr.setCell ⟨g, j * 2, none⟩ (.int .i64 (V.mark - 1))).setCell ⟨g, j * 2 + 1, none⟩ (.int .i64 (V.mark - 1))) (some ⟨g, 0, none⟩) cap (j + 1)) := hid (fun g' hg' => by
        cases hg'
        exact ⟨_, (setCell_row (j * 2 + 1) (.int .i64 (V.mark - 1)) (setCell_row (j * 2) (.int .i64 (V.mark - 1)) hr5)), by simpa using hz5, putRS hz5 hlt hu5⟩)
      have hgq' : q ≠ g := fun e => hgq e.symm
      generalize r5[j * 2] = zz0 at *
      generalize r5[j * 2 + 1] = zz1 at *
      clear hF hU hr5 hu5 HF
      go_wp2_with fail
      go_region
      all_goals
        go_wp2_with fail
        go_roundg (cap - (j + 1))
        case measure => omega
        case rel => exact ⟨j + 1, by omega, rfl, by go_num, ⟨HF6.out.row, HF6.out.size, HF6.out.os, HF6.out.tape, HF6.out.output, HF6.out.rest⟩, HU6.out⟩
    · have d1 : ¬ (j : Int) < (cap : Int) := by omega
      obtain rfl : j = cap := by omega
      have k6 : wr.cell? ⟨q, 6, none⟩ = some V.vS := (cell_of_row wr q 6 _ _ _ hF.row).trans rfl
      rw [HE1.out] at k6
      have HFU := hid (UptoF.full HV.out rfl hU)
      have HSZ := hid hsz
      have hlo : ∀ g, (Value.slice p1 Ss.length c1).ownBlock = some g → lab g = 4 ∧ g < w.heap.size := fun g hg => by
        rw [← HE1.out] at hg
        exact ⟨HK.out.ls.lo g hg, (HK.out.ls.o.lt g hg).2⟩
      have hlm : ∀ g, (Value.slice p2 Ss.length c2).ownBlock = some g → lab g = 4 + 1 ∧ g < w.heap.size := fun g hg => by
        rw [← HE2.out] at hg
        exact ⟨HK.out.ls.lm g hg, (HK.out.ls.m.lt g hg).2⟩
      have hlq := HK.out.lq
      have hpn : ∀ g, lab g ≠ 0 → p ≠ some ⟨g, 0, none⟩ := fun g hg e => hg (HQ.out g e).2.2.1
      have hBz := HK.out.hB
      have hoI : wr.ownsRow B 96 1 (.slice p1 Ss.length c1) Ss.length (Ss.map (fun e => e.1)) := by
        have := HK.out.ls.o
        rw [HE1.out] at this
        exact owns_keep this (fun g hg => hF.rest g (fun e => by have := (hlo g hg).1; rw [e] at this; omega) (hpn g (by have := (hlo g hg).1; omega)))
      have hoJ : wr.ownsRow B 3 1 (.slice p2 Ss.length c2) Ss.length (Ss.map (fun e => Value.int .i64 e.2)) := by
        have := HK.out.ls.m
        rw [HE2.out] at this
        exact owns_keep this (fun g hg => hF.rest g (fun e => by have := (hlm g hg).1; rw [e] at this; omega) (hpn g (by have := (hlm g hg).1; omega)))
      have HJ := hid hoJ
      have HLO := hid hlo
      have HLM := hid hlm
      have HPN := hid hpn
      have hBr : B ≤ wr.heap.size := by omega
      clear hF hU hsz hlo hlm hpn hoJ hlq
      generalize hES : Ss.map (fun e => e.1) = ES at *
      have HES := hid hES
      clear hES
      go_wp2_with (at_builtin; go_must (refine wpList_append_lies _ (by rfl) _ _ _ (by rfl) B 96 i0 _ 1 24 Tryz.underlying54 hi0 hz0 hz1 hz2 rfl (by omega) _ Ss.length ES (by rfl) (hoI.alloc _) ⟨wr.heap.size, 0, none⟩ 1 1 [.slice p j j] (by rfl) (by rfl) (World.news_of_block (cs := #[.slice p j j]) (t := 96) (fr := (0, 0)) (heap_alloc_new wr _)) (by simp [Value.oneCell']) (by omega) (by unfold maxLen; omega) (by omega) (by simp; omega) _ rfl ?_); intro gg gcap w6 hown6 hgrow6 hat6 hlt6; apply Hid.out)
      refine hid ?_
      have nv : (Value.slice p1 Ss.length c1).ownBlock ≠ some q := fun e => by have := (HLO.out q e).1; have := HK.out.lq; omega
      have r6 := (keep_a HF.out hgrow6 hqz nv).trans HF.out.row
      have c6 : w6.cell? ⟨q, 6, none⟩ = some V.vS := (cell_of_row w6 q 6 _ _ _ r6).trans rfl
      have c6f := frozen_of_row w6 q 6 _ _ r6
      have ho6 : Only q w6 (w6.setCell ⟨q, 6, none⟩ (.slice (some ⟨gg, 0, none⟩) (Ss.length + 1) gcap)) := (Only.refl _ _).set _ _
      have r7 := setCell_row 6 (.slice (some ⟨gg, 0, none⟩) (Ss.length + 1) gcap) r6
      have c73 : (w6.setCell ⟨q, 6, none⟩ (.slice (some ⟨gg, 0, none⟩) (Ss.length + 1) gcap)).cell? ⟨q, 3, none⟩ = some (.int .i64 (V.mark - 1)) := (cell_of_row _ q 3 _ _ _ r7).trans rfl
      have c75 : (w6.setCell ⟨q, 6, none⟩ (.slice (some ⟨gg, 0, none⟩) (Ss.length + 1) gcap)).cell? ⟨q, 7, none⟩ = some V.vT := (cell_of_row _ q 7 _ _ _ r7).trans rfl
      rw [HE2.out] at c75
      rw [HE1.out] at c6
      have hoJ7 : (w6.setCell ⟨q, 6, none⟩ (.slice (some ⟨gg, 0, none⟩) (Ss.length + 1) gcap)).ownsRow B 3 1 (.slice p2 Ss.length c2) Ss.length (Ss.map (fun e => Value.int .i64 e.2)) := owns_keep HJ.out (fun g hg => by
        have h1 := HLM.out g hg
        have h2 := HK.out.lq
        exact (ho6.block g (fun e => by rw [e] at h1; omega)).trans (keep_a HF.out hgrow6 h1.2 (fun e => by have := (HLO.out g e).1; omega)))
      have hz6 := hgrow6.size
      rw [alloc_size] at hz6
      have hz7 := ho6.size
      have HG6 := hid hgrow6
      have HO6 := hid hown6
      have HAT6 := hid hat6
      have HOO := hid ho6
      have HR7 := hid r7
      clear hgrow6 hown6 hat6 hoI r6 r7 ho6 hlt6
      have nm : (Value.slice p2 Ss.length c2).ownBlock ≠ some q := fun e => by have := (HLM.out q e).1; have := HK.out.lq; omega
      have KR := hid (fun (w8 : World) (g8 : ((w6.setCell ⟨q, 6, none⟩ (.slice (some ⟨gg, 0, none⟩) (Ss.length + 1) gcap)).alloc (.cells #[.int .i64 (V.mark - 1)] 3)).grownBy w8 (Value.slice p2 Ss.length c2).ownBlock) => (⟨(cell_of_row w8 q 7 _ _ _ (keep_row hqz HF.out HG6.out g8 nv nm)).trans rfl, frozen_of_row w8 q 7 _ _ (keep_row hqz HF.out HG6.out g8 nv nm)⟩ : w8.cell? ⟨q, 7, none⟩ = some V.vT ∧ w8.frozen? ⟨q, 7, none⟩ = false))
      rw [HE2.out] at KR
      have KE := hid (fun (w8 : World) (gg2 gcap2 : Nat) (hown8 : w8.ownsRow B 3 1 (.slice (some ⟨gg2, 0, none⟩) (Ss.length + 1) gcap2) (Ss.length + 1) (Ss.map (fun e => Value.int .i64 e.2) ++ [.int .i64 (V.mark - 1)])) (g8 : ((w6.setCell ⟨q, 6, none⟩ (.slice (some ⟨gg, 0, none⟩) (Ss.length + 1) gcap)).alloc (.cells #[.int .i64 (V.mark - 1)] 3)).grownBy w8 (Value.slice p2 Ss.length c2).ownBlock) (hat8 : (Value.slice p2 Ss.length c2).ownBlock = some gg2 ∨ gg2 = w6.heap.size + 1) => keep_end (f2 := 7) HK.out.lq hqz HF.out HLO.out HLM.out (by omega) HO6.out HG6.out (fun g hg => by
        simp only [Value.ownBlock, Option.some.injEq] at hg
        subst hg
        have := HAT6.out
        rw [alloc_size] at this
        exact this) hown8 g8 (fun g hg => by
        simp only [Value.ownBlock, Option.some.injEq] at hg
        subst hg
        exact hat8))
      obtain ⟨W7, hW7⟩ : ∃ W7, W7 = w6.setCell ⟨q, 6, none⟩ (.slice (some ⟨gg, 0, none⟩) (Ss.length + 1) gcap) := ⟨_, rfl⟩
      rw [← hW7] at c73 c75 hoJ7 hz7 KR KE
      clear HOO HR7
      go_wp2_with fail
      rw [← hW7]
      clear hW7 c6 c6f
      have hqz7 : q < W7.heap.size := by have := HSZ.out; omega
      have hnew7 : (W7.alloc (.cells #[.int .i64 (V.mark - 1)] 3)).drew.heap[W7.heap.size]? = some (.cells #[.int .i64 (V.mark - 1)] 3) := heap_alloc_new _ _
      have a75 : (W7.alloc (.cells #[.int .i64 (V.mark - 1)] 3)).cell? ⟨q, 7, none⟩ = some (.slice p2 Ss.length c2) := (World.cell?_alloc_past _ _ _ (by omega)).trans c75
      have hB7 : B ≤ W7.heap.size := by omega
      have HZ7 := hid hz7
      clear hz7
      go_region_law ((first | (refine step_append_lies _ (by rfl) _ _ _ (by rfl) B 3 i1 _ 1 8 Tryz.underlying22 hi1 hy0 hy1 hy2 rfl (by omega) _ Ss.length (Ss.map (fun e => Value.int .i64 e.2)) (by rfl) (hoJ7.alloc _).drew ⟨W7.heap.size, 0, none⟩ 1 1 [.int .i64 (V.mark - 1)] (by rfl) (by rfl) (World.news_of_block (cs := #[.int .i64 (V.mark - 1)]) (t := 3) (fr := (0, 0)) hnew7) (by simp [Value.oneCell']) (by omega) (by unfold maxLen; omega) (by omega) (by simp [World.drew]; omega) (W7.heap.size + 1) (by simp [World.drew]) ?_; intro gg2 gcap2 w8 hown8 hgrow8 hat8 hlt8; obtain ⟨c85, c8f⟩ := KR.out w8 ⟨hgrow8.os, hgrow8.tape, hgrow8.output, hgrow8.size, hgrow8.block⟩)))
      all_goals
        have FIN := hid (KE.out w8 gg2 gcap2 hown8 ⟨hgrow8.os, hgrow8.tape, hgrow8.output, hgrow8.size, hgrow8.block⟩ (by rw [← HZ7.out]; exact hat8))
        clear hown8 hgrow8 hat8 hlt8 c73 c75 hoJ7 KR KE
        go_wp2_with fail
        go_end0
        obtain ⟨x1, x2, x3, x4, x5, x6, x7, x8, x9, x10, x11⟩ := FIN.out
        rw [← HES.out] at x2
        have hall : ∀ g, (Value.slice p j j).ownBlock = some g → p = some ⟨g, 0, none⟩ := fun g hg => by
          rcases HV.out with ⟨h1, _⟩ | ⟨g', n', r, h1, _⟩
          · cases h1
            cases hg
          · cases h1
            simp only [Value.ownBlock, Option.some.injEq] at hg
            subst hg
            rfl
        have PU := HK.out.pushS (m := V.mark - 1) x1 x2 x3 (fun g hg => by rw [HE1.out]; exact x4 g hg) (fun g hg => by rw [HE2.out]; exact x5 g hg) x6 (all := .slice p j j) (fun g hg => by
          obtain ⟨_, y2, y3, y4⟩ := HQ.out g (hall g hg)
          exact ⟨y3, y2, y4⟩) (HFU.out.keep (fun g hg hz => by
          obtain ⟨y1, y2, y3, y4⟩ := HQ.out g (hall g hg)
          exact ⟨hg, x8 g y4 y1 (fun e => by have := (HLO.out g e).1; omega) (fun e => by have := (HLM.out g e).1; omega)⟩)) x7 (fun g h1 h2 h3 h4 h5 => by
          rw [HE1.out] at h4
          rw [HE2.out] at h5
          refine (x8 g h1 h2 h4 h5).trans (HF.out.rest g h2 (fun e => h3 ?_))
          rw [e]
          rfl)
        refine ⟨rfl, p, _, { V with mark := V.mark - 1, vS := .slice (some ⟨gg, 0, none⟩) (Ss.length + 1) gcap, vT := .slice (some ⟨gg2, 0, none⟩) (Ss.length + 1) gcap2 : KV }, ⟨rfl, rfl, rfl, rfl, fun g h1 h2 h3 => PU.2 g h1 h2 (fun e => h3 ?_), ⟨x9, x10, x11, x7, fun g hg => ?_⟩⟩, PU.1⟩
        · rw [hall g e]
          rfl
        · have hgz : g < w.heap.size := by omega
          by_cases h0 : lab g = 0
          · refine (PU.2 g hgz h0 (fun e => ?_)).1
            have := (HQ.out g (hall g e)).2.1
            omega
          · have := (HK.out.hz g h0).1
            omega
theorem sliceInfoC : (Tryz.prog.info? 70).map (fun i => (i.zero, i.size, i.bytes)) = some (some (.slice none 0 0), 1, 24) := by kernel_rfl
theorem putRC {cap j : Nat} {m : Int} {r : Array Value} (hz : r.size = cap * 5) (hj : j < cap) (h : ∀ (i c : Nat) (x : Value), i < j → (patC m)[c]? = some x → r[i * 5 + c]? = some x) :
    ∀ (i c : Nat) (x : Value), i < j + 1 → (patC m)[c]? = some x → (((((r.setIfInBounds (j * 5) (.int .i64 (m))).setIfInBounds (j * 5 + 1) (.bool false)).setIfInBounds (j * 5 + 2) (.int .i64 (m))).setIfInBounds (j * 5 + 3) (.int .i64 0)).setIfInBounds (j * 5 + 4) (.int .i64 (m)))[i * 5 + c]? = some x := by
  refine upto_next rfl h (fun o ho => ?_) (fun c x hx => ?_)
  · simp only [Array.getElem?_setIfInBounds]
    repeat rw [if_neg (by omega)]
  · have hc := (List.getElem?_eq_some_iff.1 hx).1
    simp only [patC, List.length_cons, List.length_nil] at hc
    simp only [Array.getElem?_setIfInBounds, Array.size_setIfInBounds]
    have hcc : c = 0 ∨ c = 1 ∨ c = 2 ∨ c = 3 ∨ c = 4 := by omega
    rcases hcc with rfl | rfl | rfl | rfl | rfl
    all_goals
      simp only [patC, List.getElem?_cons_zero, List.getElem?_cons_succ, Option.some.injEq] at hx
      subst hx
      repeat (first | rw [if_pos (by omega), if_pos (by omega)] | rw [if_neg (by omega)])
theorem keepCells_any {w : World} {B q : Nat} {lab : Nat → Nat} {V : KV} {Is Ss Cs Ms : List (Value × Int)} (h : KS w B q lab V Is Ss Cs Ms) {v : Value} {cap : Nat} (hv : Box w (fun g => B ≤ g ∧ lab g = 0) 100 5 v cap) (hl : Cs.length ≤ 1000000000) (hm1 : -4611686018427387904 ≤ V.mark) (hm2 : V.mark ≤ 0) :
    Calls Tryz.prog 67 #[.pointer (some ⟨q, 0, none⟩), v] w fun e w' => e = .returned (.tuple #[]) ∧ ∃ p lab' V', KeptBy w B lab lab' V V' v.ownBlock w' ∧ KS w' B q lab' V' Is Ss (Cs ++ [(.slice p cap cap, V.mark - 1)]) Ms := by
  obtain ⟨i0, hi0, hz0, hz1, hz2⟩ := info_parts sliceInfoC
  obtain ⟨i1, hi1, hy0, hy1, hy2⟩ := info_parts intInfo
  have HK := hid h
  have hqz := (Array.getElem?_eq_some_iff.1 h.row).1
  obtain ⟨p1, c1, e1⟩ := owns_slice h.lc.o
  obtain ⟨p2, c2, e2⟩ := owns_slice h.lc.m
  have h3 : w.cell? ⟨q, 3, none⟩ = some (.int .i64 V.mark) := (cell_of_row w q 3 _ _ _ h.row).trans rfl
  have g3 := frozen_of_row w q 3 _ _ h.row
  have hbq : ∀ g, B ≤ g ∧ lab g = 0 → g ≠ q := fun g hg e => by
    have := h.lq
    rw [e] at hg
    omega
  obtain ⟨p, n, ep, hnc, hcm⟩ : ∃ (p : Option Addr) (n : Nat), v = .slice p n cap ∧ n ≤ cap ∧ cap ≤ maxLen := by
    rcases hv with ⟨h1, h2⟩ | ⟨g, n, r, h1, _, _, h2, h3, _⟩
    · exact ⟨none, 0, by rw [h1, h2], by omega, by unfold maxLen; omega⟩
    · exact ⟨_, n, h1, h2, h3⟩
  subst ep
  have hmx : maxLen = 9223372036854775807 := rfl
  rw [hmx] at hcm
  have HV := hid hv
  have HS : Hid (Fill w (w.setCell ⟨q, 3, none⟩ (.int .i64 (V.mark - 1))) q { V with mark := V.mark - 1 : KV }.row p) := hid (Fill.start h.row _ _)
  have HU : Hid (UptoF 100 5 (patC (V.mark - 1)) (w.setCell ⟨q, 3, none⟩ (.int .i64 (V.mark - 1))) p cap 0) := hid (UptoF.start hv (fun g hg => by
    have ho : Only q w (w.setCell ⟨q, 3, none⟩ (.int .i64 (V.mark - 1))) := (Only.refl _ _).set _ _
    exact ho.block g (hbq g hg)))
  have HQ : Hid (∀ g, p = some ⟨g, 0, none⟩ → g ≠ q ∧ B ≤ g ∧ lab g = 0 ∧ g < w.heap.size) := hid (fun g hg => by
    rcases hv with ⟨h1, _⟩ | ⟨g', n', r, h1, h2, h3, _⟩
    · rw [hg] at h1; cases h1
    · rw [hg] at h1
      cases h1
      exact ⟨hbq _ h2, h2.1, h2.2, (Array.getElem?_eq_some_iff.1 h3).1⟩)
  have HP : Hid (0 < cap → ∃ g, p = some ⟨g, 0, none⟩) := hid (fun hc => by
    rcases hv with ⟨h1, h2⟩ | ⟨g', n', r, h1, _⟩
    · omega
    · cases h1
      exact ⟨g', rfl⟩)
  have HE1 := hid e1
  have HE2 := hid e2
  clear h hv hmx hbq e1 e2
  go_enter Tryz.func67, Tryz.ntmps67
  go_wp2_with fail
  clear h3 g3
  go_loopg [5] cap (fun gk x w' => ∃ j : Nat, j ≤ cap ∧ gk = cap - j ∧ x = .int .i64 j ∧ Fill w w' q { V with mark := V.mark - 1 : KV }.row p ∧ UptoF 100 5 (patC (V.mark - 1)) w' p cap j)
  case atStart => exact ⟨0, by omega, by omega, rfl, HS.out, HU.out⟩
  case round =>
    obtain ⟨j, hj, hgk, rfl, hF, hU⟩ := hrel
    have k3 : wr.cell? ⟨q, 3, none⟩ = some (.int .i64 (V.mark - 1)) := (cell_of_row wr q 3 _ _ _ hF.row).trans rfl
    have HF := hid hF
    have hsz := hF.size
    rcases Nat.lt_or_ge j cap with hlt | hge
    · have d0 : (0 : Int) ≤ (j : Int) := by omega
      have d1 : (j : Int) < (cap : Int) := by omega
      have d2 : (j : Int) + 1 ≤ 9223372036854775807 := by omega
      obtain ⟨g, rfl⟩ := HP.out (by omega)
      obtain ⟨r5, hr5, hz5, hu5⟩ := hU g rfl
      obtain ⟨hgq, _, _, hgz⟩ := HQ.out g rfl
      have x0 := cell_of_row wr g (j * 5) _ _ _ hr5
      rw [Array.getElem?_eq_getElem (by omega)] at x0
      have f0 := frozen_of_row wr g (j * 5) _ _ hr5
      have x1 := cell_of_row wr g (j * 5 + 1) _ _ _ hr5
      rw [Array.getElem?_eq_getElem (by omega)] at x1
      have f1 := frozen_of_row wr g (j * 5 + 1) _ _ hr5
      have x2 := cell_of_row wr g (j * 5 + 2) _ _ _ hr5
      rw [Array.getElem?_eq_getElem (by omega)] at x2
      have f2 := frozen_of_row wr g (j * 5 + 2) _ _ hr5
      have x3 := cell_of_row wr g (j * 5 + 3) _ _ _ hr5
      rw [Array.getElem?_eq_getElem (by omega)] at x3
      have f3 := frozen_of_row wr g (j * 5 + 3) _ _ hr5
      have x4 := cell_of_row wr g (j * 5 + 4) _ _ _ hr5
      rw [Array.getElem?_eq_getElem (by omega)] at x4
      have f4 := frozen_of_row wr g (j * 5 + 4) _ _ hr5
      have HF6 : Hid (Fill w (((((wr.setCell ⟨g, j * 5, none⟩ (.int .i64 (V.mark - 1))).setCell ⟨g, j * 5 + 1, none⟩ (.bool false)).setCell ⟨g, j * 5 + 2, none⟩ (.int .i64 (V.mark - 1))).setCell ⟨g, j * 5 + 3, none⟩ (.int .i64 0)).setCell ⟨g, j * 5 + 4, none⟩ (.int .i64 (V.mark - 1))) q { V with mark := V.mark - 1 : KV }.row (some ⟨g, 0, none⟩)) := hid (hF.only ((((((Only.refl _ _).set _ _).set _ _).set _ _).set _ _).set _ _) (fun e => hgq e.symm))
      have HU6 : Hid (UptoF 100 5 (patC (V.mark - 1)) (((((wr.setCell ⟨g, j * 5, none⟩ (.int .i64 (V.mark - 1))).setCell ⟨g, j * 5 + 1, none⟩ (.bool false)).setCell ⟨g, j * 5 + 2, none⟩ (.int .i64 (V.mark - 1))).setCell ⟨g, j * 5 + 3, none⟩ (.int .i64 0)).setCell ⟨g, j * 5 + 4, none⟩ (.int .i64 (V.mark - 1))) (some ⟨g, 0, none⟩) cap (j + 1)) := hid (fun g' hg' => by
        cases hg'
        exact ⟨_, (setCell_row (j * 5 + 4) (.int .i64 (V.mark - 1)) (setCell_row (j * 5 + 3) (.int .i64 0) (setCell_row (j * 5 + 2) (.int .i64 (V.mark - 1)) (setCell_row (j * 5 + 1) (.bool false) (setCell_row (j * 5) (.int .i64 (V.mark - 1)) hr5))))), by simpa using hz5, putRC hz5 hlt hu5⟩)
      have hgq' : q ≠ g := fun e => hgq e.symm
      generalize r5[j * 5] = zz0 at *
      generalize r5[j * 5 + 1] = zz1 at *
      generalize r5[j * 5 + 2] = zz2 at *
      generalize r5[j * 5 + 3] = zz3 at *
      generalize r5[j * 5 + 4] = zz4 at *
      clear hF hU hr5 hu5 HF
      go_wp2_with fail
      go_region
      all_goals
        go_wp2_with fail
        go_roundg (cap - (j + 1))
        case measure => omega
        case rel => exact ⟨j + 1, by omega, rfl, by go_num, ⟨HF6.out.row, HF6.out.size, HF6.out.os, HF6.out.tape, HF6.out.output, HF6.out.rest⟩, HU6.out⟩
    · have d1 : ¬ (j : Int) < (cap : Int) := by omega
      obtain rfl : j = cap := by omega
      have k8 : wr.cell? ⟨q, 8, none⟩ = some V.vC := (cell_of_row wr q 8 _ _ _ hF.row).trans rfl
      rw [HE1.out] at k8
      have HFU := hid (UptoF.full HV.out rfl hU)
      have HSZ := hid hsz
      have hlo : ∀ g, (Value.slice p1 Cs.length c1).ownBlock = some g → lab g = 6 ∧ g < w.heap.size := fun g hg => by
        rw [← HE1.out] at hg
        exact ⟨HK.out.lc.lo g hg, (HK.out.lc.o.lt g hg).2⟩
      have hlm : ∀ g, (Value.slice p2 Cs.length c2).ownBlock = some g → lab g = 6 + 1 ∧ g < w.heap.size := fun g hg => by
        rw [← HE2.out] at hg
        exact ⟨HK.out.lc.lm g hg, (HK.out.lc.m.lt g hg).2⟩
      have hlq := HK.out.lq
      have hpn : ∀ g, lab g ≠ 0 → p ≠ some ⟨g, 0, none⟩ := fun g hg e => hg (HQ.out g e).2.2.1
      have hBz := HK.out.hB
      have hoI : wr.ownsRow B 70 1 (.slice p1 Cs.length c1) Cs.length (Cs.map (fun e => e.1)) := by
        have := HK.out.lc.o
        rw [HE1.out] at this
        exact owns_keep this (fun g hg => hF.rest g (fun e => by have := (hlo g hg).1; rw [e] at this; omega) (hpn g (by have := (hlo g hg).1; omega)))
      have hoJ : wr.ownsRow B 3 1 (.slice p2 Cs.length c2) Cs.length (Cs.map (fun e => Value.int .i64 e.2)) := by
        have := HK.out.lc.m
        rw [HE2.out] at this
        exact owns_keep this (fun g hg => hF.rest g (fun e => by have := (hlm g hg).1; rw [e] at this; omega) (hpn g (by have := (hlm g hg).1; omega)))
      have HJ := hid hoJ
      have HLO := hid hlo
      have HLM := hid hlm
      have HPN := hid hpn
      have hBr : B ≤ wr.heap.size := by omega
      clear hF hU hsz hlo hlm hpn hoJ hlq
      generalize hES : Cs.map (fun e => e.1) = ES at *
      have HES := hid hES
      clear hES
      go_wp2_with (at_builtin; go_must (refine wpList_append_lies _ (by rfl) _ _ _ (by rfl) B 70 i0 _ 1 24 Tryz.underlying55 hi0 hz0 hz1 hz2 rfl (by omega) _ Cs.length ES (by rfl) (hoI.alloc _) ⟨wr.heap.size, 0, none⟩ 1 1 [.slice p j j] (by rfl) (by rfl) (World.news_of_block (cs := #[.slice p j j]) (t := 70) (fr := (0, 0)) (heap_alloc_new wr _)) (by simp [Value.oneCell']) (by omega) (by unfold maxLen; omega) (by omega) (by simp; omega) _ rfl ?_); intro gg gcap w6 hown6 hgrow6 hat6 hlt6; apply Hid.out)
      refine hid ?_
      have nv : (Value.slice p1 Cs.length c1).ownBlock ≠ some q := fun e => by have := (HLO.out q e).1; have := HK.out.lq; omega
      have r6 := (keep_a HF.out hgrow6 hqz nv).trans HF.out.row
      have c6 : w6.cell? ⟨q, 8, none⟩ = some V.vC := (cell_of_row w6 q 8 _ _ _ r6).trans rfl
      have c6f := frozen_of_row w6 q 8 _ _ r6
      have ho6 : Only q w6 (w6.setCell ⟨q, 8, none⟩ (.slice (some ⟨gg, 0, none⟩) (Cs.length + 1) gcap)) := (Only.refl _ _).set _ _
      have r7 := setCell_row 8 (.slice (some ⟨gg, 0, none⟩) (Cs.length + 1) gcap) r6
      have c73 : (w6.setCell ⟨q, 8, none⟩ (.slice (some ⟨gg, 0, none⟩) (Cs.length + 1) gcap)).cell? ⟨q, 3, none⟩ = some (.int .i64 (V.mark - 1)) := (cell_of_row _ q 3 _ _ _ r7).trans rfl
      have c75 : (w6.setCell ⟨q, 8, none⟩ (.slice (some ⟨gg, 0, none⟩) (Cs.length + 1) gcap)).cell? ⟨q, 9, none⟩ = some V.vD := (cell_of_row _ q 9 _ _ _ r7).trans rfl
      rw [HE2.out] at c75
      rw [HE1.out] at c6
      have hoJ7 : (w6.setCell ⟨q, 8, none⟩ (.slice (some ⟨gg, 0, none⟩) (Cs.length + 1) gcap)).ownsRow B 3 1 (.slice p2 Cs.length c2) Cs.length (Cs.map (fun e => Value.int .i64 e.2)) := owns_keep HJ.out (fun g hg => by
        have h1 := HLM.out g hg
        have h2 := HK.out.lq
        exact (ho6.block g (fun e => by rw [e] at h1; omega)).trans (keep_a HF.out hgrow6 h1.2 (fun e => by have := (HLO.out g e).1; omega)))
      have hz6 := hgrow6.size
      rw [alloc_size] at hz6
      have hz7 := ho6.size
      have HG6 := hid hgrow6
      have HO6 := hid hown6
      have HAT6 := hid hat6
      have HOO := hid ho6
      have HR7 := hid r7
      clear hgrow6 hown6 hat6 hoI r6 r7 ho6 hlt6
      have nm : (Value.slice p2 Cs.length c2).ownBlock ≠ some q := fun e => by have := (HLM.out q e).1; have := HK.out.lq; omega
      have KR := hid (fun (w8 : World) (g8 : ((w6.setCell ⟨q, 8, none⟩ (.slice (some ⟨gg, 0, none⟩) (Cs.length + 1) gcap)).alloc (.cells #[.int .i64 (V.mark - 1)] 3)).grownBy w8 (Value.slice p2 Cs.length c2).ownBlock) => (⟨(cell_of_row w8 q 9 _ _ _ (keep_row hqz HF.out HG6.out g8 nv nm)).trans rfl, frozen_of_row w8 q 9 _ _ (keep_row hqz HF.out HG6.out g8 nv nm)⟩ : w8.cell? ⟨q, 9, none⟩ = some V.vD ∧ w8.frozen? ⟨q, 9, none⟩ = false))
      rw [HE2.out] at KR
      have KE := hid (fun (w8 : World) (gg2 gcap2 : Nat) (hown8 : w8.ownsRow B 3 1 (.slice (some ⟨gg2, 0, none⟩) (Cs.length + 1) gcap2) (Cs.length + 1) (Cs.map (fun e => Value.int .i64 e.2) ++ [.int .i64 (V.mark - 1)])) (g8 : ((w6.setCell ⟨q, 8, none⟩ (.slice (some ⟨gg, 0, none⟩) (Cs.length + 1) gcap)).alloc (.cells #[.int .i64 (V.mark - 1)] 3)).grownBy w8 (Value.slice p2 Cs.length c2).ownBlock) (hat8 : (Value.slice p2 Cs.length c2).ownBlock = some gg2 ∨ gg2 = w6.heap.size + 1) => keep_end (f2 := 9) HK.out.lq hqz HF.out HLO.out HLM.out (by omega) HO6.out HG6.out (fun g hg => by
        simp only [Value.ownBlock, Option.some.injEq] at hg
        subst hg
        have := HAT6.out
        rw [alloc_size] at this
        exact this) hown8 g8 (fun g hg => by
        simp only [Value.ownBlock, Option.some.injEq] at hg
        subst hg
        exact hat8))
      obtain ⟨W7, hW7⟩ : ∃ W7, W7 = w6.setCell ⟨q, 8, none⟩ (.slice (some ⟨gg, 0, none⟩) (Cs.length + 1) gcap) := ⟨_, rfl⟩
      rw [← hW7] at c73 c75 hoJ7 hz7 KR KE
      clear HOO HR7
      go_wp2_with fail
      rw [← hW7]
      clear hW7 c6 c6f
      have hqz7 : q < W7.heap.size := by have := HSZ.out; omega
      have hnew7 : (W7.alloc (.cells #[.int .i64 (V.mark - 1)] 3)).drew.heap[W7.heap.size]? = some (.cells #[.int .i64 (V.mark - 1)] 3) := heap_alloc_new _ _
      have a75 : (W7.alloc (.cells #[.int .i64 (V.mark - 1)] 3)).cell? ⟨q, 9, none⟩ = some (.slice p2 Cs.length c2) := (World.cell?_alloc_past _ _ _ (by omega)).trans c75
      have hB7 : B ≤ W7.heap.size := by omega
      have HZ7 := hid hz7
      clear hz7
      go_region_law ((first | (refine step_append_lies _ (by rfl) _ _ _ (by rfl) B 3 i1 _ 1 8 Tryz.underlying22 hi1 hy0 hy1 hy2 rfl (by omega) _ Cs.length (Cs.map (fun e => Value.int .i64 e.2)) (by rfl) (hoJ7.alloc _).drew ⟨W7.heap.size, 0, none⟩ 1 1 [.int .i64 (V.mark - 1)] (by rfl) (by rfl) (World.news_of_block (cs := #[.int .i64 (V.mark - 1)]) (t := 3) (fr := (0, 0)) hnew7) (by simp [Value.oneCell']) (by omega) (by unfold maxLen; omega) (by omega) (by simp [World.drew]; omega) (W7.heap.size + 1) (by simp [World.drew]) ?_; intro gg2 gcap2 w8 hown8 hgrow8 hat8 hlt8; obtain ⟨c85, c8f⟩ := KR.out w8 ⟨hgrow8.os, hgrow8.tape, hgrow8.output, hgrow8.size, hgrow8.block⟩)))
      all_goals
        have FIN := hid (KE.out w8 gg2 gcap2 hown8 ⟨hgrow8.os, hgrow8.tape, hgrow8.output, hgrow8.size, hgrow8.block⟩ (by rw [← HZ7.out]; exact hat8))
        clear hown8 hgrow8 hat8 hlt8 c73 c75 hoJ7 KR KE
        go_wp2_with fail
        go_end0
        obtain ⟨x1, x2, x3, x4, x5, x6, x7, x8, x9, x10, x11⟩ := FIN.out
        rw [← HES.out] at x2
        have hall : ∀ g, (Value.slice p j j).ownBlock = some g → p = some ⟨g, 0, none⟩ := fun g hg => by
          rcases HV.out with ⟨h1, _⟩ | ⟨g', n', r, h1, _⟩
          · cases h1
            cases hg
          · cases h1
            simp only [Value.ownBlock, Option.some.injEq] at hg
            subst hg
            rfl
        have PU := HK.out.pushC (m := V.mark - 1) x1 x2 x3 (fun g hg => by rw [HE1.out]; exact x4 g hg) (fun g hg => by rw [HE2.out]; exact x5 g hg) x6 (all := .slice p j j) (fun g hg => by
          obtain ⟨_, y2, y3, y4⟩ := HQ.out g (hall g hg)
          exact ⟨y3, y2, y4⟩) (HFU.out.keep (fun g hg hz => by
          obtain ⟨y1, y2, y3, y4⟩ := HQ.out g (hall g hg)
          exact ⟨hg, x8 g y4 y1 (fun e => by have := (HLO.out g e).1; omega) (fun e => by have := (HLM.out g e).1; omega)⟩)) x7 (fun g h1 h2 h3 h4 h5 => by
          rw [HE1.out] at h4
          rw [HE2.out] at h5
          refine (x8 g h1 h2 h4 h5).trans (HF.out.rest g h2 (fun e => h3 ?_))
          rw [e]
          rfl)
        refine ⟨rfl, p, _, { V with mark := V.mark - 1, vC := .slice (some ⟨gg, 0, none⟩) (Cs.length + 1) gcap, vD := .slice (some ⟨gg2, 0, none⟩) (Cs.length + 1) gcap2 : KV }, ⟨rfl, rfl, rfl, rfl, fun g h1 h2 h3 => PU.2 g h1 h2 (fun e => h3 ?_), ⟨x9, x10, x11, x7, fun g hg => ?_⟩⟩, PU.1⟩
        · rw [hall g e]
          rfl
        · have hgz : g < w.heap.size := by omega
          by_cases h0 : lab g = 0
          · refine (PU.2 g hgz h0 (fun e => ?_)).1
            have := (HQ.out g (hall g e)).2.1
            omega
          · have := (HK.out.hz g h0).1
            omega
theorem sliceInfoM : (Tryz.prog.info? 76).map (fun i => (i.zero, i.size, i.bytes)) = some (some (.slice none 0 0), 1, 24) := by kernel_rfl
theorem putRM {cap j : Nat} {m : Int} {r : Array Value} (hz : r.size = cap * 4) (hj : j < cap) (h : ∀ (i c : Nat) (x : Value), i < j → (patM m)[c]? = some x → r[i * 4 + c]? = some x) :
    ∀ (i c : Nat) (x : Value), i < j + 1 → (patM m)[c]? = some x → ((((r.setIfInBounds (j * 4) (.int .i64 (m))).setIfInBounds (j * 4 + 1) (.bool false)).setIfInBounds (j * 4 + 2) (.slice none 0 0)).setIfInBounds (j * 4 + 3) (.slice none 0 0))[i * 4 + c]? = some x := by
  refine upto_next rfl h (fun o ho => ?_) (fun c x hx => ?_)
  · simp only [Array.getElem?_setIfInBounds]
    repeat rw [if_neg (by omega)]
  · have hc := (List.getElem?_eq_some_iff.1 hx).1
    simp only [patM, List.length_cons, List.length_nil] at hc
    simp only [Array.getElem?_setIfInBounds, Array.size_setIfInBounds]
    have hcc : c = 0 ∨ c = 1 ∨ c = 2 ∨ c = 3 := by omega
    rcases hcc with rfl | rfl | rfl | rfl
    all_goals
      simp only [patM, List.getElem?_cons_zero, List.getElem?_cons_succ, Option.some.injEq] at hx
      subst hx
      repeat (first | rw [if_pos (by omega), if_pos (by omega)] | rw [if_neg (by omega)])
theorem keepMaps_any {w : World} {B q : Nat} {lab : Nat → Nat} {V : KV} {Is Ss Cs Ms : List (Value × Int)} (h : KS w B q lab V Is Ss Cs Ms) {v : Value} {cap : Nat} (hv : Box w (fun g => B ≤ g ∧ lab g = 0) 102 4 v cap) (hl : Ms.length ≤ 1000000000) (hm1 : -4611686018427387904 ≤ V.mark) (hm2 : V.mark ≤ 0) :
    Calls Tryz.prog 69 #[.pointer (some ⟨q, 0, none⟩), v] w fun e w' => e = .returned (.tuple #[]) ∧ ∃ p lab' V', KeptBy w B lab lab' V V' v.ownBlock w' ∧ KS w' B q lab' V' Is Ss Cs (Ms ++ [(.slice p cap cap, V.mark - 1)]) := by
  obtain ⟨i0, hi0, hz0, hz1, hz2⟩ := info_parts sliceInfoM
  obtain ⟨i1, hi1, hy0, hy1, hy2⟩ := info_parts intInfo
  have HK := hid h
  have hqz := (Array.getElem?_eq_some_iff.1 h.row).1
  obtain ⟨p1, c1, e1⟩ := owns_slice h.lm.o
  obtain ⟨p2, c2, e2⟩ := owns_slice h.lm.m
  have h3 : w.cell? ⟨q, 3, none⟩ = some (.int .i64 V.mark) := (cell_of_row w q 3 _ _ _ h.row).trans rfl
  have g3 := frozen_of_row w q 3 _ _ h.row
  have hbq : ∀ g, B ≤ g ∧ lab g = 0 → g ≠ q := fun g hg e => by
    have := h.lq
    rw [e] at hg
    omega
  obtain ⟨p, n, ep, hnc, hcm⟩ : ∃ (p : Option Addr) (n : Nat), v = .slice p n cap ∧ n ≤ cap ∧ cap ≤ maxLen := by
    rcases hv with ⟨h1, h2⟩ | ⟨g, n, r, h1, _, _, h2, h3, _⟩
    · exact ⟨none, 0, by rw [h1, h2], by omega, by unfold maxLen; omega⟩
    · exact ⟨_, n, h1, h2, h3⟩
  subst ep
  have hmx : maxLen = 9223372036854775807 := rfl
  rw [hmx] at hcm
  have HV := hid hv
  have HS : Hid (Fill w (w.setCell ⟨q, 3, none⟩ (.int .i64 (V.mark - 1))) q { V with mark := V.mark - 1 : KV }.row p) := hid (Fill.start h.row _ _)
  have HU : Hid (UptoF 102 4 (patM (V.mark - 1)) (w.setCell ⟨q, 3, none⟩ (.int .i64 (V.mark - 1))) p cap 0) := hid (UptoF.start hv (fun g hg => by
    have ho : Only q w (w.setCell ⟨q, 3, none⟩ (.int .i64 (V.mark - 1))) := (Only.refl _ _).set _ _
    exact ho.block g (hbq g hg)))
  have HQ : Hid (∀ g, p = some ⟨g, 0, none⟩ → g ≠ q ∧ B ≤ g ∧ lab g = 0 ∧ g < w.heap.size) := hid (fun g hg => by
    rcases hv with ⟨h1, _⟩ | ⟨g', n', r, h1, h2, h3, _⟩
    · rw [hg] at h1; cases h1
    · rw [hg] at h1
      cases h1
      exact ⟨hbq _ h2, h2.1, h2.2, (Array.getElem?_eq_some_iff.1 h3).1⟩)
  have HP : Hid (0 < cap → ∃ g, p = some ⟨g, 0, none⟩) := hid (fun hc => by
    rcases hv with ⟨h1, h2⟩ | ⟨g', n', r, h1, _⟩
    · omega
    · cases h1
      exact ⟨g', rfl⟩)
  have HE1 := hid e1
  have HE2 := hid e2
  clear h hv hmx hbq e1 e2
  go_enter Tryz.func69, Tryz.ntmps69
  go_wp2_with fail
  clear h3 g3
  go_loopg [5] cap (fun gk x w' => ∃ j : Nat, j ≤ cap ∧ gk = cap - j ∧ x = .int .i64 j ∧ Fill w w' q { V with mark := V.mark - 1 : KV }.row p ∧ UptoF 102 4 (patM (V.mark - 1)) w' p cap j)
  case atStart => exact ⟨0, by omega, by omega, rfl, HS.out, HU.out⟩
  case round =>
    obtain ⟨j, hj, hgk, rfl, hF, hU⟩ := hrel
    have k3 : wr.cell? ⟨q, 3, none⟩ = some (.int .i64 (V.mark - 1)) := (cell_of_row wr q 3 _ _ _ hF.row).trans rfl
    have HF := hid hF
    have hsz := hF.size
    rcases Nat.lt_or_ge j cap with hlt | hge
    · have d0 : (0 : Int) ≤ (j : Int) := by omega
      have d1 : (j : Int) < (cap : Int) := by omega
      have d2 : (j : Int) + 1 ≤ 9223372036854775807 := by omega
      obtain ⟨g, rfl⟩ := HP.out (by omega)
      obtain ⟨r5, hr5, hz5, hu5⟩ := hU g rfl
      obtain ⟨hgq, _, _, hgz⟩ := HQ.out g rfl
      have x0 := cell_of_row wr g (j * 4) _ _ _ hr5
      rw [Array.getElem?_eq_getElem (by omega)] at x0
      have f0 := frozen_of_row wr g (j * 4) _ _ hr5
      have x1 := cell_of_row wr g (j * 4 + 1) _ _ _ hr5
      rw [Array.getElem?_eq_getElem (by omega)] at x1
      have f1 := frozen_of_row wr g (j * 4 + 1) _ _ hr5
      have x2 := cell_of_row wr g (j * 4 + 2) _ _ _ hr5
      rw [Array.getElem?_eq_getElem (by omega)] at x2
      have f2 := frozen_of_row wr g (j * 4 + 2) _ _ hr5
      have x3 := cell_of_row wr g (j * 4 + 3) _ _ _ hr5
      rw [Array.getElem?_eq_getElem (by omega)] at x3
      have f3 := frozen_of_row wr g (j * 4 + 3) _ _ hr5
      have HF6 : Hid (Fill w ((((wr.setCell ⟨g, j * 4, none⟩ (.int .i64 (V.mark - 1))).setCell ⟨g, j * 4 + 1, none⟩ (.bool false)).setCell ⟨g, j * 4 + 2, none⟩ (.slice none 0 0)).setCell ⟨g, j * 4 + 3, none⟩ (.slice none 0 0)) q { V with mark := V.mark - 1 : KV }.row (some ⟨g, 0, none⟩)) := hid (hF.only (((((Only.refl _ _).set _ _).set _ _).set _ _).set _ _) (fun e => hgq e.symm))
      have HU6 : Hid (UptoF 102 4 (patM (V.mark - 1)) ((((wr.setCell ⟨g, j * 4, none⟩ (.int .i64 (V.mark - 1))).setCell ⟨g, j * 4 + 1, none⟩ (.bool false)).setCell ⟨g, j * 4 + 2, none⟩ (.slice none 0 0)).setCell ⟨g, j * 4 + 3, none⟩ (.slice none 0 0)) (some ⟨g, 0, none⟩) cap (j + 1)) := hid (fun g' hg' => by
        cases hg'
        exact ⟨_, (setCell_row (j * 4 + 3) (.slice none 0 0) (setCell_row (j * 4 + 2) (.slice none 0 0) (setCell_row (j * 4 + 1) (.bool false) (setCell_row (j * 4) (.int .i64 (V.mark - 1)) hr5)))), by simpa using hz5, putRM hz5 hlt hu5⟩)
      have hgq' : q ≠ g := fun e => hgq e.symm
      generalize r5[j * 4] = zz0 at *
      generalize r5[j * 4 + 1] = zz1 at *
      generalize r5[j * 4 + 2] = zz2 at *
      generalize r5[j * 4 + 3] = zz3 at *
      clear hF hU hr5 hu5 HF
      go_wp2_with fail
      go_roundg (cap - (j + 1))
      case measure => omega
      case rel => exact ⟨j + 1, by omega, rfl, by go_num, HF6.out, HU6.out⟩
    · have d1 : ¬ (j : Int) < (cap : Int) := by omega
      obtain rfl : j = cap := by omega
      have k10 : wr.cell? ⟨q, 10, none⟩ = some V.vM := (cell_of_row wr q 10 _ _ _ hF.row).trans rfl
      rw [HE1.out] at k10
      have HFU := hid (UptoF.full HV.out rfl hU)
      have HSZ := hid hsz
      have hlo : ∀ g, (Value.slice p1 Ms.length c1).ownBlock = some g → lab g = 8 ∧ g < w.heap.size := fun g hg => by
        rw [← HE1.out] at hg
        exact ⟨HK.out.lm.lo g hg, (HK.out.lm.o.lt g hg).2⟩
      have hlm : ∀ g, (Value.slice p2 Ms.length c2).ownBlock = some g → lab g = 8 + 1 ∧ g < w.heap.size := fun g hg => by
        rw [← HE2.out] at hg
        exact ⟨HK.out.lm.lm g hg, (HK.out.lm.m.lt g hg).2⟩
      have hlq := HK.out.lq
      have hpn : ∀ g, lab g ≠ 0 → p ≠ some ⟨g, 0, none⟩ := fun g hg e => hg (HQ.out g e).2.2.1
      have hBz := HK.out.hB
      have hoI : wr.ownsRow B 76 1 (.slice p1 Ms.length c1) Ms.length (Ms.map (fun e => e.1)) := by
        have := HK.out.lm.o
        rw [HE1.out] at this
        exact owns_keep this (fun g hg => hF.rest g (fun e => by have := (hlo g hg).1; rw [e] at this; omega) (hpn g (by have := (hlo g hg).1; omega)))
      have hoJ : wr.ownsRow B 3 1 (.slice p2 Ms.length c2) Ms.length (Ms.map (fun e => Value.int .i64 e.2)) := by
        have := HK.out.lm.m
        rw [HE2.out] at this
        exact owns_keep this (fun g hg => hF.rest g (fun e => by have := (hlm g hg).1; rw [e] at this; omega) (hpn g (by have := (hlm g hg).1; omega)))
      have HJ := hid hoJ
      have HLO := hid hlo
      have HLM := hid hlm
      have HPN := hid hpn
      have hBr : B ≤ wr.heap.size := by omega
      clear hF hU hsz hlo hlm hpn hoJ hlq
      generalize hES : Ms.map (fun e => e.1) = ES at *
      have HES := hid hES
      clear hES
      go_wp2_with (at_builtin; go_must (refine wpList_append_lies _ (by rfl) _ _ _ (by rfl) B 76 i0 _ 1 24 Tryz.underlying56 hi0 hz0 hz1 hz2 rfl (by omega) _ Ms.length ES (by rfl) (hoI.alloc _) ⟨wr.heap.size, 0, none⟩ 1 1 [.slice p j j] (by rfl) (by rfl) (World.news_of_block (cs := #[.slice p j j]) (t := 76) (fr := (0, 0)) (heap_alloc_new wr _)) (by simp [Value.oneCell']) (by omega) (by unfold maxLen; omega) (by omega) (by simp; omega) _ rfl ?_); intro gg gcap w6 hown6 hgrow6 hat6 hlt6; apply Hid.out)
      refine hid ?_
      have nv : (Value.slice p1 Ms.length c1).ownBlock ≠ some q := fun e => by have := (HLO.out q e).1; have := HK.out.lq; omega
      have r6 := (keep_a HF.out hgrow6 hqz nv).trans HF.out.row
      have c6 : w6.cell? ⟨q, 10, none⟩ = some V.vM := (cell_of_row w6 q 10 _ _ _ r6).trans rfl
      have c6f := frozen_of_row w6 q 10 _ _ r6
      have ho6 : Only q w6 (w6.setCell ⟨q, 10, none⟩ (.slice (some ⟨gg, 0, none⟩) (Ms.length + 1) gcap)) := (Only.refl _ _).set _ _
      have r7 := setCell_row 10 (.slice (some ⟨gg, 0, none⟩) (Ms.length + 1) gcap) r6
      have c73 : (w6.setCell ⟨q, 10, none⟩ (.slice (some ⟨gg, 0, none⟩) (Ms.length + 1) gcap)).cell? ⟨q, 3, none⟩ = some (.int .i64 (V.mark - 1)) := (cell_of_row _ q 3 _ _ _ r7).trans rfl
      have c75 : (w6.setCell ⟨q, 10, none⟩ (.slice (some ⟨gg, 0, none⟩) (Ms.length + 1) gcap)).cell? ⟨q, 11, none⟩ = some V.vN := (cell_of_row _ q 11 _ _ _ r7).trans rfl
      rw [HE2.out] at c75
      rw [HE1.out] at c6
      have hoJ7 : (w6.setCell ⟨q, 10, none⟩ (.slice (some ⟨gg, 0, none⟩) (Ms.length + 1) gcap)).ownsRow B 3 1 (.slice p2 Ms.length c2) Ms.length (Ms.map (fun e => Value.int .i64 e.2)) := owns_keep HJ.out (fun g hg => by
        have h1 := HLM.out g hg
        have h2 := HK.out.lq
        exact (ho6.block g (fun e => by rw [e] at h1; omega)).trans (keep_a HF.out hgrow6 h1.2 (fun e => by have := (HLO.out g e).1; omega)))
      have hz6 := hgrow6.size
      rw [alloc_size] at hz6
      have hz7 := ho6.size
      have HG6 := hid hgrow6
      have HO6 := hid hown6
      have HAT6 := hid hat6
      have HOO := hid ho6
      have HR7 := hid r7
      clear hgrow6 hown6 hat6 hoI r6 r7 ho6 hlt6
      have nm : (Value.slice p2 Ms.length c2).ownBlock ≠ some q := fun e => by have := (HLM.out q e).1; have := HK.out.lq; omega
      have KR := hid (fun (w8 : World) (g8 : ((w6.setCell ⟨q, 10, none⟩ (.slice (some ⟨gg, 0, none⟩) (Ms.length + 1) gcap)).alloc (.cells #[.int .i64 (V.mark - 1)] 3)).grownBy w8 (Value.slice p2 Ms.length c2).ownBlock) => (⟨(cell_of_row w8 q 11 _ _ _ (keep_row hqz HF.out HG6.out g8 nv nm)).trans rfl, frozen_of_row w8 q 11 _ _ (keep_row hqz HF.out HG6.out g8 nv nm)⟩ : w8.cell? ⟨q, 11, none⟩ = some V.vN ∧ w8.frozen? ⟨q, 11, none⟩ = false))
      rw [HE2.out] at KR
      have KE := hid (fun (w8 : World) (gg2 gcap2 : Nat) (hown8 : w8.ownsRow B 3 1 (.slice (some ⟨gg2, 0, none⟩) (Ms.length + 1) gcap2) (Ms.length + 1) (Ms.map (fun e => Value.int .i64 e.2) ++ [.int .i64 (V.mark - 1)])) (g8 : ((w6.setCell ⟨q, 10, none⟩ (.slice (some ⟨gg, 0, none⟩) (Ms.length + 1) gcap)).alloc (.cells #[.int .i64 (V.mark - 1)] 3)).grownBy w8 (Value.slice p2 Ms.length c2).ownBlock) (hat8 : (Value.slice p2 Ms.length c2).ownBlock = some gg2 ∨ gg2 = w6.heap.size + 1) => keep_end (f2 := 11) HK.out.lq hqz HF.out HLO.out HLM.out (by omega) HO6.out HG6.out (fun g hg => by
        simp only [Value.ownBlock, Option.some.injEq] at hg
        subst hg
        have := HAT6.out
        rw [alloc_size] at this
        exact this) hown8 g8 (fun g hg => by
        simp only [Value.ownBlock, Option.some.injEq] at hg
        subst hg
        exact hat8))
      obtain ⟨W7, hW7⟩ : ∃ W7, W7 = w6.setCell ⟨q, 10, none⟩ (.slice (some ⟨gg, 0, none⟩) (Ms.length + 1) gcap) := ⟨_, rfl⟩
      rw [← hW7] at c73 c75 hoJ7 hz7 KR KE
      clear HOO HR7
      go_wp2_with fail
      rw [← hW7]
      clear hW7 c6 c6f
      have hqz7 : q < W7.heap.size := by have := HSZ.out; omega
      have hnew7 : (W7.alloc (.cells #[.int .i64 (V.mark - 1)] 3)).drew.heap[W7.heap.size]? = some (.cells #[.int .i64 (V.mark - 1)] 3) := heap_alloc_new _ _
      have a75 : (W7.alloc (.cells #[.int .i64 (V.mark - 1)] 3)).cell? ⟨q, 11, none⟩ = some (.slice p2 Ms.length c2) := (World.cell?_alloc_past _ _ _ (by omega)).trans c75
      have hB7 : B ≤ W7.heap.size := by omega
      have HZ7 := hid hz7
      clear hz7
      go_region_law ((first | (refine step_append_lies _ (by rfl) _ _ _ (by rfl) B 3 i1 _ 1 8 Tryz.underlying22 hi1 hy0 hy1 hy2 rfl (by omega) _ Ms.length (Ms.map (fun e => Value.int .i64 e.2)) (by rfl) (hoJ7.alloc _).drew ⟨W7.heap.size, 0, none⟩ 1 1 [.int .i64 (V.mark - 1)] (by rfl) (by rfl) (World.news_of_block (cs := #[.int .i64 (V.mark - 1)]) (t := 3) (fr := (0, 0)) hnew7) (by simp [Value.oneCell']) (by omega) (by unfold maxLen; omega) (by omega) (by simp [World.drew]; omega) (W7.heap.size + 1) (by simp [World.drew]) ?_; intro gg2 gcap2 w8 hown8 hgrow8 hat8 hlt8; obtain ⟨c85, c8f⟩ := KR.out w8 ⟨hgrow8.os, hgrow8.tape, hgrow8.output, hgrow8.size, hgrow8.block⟩)))
      all_goals
        have FIN := hid (KE.out w8 gg2 gcap2 hown8 ⟨hgrow8.os, hgrow8.tape, hgrow8.output, hgrow8.size, hgrow8.block⟩ (by rw [← HZ7.out]; exact hat8))
        clear hown8 hgrow8 hat8 hlt8 c73 c75 hoJ7 KR KE
        go_wp2_with fail
        go_end0
        obtain ⟨x1, x2, x3, x4, x5, x6, x7, x8, x9, x10, x11⟩ := FIN.out
        rw [← HES.out] at x2
        have hall : ∀ g, (Value.slice p j j).ownBlock = some g → p = some ⟨g, 0, none⟩ := fun g hg => by
          rcases HV.out with ⟨h1, _⟩ | ⟨g', n', r, h1, _⟩
          · cases h1
            cases hg
          · cases h1
            simp only [Value.ownBlock, Option.some.injEq] at hg
            subst hg
            rfl
        have PU := HK.out.pushM (m := V.mark - 1) x1 x2 x3 (fun g hg => by rw [HE1.out]; exact x4 g hg) (fun g hg => by rw [HE2.out]; exact x5 g hg) x6 (all := .slice p j j) (fun g hg => by
          obtain ⟨_, y2, y3, y4⟩ := HQ.out g (hall g hg)
          exact ⟨y3, y2, y4⟩) (HFU.out.keep (fun g hg hz => by
          obtain ⟨y1, y2, y3, y4⟩ := HQ.out g (hall g hg)
          exact ⟨hg, x8 g y4 y1 (fun e => by have := (HLO.out g e).1; omega) (fun e => by have := (HLM.out g e).1; omega)⟩)) x7 (fun g h1 h2 h3 h4 h5 => by
          rw [HE1.out] at h4
          rw [HE2.out] at h5
          refine (x8 g h1 h2 h4 h5).trans (HF.out.rest g h2 (fun e => h3 ?_))
          rw [e]
          rfl)
        refine ⟨rfl, p, _, { V with mark := V.mark - 1, vM := .slice (some ⟨gg, 0, none⟩) (Ms.length + 1) gcap, vN := .slice (some ⟨gg2, 0, none⟩) (Ms.length + 1) gcap2 : KV }, ⟨rfl, rfl, rfl, rfl, fun g h1 h2 h3 => PU.2 g h1 h2 (fun e => h3 ?_), ⟨x9, x10, x11, x7, fun g hg => ?_⟩⟩, PU.1⟩
        · rw [hall g e]
          rfl
        · have hgz : g < w.heap.size := by omega
          by_cases h0 : lab g = 0
          · refine (PU.2 g hgz h0 (fun e => ?_)).1
            have := (HQ.out g (hall g e)).2.1
            omega
          · have := (HK.out.hz g h0).1
            omega
/-- Both machines, and so many lists kept. -/
def KN (E : Env) (B q : Nat) (K : PK) (R : RK) (F G : Nat → Prop) (s : MS) (img : ByteArray) (lab : Nat → Nat) (nI nS nC nM : Nat) (w : World) : Prop :=
  ∃ V Is Ss Cs Ms, KM E B w q lab V K R F G s Is Ss Cs Ms ∧ Is.length = nI ∧ Ss.length = nS ∧ Cs.length = nC ∧ Ms.length = nM ∧ V.a2 = .string img
/-- What nobody keeps stays as it was, but for the list b. -/
def Rest (w : World) (lab : Nat → Nat) (w' : World) (lab' : Nat → Nat) (b : Option Nat) : Prop := ∀ g, g < w.heap.size → lab g = 0 → b ≠ some g → w'.heap[g]? = w.heap[g]? ∧ lab' g = 0
theorem KN.below {E : Env} {B q : Nat} {K : PK} {R : RK} {F G : Nat → Prop} {s : MS} {img : ByteArray} {lab : Nat → Nat} {nI nS nC nM : Nat} {w w' : World} (h : KN E B q K R F G s img lab nI nS nC nM w) (hb : Below w.heap.size w w') : KN E B q K R F G s img lab nI nS nC nM w' := by
  obtain ⟨V, Is, Ss, Cs, Ms, h1, h2⟩ := h
  exact ⟨V, Is, Ss, Cs, Ms, h1.below hb, h2⟩
theorem KN.facts {E : Env} {B q : Nat} {K : PK} {R : RK} {F G : Nat → Prop} {s : MS} {img : ByteArray} {lab : Nat → Nat} {nI nS nC nM : Nat} {w : World} (h : KN E B q K R F G s img lab nI nS nC nM w) :
    w.cell? ⟨q, 0, none⟩ = some (.pointer (some ⟨K.b, 0, none⟩)) ∧ w.cell? ⟨q, 2, none⟩ = some (.string img) ∧ (∀ g, lab g ≠ 0 → B ≤ g ∧ g < w.heap.size) ∧ (∀ g, F g → g < w.heap.size) ∧ (∀ g, G g → g < w.heap.size) ∧ B ≤ w.heap.size ∧ q < w.heap.size ∧ B ≤ q := by
  obtain ⟨V, Is, Ss, Cs, Ms, h1, _, _, _, _, h6⟩ := h
  refine ⟨(cell_of_row w q 0 _ _ _ h1.lw.row).trans h1.lw.r0, ?_, h1.ks.hz, h1.lw.fz, h1.lw.gz, h1.ks.hB, (Array.getElem?_eq_some_iff.1 h1.lw.row).1, (h1.ks.hz q (by rw [h1.ks.lq]; omega)).1⟩
  have : w.cell? ⟨q, 2, none⟩ = some V.a2 := (cell_of_row w q 2 _ _ _ h1.lw.row).trans rfl
  rw [this, h6]
theorem KN.pm {E : Env} {B q : Nat} {K : PK} {R : RK} {F G : Nat → Prop} {s : MS} {img : ByteArray} {lab : Nat → Nat} {nI nS nC nM : Nat} {w : World} (h : KN E B q K R F G s img lab nI nS nC nM w) : PX w K F s ∧ KE K E ∧ EnvOk E ∧ MInv E s := by
  obtain ⟨V, Is, Ss, Cs, Ms, h1, _⟩ := h
  exact ⟨h1.lw.pm, h1.lw.ke, h1.lw.ok, h1.lw.inv⟩
theorem kn_keepInts {E : Env} {B q : Nat} {K : PK} {R : RK} {F G : Nat → Prop} {s : MS} {img : ByteArray} {lab : Nat → Nat} {nI nS nC nM : Nat} {w : World} (h : KN E B q K R F G s img lab nI nS nC nM w) {v : Value} {cap : Nat} (hv : Box w (fun g => B ≤ g ∧ lab g = 0 ∧ ¬ F g ∧ ¬ G g) 3 1 v cap) (hI : nI ≤ 1000000000) (hS : nS ≤ 1000000000) (hC : nC ≤ 1000000000) (hM : nM ≤ 1000000000) :
    Calls Tryz.prog 68 #[.pointer (some ⟨q, 0, none⟩), v] w fun e w' => e = .returned (.tuple #[]) ∧ ∃ lab', KN E B q K R F G s img lab' (nI + 1) nS nC nM w' ∧ Below B w w' ∧ Rest w lab w' lab' v.ownBlock := by
  obtain ⟨V, Is, Ss, Cs, Ms, h1, h2, h3, h4, h5, h6⟩ := h
  have hm := h1.mark
  have hvb : ∀ g, v.ownBlock = some g → ¬ F g ∧ ¬ G g := fun g hg => by
    rcases hv with ⟨e, _⟩ | ⟨g', n', r, e, hp, _⟩
    · rw [e] at hg; cases hg
    · rw [e] at hg
      simp only [Value.ownBlock, Option.some.injEq] at hg
      subst hg
      exact hp.2.2
  refine (keepInts_any h1.ks (hv.keep (fun g _ hg => ⟨⟨hg.1, hg.2.1⟩, rfl⟩)) (by omega) (by omega) (by omega)).mono ?_
  rintro e w' ⟨he, p, lab', V', hk, hs⟩
  refine ⟨he, lab', ⟨V', _, _, _, _, h1.kept hk hs hvb (by simp only [List.length_append, List.length_cons, List.length_nil]; omega), ?_, ?_, ?_, ?_, by rw [hk.a2]; exact h6⟩, hk.bel, hk.rest⟩
  all_goals first | assumption | (rw [List.length_append, List.length_singleton]; omega)
theorem kn_keepSlots {E : Env} {B q : Nat} {K : PK} {R : RK} {F G : Nat → Prop} {s : MS} {img : ByteArray} {lab : Nat → Nat} {nI nS nC nM : Nat} {w : World} (h : KN E B q K R F G s img lab nI nS nC nM w) {v : Value} {cap : Nat} (hv : Box w (fun g => B ≤ g ∧ lab g = 0 ∧ ¬ F g ∧ ¬ G g) 98 2 v cap) (hI : nI ≤ 1000000000) (hS : nS ≤ 1000000000) (hC : nC ≤ 1000000000) (hM : nM ≤ 1000000000) :
    Calls Tryz.prog 66 #[.pointer (some ⟨q, 0, none⟩), v] w fun e w' => e = .returned (.tuple #[]) ∧ ∃ lab', KN E B q K R F G s img lab' nI (nS + 1) nC nM w' ∧ Below B w w' ∧ Rest w lab w' lab' v.ownBlock := by
  obtain ⟨V, Is, Ss, Cs, Ms, h1, h2, h3, h4, h5, h6⟩ := h
  have hm := h1.mark
  have hvb : ∀ g, v.ownBlock = some g → ¬ F g ∧ ¬ G g := fun g hg => by
    rcases hv with ⟨e, _⟩ | ⟨g', n', r, e, hp, _⟩
    · rw [e] at hg; cases hg
    · rw [e] at hg
      simp only [Value.ownBlock, Option.some.injEq] at hg
      subst hg
      exact hp.2.2
  refine (keepSlots_any h1.ks (hv.keep (fun g _ hg => ⟨⟨hg.1, hg.2.1⟩, rfl⟩)) (by omega) (by omega) (by omega)).mono ?_
  rintro e w' ⟨he, p, lab', V', hk, hs⟩
  refine ⟨he, lab', ⟨V', _, _, _, _, h1.kept hk hs hvb (by simp only [List.length_append, List.length_cons, List.length_nil]; omega), ?_, ?_, ?_, ?_, by rw [hk.a2]; exact h6⟩, hk.bel, hk.rest⟩
  all_goals first | assumption | (rw [List.length_append, List.length_singleton]; omega)
theorem kn_keepCells {E : Env} {B q : Nat} {K : PK} {R : RK} {F G : Nat → Prop} {s : MS} {img : ByteArray} {lab : Nat → Nat} {nI nS nC nM : Nat} {w : World} (h : KN E B q K R F G s img lab nI nS nC nM w) {v : Value} {cap : Nat} (hv : Box w (fun g => B ≤ g ∧ lab g = 0 ∧ ¬ F g ∧ ¬ G g) 100 5 v cap) (hI : nI ≤ 1000000000) (hS : nS ≤ 1000000000) (hC : nC ≤ 1000000000) (hM : nM ≤ 1000000000) :
    Calls Tryz.prog 67 #[.pointer (some ⟨q, 0, none⟩), v] w fun e w' => e = .returned (.tuple #[]) ∧ ∃ lab', KN E B q K R F G s img lab' nI nS (nC + 1) nM w' ∧ Below B w w' ∧ Rest w lab w' lab' v.ownBlock := by
  obtain ⟨V, Is, Ss, Cs, Ms, h1, h2, h3, h4, h5, h6⟩ := h
  have hm := h1.mark
  have hvb : ∀ g, v.ownBlock = some g → ¬ F g ∧ ¬ G g := fun g hg => by
    rcases hv with ⟨e, _⟩ | ⟨g', n', r, e, hp, _⟩
    · rw [e] at hg; cases hg
    · rw [e] at hg
      simp only [Value.ownBlock, Option.some.injEq] at hg
      subst hg
      exact hp.2.2
  refine (keepCells_any h1.ks (hv.keep (fun g _ hg => ⟨⟨hg.1, hg.2.1⟩, rfl⟩)) (by omega) (by omega) (by omega)).mono ?_
  rintro e w' ⟨he, p, lab', V', hk, hs⟩
  refine ⟨he, lab', ⟨V', _, _, _, _, h1.kept hk hs hvb (by simp only [List.length_append, List.length_cons, List.length_nil]; omega), ?_, ?_, ?_, ?_, by rw [hk.a2]; exact h6⟩, hk.bel, hk.rest⟩
  all_goals first | assumption | (rw [List.length_append, List.length_singleton]; omega)
theorem kn_keepMaps {E : Env} {B q : Nat} {K : PK} {R : RK} {F G : Nat → Prop} {s : MS} {img : ByteArray} {lab : Nat → Nat} {nI nS nC nM : Nat} {w : World} (h : KN E B q K R F G s img lab nI nS nC nM w) {v : Value} {cap : Nat} (hv : Box w (fun g => B ≤ g ∧ lab g = 0 ∧ ¬ F g ∧ ¬ G g) 102 4 v cap) (hI : nI ≤ 1000000000) (hS : nS ≤ 1000000000) (hC : nC ≤ 1000000000) (hM : nM ≤ 1000000000) :
    Calls Tryz.prog 69 #[.pointer (some ⟨q, 0, none⟩), v] w fun e w' => e = .returned (.tuple #[]) ∧ ∃ lab', KN E B q K R F G s img lab' nI nS nC (nM + 1) w' ∧ Below B w w' ∧ Rest w lab w' lab' v.ownBlock := by
  obtain ⟨V, Is, Ss, Cs, Ms, h1, h2, h3, h4, h5, h6⟩ := h
  have hm := h1.mark
  have hvb : ∀ g, v.ownBlock = some g → ¬ F g ∧ ¬ G g := fun g hg => by
    rcases hv with ⟨e, _⟩ | ⟨g', n', r, e, hp, _⟩
    · rw [e] at hg; cases hg
    · rw [e] at hg
      simp only [Value.ownBlock, Option.some.injEq] at hg
      subst hg
      exact hp.2.2
  refine (keepMaps_any h1.ks (hv.keep (fun g _ hg => ⟨⟨hg.1, hg.2.1⟩, rfl⟩)) (by omega) (by omega) (by omega)).mono ?_
  rintro e w' ⟨he, p, lab', V', hk, hs⟩
  refine ⟨he, lab', ⟨V', _, _, _, _, h1.kept hk hs hvb (by simp only [List.length_append, List.length_cons, List.length_nil]; omega), ?_, ?_, ?_, ?_, by rw [hk.a2]; exact h6⟩, hk.bel, hk.rest⟩
  all_goals first | assumption | (rw [List.length_append, List.length_singleton]; omega)
end Go.Proofs.YtdmdpindonghdaaGreatDoor
