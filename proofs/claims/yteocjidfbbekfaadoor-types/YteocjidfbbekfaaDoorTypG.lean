/- The contract of the reference's Maps. -/
import Derived.Test.YteocjidfbbekfaaDoorTypF
import Derived.Test.YteocjidfbbekfaaDoorTypC
import Derived.Test.YteocjidfbbekfaaDoorRefF
import Derived.Test.YteocjidfbbekfaaDoorFlowJ
namespace Go.Proofs.YteocjidfbbekfaaDoor
open Go.RowKit

def toldM (l : List Ins) (all : List Pt) (i : Nat) : MP := ⟨(l.getD i ⟨0, 0, 0⟩).place, (toldF i all).r, (toldF i all).lo, (toldF i all).st⟩
def toldAll (l : List Ins) (all : List Pt) : List MP := (List.range l.length).map (toldM l all)
def RMapsPost (s : ByteArray) (w : World) (e : Ending) (w' : World) : Prop :=
  Below w.heap.size w w' ∧ ((∃ r : Nat, r ≠ 0 ∧ IsErr s r ∧ e = .returned (.tuple #[.slice none 0 0, .int .i64 r])) ∨
    (∃ v all, e = .returned (.tuple #[v, .int .i64 0]) ∧ errOf s = 0 ∧ WT (codeOf s) (byteAt s 1) ∧ (∀ p, Reach (codeOf s) (byteAt s 1) p ↔ p ∈ all) ∧ OwnPts w' w.heap.size v (toldAll (codeOf s) all)))

set_option maxRecDepth 100000 in
set_option maxHeartbeats 1000000 in
theorem refMaps_any (s : ByteArray) (w : World) (hs : s.size ≤ maxLen) (ht : TakesTab w) (htt : TypeTab w) :
    Calls Tryd.prog 9 #[.string s] w (RMapsPost s w) := by
  obtain ⟨i0, hi0, hz0, hz1, hz2⟩ := info_parts pointInfo
  have hc := hid (code_any s w hs ht)
  have HTT := hid htt
  clear hs ht htt
  go_enter Tryd.func9, Tryd.ntmps9
  go_wp2_with fail
  refine hc.out.mono ?_
  clear hc
  intro e w1 hp
  obtain ⟨hb, hp⟩ := hp
  have HB := hid hb
  have hz := hb.size
  rcases hp with ⟨he, rfl⟩ | ⟨he, g, cap, rfl, h1, h2, h3⟩
  · have he' : (((errOf s : Nat) : Int) != 0) = true := by simp; omega
    have HE := hid he
    clear he hb
    go_wp2_with fail
    exact bodyPost_ret (v := .tuple #[.slice none 0 0, .int .i64 (errOf s : Nat)]) (by simp [results, Tryd.results9, go_sem]) rfl ⟨HB.out, .inl ⟨errOf s, HE.out, .inl ⟨HE.out, rfl⟩, rfl⟩⟩
  · have HE := hid he
    have hw := hid (wf_of he)
    have hwy := hid (ways_any (codeOf s) (byteAt s 1) g cap w1 hw.out h3 h2 (HTT.out.below hb))
    have HIN := hid h3
    have h120 := hw.out.len
    have hL := hw.out.loc
    generalize hLL : byteAt s 1 = L at *
    have HLL := hid hLL
    generalize hl : codeOf s = l at *
    have HL := hid hl
    clear he hb h3 hLL hl
    go_wp2_with fail
    refine hwy.out.mono ?_
    clear hwy
    intro e w2 hp
    obtain ⟨hb2, hp⟩ := hp
    have HBB : Hid (Below w.heap.size w w2) := hid (HB.out.trans (hb2.mono hz))
    have hz2b := hb2.size
    rcases hp with ⟨hwt, g2, cap2, all, rfl, hg2, hg3, hpt, hbase, hall⟩ | ⟨hwt, rfl⟩
    · have HWT := hid hwt
      have HPT := hid hpt
      have HALL := hid hall
      have HBASE := hid hbase
      have hal := hbase.len hw.out
      have HIN2 := hid (HIN.out.below hb2 h2)
      clear hwt hpt hall hbase hb2
      go_wp2_with fail
      go_loopg [9, 10] l.length (fun gk v x w' => ∃ k : Nat, k ≤ l.length ∧ gk = l.length - k ∧ x = .int .i64 k ∧ OwnPts w' w2.heap.size v ((toldAll l all).take k) ∧ Below w2.heap.size w2 w')
      case atStart => exact ⟨0, by omega, by omega, rfl, OwnPts.nil _ _, Below.refl _ _⟩
      case round =>
        obtain ⟨k, hk, hgk, rfl, hown, hbel⟩ := hrel
        have hzr := hbel.size
        have HOWN := hid hown
        have HBEL := hid hbel
        rcases Nat.lt_or_ge k l.length with hlt | hge
        · have d1 : (k : Int) < (l.length : Int) := by omega
          have htd := hid (told_any l all k L g cap g2 cap2 wr (HIN2.out.below hbel (by omega)) (by omega) (HPT.out.below hbel hg3) (by omega) hlt (fun p hp => (HBASE.out.ok p hp).lo) hL (fun p hp => (HBASE.out.ok p hp).st) (by omega))
          have HNX : Hid ((toldAll l all).take (k + 1) = (toldAll l all).take k ++ [⟨l[k].place, (toldF k all).r, (toldF k all).lo, (toldF k all).st⟩]) := hid (by
            have hkm : k < (toldAll l all).length := by simp [toldAll]; omega
            rw [List.take_succ_eq_append_getElem hkm]
            simp [toldAll, toldM, List.getD_eq_getElem?_getD, hlt])
          generalize (⟨l[k].place, (toldF k all).r, (toldF k all).lo, (toldF k all).st⟩ : MP) = M at htd HNX
          obtain ⟨cs, hrow, hpts⟩ := hown
          rw [List.length_take, Nat.min_eq_left (by simp [toldAll]; omega)] at hrow
          have HPTS := hid hpts
          clear hbel hpts HOWN
          go_wp2_with fail
          refine htd.out.mono ?_
          clear htd
          intro x w5 hpost
          obtain ⟨hb5, v1, v2, hx5, hi1, hi2⟩ := hpost
          obtain ⟨p1, q1, hv1⟩ := hi1.slice
          obtain ⟨p2, q2, hv2⟩ := hi2.slice
          subst hv1
          subst hv2
          subst x
          have hz5 := hb5.size
          have hrow5 := owns_keep hrow (fun g' hg' => hb5.block g' (hrow.lt g' hg').2)
          have HB5 := hid hb5
          have HI1 := hid hi1
          have HI2 := hid hi2
          have HROW := hid hrow
          clear hb5 hi1 hi2 hrow
          go_wp2_with (at_builtin; go_must (refine wpList_append_lies _ (by rfl) _ _ _ (by rfl) w2.heap.size 51 i0 _ 4 64 Tryd.underlying27 hi0 hz0 hz1 hz2 rfl (by omega) _ k cs (by rfl) ((hrow5.alloc _).alloc _) ⟨w5.heap.size + 1, 0, none⟩ 1 1 [.int .i64 M.place, .bool M.reached, .slice p1 M.lo.length q1, .slice p2 M.st.length q2] (by rfl) (by rfl) (World.news_of_block (cs := #[.int .i64 M.place, .bool M.reached, .slice p1 M.lo.length q1, .slice p2 M.st.length q2]) (t := 51) (fr := (0, 0)) (heap_two_new w5 _ _)) (by simp [Value.oneCell']) (by omega) (by unfold maxLen; omega) (by omega) (by simp; omega) (w5.heap.size + 1 + 1) (by simp) ?_); intro gg gcap w6 hown6 hgrow6 hat6 hlt6)
          go_roundg (l.length - (k + 1))
          case measure => omega
          case rel =>
            have hlt7 : ∀ g', u9.ownBlock = some g' → g' < wr.heap.size := fun g' hg' => (HROW.out.lt g' hg').2
            have hmk : k + 1 = ((toldAll l all).take (k + 1)).length := by rw [List.length_take, Nat.min_eq_left (by simp [toldAll]; omega)]
            refine ⟨k + 1, by omega, rfl, by go_num, ?_, ?_⟩
            · have hblk : ∀ g' o o', g' < w5.heap.size → ((w5.alloc o).alloc o').heap[g']? = w5.heap[g']? := fun g' o o' h => by
                rw [Below.heap_alloc _ _ _ (by rw [alloc_size]; omega), Below.heap_alloc _ _ _ h]
              have := OwnPts.push (m := M) (v := u9) (by rw [List.length_take, Nat.min_eq_left (by simp [toldAll]; omega)])
                (PtsIn.keep (fun g' hg' => ⟨⟨hg'.1, by rw [alloc_size, alloc_size]; omega, hg'.2.2⟩, (hblk _ _ _ (by omega)).trans (HB5.out.block g' hg'.2.1)⟩) _ _ HPTS.out)
                (HI1.out.keep (fun g' hg' => ⟨⟨by omega, by rw [alloc_size, alloc_size]; omega, fun e => by have := hlt7 g' e; omega⟩, hblk _ _ _ hg'.2⟩))
                (HI2.out.keep (fun g' hg' => ⟨⟨by omega, by rw [alloc_size, alloc_size]; omega, fun e => by have := hlt7 g' e; omega⟩, hblk _ _ _ hg'.2⟩)) hown6 hgrow6 (by rw [alloc_size, alloc_size]; exact hat6)
              rw [← HNX.out, ← hmk] at this
              exact this
            · exact (((HBEL.out.trans (HB5.out.mono hzr)).alloc (by omega) _).alloc (by rw [alloc_size]; omega) _).grown hgrow6 (by rw [alloc_size, alloc_size]; omega) (fun j hj => (HROW.out.lt j hj).1)
        · have d1 : ¬ (k : Int) < (l.length : Int) := by omega
          have hkl : k = l.length := by omega
          clear hbel hown
          go_wp2_with fail
          refine bodyPost_ret (v := .tuple #[u9, .int .i64 0]) (by simp [results, Tryd.results9, go_sem]) rfl ⟨HBB.out.trans (HBEL.out.mono (by omega)), .inr ⟨u9, all, rfl, HE.out, by rw [HL.out, HLL.out]; exact HWT.out, by rw [HL.out, HLL.out]; exact HALL.out, ?_⟩⟩
          have := HOWN.out
          rw [hkl, List.take_of_length_le (by simp [toldAll])] at this
          rw [HL.out]
          obtain ⟨cs, a1, a2⟩ := this
          exact ⟨cs, owns_mono a1 (by omega), PtsIn.keep (fun g' hg' => ⟨⟨by omega, hg'.2⟩, rfl⟩) _ _ a2⟩
    · have HE5 : Hid (IsErr s 5) := hid (.inr (.inr ⟨HE.out, by rw [HL.out, HLL.out]; exact hwt, rfl⟩))
      clear hwt hb2
      go_wp2_with fail
      exact bodyPost_ret (v := .tuple #[.slice none 0 0, .int .i64 5]) (by simp [results, Tryd.results9, go_sem]) rfl ⟨HBB.out, .inl ⟨5, by decide, HE5.out, rfl⟩⟩
end Go.Proofs.YteocjidfbbekfaaDoor
