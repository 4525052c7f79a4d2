/- The contract of the program's instructions. -/
import Derived.Test.YteocjidfbbekfaaDoorSpecF
import Derived.Test.YteocjidfbbekfaaDoorCodeA
import Derived.Test.YteocjidfbbekfaaDoorSpecG
import Derived.Deep.AppendLies
import Derived.OwnWalk
namespace Go.Proofs.YteocjidfbbekfaaDoor
open Go.RowKit

theorem Tryd.infoCI : (Tryd.prog.info? 54).map (fun i => (i.zero, i.size, i.bytes)) = some (some (.agg #[.int .i64 0, .int .i64 0, .int .i64 0, .int .i64 0]), 4, 32) := by kernel_rfl

theorem instr_below {wr w2 : World} {o : Obj} (hb : Below (wr.alloc o).heap.size (wr.alloc o) w2) : Below (wr.heap.size + 1) (wr.alloc o) w2 := hb.mono (by simp)

def InstrPost (t : ByteArray) (L : Nat) (w : World) (e : Ending) (w' : World) : Prop :=
  Below w.heap.size w w' ∧ ((dec t L 0 = none ∧ e = .returned (.tuple #[.slice none 0 0, .bool false])) ∨
    (∃ ls g cap, dec t L 0 = some ls ∧ 0 < ls.length ∧ ls.length ≤ t.size ∧ e = .returned (.tuple #[.slice (some ⟨g, 0, none⟩) ls.length cap, .bool true]) ∧ w.heap.size ≤ g ∧ g < w'.heap.size ∧ CiAt w' g (plains ls)))

set_option maxRecDepth 100000 in
set_option maxHeartbeats 1000000 in
theorem instructions_any (t : ByteArray) (L : Nat) (w : World) (ht1 : 1 ≤ t.size) (ht2 : t.size ≤ 120) :
    Calls Tryd.prog 27 #[.string t, .int .i64 L] w (InstrPost t L w) := by
  obtain ⟨i0, hi0, hz0, hz1, hz2⟩ := info_parts Tryd.infoCI
  go_enter Tryd.func27, Tryd.ntmps27
  go_wp2_with fail
  go_loopw [6, 7] (fun l p w' => ∃ (pn : Nat) (ls : List Ins), pn ≤ t.size ∧ p = .int .i64 pn ∧ w'.ownsRow w.heap.size 54 4 l ls.length (ciCells (plains ls)) ∧ Below w.heap.size w w' ∧ dec t L 0 = (dec t L pn).map (ls ++ ·) ∧ ls.length ≤ pn) (fun _ p _ => t.size - (intOf p).toNat)
  case atStart => exact ⟨0, [], by omega, rfl, World.ownsRow_nil _ _ _ _, Below.refl _ _, by simp, by simp⟩
  case round =>
    obtain ⟨pn, ls, hpn, rfl, hown, hbel, hdec, hlen⟩ := hrel
    have HDEC := hid hdec
    clear hdec
    have hsize := hbel.size
    by_cases hlt : pn < t.size
    · have c0 := byteAt_eq t pn hlt
      have c1 := byteAt_lt t pn
      have HBQ : Hid (behindP t pn L = behindQ (byteAt t pn) t.size pn (byteAt t (pn + 1)) L) := hid rfl
      have d1 := byteAt_lt t (pn + 1)
      have d0 := byteAt_eq t (pn + 1)
      have HNO := hid (dec_none t L pn hlt)
      have HYES := hid (dec_some t L pn hlt)
      generalize byteAt t pn = c at *
      generalize byteAt t (pn + 1) = n at *
      generalize behindP t pn L = Q at *
      by_cases h24 : 24 < c
      · have HF : Hid (dec t L pn = none) := hid (HNO.out (by rw [HBQ.out]; simp [behindQ, h24]))
        clear d0
        go_wp2_with fail
        go_ret2
        exact ⟨hbel, .inl ⟨by rw [HDEC.out, HF.out]; rfl, rfl⟩⟩
      cases htk : takesB c
      · have HF : Hid (dec t L pn = (dec t L (pn + 1)).map (⟨c, 0, pn⟩ :: ·)) := hid (by
          have e : Q = (pn + 1, 0) := by rw [HBQ.out]; simp [behindQ, h24, htk]
          have := HYES.out (by rw [e]; simp)
          rw [e] at this
          exact this)
        have hbad : badN c 0 L = false := by
          have hne : ∀ k, takesB k = true → c ≠ k := fun k hk e => by rw [e, hk] at htk; cases htk
          have a1 := hne 7 rfl
          have a2 := hne 8 rfl
          have a3 := hne 14 rfl
          have a4 := hne 15 rfl
          simp [badN, a1, a2]
        have HBAD := hid hbad
        have HTK := hid htk
        clear hbad htk d0
        go_wp2_with fail
        refine (hasOperand_any c _).mono ?_
        intro e w9 hh
        obtain ⟨he9, hw9⟩ := hh
        rw [HTK.out] at he9
        subst e
        subst w9
        go_wp2_with fail
        refine (operandFits_any _ _ _ c 0 L _ rfl).mono ?_
        intro e w2 hh
        obtain ⟨he2, hb2⟩ := hh
        rw [HBAD.out] at he2
        subst e
        have hb3 := instr_below hb2
        obtain ⟨bx, bo, hz⟩ := box_cells hb3
        have x0 := bx 0
        have x1 := bx 1
        have x2 := bx 2
        have x3 := bx 3
        simp only [List.getElem?_toArray, List.getElem?_cons_zero, List.getElem?_cons_succ] at x0 x1 x2 x3
        have hb4 : Below wr.heap.size wr w2 := box_below (Nat.le_refl _) hb3
        have hown2 := owns_below hown hb4 (fun g' hg' => (hown.lt g' hg').2)
        have hbel2 : Below w.heap.size w w2 := hbel.trans (hb4.mono hsize)
        clear bx bo hb2
        go_wp2_with (at_builtin; go_must (refine wpList_append_lies _ (by rfl) _ _ _ (by rfl) w.heap.size 54 i0 _ 4 32 Tryd.underlying33 hi0 hz0 hz1 hz2 rfl (by omega) _ ls.length (ciCells (plains ls)) (by rfl) (hown2.alloc _) ⟨_, 0, none⟩ 1 1 [.int .i64 pn, .int .i64 c, .int .i64 0, .int .i64 0] (by rfl) (by rfl) (World.news_of_block (cs := #[.int .i64 pn, .int .i64 c, .int .i64 0, .int .i64 0]) (t := 54) (fr := (0, 0)) (heap_alloc_new _ _)) (by simp [Value.oneCell']) (by omega) (by unfold maxLen; omega) (by omega) (by simp; omega) _ rfl ?_); intro gg cap w3 hown3 hgrow hat hlt2)
        refine ⟨⟨pn + 1, ls ++ [⟨c, 0, pn⟩], by omega, by go_num, by rw [plains_snoc, ciCells_snoc, List.length_append]; exact hown3, (hbel2.alloc (by omega) _).grown hgrow (by simp; omega) (fun k hk => (hown.lt k hk).1), ?_, by simp; omega⟩, by simp [intOf]; omega⟩
        rw [HDEC.out, HF.out]
        cases dec t L (pn + 1) <;> simp
      by_cases hsz : t.size ≤ pn + 1
      · have HF : Hid (dec t L pn = none) := hid (HNO.out (by rw [HBQ.out]; simp [behindQ, h24, htk, hsz]))
        have HTK := hid htk
        clear htk d0
        go_wp2_with fail
        refine (hasOperand_any c _).mono ?_
        intro e w9 hh
        obtain ⟨he9, hw9⟩ := hh
        rw [HTK.out] at he9
        subst e
        subst w9
        go_wp2_with fail
        go_ret2
        exact ⟨hbel.alloc hsize _, .inl ⟨by rw [HDEC.out, HF.out]; rfl, rfl⟩⟩
      have d2 := d0 (by omega)
      clear d0
      cases hbd : badN c n L
      · have HF : Hid (dec t L pn = (dec t L (pn + 2)).map (⟨c, n, pn⟩ :: ·)) := hid (by
          have e : Q = (pn + 2, n) := by rw [HBQ.out]; simp [behindQ, h24, htk, hsz, hbd]
          have := HYES.out (by rw [e]; simp)
          rw [e] at this
          exact this)
        have HBAD := hid hbd
        have HTK := hid htk
        clear hbd htk
        go_wp2_with fail
        refine (hasOperand_any c _).mono ?_
        intro e w9 hh
        obtain ⟨he9, hw9⟩ := hh
        rw [HTK.out] at he9
        subst e
        subst w9
        go_wp2_with fail
        refine (operandFits_any _ _ _ c n L _ rfl).mono ?_
        intro e w2 hh
        obtain ⟨he2, hb2⟩ := hh
        rw [HBAD.out] at he2
        subst e
        have hb3 := instr_below hb2
        obtain ⟨bx, bo, hz⟩ := box_cells hb3
        have x0 := bx 0
        have x1 := bx 1
        have x2 := bx 2
        have x3 := bx 3
        simp only [List.getElem?_toArray, List.getElem?_cons_zero, List.getElem?_cons_succ] at x0 x1 x2 x3
        have hb4 : Below wr.heap.size wr w2 := box_below (Nat.le_refl _) hb3
        have hown2 := owns_below hown hb4 (fun g' hg' => (hown.lt g' hg').2)
        have hbel2 : Below w.heap.size w w2 := hbel.trans (hb4.mono hsize)
        clear bx bo hb2
        go_wp2_with (at_builtin; go_must (refine wpList_append_lies _ (by rfl) _ _ _ (by rfl) w.heap.size 54 i0 _ 4 32 Tryd.underlying33 hi0 hz0 hz1 hz2 rfl (by omega) _ ls.length (ciCells (plains ls)) (by rfl) (hown2.alloc _) ⟨_, 0, none⟩ 1 1 [.int .i64 pn, .int .i64 c, .int .i64 n, .int .i64 0] (by rfl) (by rfl) (World.news_of_block (cs := #[.int .i64 pn, .int .i64 c, .int .i64 n, .int .i64 0]) (t := 54) (fr := (0, 0)) (heap_alloc_new _ _)) (by simp [Value.oneCell']) (by omega) (by unfold maxLen; omega) (by omega) (by simp; omega) _ rfl ?_); intro gg cap w3 hown3 hgrow hat hlt2)
        refine ⟨⟨pn + 2, ls ++ [⟨c, n, pn⟩], by omega, by go_num, by rw [plains_snoc, ciCells_snoc, List.length_append]; exact hown3, (hbel2.alloc (by omega) _).grown hgrow (by simp; omega) (fun k hk => (hown.lt k hk).1), ?_, by simp; omega⟩, by simp [intOf]; omega⟩
        rw [HDEC.out, HF.out]
        cases dec t L (pn + 2) <;> simp
      · have HF : Hid (dec t L pn = none) := hid (HNO.out (by rw [HBQ.out]; simp [behindQ, h24, htk, hsz, hbd]))
        have HBAD := hid hbd
        have HTK := hid htk
        clear hbd htk
        go_wp2_with fail
        refine (hasOperand_any c _).mono ?_
        intro e w9 hh
        obtain ⟨he9, hw9⟩ := hh
        rw [HTK.out] at he9
        subst e
        subst w9
        go_wp2_with fail
        refine (operandFits_any _ _ _ c n L _ rfl).mono ?_
        intro e w2 hh
        obtain ⟨he2, hb2⟩ := hh
        rw [HBAD.out] at he2
        subst e
        have hb4 : Below wr.heap.size wr w2 := box_below (Nat.le_refl _) (instr_below hb2)
        have hbel2 : Below w.heap.size w w2 := hbel.trans (hb4.mono hsize)
        go_wp2_with fail
        go_ret2
        exact ⟨hbel2, .inl ⟨by rw [HDEC.out, HF.out]; rfl, rfl⟩⟩
    · have HD := hid (dec_end t L pn (by omega))
      have hne : 0 < ls.length := by
        rcases Nat.eq_zero_or_pos ls.length with h | h
        · exfalso
          have h' := HDEC.out
          rw [HD.out, List.length_eq_zero_iff.1 h] at h'
          by_cases hq : (behindP t 0 L).1 = 0
          · rw [dec_none t L 0 (by omega) hq] at h'; cases h'
          · rw [dec_some t L 0 (by omega) hq] at h'
            cases hx : dec t L (behindP t 0 L).1 with
            | none => rw [hx] at h'; cases h'
            | some r => rw [hx] at h'; cases h'
        · exact h
      have HDEC2 : Hid (dec t L 0 = some ls) := hid (by rw [HDEC.out, HD.out]; simp)
      clear HDEC HD
      obtain ⟨g, cap, rfl, hg1, hg2⟩ := hown.form hne
      have hat := CiAt.of_owns (l := plains ls) (by rw [plains_len]; exact hown)
      go_wp2_with fail
      go_ret2
      exact ⟨hbel, .inr ⟨ls, g, cap, HDEC2.out, hne, by omega, rfl, hg1, hg2, hat⟩⟩
end Go.Proofs.YteocjidfbbekfaaDoor
