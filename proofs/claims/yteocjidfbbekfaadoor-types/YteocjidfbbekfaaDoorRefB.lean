/- The contract of the reference's Code. -/
import Derived.Test.YteocjidfbbekfaaDoorRefA
import Derived.Deep.AppendLies
import Derived.OwnWalk
namespace Go.Proofs.YteocjidfbbekfaaDoor
open Go.RowKit
theorem Tryd.infoIns : (Tryd.prog.info? 64).map (fun i => (i.zero, i.size, i.bytes)) = some (some (.agg #[.int .i64 0, .int .i64 0, .int .i64 0]), 3, 24) := by kernel_rfl


theorem jumpsOk_false {ls : List Ins} {k : Nat} (h : k < ls.length) (hj : ls[k].op = 19 ∨ ls[k].op = 20) (hf : findP ls[k].n ls 0 < 0) : jumpsOk ls = false := by
  unfold jumpsOk
  rw [List.all_eq_false]
  refine ⟨ls[k], List.getElem_mem h, ?_⟩
  simp [isJump]
  exact ⟨fun h => hj.resolve_left h, hf⟩
theorem jumpsOk_true {ls : List Ins} (h : ∀ j (h : j < ls.length), isJump ls[j].op = false ∨ 0 ≤ findP ls[j].n ls 0) : jumpsOk ls = true := by
  unfold jumpsOk
  rw [List.all_eq_true]
  intro i hi
  obtain ⟨j, hj, rfl⟩ := List.getElem_of_mem hi
  rcases h j hj with h | h
  · simp [h]
  · simp [h]
theorem lastOp_eq {ls : List Ins} (h : 0 < ls.length) : lastOp ls = (ls[ls.length - 1]'(by omega)).op := by
  unfold lastOp
  rw [List.getLast?_eq_getElem?, List.getElem?_eq_getElem (by omega)]
  rfl
def CodePost (s : ByteArray) (w : World) (e : Ending) (w' : World) : Prop :=
  Below w.heap.size w w' ∧ ((errOf s ≠ 0 ∧ e = .returned (.tuple #[.slice none 0 0, .int .i64 0, .int .i64 (errOf s : Nat)])) ∨
    (errOf s = 0 ∧ ∃ g cap, e = .returned (.tuple #[.slice (some ⟨g, 0, none⟩) (codeOf s).length cap, .int .i64 (byteAt s 1 : Nat), .int .i64 0]) ∧ w.heap.size ≤ g ∧ g < w'.heap.size ∧ InsAt w' g (codeOf s)))
theorem codePost_err {s : ByteArray} {w w' : World} {k : Nat} (hb : Below w.heap.size w w') (he : errOf s = k) (hk : k ≠ 0) {z : Int} (hz : z = (k : Int)) : CodePost s w (.returned (.tuple #[.slice none 0 0, .int .i64 0, .int .i64 z])) w' := by
  subst he; subst hz; exact ⟨hb, .inl ⟨hk, rfl⟩⟩
theorem codePost_ok {s : ByteArray} {w w' : World} {L g cap n : Nat} {ls : List Ins} (hb : Below w.heap.size w w') (he : errOf s = 0) (hL : byteAt s 1 = L) (hc : codeOf s = ls) (hn : ls.length = n) (h1 : w.heap.size ≤ g) (h2 : g < w'.heap.size) (h3 : InsAt w' g ls) :
    CodePost s w (.returned (.tuple #[.slice (some ⟨g, 0, none⟩) n cap, .int .i64 (L : Nat), .int .i64 0])) w' := by
  subst hL; subst hc; subst hn; exact ⟨hb, .inr ⟨he, g, cap, rfl, h1, h2, h3⟩⟩

set_option maxHeartbeats 1000000 in
theorem code_shaped (s : ByteArray) (w : World) (htab : TakesTab w) (hsh : shapedP s = true) :
    Calls Tryd.prog 12 #[.string s] w (CodePost s w) := by
  obtain ⟨i0, hi0, hz0, hz1, hz2⟩ := info_parts Tryd.infoIns
  obtain ⟨⟨⟨h3, h4⟩, h0⟩, h1⟩ : ((3 ≤ s.size ∧ s.size ≤ 122) ∧ byteAt s 0 = 84) ∧ byteAt s 1 ≤ 4 := by simpa [shapedP] using hsh
  have hsz : (textOf s).size = s.size - 2 := by simp [textOf]
  have e0 := byteAt_eq s 0 (by omega)
  have e1 := byteAt_eq s 1 (by omega)
  rw [h0] at e0
  have HB : Hid (errOf s = match dec (textOf s) (byteAt s 1) 0 with
    | none => 2
    | some l => if jumpsOk l = false then 3 else if endsOk l = false then 4 else 0) := hid (by unfold errOf; rw [hsh]; rfl)
  have HC : Hid (codeOf s = (dec (textOf s) (byteAt s 1) 0).getD []) := hid rfl
  generalize hL : byteAt s 1 = L at *
  have HL := hid hL
  clear hsh h0 hL
  have HT : Hid (textOf s = s.extract 2 s.size) := hid rfl
  have d1 : decide ((s.size : Int) < 3) = false := by simp; omega
  have d2 : decide (122 < (s.size : Int)) = false := by simp; omega
  have d3 : decide (4 < (L : Int)) = false := by simp; omega
  have t1 : 1 ≤ (textOf s).size := by omega
  have t2 : (textOf s).size ≤ 120 := by omega
  clear hsz
  go_enter Tryd.func12, Tryd.ntmps12
  go_wp2_with fail
  rw [← HT.out]
  generalize textOf s = t at *
  clear HT
  go_loopw [7, 8] (fun l p w' => ∃ (pn : Nat) (ls : List Ins), pn ≤ t.size ∧ p = .int .i64 pn ∧ w'.ownsRow w.heap.size 64 3 l ls.length (insCells ls) ∧ Below w.heap.size w w' ∧ dec t L 0 = (dec t L pn).map (ls ++ ·) ∧ ls.length ≤ pn) (fun _ p _ => t.size - (intOf p).toNat)
  case atStart => exact ⟨0, [], by omega, rfl, World.ownsRow_nil _ _ _ _, Below.refl _ _, by simp, by simp⟩
  case round =>
    obtain ⟨pn, ls, hpn, rfl, hown, hbel, hdec, hlen⟩ := hrel
    have HDEC := hid hdec
    clear hdec
    have hsize := hbel.size
    by_cases hlt : pn < t.size
    · have htab' := htab.below hbel
      have c0 := byteAt_eq t pn hlt
      have c1 := byteAt_lt t pn
      by_cases hq : (behindP t pn L).1 = 0
      · have HD := hid (dec_none t L pn hlt hq)
        have hq' : (((behindP t pn L).1 : Nat) : Int) = 0 := by omega
        clear hq
        go_wp2_with (go_at_call 19; refine (behind_any _ _ _ _ (by omega) hlt (by omega) htab').mono ?_; rintro e w2 ⟨rfl, rfl⟩)
        go_ret3
        exact codePost_err (k := 2) hbel (by have h := HB.out; rw [HDEC.out, HD.out] at h; exact h) (by decide) rfl
      · have hgt := behindP_gt t pn L hlt hq
        have HD := hid (dec_some t L pn hlt hq)
        have hbh := hid (behind_any t pn L wr (by omega) hlt (by omega) htab')
        generalize behindP t pn L = B at *
        obtain ⟨q, n⟩ := B
        simp only at hgt hq HD hbh
        obtain ⟨g1, g2, g3⟩ := hgt
        have q0 : (((q : Nat) : Int) == 0) = false := by simp; omega
        go_wp2_with fail
        refine hbh.out.mono ?_
        clear hbh
        rintro e w2 ⟨rfl, rfl⟩
        go_wp2_with (at_builtin; go_loud (refine wpList_append_lies _ (by rfl) _ _ _ (by rfl) w.heap.size 64 i0 _ 3 24 Tryd.underlying39 hi0 hz0 hz1 hz2 rfl (by omega) _ ls.length (insCells ls) (by rfl) (hown.alloc _) ⟨_, 0, none⟩ 1 1 [.int .i64 (byteAt t pn : Nat), .int .i64 n, .int .i64 pn] (by rfl) (by rfl) (World.news_of_block (cs := #[.int .i64 (byteAt t pn : Nat), .int .i64 n, .int .i64 pn]) (t := 64) (fr := (0, 0)) (heap_alloc_new _ _)) (by simp [Value.oneCell']) (by omega) (by unfold maxLen; omega) (by omega) (by simp; omega) _ rfl ?_); intro gg cap w1 hown1 hgrow hat hlt2)
        refine ⟨⟨q, ls ++ [⟨byteAt t pn, n, pn⟩], g2, rfl, by rw [insCells_snoc, List.length_append]; exact hown1, (hbel.alloc hsize _).grown hgrow (by simp; omega) (fun k hk => (hown.lt k hk).1), ?_, by simp; omega⟩, by simp [intOf]; omega⟩
        rw [HDEC.out, HD.out]
        cases dec t L q <;> simp
    · have HD := hid (dec_end t L pn (by omega))
      have hne : 0 < ls.length := by
        rcases Nat.eq_zero_or_pos ls.length with h | h
        · exfalso
          have h' := HDEC.out
          rw [HD.out, List.length_eq_zero_iff.1 h] at h'
          by_cases hq : (behindP t 0 L).1 = 0
          · rw [dec_none t L 0 (by omega) hq] at h'; cases h'
          · rw [dec_some t L 0 (by omega) hq] at h'
            cases hx : dec t L (behindP t 0 L).1 with
            | none => rw [hx] at h'; cases h'
            | some r => rw [hx] at h'; cases h'
        · exact h
      have HDEC2 : Hid (dec t L 0 = some ls) := hid (by rw [HDEC.out, HD.out]; simp)
      clear HDEC HD
      obtain ⟨g, cap, rfl, hg1, hg2⟩ := hown.form hne
      have hat := InsAt.of_owns hown
      have hlen2 : ls.length ≤ 120 := by omega
      clear hown hpn hlen
      go_wp2_with fail
      go_loopw [11] (fun i w' => ∃ (k : Nat), k ≤ ls.length ∧ i = .int .i64 k ∧ w' = wr ∧ ∀ j (h : j < ls.length), j < k → isJump ls[j].op = false ∨ 0 ≤ findP ls[j].n ls 0) (fun i _ => ls.length - (intOf i).toNat)
      case atStart => exact ⟨0, by omega, rfl, rfl, fun j _ h => by omega⟩
      case round =>
        obtain ⟨k, hk, rfl, hweq, hall⟩ := hrel
        subst hweq
        have HA := hid hall
        clear hall
        by_cases hkl : k < ls.length
        · obtain ⟨a0, a1, a2⟩ := hat k hkl
          have hfd := hid (find_any ls g cap ls[k].n wr (by omega) hat)
          go_wp2_with (go_at_call 20; go_must (refine hfd.out.mono ?_); rintro e w2 ⟨rfl, rfl⟩)
          all_goals
            first
            | (go_ret3
               exact codePost_err (k := 3) hbel (by have h := HB.out; rw [HDEC2.out] at h; simpa [jumpsOk_false hkl (by omega) (by omega)] using h) (by decide) rfl)
            | (refine ⟨⟨k + 1, by omega, by go_num, by first | rfl | trivial, fun j hj hjk => ?_⟩, by simp [intOf]; omega⟩
               rcases Nat.lt_or_ge j k with hlt2 | hge2
               · exact HA.out j hj hlt2
               · have : j = k := by omega
                 subst this
                 first
                 | (right; omega)
                 | (left; simp [isJump]; omega))
        · have HJ := hid (jumpsOk_true (ls := ls) fun j h => HA.out j h (by omega))
          have hlo := hid (lastOp_eq hne)
          obtain ⟨a0, a1, a2⟩ := hat (ls.length - 1) (by omega)
          have HEnd : Hid (errOf s = if endsOk ls = false then 4 else 0) := hid (by
            have h := HB.out
            rw [HDEC2.out] at h
            simpa [HJ.out] using h)
          have HCode : Hid (codeOf s = ls) := hid (by rw [HC.out, HDEC2.out]; rfl)
          by_cases hx0 : ls[ls.length - 1].op = 0
          · have hy0 : (((ls[ls.length - 1].op : Nat) : Int) != 0) = false := by simp; omega
            have HE2 : Hid (errOf s = 0) := hid (by rw [HEnd.out]; simp [endsOk, hlo.out, hx0])
            clear HEnd
            go_wp2_with fail
            go_ret3
            exact codePost_ok hbel HE2.out HL.out HCode.out rfl hg1 hg2 hat
          · have hy0 : (((ls[ls.length - 1].op : Nat) : Int) != 0) = true := by simp; omega
            by_cases hx1 : ls[ls.length - 1].op = 19
            · have hy1 : (((ls[ls.length - 1].op : Nat) : Int) != 19) = false := by simp; omega
              have HE2 : Hid (errOf s = 0) := hid (by rw [HEnd.out]; simp [endsOk, hlo.out, hx1])
              clear HEnd hx1 hx0
              go_wp2_with fail
              go_ret3
              exact codePost_ok hbel HE2.out HL.out HCode.out rfl hg1 hg2 hat
            · have hy1 : (((ls[ls.length - 1].op : Nat) : Int) != 19) = true := by simp; omega
              have HE2 : Hid (errOf s = 4) := hid (by rw [HEnd.out]; simp [endsOk, hlo.out, hx1, hx0])
              clear HEnd hx1 hx0
              go_wp2_with fail
              go_ret3
              exact codePost_err hbel HE2.out (by decide) rfl

set_option maxHeartbeats 400000 in
theorem code_unshaped (s : ByteArray) (w : World) (hs : s.size ≤ maxLen) (hsh : shapedP s = false) :
    Calls Tryd.prog 12 #[.string s] w (CodePost s w) := by
  unfold maxLen at hs
  have HE : Hid (errOf s = 1) := hid (by simp [errOf, hsh])
  have b0 := byteAt_lt s 0
  have b1 := byteAt_lt s 1
  by_cases h3 : s.size < 3
  · clear hsh
    go_enter Tryd.func12, Tryd.ntmps12
    go_wp2_with fail
    go_ret3
    exact codePost_err (Below.refl _ _) HE.out (by decide) rfl
  by_cases h4 : 122 < s.size
  · clear hsh
    go_enter Tryd.func12, Tryd.ntmps12
    go_wp2_with fail
    go_ret3
    exact codePost_err (Below.refl _ _) HE.out (by decide) rfl
  have e0 := byteAt_eq s 0 (by omega)
  have e1 := byteAt_eq s 1 (by omega)
  by_cases h5 : byteAt s 0 = 84
  · have h6 : 4 < byteAt s 1 := by
      simp [shapedP] at hsh
      exact hsh (by omega) (by omega) h5
    clear hsh
    rw [h5] at e0
    have d1 : decide ((s.size : Int) < 3) = false := by simp; omega
    have d2 : decide (122 < (s.size : Int)) = false := by simp; omega
    clear h5
    go_enter Tryd.func12, Tryd.ntmps12
    go_wp2_with fail
    go_ret3
    exact codePost_err (Below.refl _ _) HE.out (by decide) rfl
  · have d1 : decide ((s.size : Int) < 3) = false := by simp; omega
    have d2 : decide (122 < (s.size : Int)) = false := by simp; omega
    have h7 : (((byteAt s 0 : Nat) : Int) != 84) = true := by simp; omega
    clear hsh
    go_enter Tryd.func12, Tryd.ntmps12
    go_wp2_with fail
    go_ret3
    exact codePost_err (Below.refl _ _) HE.out (by decide) rfl

theorem code_any (s : ByteArray) (w : World) (hs : s.size ≤ maxLen) (htab : TakesTab w) :
    Calls Tryd.prog 12 #[.string s] w (CodePost s w) := by
  cases hsh : shapedP s
  · exact code_unshaped s w hs hsh
  · exact code_shaped s w htab hsh
end Go.Proofs.YteocjidfbbekfaaDoor
