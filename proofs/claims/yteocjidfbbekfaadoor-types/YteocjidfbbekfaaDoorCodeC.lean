/- The contracts of the program's indexOf, withTargets, endsWell. -/
import Derived.Test.YteocjidfbbekfaaDoorCodeB
namespace Go.Proofs.YteocjidfbbekfaaDoor
open Go.RowKit

theorem plains_get {ls : List Ins} {k : Nat} (h : k < ls.length) : (plains ls)[k]? = some ⟨ls[k], 0⟩ := by
  simp [plains, plain, h]

set_option maxHeartbeats 400000 in
theorem indexOf_any (ls : List Ins) (g cap p : Nat) (w : World) (hl : ls.length ≤ 200) (hat : CiAt w g (plains ls)) (hg : g < w.heap.size) :
    Calls Tryd.prog 34 #[.slice (some ⟨g, 0, none⟩) ls.length cap, .int .i64 p] w fun e w' => e = .returned (.int .i64 (findP p ls 0)) ∧ Below w.heap.size w w' := by
  go_enter Tryd.func34, Tryd.ntmps34
  go_wp2_with fail
  go_loopw [9] (fun i w' => ∃ k : Nat, k ≤ ls.length ∧ i = .int .i64 k ∧ findP p ls 0 = findP p (ls.drop k) k ∧ Below w.heap.size w w') (fun i _ => ls.length - (intOf i).toNat)
  case atStart => exact ⟨0, Nat.zero_le _, rfl, by simp, Below.refl _ _⟩
  case round =>
    obtain ⟨k, hk, rfl, hf, hbel⟩ := hrel
    have HF : Hid (findP p ls 0 = findP p (ls.drop k) k) := hf
    clear hf
    have hsz := hbel.size
    by_cases hlt : k < ls.length
    · obtain ⟨h0, h1, h2, h3⟩ := (hat.below hbel hg) k _ (plains_get hlt)
      simp only at h0 h1 h2 h3
      have HD : Hid (ls.drop k = ls[k] :: ls.drop (k + 1)) := List.drop_eq_getElem_cons hlt
      by_cases hp : ls[k].place = p
      · have hp' : (((ls[k].place : Nat) : Int) == (p : Int)) = true := by simp; omega
        have HP : Hid (ls[k].place = p) := hp
        clear hp
        go_wp2_with fail
        go_ret
        exact ⟨ret_int (by rw [HF.out, HD.out]; simp [findP, HP.out]), hbel.alloc hsz _⟩
      · have hp' : (((ls[k].place : Nat) : Int) == (p : Int)) = false := by simp; omega
        have HP := hid hp
        clear hp
        go_wp2_with fail
        exact ⟨⟨k + 1, by omega, by go_num, by rw [HF.out, HD.out]; simp [findP, HP.out], hbel.alloc hsz _⟩, by simp [intOf]; omega⟩
    · go_wp2_with fail
      go_ret
      exact ⟨ret_int (by rw [HF.out, List.drop_of_length_le (by omega)]; simp [findP]), hbel⟩

def aim1 (ls : List Ins) (i : Ins) : CI := ⟨i, aimOf ls i⟩
theorem take_map_snoc {ls : List Ins} {k : Nat} (h : k < ls.length) : (ls.take (k + 1)).map (aim1 ls) = (ls.take k).map (aim1 ls) ++ [aim1 ls ls[k]] := by
  rw [List.take_succ_eq_append_getElem h, List.map_append]
  rfl
theorem jumps_false {ls : List Ins} {k : Nat} (h : k < ls.length) (hj : isJump ls[k].op = true) (hf : findP ls[k].n ls 0 < 0) : jumpsOk ls = false := by
  unfold jumpsOk
  rw [List.all_eq_false]
  refine ⟨ls[k], List.getElem_mem h, ?_⟩
  simp [hj]
  exact hf
theorem jumps_true {ls : List Ins} (h : ∀ j (h : j < ls.length), isJump ls[j].op = false ∨ 0 ≤ findP ls[j].n ls 0) : jumpsOk ls = true := by
  unfold jumpsOk
  rw [List.all_eq_true]
  intro i hi
  obtain ⟨j, hj, rfl⟩ := List.getElem_of_mem hi
  rcases h j hj with h | h
  · simp [h]
  · simp [h]

def AimPost (ls : List Ins) (w : World) (e : Ending) (w' : World) : Prop :=
  Below w.heap.size w w' ∧ ((jumpsOk ls = false ∧ e = .returned (.tuple #[.slice none 0 0, .bool false])) ∨
    (jumpsOk ls = true ∧ ∃ g cap, e = .returned (.tuple #[.slice (some ⟨g, 0, none⟩) ls.length cap, .bool true]) ∧ w.heap.size ≤ g ∧ g < w'.heap.size ∧ CiAt w' g (aims ls)))

set_option maxRecDepth 100000 in
set_option maxHeartbeats 1000000 in
theorem withTargets_any (ls : List Ins) (g cap : Nat) (w : World) (hpos : 0 < ls.length) (hl : ls.length ≤ 200) (hat : CiAt w g (plains ls)) (hg : g < w.heap.size) :
    Calls Tryd.prog 28 #[.slice (some ⟨g, 0, none⟩) ls.length cap] w (AimPost ls w) := by
  obtain ⟨i0, hi0, hz0, hz1, hz2⟩ := info_parts Tryd.infoCI
  go_enter Tryd.func28, Tryd.ntmps28
  go_wp2_with fail
  go_loopw [4, 10] (fun v i w' => ∃ k : Nat, k ≤ ls.length ∧ i = .int .i64 k ∧ w'.ownsRow w.heap.size 54 4 v k (ciCells ((ls.take k).map (aim1 ls))) ∧ Below w.heap.size w w' ∧ (∀ j (h : j < ls.length), j < k → isJump ls[j].op = false ∨ 0 ≤ findP ls[j].n ls 0)) (fun _ i _ => ls.length - (intOf i).toNat)
  case atStart => exact ⟨0, Nat.zero_le _, rfl, World.ownsRow_nil _ _ _ _, Below.refl _ _, fun j _ h => by omega⟩
  case round =>
    obtain ⟨k, hk, rfl, hown, hbel, hall⟩ := hrel
    have HA := hid hall
    clear hall
    have hsz := hbel.size
    by_cases hlt : k < ls.length
    · obtain ⟨h0, h1, h2, h3⟩ := (hat.below hbel hg) k _ (plains_get hlt)
      simp only at h0 h1 h2 h3
      have HS := hid (take_map_snoc hlt)
      have hgr : g < wr.heap.size := by omega
      cases hj : isJump ls[k].op
      · have hj' : ((ls[k].op : Int) == 19) = false ∧ ((ls[k].op : Int) == 20) = false := by
          simp [isJump] at hj; simp only [beq_eq_false_iff_ne]; omega
        obtain ⟨t0, t1⟩ := hj'
        have HJ := hid hj
        have HC : Hid (aim1 ls ls[k] = ⟨ls[k], 0⟩) := hid (by simp [aim1, aimOf, hj])
        clear hj
        go_wp2_with (at_builtin; go_must (refine wpList_append_lies _ (by rfl) _ _ _ (by rfl) w.heap.size 54 i0 _ 4 32 Tryd.underlying33 hi0 hz0 hz1 hz2 rfl (by omega) _ k (ciCells ((ls.take k).map (aim1 ls))) (by rfl) ((hown.alloc _).alloc _) ⟨wr.heap.size + 1, 0, none⟩ 1 1 [.int .i64 ls[k].place, .int .i64 ls[k].op, .int .i64 ls[k].n, .int .i64 0] (by rfl) (by rfl) (World.news_of_block (cs := #[.int .i64 ls[k].place, .int .i64 ls[k].op, .int .i64 ls[k].n, .int .i64 0]) (t := 54) (fr := (0, 0)) (heap_two_new wr _ _)) (by simp [Value.oneCell']) (by omega) (by unfold maxLen; omega) (by omega) (by simp; omega) (wr.heap.size + 1 + 1) (by simp) ?_); intro gg cap3 w3 hown3 hgrow hat3 hlt3)
        refine ⟨⟨k + 1, by omega, by go_num, by rw [HS.out, HC.out, ciCells_snoc]; exact hown3, ((hbel.alloc hsz _).alloc (by simp; omega) _).grown hgrow (by simp; omega) (fun k' hk' => (hown.lt k' hk').1), fun j hj2 hjk => ?_⟩, by simp [intOf]; omega⟩
        rcases Nat.lt_or_ge j k with h | h
        · exact HA.out j hj2 h
        · have : j = k := by omega
          subst this
          exact .inl HJ.out
      · have HJ := hid hj
        have hj' : ((ls[k].op : Int) == 19) = true ∧ (0 : Int) ≤ 1 ∨ ((ls[k].op : Int) == 19) = false ∧ ((ls[k].op : Int) == 20) = true := by
          simp [isJump] at hj; simp only [beq_eq_false_iff_ne, beq_iff_eq]; omega
        clear hj
        have hidx := hid (indexOf_any ls g cap ls[k].n (wr.alloc (.cells #[.int .i64 ls[k].place, .int .i64 ls[k].op, .int .i64 ls[k].n, .int .i64 0] 54)) hl (hat.below (hbel.alloc hsz _) hg) (by simp; omega))
        by_cases hf : findP ls[k].n ls 0 < 0
        · have HN := hid (jumps_false hlt HJ.out hf)
          generalize findP ls[k].n ls 0 = F at *
          rcases hj' with ⟨t0, t1⟩ | ⟨t0, t1⟩
          all_goals
            go_wp2_with fail
            refine hidx.out.mono ?_
            clear hidx
            intro e w2 hh
            obtain ⟨he2, hb2⟩ := hh
            subst e
            have hbel2 : Below w.heap.size w w2 := (hbel.alloc hsz _).trans (hb2.mono (by simp; omega))
            go_wp2_with fail
            go_ret2
            exact ⟨hbel2, .inl ⟨HN.out, rfl⟩⟩
        · obtain ⟨tn, htn⟩ : ∃ tn : Nat, findP ls[k].n ls 0 = (tn : Int) := ⟨(findP ls[k].n ls 0).toNat, by omega⟩
          have HC : Hid (aim1 ls ls[k] = ⟨ls[k], tn⟩) := hid (by simp [aim1, aimOf, HJ.out, htn])
          have HTN := hid htn
          have HFN := hid hf
          rw [htn] at hidx
          clear htn hf
          rcases hj' with ⟨t0, t1⟩ | ⟨t0, t1⟩
          all_goals
            go_wp2_with fail
            refine hidx.out.mono ?_
            clear hidx
            intro e w2 hh
            obtain ⟨he2, hb2⟩ := hh
            subst e
            have hb3 := instr_below hb2
            obtain ⟨bx, bo, hz⟩ := box_cells hb3
            have x0 := bx 0
            have x1 := bx 1
            have x2 := bx 2
            have x3 := bx 3
            simp only [List.getElem?_toArray, List.getElem?_cons_zero, List.getElem?_cons_succ] at x0 x1 x2 x3
            have hfz := hb3.frozen (p := ⟨wr.heap.size, 3, none⟩) (by simp)
            have hb4 : Below wr.heap.size wr w2 := box_below (Nat.le_refl _) hb3
            have hown2 := owns_below hown hb4 (fun g' hg' => (hown.lt g' hg').2)
            have hbel2 : Below w.heap.size w w2 := hbel.trans (hb4.mono hsz)
            clear bx bo hb2
            have hown4 := owns_set (a := ⟨wr.heap.size, 3, none⟩) hown2 (by intro h; have := (hown.lt _ h).2; simp at this) (.int .i64 tn)
            have hz5 : (w2.setCell ⟨wr.heap.size, 3, none⟩ (.int .i64 tn)).heap.size = w2.heap.size := by simp [World.setCell]
            have HZ5 := hid hz5
            have hbel4 := hbel2.setCell (p := ⟨wr.heap.size, 3, none⟩) (by simp; omega) (.int .i64 tn)
            clear hz5
            go_wp2_with (at_builtin; go_must (refine wpList_append_lies _ (by rfl) _ _ _ (by rfl) w.heap.size 54 i0 _ 4 32 Tryd.underlying33 hi0 hz0 hz1 hz2 rfl (by omega) _ k (ciCells ((ls.take k).map (aim1 ls))) (by rfl) (hown4.alloc _) ⟨w2.heap.size, 0, none⟩ 1 1 [.int .i64 ls[k].place, .int .i64 ls[k].op, .int .i64 ls[k].n, .int .i64 tn] (by rfl) (by rfl) (World.news_of_block (cs := #[.int .i64 ls[k].place, .int .i64 ls[k].op, .int .i64 ls[k].n, .int .i64 tn]) (t := 54) (fr := (0, 0)) (heap_set_new w2 _ _ _)) (by simp [Value.oneCell']) (by omega) (by unfold maxLen; omega) (by omega) (by simp [World.setCell]; omega) (w2.heap.size + 1) (by simp [World.setCell]) ?_); intro gg cap3 w3 hown3 hgrow hat3 hlt3)
            refine ⟨⟨k + 1, by omega, by go_num, by rw [HS.out, HC.out, ciCells_snoc]; exact hown3, (hbel4.alloc (by rw [HZ5.out]; omega) _).grown hgrow (by simp [World.setCell]; omega) (fun k' hk' => (hown.lt k' hk').1), fun j hj2 hjk => ?_⟩, by simp [intOf]; omega⟩
            rcases Nat.lt_or_ge j k with h | h
            · exact HA.out j hj2 h
            · have : j = k := by omega
              subst this
              exact .inr (by rw [HTN.out]; omega)
    · have hke : k = ls.length := by omega
      subst hke
      have HJ := hid (jumps_true (ls := ls) fun j h => HA.out j h h)
      obtain ⟨g3, cap3, rfl, hg3, hg4⟩ := hown.form (by omega)
      have hat3 := CiAt.of_owns (l := aims ls) (by rw [aims_len]; rw [List.take_length] at hown; exact hown)
      go_wp2_with fail
      go_ret2
      exact ⟨hbel, .inr ⟨HJ.out, g3, cap3, rfl, hg3, hg4, hat3⟩⟩

set_option maxHeartbeats 400000 in
theorem endsWell_any (ls : List Ins) (cl : List CI) (g cap : Nat) (w : World) (hpos : 0 < ls.length) (hl : ls.length ≤ 200) (hcl : cl = aims ls) (hat : CiAt w g cl) :
    Calls Tryd.prog 29 #[.slice (some ⟨g, 0, none⟩) ls.length cap] w fun e w' => e = .returned (.bool (endsOk ls)) ∧ w' = w := by
  obtain ⟨h0, h1, h2, h3⟩ := hat (ls.length - 1) (aim1 ls (ls[ls.length - 1]'(by omega))) (by
    rw [hcl]; simp only [aims, List.getElem?_map]; rw [List.getElem?_eq_getElem (by omega)]; rfl)
  simp only [aim1] at h0 h1 h2 h3
  have HO : Hid (endsOk ls = ((ls[ls.length - 1]'(by omega)).op == 0 || (ls[ls.length - 1]'(by omega)).op == 19)) := hid (by
    unfold endsOk lastOp
    rw [List.getLast?_eq_getElem?, List.getElem?_eq_getElem (by omega)]
    rfl)
  generalize endsOk ls = E at *
  clear hat hcl
  have hne : (((ls.length : Nat) : Int) == 0) = false := by rw [beq_eq_false_iff_ne]; omega
  go_enter Tryd.func29, Tryd.ntmps29
  go_wp2
  all_goals go_ret
  all_goals simp only [beq_eq_false_iff_ne, ne_eq] at *
  all_goals exact ⟨ret_bool (by rw [HO.out, Bool.eq_iff_iff]; simp; omega), by first | rfl | trivial⟩
end Go.Proofs.YteocjidfbbekfaaDoor
