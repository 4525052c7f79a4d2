/- What the proofs of these statements stand on, part 2: MchC, MchD, MchE, MchF, CodeC, CodeD, FlowE, FlowF, FlowG, FlowH, FlowK, FlowM, FlowN, SpecL, SpecM, FlowO, FlowP, TintA, TypD, TypH, MsB, MsC, MsD, MsF, PhB, PhC, PhD. -/
import Derived.Test.YtdmdpindonghdabDoorRows
import Derived.Test.YtdmdpindonghdabDoorOwn1
import Derived.WalkKit
import Derived.WalkSmall
import Derived.Deep.AppendLies
import Derived.Deep.DeepMust
import Derived.Deep.LoopGhost
import Derived.WalkSpells
import Derived.WalkLawsBesides
import Derived.BigRegion
import Derived.Deep.QuietTactic
import Derived.BigQuiet
import Derived.Deep.RegionHeld3
import Derived.OwnWalk
import Derived.Laws.StructEq
import Derived.Deep.RegionLaw
import Derived.Deep.DeepCutAuto
import Derived.Laws.MakeOwn
import Derived.Laws.IdiomCopy
namespace Go.Proofs.YtdmdpindonghdabDoor
open Go.RowKit
/-- Block b turned in one cell, and the row of v may have turned, or was left for a new one: nothing else below. -/
structure Grew (b o : Nat) (v v' : Value) (w w' : World) : Prop where
  os : w'.os = w.os
  tape : w'.tape = w.tape
  output : w'.output = w.output
  size : w.heap.size ≤ w'.heap.size
  block : ∀ k, k < w.heap.size → k ≠ b → some k ≠ v.ownBlock → w'.heap[k]? = w.heap[k]?
  own : ∀ g, v'.ownBlock = some g → v.ownBlock = some g ∨ w.heap.size ≤ g
  home : ∀ r t, w.heap[b]? = some (.cells r t) → w'.heap[b]? = some (.cells (r.setIfInBounds o v') t)
end Go.Proofs.YtdmdpindonghdabDoor
namespace Go.Proofs.YtdmdpindonghdabDoor
open Go.RowKit
/-- The references among the words that are told. -/
def rootsC (Q : List (Nat × Int)) : List Int := (Q.filter (fun x => x.1 == 1)).map (·.2)
theorem rootsC_next {Q : List (Nat × Int)} {n : Nat} (h : n < Q.length) : rootsC (Q.take (n + 1)) = rootsC (Q.take n) ++ (if Q[n].1 = 1 then [Q[n].2] else []) := by
  unfold rootsC
  rw [List.take_succ_eq_append_getElem h, List.filter_append, List.map_append]
  congr 1
  by_cases e : Q[n].1 = 1 <;> simp [e]
theorem rootsC_len (Q : List (Nat × Int)) : (rootsC Q).length ≤ Q.length := by
  unfold rootsC
  rw [List.length_map]
  exact List.length_filter_le _ _
theorem rootsC_append (A B : List (Nat × Int)) : rootsC (A ++ B) = rootsC A ++ rootsC B := by simp [rootsC]
def RootsPost (rs : List Int) (w : World) (e : Ending) (w' : World) : Prop :=
  Below w.heap.size w w' ∧ ∃ v, e = .returned v ∧ w'.ownsRow w.heap.size 3 1 v rs.length (rs.map (.int .i64))
end Go.Proofs.YtdmdpindonghdabDoor
namespace Go.Proofs.YtdmdpindonghdabDoor
open Go.RowKit
theorem refs_of {w1 : World} {B gC : Nat} {v : Value} {rs : List Int} (h : w1.ownsRow B 3 1 v rs.length (rs.map (.int .i64))) (hg : gC < B) : RefsAt w1 gC v rs ∧ ∀ a n c, v = .slice (some a) n c → B ≤ a.block := by
  rcases LsAt.of_owns h with ⟨h1, h2⟩ | ⟨g, cap, e1, e2, e3⟩
  · exact ⟨.inl ⟨h1, List.length_eq_zero_iff.1 h2⟩, fun a n c e => by rw [h1] at e; cases e⟩
  · refine ⟨.inr ⟨⟨g, 0, none⟩, cap, e1, by simp only; omega, e2.2, fun j x hj => ?_⟩, fun a n c e => ?_⟩
    · have := e3 j (.int .i64 x) (by simp [hj])
      have ha : (⟨g, 0, none⟩ : Addr).add j = ⟨g, j, none⟩ := by
        unfold Addr.add
        split
        · rename_i h0
          simp_all
        · simp
      rw [ha]
      exact this
    · rw [e1] at e
      cases e
      exact e2.1
/-- Units one after another, with the same roots. -/
def unitsC (rs : List Int) : Nat → HSt → HSt
  | 0, s => s
  | n + 1, s => stepC rs (unitsC rs n s)
theorem unitsC_len (rs : List Int) (s : HSt) : ∀ n, (unitsC rs n s).1.length = s.1.length := by
  intro n
  induction n with
  | zero => rfl
  | succ n ih => rw [unitsC, stepC_len, ih]
theorem unitsC_ok {rs : List Int} {s : HSt} (h : OkS s) : ∀ n, OkS (unitsC rs n s) := by
  intro n
  induction n with
  | zero => exact h
  | succ n ih => exact ih.step rs
end Go.Proofs.YtdmdpindonghdabDoor
namespace Go.Proofs.YtdmdpindonghdabDoor
open Go.RowKit
/-- The word k below the top. -/
def lastW (st : List (Bool × Int)) (k : Nat) : Bool × Int := (st[st.length - 1 - k]?).getD (false, 0)
theorem lastW_at {st : List (Bool × Int)} {k : Nat} (h : k < st.length) : st[st.length - 1 - k]? = some (lastW st k) := by
  unfold lastW
  rw [List.getElem?_eq_getElem (by omega)]
  rfl
def endsC (cs : List RC) (st : List (Bool × Int)) (op : Int) : Int :=
  if op = 0 then 1 else if op = 5 then (if (lastW st 0).2 = 0 then 3 else 0) else if op = 14 ∨ op = 16 then wantsC cs (lastW st 0).2 false else if op = 24 then wantsC cs (lastW st 0).2 true
  else if op = 15 ∨ op = 17 then wantsC cs (lastW st 1).2 false else 0
/-- What ends asks of the stack. -/
structure EndsOk (cs : List RC) (st : List (Bool × Int)) (op : Int) : Prop where
  one : op = 0 ∨ op = 5 ∨ op = 14 ∨ op = 16 ∨ op = 24 → 0 < st.length
  two : op = 15 ∨ op = 17 → 1 < st.length
  lo : op = 14 ∨ op = 16 ∨ op = 24 → (lastW st 0).2 < (cs.length : Int)
  lo2 : op = 15 ∨ op = 17 → (lastW st 1).2 < (cs.length : Int)
def EndsPost (r : Int) (w : World) (e : Ending) (w' : World) : Prop := Below w.heap.size w w' ∧ e = .returned (.int .i64 r)
end Go.Proofs.YtdmdpindonghdabDoor
namespace Go.Proofs.YtdmdpindonghdabDoor
open Go.RowKit
theorem plains_get {ls : List Ins} {k : Nat} (h : k < ls.length) : (plains ls)[k]? = some ⟨ls[k], 0⟩ := by
  simp [plains, plain, h]
set_option maxRecDepth 100000 in
set_option maxHeartbeats 400000 in
theorem indexOf_any (ls : List Ins) (g cap p : Nat) (w : World) (hl : ls.length ≤ 200) (hat : CiAt w g (plains ls)) (hg : g < w.heap.size) :
    Calls Tryd.prog 94 #[.slice (some ⟨g, 0, none⟩) ls.length cap, .int .i64 p] w fun e w' => e = .returned (.int .i64 (findP p ls 0)) ∧ Below w.heap.size w w' := by
  go_enter Tryd.func94, Tryd.ntmps94
  go_wp2_with fail
  go_loopw [9] (fun i w' => ∃ k : Nat, k ≤ ls.length ∧ i = .int .i64 k ∧ findP p ls 0 = findP p (ls.drop k) k ∧ Below w.heap.size w w') (fun i _ => ls.length - (intOf i).toNat)
  case atStart => exact ⟨0, Nat.zero_le _, rfl, by simp, Below.refl _ _⟩
  case round =>
    obtain ⟨k, hk, rfl, hf, hbel⟩ := hrel
    have HF : Hid (findP p ls 0 = findP p (ls.drop k) k) := hf
    clear hf
    have hsz := hbel.size
    by_cases hlt : k < ls.length
    · obtain ⟨h0, h1, h2, h3⟩ := (hat.below hbel hg) k _ (plains_get hlt)
      simp only at h0 h1 h2 h3
      have HD : Hid (ls.drop k = ls[k] :: ls.drop (k + 1)) := List.drop_eq_getElem_cons hlt
      by_cases hp : ls[k].place = p
      · have hp' : (((ls[k].place : Nat) : Int) == (p : Int)) = true := by simp; omega
        have HP : Hid (ls[k].place = p) := hp
        clear hp
        go_wp2_with fail
        go_ret
        exact ⟨ret_int (by rw [HF.out, HD.out]; simp [findP, HP.out]), hbel.alloc hsz _⟩
      · have hp' : (((ls[k].place : Nat) : Int) == (p : Int)) = false := by simp; omega
        have HP := hid hp
        clear hp
        go_wp2_with fail
        exact ⟨⟨k + 1, by omega, by go_num, by rw [HF.out, HD.out]; simp [findP, HP.out], hbel.alloc hsz _⟩, by simp [intOf]; omega⟩
    · go_wp2_with fail
      go_ret
      exact ⟨ret_int (by rw [HF.out, List.drop_of_length_le (by omega)]; simp [findP]), hbel⟩
def aim1 (ls : List Ins) (i : Ins) : CI := ⟨i, aimOf ls i⟩
theorem take_map_snoc {ls : List Ins} {k : Nat} (h : k < ls.length) : (ls.take (k + 1)).map (aim1 ls) = (ls.take k).map (aim1 ls) ++ [aim1 ls ls[k]] := by
  rw [List.take_succ_eq_append_getElem h, List.map_append]
  rfl
theorem jumps_false {ls : List Ins} {k : Nat} (h : k < ls.length) (hj : isJump ls[k].op = true) (hf : findP ls[k].n ls 0 < 0) : jumpsOk ls = false := by
  unfold jumpsOk
  rw [List.all_eq_false]
  refine ⟨ls[k], List.getElem_mem h, ?_⟩
  simp [hj]
  exact hf
theorem jumps_true {ls : List Ins} (h : ∀ j (h : j < ls.length), isJump ls[j].op = false ∨ 0 ≤ findP ls[j].n ls 0) : jumpsOk ls = true := by
  unfold jumpsOk
  rw [List.all_eq_true]
  intro i hi
  obtain ⟨j, hj, rfl⟩ := List.getElem_of_mem hi
  rcases h j hj with h | h
  · simp [h]
  · simp [h]
def AimPost (ls : List Ins) (w : World) (e : Ending) (w' : World) : Prop :=
  Below w.heap.size w w' ∧ ((jumpsOk ls = false ∧ e = .returned (.tuple #[.slice none 0 0, .bool false])) ∨
    (jumpsOk ls = true ∧ ∃ g cap, e = .returned (.tuple #[.slice (some ⟨g, 0, none⟩) ls.length cap, .bool true]) ∧ w.heap.size ≤ g ∧ g < w'.heap.size ∧ CiAt w' g (aims ls)))
set_option maxRecDepth 100000 in
set_option maxHeartbeats 1000000 in
theorem withTargets_any (ls : List Ins) (g cap : Nat) (w : World) (hpos : 0 < ls.length) (hl : ls.length ≤ 200) (hat : CiAt w g (plains ls)) (hg : g < w.heap.size) :
    Calls Tryd.prog 84 #[.slice (some ⟨g, 0, none⟩) ls.length cap] w (AimPost ls w) := by
  obtain ⟨i0, hi0, hz0, hz1, hz2⟩ := info_parts Tryd.infoCI
  go_enter Tryd.func84, Tryd.ntmps84
  go_wp2_with fail
  go_loopw [4, 10] (fun v i w' => ∃ k : Nat, k ≤ ls.length ∧ i = .int .i64 k ∧ w'.ownsRow w.heap.size 87 4 v k (ciCells ((ls.take k).map (aim1 ls))) ∧ Below w.heap.size w w' ∧ (∀ j (h : j < ls.length), j < k → isJump ls[j].op = false ∨ 0 ≤ findP ls[j].n ls 0)) (fun _ i _ => ls.length - (intOf i).toNat)
  case atStart => exact ⟨0, Nat.zero_le _, rfl, World.ownsRow_nil _ _ _ _, Below.refl _ _, fun j _ h => by omega⟩
  case round =>
    obtain ⟨k, hk, rfl, hown, hbel, hall⟩ := hrel
    have HA := hid hall
    clear hall
    have hsz := hbel.size
    by_cases hlt : k < ls.length
    · obtain ⟨h0, h1, h2, h3⟩ := (hat.below hbel hg) k _ (plains_get hlt)
      simp only at h0 h1 h2 h3
      have HS := hid (take_map_snoc hlt)
      have hgr : g < wr.heap.size := by omega
      cases hj : isJump ls[k].op
      · have hj' : ((ls[k].op : Int) == 19) = false ∧ ((ls[k].op : Int) == 20) = false := by
          simp [isJump] at hj; simp only [beq_eq_false_iff_ne]; omega
        obtain ⟨t0, t1⟩ := hj'
        have HJ := hid hj
        have HC : Hid (aim1 ls ls[k] = ⟨ls[k], 0⟩) := hid (by simp [aim1, aimOf, hj])
        clear hj
        go_wp2_with (at_builtin; go_must (refine wpList_append_lies _ (by rfl) _ _ _ (by rfl) w.heap.size 87 i0 _ 4 32 Tryd.underlying73 hi0 hz0 hz1 hz2 rfl (by omega) _ k (ciCells ((ls.take k).map (aim1 ls))) (by rfl) ((hown.alloc _).alloc _) ⟨wr.heap.size + 1, 0, none⟩ 1 1 [.int .i64 ls[k].place, .int .i64 ls[k].op, .int .i64 ls[k].n, .int .i64 0] (by rfl) (by rfl) (World.news_of_block (cs := #[.int .i64 ls[k].place, .int .i64 ls[k].op, .int .i64 ls[k].n, .int .i64 0]) (t := 87) (fr := (0, 0)) (heap_two_new wr _ _)) (by simp [Value.oneCell']) (by omega) (by unfold maxLen; omega) (by omega) (by simp; omega) (wr.heap.size + 1 + 1) (by simp) ?_); intro gg cap3 w3 hown3 hgrow hat3 hlt3)
        refine ⟨⟨k + 1, by omega, by go_num, by rw [HS.out, HC.out, ciCells_snoc]; exact hown3, ((hbel.alloc hsz _).alloc (by simp; omega) _).grown hgrow (by simp; omega) (fun k' hk' => (hown.lt k' hk').1), fun j hj2 hjk => ?_⟩, by simp [intOf]; omega⟩
        rcases Nat.lt_or_ge j k with h | h
        · exact HA.out j hj2 h
        · have : j = k := by omega
          subst this
          exact .inl HJ.out
      · have HJ := hid hj
        have hj' : ((ls[k].op : Int) == 19) = true ∧ (0 : Int) ≤ 1 ∨ ((ls[k].op : Int) == 19) = false ∧ ((ls[k].op : Int) == 20) = true := by
          simp [isJump] at hj; simp only [beq_eq_false_iff_ne, beq_iff_eq]; omega
        clear hj
        have hidx := hid (indexOf_any ls g cap ls[k].n (wr.alloc (.cells #[.int .i64 ls[k].place, .int .i64 ls[k].op, .int .i64 ls[k].n, .int .i64 0] 87)) hl (hat.below (hbel.alloc hsz _) hg) (by simp; omega))
        by_cases hf : findP ls[k].n ls 0 < 0
        · have HN := hid (jumps_false hlt HJ.out hf)
          generalize findP ls[k].n ls 0 = F at *
          rcases hj' with ⟨t0, t1⟩ | ⟨t0, t1⟩
          all_goals
            go_wp2_with fail
            refine hidx.out.mono ?_
            clear hidx
            intro e w2 hh
            obtain ⟨he2, hb2⟩ := hh
            subst e
            have hbel2 : Below w.heap.size w w2 := (hbel.alloc hsz _).trans (hb2.mono (by simp; omega))
            go_wp2_with fail
            go_ret2
            exact ⟨hbel2, .inl ⟨HN.out, rfl⟩⟩
        · obtain ⟨tn, htn⟩ : ∃ tn : Nat, findP ls[k].n ls 0 = (tn : Int) := ⟨(findP ls[k].n ls 0).toNat, by omega⟩
          have HC : Hid (aim1 ls ls[k] = ⟨ls[k], tn⟩) := hid (by simp [aim1, aimOf, HJ.out, htn])
          have HTN := hid htn
          have HFN := hid hf
          rw [htn] at hidx
          clear htn hf
          rcases hj' with ⟨t0, t1⟩ | ⟨t0, t1⟩
          all_goals
            go_wp2_with fail
            refine hidx.out.mono ?_
            clear hidx
            intro e w2 hh
            obtain ⟨he2, hb2⟩ := hh
            subst e
            have hb3 := instr_below hb2
            obtain ⟨bx, bo, hz⟩ := box_cells hb3
            have x0 := bx 0
            have x1 := bx 1
            have x2 := bx 2
            have x3 := bx 3
            simp only [List.getElem?_toArray, List.getElem?_cons_zero, List.getElem?_cons_succ] at x0 x1 x2 x3
            have hfz := hb3.frozen (p := ⟨wr.heap.size, 3, none⟩) (by simp)
            have hb4 : Below wr.heap.size wr w2 := box_below (Nat.le_refl _) hb3
            have hown2 := owns_below hown hb4 (fun g' hg' => (hown.lt g' hg').2)
            have hbel2 : Below w.heap.size w w2 := hbel.trans (hb4.mono hsz)
            clear bx bo hb2
            have hown4 := owns_set (a := ⟨wr.heap.size, 3, none⟩) hown2 (by intro h; have := (hown.lt _ h).2; simp at this) (.int .i64 tn)
            have hz5 : (w2.setCell ⟨wr.heap.size, 3, none⟩ (.int .i64 tn)).heap.size = w2.heap.size := by simp [World.setCell]
            have HZ5 := hid hz5
            have hbel4 := hbel2.setCell (p := ⟨wr.heap.size, 3, none⟩) (by simp; omega) (.int .i64 tn)
            clear hz5
            go_wp2_with (at_builtin; go_must (refine wpList_append_lies _ (by rfl) _ _ _ (by rfl) w.heap.size 87 i0 _ 4 32 Tryd.underlying73 hi0 hz0 hz1 hz2 rfl (by omega) _ k (ciCells ((ls.take k).map (aim1 ls))) (by rfl) (hown4.alloc _) ⟨w2.heap.size, 0, none⟩ 1 1 [.int .i64 ls[k].place, .int .i64 ls[k].op, .int .i64 ls[k].n, .int .i64 tn] (by rfl) (by rfl) (World.news_of_block (cs := #[.int .i64 ls[k].place, .int .i64 ls[k].op, .int .i64 ls[k].n, .int .i64 tn]) (t := 87) (fr := (0, 0)) (heap_set_new w2 _ _ _)) (by simp [Value.oneCell']) (by omega) (by unfold maxLen; omega) (by omega) (by simp [World.setCell]; omega) (w2.heap.size + 1) (by simp [World.setCell]) ?_); intro gg cap3 w3 hown3 hgrow hat3 hlt3)
            refine ⟨⟨k + 1, by omega, by go_num, by rw [HS.out, HC.out, ciCells_snoc]; exact hown3, (hbel4.alloc (by rw [HZ5.out]; omega) _).grown hgrow (by simp [World.setCell]; omega) (fun k' hk' => (hown.lt k' hk').1), fun j hj2 hjk => ?_⟩, by simp [intOf]; omega⟩
            rcases Nat.lt_or_ge j k with h | h
            · exact HA.out j hj2 h
            · have : j = k := by omega
              subst this
              exact .inr (by rw [HTN.out]; omega)
    · have hke : k = ls.length := by omega
      subst hke
      have HJ := hid (jumps_true (ls := ls) fun j h => HA.out j h h)
      obtain ⟨g3, cap3, rfl, hg3, hg4⟩ := hown.form (by omega)
      have hat3 := CiAt.of_owns (l := aims ls) (by rw [aims_len]; rw [List.take_length] at hown; exact hown)
      go_wp2_with fail
      go_ret2
      exact ⟨hbel, .inr ⟨HJ.out, g3, cap3, rfl, hg3, hg4, hat3⟩⟩
set_option maxRecDepth 100000 in
set_option maxHeartbeats 400000 in
theorem endsWell_any (ls : List Ins) (cl : List CI) (g cap : Nat) (w : World) (hpos : 0 < ls.length) (hl : ls.length ≤ 200) (hcl : cl = aims ls) (hat : CiAt w g cl) :
    Calls Tryd.prog 85 #[.slice (some ⟨g, 0, none⟩) ls.length cap] w fun e w' => e = .returned (.bool (endsOk ls)) ∧ w' = w := by
  obtain ⟨h0, h1, h2, h3⟩ := hat (ls.length - 1) (aim1 ls (ls[ls.length - 1]'(by omega))) (by
    rw [hcl]; simp only [aims, List.getElem?_map]; rw [List.getElem?_eq_getElem (by omega)]; rfl)
  simp only [aim1] at h0 h1 h2 h3
  have HO : Hid (endsOk ls = ((ls[ls.length - 1]'(by omega)).op == 0 || (ls[ls.length - 1]'(by omega)).op == 19)) := hid (by
    unfold endsOk lastOp
    rw [List.getLast?_eq_getElem?, List.getElem?_eq_getElem (by omega)]
    rfl)
  generalize endsOk ls = E at *
  clear hat hcl
  have hne : (((ls.length : Nat) : Int) == 0) = false := by rw [beq_eq_false_iff_ne]; omega
  go_enter Tryd.func85, Tryd.ntmps85
  go_wp2
  all_goals go_ret
  all_goals simp only [beq_eq_false_iff_ne, ne_eq] at *
  all_goals exact ⟨ret_bool (by rw [HO.out, Bool.eq_iff_iff]; simp; omega), by first | rfl | trivial⟩
end Go.Proofs.YtdmdpindonghdabDoor
namespace Go.Proofs.YtdmdpindonghdabDoor
open Go.RowKit
def ReadPost (s : ByteArray) (w : World) (e : Ending) (w' : World) : Prop :=
  Below w.heap.size w w' ∧ ((errOf s ≠ 0 ∧ e = .returned (.tuple #[.agg #[.int .i64 0, .slice none 0 0], .int .i64 (errOf s : Nat)])) ∨
    (errOf s = 0 ∧ ∃ g cap, e = .returned (.tuple #[.agg #[.int .i64 (byteAt s 1 : Nat), .slice (some ⟨g, 0, none⟩) (codeOf s).length cap], .int .i64 0]) ∧ w.heap.size ≤ g ∧ g < w'.heap.size ∧ CiAt w' g (aims (codeOf s))))
theorem readPost_err {s : ByteArray} {w w' : World} {k : Nat} {z : Int} (hb : Below w.heap.size w w') (he : errOf s = k) (hk : k ≠ 0) (hz : z = (k : Int)) : ReadPost s w (.returned (.tuple #[.agg #[.int .i64 0, .slice none 0 0], .int .i64 z])) w' := by
  subst he; subst hz; exact ⟨hb, .inl ⟨hk, rfl⟩⟩
theorem two_set {w w2 : World} {o : Obj} {u v : Value} (hb : Below (w.heap.size + 1) (w.alloc o) w2) : Below w.heap.size w ((w2.setCell ⟨w.heap.size, 0, none⟩ u).setCell ⟨w.heap.size, 1, none⟩ v) :=
  ((box_below (Nat.le_refl _) hb).setCell (by simp) _).setCell (by simp) _
set_option maxRecDepth 100000 in
set_option maxHeartbeats 1000000 in
theorem read_any (s : ByteArray) (w : World) (hs : s.size ≤ maxLen) :
    Calls Tryd.prog 62 #[.string s] w (ReadPost s w) := by
  have hshp := hid (shaped_any s (w.alloc (.cells #[.int .i64 0, .slice none 0 0] 75)) hs)
  cases hsh : shapedP s
  · have HE : Hid (errOf s = 1) := hid (by simp [errOf, hsh])
    rw [hsh] at hshp
    clear hsh hs
    go_enter Tryd.func62, Tryd.ntmps62
    go_wp2_with fail
    refine hshp.out.mono ?_
    intro e w9 hh
    obtain ⟨he9, hw9⟩ := hh
    subst e
    subst w9
    clear hshp
    go_wp2_with fail
    exact bodyPost_ret (v := .tuple #[.agg #[.int .i64 0, .slice none 0 0], .int .i64 1]) (by simp [results, Tryd.results62, go_sem]) rfl (readPost_err ((Below.refl _ _).alloc (Nat.le_refl _) _) HE.out (by decide) rfl)
  · obtain ⟨⟨⟨h3, h4⟩, h0⟩, h1⟩ : ((3 ≤ s.size ∧ s.size ≤ 122) ∧ byteAt s 0 = 84) ∧ byteAt s 1 ≤ 4 := by simpa [shapedP] using hsh
    have hsz : (textOf s).size = s.size - 2 := by simp [textOf]
    have e1 := byteAt_eq s 1 (by omega)
    have HB : Hid (errOf s = match dec (textOf s) (byteAt s 1) 0 with
      | none => 2
      | some l => if jumpsOk l = false then 3 else if endsOk l = false then 4 else 0) := hid (by unfold errOf; rw [hsh]; rfl)
    have HC : Hid (codeOf s = (dec (textOf s) (byteAt s 1) 0).getD []) := hid rfl
    rw [hsh] at hshp
    have HT : Hid (textOf s = s.extract 2 s.size) := hid rfl
    have hins := hid (fun W => instructions_any (textOf s) (byteAt s 1) W (by omega) (by omega))
    generalize hL : byteAt s 1 = L at *
    have HL := hid hL
    have t2 : (textOf s).size ≤ 120 := by omega
    clear hsh h0 hL hs hsz
    go_enter Tryd.func62, Tryd.ntmps62
    go_wp2_with fail
    refine hshp.out.mono ?_
    intro e w9 hh
    obtain ⟨he9, hw9⟩ := hh
    subst e
    subst w9
    clear hshp
    go_wp2_with fail
    rw [← HT.out]
    refine (hins.out _).mono ?_
    clear hins
    intro e w2 hp
    obtain ⟨hb, hp⟩ := hp
    have hb1 := instr_below hb
    obtain ⟨bx, bo, hz⟩ := box_cells hb1
    have x0 := bx 0
    have x1 := bx 1
    simp only [List.getElem?_toArray, List.getElem?_cons_zero, List.getElem?_cons_succ] at x0 x1
    clear bx bo hb
    rcases hp with ⟨hd, rfl⟩ | ⟨ls, g, cap, hd, hpos, hle, rfl, hg1, hg2, hat⟩
    · have HE : Hid (errOf s = 2) := hid (by have := HB.out; rw [hd] at this; exact this)
      clear hd
      have hf0 := hb1.frozen (p := ⟨w.heap.size, 0, none⟩) (by simp)
      have hf1 := hb1.frozen (p := ⟨w.heap.size, 1, none⟩) (by simp)
      go_wp2_with fail
      exact bodyPost_ret (v := .tuple #[.agg #[.int .i64 0, .slice none 0 0], .int .i64 2]) (by simp [results, Tryd.results62, go_sem, x0, x1]) rfl (readPost_err (two_set hb1) HE.out (by decide) rfl)
    · have hws := hid (withTargets_any ls g cap w2 hpos (by omega) hat hg2)
      have hgz : w.heap.size + 1 ≤ g := by simpa using hg1
      clear hg1 hat
      have HD := hid hd
      clear hd
      go_wp2_with fail
      refine hws.out.mono ?_
      clear hws
      intro e w3 hp
      obtain ⟨hb3, hp⟩ := hp
      have hb4 : Below (w.heap.size + 1) (w.alloc (.cells #[.int .i64 0, .slice none 0 0] 75)) w3 := hb1.trans (hb3.mono hz)
      have hz3 := hb3.size
      obtain ⟨bx, bo, hz4⟩ := box_cells hb4
      have y0 := bx 0
      have y1 := bx 1
      simp only [List.getElem?_toArray, List.getElem?_cons_zero, List.getElem?_cons_succ] at y0 y1
      have hf0 := hb4.frozen (p := ⟨w.heap.size, 0, none⟩) (by simp)
      have hf1 := hb4.frozen (p := ⟨w.heap.size, 1, none⟩) (by simp)
      clear bx bo x0 x1
      rcases hp with ⟨hj, rfl⟩ | ⟨hj, g3, cap3, rfl, hg3, hg4, hat3⟩
      · have HE : Hid (errOf s = 3) := hid (by have := HB.out; rw [HD.out] at this; simpa [hj] using this)
        clear hj
        go_wp2_with fail
        exact bodyPost_ret (v := .tuple #[.agg #[.int .i64 0, .slice none 0 0], .int .i64 3]) (by simp [results, Tryd.results62, go_sem, y0, y1]) rfl (readPost_err (two_set hb4) HE.out (by decide) rfl)
      · have HJ := hid hj
        clear hj
        have hew := hid (endsWell_any ls (aims ls) g3 cap3 w3 hpos (by omega) rfl hat3)
        go_wp2_with fail
        refine hew.out.mono ?_
        clear hew
        intro e w9 hh
        obtain ⟨he9, hw9⟩ := hh
        subst e
        subst w9
        cases hen : endsOk ls
        · have HE : Hid (errOf s = 4) := hid (by have := HB.out; rw [HD.out] at this; simpa [HJ.out, hen] using this)
          clear hen
          go_wp2_with fail
          exact bodyPost_ret (v := .tuple #[.agg #[.int .i64 0, .slice none 0 0], .int .i64 4]) (by simp [results, Tryd.results62, go_sem, y0, y1]) rfl (readPost_err (two_set hb4) HE.out (by decide) rfl)
        · have HE : Hid (errOf s = 0) := hid (by have := HB.out; rw [HD.out] at this; simpa [HJ.out, hen] using this)
          have HCO : Hid (codeOf s = ls) := hid (by rw [HC.out, HD.out]; rfl)
          clear hen
          go_wp2_with fail
          refine bodyPost_ret (v := .tuple #[.agg #[.int .i64 L, .slice (some ⟨g3, 0, none⟩) ls.length cap3], .int .i64 0]) (by simp [results, Tryd.results62, go_sem, y0, y1]) rfl ⟨two_set hb4, .inr ⟨HE.out, ?_⟩⟩
          rw [HL.out, HCO.out]
          exact ⟨g3, cap3, rfl, by omega, by simp [World.setCell]; exact hg4, hat3.same (by rw [Below.heap_setCell _ _ _ _ (by simp; omega), Below.heap_setCell _ _ _ _ (by simp; omega)])⟩
end Go.Proofs.YtdmdpindonghdabDoor
namespace Go.Proofs.YtdmdpindonghdabDoor
open Go.RowKit
set_option maxRecDepth 100000 in
set_option maxHeartbeats 1000000 in
theorem aft_load (f : Fr) (n pl tg : Nat) (w : World) (ok : FrOk f) (hn : n < 4) :
    Calls Tryd.prog 98 #[.agg (frL f).toArray, .agg #[.int .i64 pl, .int .i64 (7 : Nat), .int .i64 n, .int .i64 tg]] w (AftPost f 7 n w) := by
  have HF : Hid (afterF f 7 n = loadF f n) := hid (rfl)
  have hld := hid (fun W hW => load_any w.heap.size f n W hW ok hn)
  obtain ⟨r, lo, d, st, wg⟩ := f
  obtain ⟨h1, h2, h3d⟩ := ok
  simp only at h1 h2
  obtain ⟨a, b, c, e, rfl⟩ := four h1
  obtain ⟨s0, s1, s2, s3, s4, s5, s6, s7, rfl⟩ := eight h2
  simp only [frL, List.map_cons, List.map_nil, List.cons_append, List.nil_append, numV]
  go_enter Tryd.func98, Tryd.ntmps98
  go_wp2_with fail
  refine (hld.out _ (heap_three_first w _ _ _)).mono ?_
  rintro x w2 ⟨rfl, h3, h4⟩
  have hz := h4.size
  simp at hz
  have hres := hid ((h4.block (w.heap.size + 1 + 1) (by omega)).trans (heap_three_third w _ _ _))
  rw [← HF.out] at h3
  have hok3 : FrOk (afterF ⟨r, [a, b, c, e], d, [s0, s1, s2, s3, s4, s5, s6, s7], wg⟩ 7 n) := afterF_ok ⟨rfl, rfl, h3d⟩ 7 n
  have HPM := hid (fun W b' hb' hr' => aftPost_mk (f := ⟨r, [a, b, c, e], d, [s0, s1, s2, s3, s4, s5, s6, s7], wg⟩) (op := 7) (n := n) (w := w) (W := W) b' hb' hr')
  generalize afterF ⟨r, [a, b, c, e], d, [s0, s1, s2, s3, s4, s5, s6, s7], wg⟩ 7 n = G at *
  obtain ⟨r', lo', d', st', wg'⟩ := G
  obtain ⟨j1, j2, j3⟩ := hok3
  simp only at j1 j2
  obtain ⟨a', b', c', e', rfl⟩ := four j1
  obtain ⟨t0, t1, t2, t3, t4, t5, t6, t7, rfl⟩ := eight j2
  have c0 := RowAt.cell h3 0
  have c1 := RowAt.cell h3 1
  have c2 := RowAt.cell h3 2
  have c3 := RowAt.cell h3 3
  have c4 := RowAt.cell h3 4
  have c5 := RowAt.cell h3 5
  have c6 := RowAt.cell h3 6
  have c7 := RowAt.cell h3 7
  have c8 := RowAt.cell h3 8
  have c9 := RowAt.cell h3 9
  have c10 := RowAt.cell h3 10
  have c11 := RowAt.cell h3 11
  have c12 := RowAt.cell h3 12
  have c13 := RowAt.cell h3 13
  have c14 := RowAt.cell h3 14
  have z0 := cell_of_row w2 (w.heap.size + 1 + 1) 0 _ _ _ hres.out
  have z1 := cell_of_row w2 (w.heap.size + 1 + 1) 1 _ _ _ hres.out
  have z2 := cell_of_row w2 (w.heap.size + 1 + 1) 2 _ _ _ hres.out
  have z3 := cell_of_row w2 (w.heap.size + 1 + 1) 3 _ _ _ hres.out
  have z4 := cell_of_row w2 (w.heap.size + 1 + 1) 4 _ _ _ hres.out
  have z5 := cell_of_row w2 (w.heap.size + 1 + 1) 5 _ _ _ hres.out
  have z6 := cell_of_row w2 (w.heap.size + 1 + 1) 6 _ _ _ hres.out
  have z7 := cell_of_row w2 (w.heap.size + 1 + 1) 7 _ _ _ hres.out
  have z8 := cell_of_row w2 (w.heap.size + 1 + 1) 8 _ _ _ hres.out
  have z9 := cell_of_row w2 (w.heap.size + 1 + 1) 9 _ _ _ hres.out
  have z10 := cell_of_row w2 (w.heap.size + 1 + 1) 10 _ _ _ hres.out
  have z11 := cell_of_row w2 (w.heap.size + 1 + 1) 11 _ _ _ hres.out
  have z12 := cell_of_row w2 (w.heap.size + 1 + 1) 12 _ _ _ hres.out
  have z13 := cell_of_row w2 (w.heap.size + 1 + 1) 13 _ _ _ hres.out
  have z14 := cell_of_row w2 (w.heap.size + 1 + 1) 14 _ _ _ hres.out
  have g0 := frozen_of_row w2 (w.heap.size + 1 + 1) 0 _ _ hres.out
  have g1 := frozen_of_row w2 (w.heap.size + 1 + 1) 1 _ _ hres.out
  have g2 := frozen_of_row w2 (w.heap.size + 1 + 1) 2 _ _ hres.out
  have g3 := frozen_of_row w2 (w.heap.size + 1 + 1) 3 _ _ hres.out
  have g4 := frozen_of_row w2 (w.heap.size + 1 + 1) 4 _ _ hres.out
  have g5 := frozen_of_row w2 (w.heap.size + 1 + 1) 5 _ _ hres.out
  have g6 := frozen_of_row w2 (w.heap.size + 1 + 1) 6 _ _ hres.out
  have g7 := frozen_of_row w2 (w.heap.size + 1 + 1) 7 _ _ hres.out
  have g8 := frozen_of_row w2 (w.heap.size + 1 + 1) 8 _ _ hres.out
  have g9 := frozen_of_row w2 (w.heap.size + 1 + 1) 9 _ _ hres.out
  have g10 := frozen_of_row w2 (w.heap.size + 1 + 1) 10 _ _ hres.out
  have g11 := frozen_of_row w2 (w.heap.size + 1 + 1) 11 _ _ hres.out
  have g12 := frozen_of_row w2 (w.heap.size + 1 + 1) 12 _ _ hres.out
  have g13 := frozen_of_row w2 (w.heap.size + 1 + 1) 13 _ _ hres.out
  have g14 := frozen_of_row w2 (w.heap.size + 1 + 1) 14 _ _ hres.out
  simp only [frL, List.map_cons, List.map_nil, List.cons_append, List.nil_append, numV, List.getElem?_toArray, List.getElem?_cons_zero, List.getElem?_cons_succ] at c0 c1 c2 c3 c4 c5 c6 c7 c8 c9 c10 c11 c12 c13 c14 z0 z1 z2 z3 z4 z5 z6 z7 z8 z9 z10 z11 z12 z13 z14
  simp only [frL, List.map_cons, List.map_nil, List.cons_append, List.nil_append, numV] at HPM
  go_wp2_with fail
  go_region
  go_wp2_with fail
  have hbw : Below w.heap.size w w2 := (three_new w _ _ _).trans (h4.below (Nat.le_refl _))
  exact bodyPost_ret (aft_res (by rfl) (by rfl) (fifteen_set hres.out _ _ _ _ _ _ _ _ _ _ _ _ _ _ _).drew) rfl (HPM.out _ _ (fifteen_below hbw (by omega) _ _ _ _ _ _ _ _ _ _ _ _ _ _ _).drew rfl)
set_option maxRecDepth 100000 in
set_option maxHeartbeats 1000000 in
theorem aft_store (f : Fr) (n pl tg : Nat) (w : World) (ok : FrOk f) (hn : n < 4) :
    Calls Tryd.prog 98 #[.agg (frL f).toArray, .agg #[.int .i64 pl, .int .i64 (8 : Nat), .int .i64 n, .int .i64 tg]] w (AftPost f 8 n w) := by
  have HF : Hid (afterF f 8 n = storeF f n) := hid (rfl)
  have hld := hid (fun W hW => store_any w.heap.size f n W hW ok hn)
  obtain ⟨r, lo, d, st, wg⟩ := f
  obtain ⟨h1, h2, h3d⟩ := ok
  simp only at h1 h2
  obtain ⟨a, b, c, e, rfl⟩ := four h1
  obtain ⟨s0, s1, s2, s3, s4, s5, s6, s7, rfl⟩ := eight h2
  simp only [frL, List.map_cons, List.map_nil, List.cons_append, List.nil_append, numV]
  go_enter Tryd.func98, Tryd.ntmps98
  go_wp2_with fail
  refine (hld.out _ (heap_three_first w _ _ _)).mono ?_
  rintro x w2 ⟨rfl, h3, h4⟩
  have hz := h4.size
  simp at hz
  have hres := hid ((h4.block (w.heap.size + 1 + 1) (by omega)).trans (heap_three_third w _ _ _))
  rw [← HF.out] at h3
  have hok3 : FrOk (afterF ⟨r, [a, b, c, e], d, [s0, s1, s2, s3, s4, s5, s6, s7], wg⟩ 8 n) := afterF_ok ⟨rfl, rfl, h3d⟩ 8 n
  have HPM := hid (fun W b' hb' hr' => aftPost_mk (f := ⟨r, [a, b, c, e], d, [s0, s1, s2, s3, s4, s5, s6, s7], wg⟩) (op := 8) (n := n) (w := w) (W := W) b' hb' hr')
  generalize afterF ⟨r, [a, b, c, e], d, [s0, s1, s2, s3, s4, s5, s6, s7], wg⟩ 8 n = G at *
  obtain ⟨r', lo', d', st', wg'⟩ := G
  obtain ⟨j1, j2, j3⟩ := hok3
  simp only at j1 j2
  obtain ⟨a', b', c', e', rfl⟩ := four j1
  obtain ⟨t0, t1, t2, t3, t4, t5, t6, t7, rfl⟩ := eight j2
  have c0 := RowAt.cell h3 0
  have c1 := RowAt.cell h3 1
  have c2 := RowAt.cell h3 2
  have c3 := RowAt.cell h3 3
  have c4 := RowAt.cell h3 4
  have c5 := RowAt.cell h3 5
  have c6 := RowAt.cell h3 6
  have c7 := RowAt.cell h3 7
  have c8 := RowAt.cell h3 8
  have c9 := RowAt.cell h3 9
  have c10 := RowAt.cell h3 10
  have c11 := RowAt.cell h3 11
  have c12 := RowAt.cell h3 12
  have c13 := RowAt.cell h3 13
  have c14 := RowAt.cell h3 14
  have z0 := cell_of_row w2 (w.heap.size + 1 + 1) 0 _ _ _ hres.out
  have z1 := cell_of_row w2 (w.heap.size + 1 + 1) 1 _ _ _ hres.out
  have z2 := cell_of_row w2 (w.heap.size + 1 + 1) 2 _ _ _ hres.out
  have z3 := cell_of_row w2 (w.heap.size + 1 + 1) 3 _ _ _ hres.out
  have z4 := cell_of_row w2 (w.heap.size + 1 + 1) 4 _ _ _ hres.out
  have z5 := cell_of_row w2 (w.heap.size + 1 + 1) 5 _ _ _ hres.out
  have z6 := cell_of_row w2 (w.heap.size + 1 + 1) 6 _ _ _ hres.out
  have z7 := cell_of_row w2 (w.heap.size + 1 + 1) 7 _ _ _ hres.out
  have z8 := cell_of_row w2 (w.heap.size + 1 + 1) 8 _ _ _ hres.out
  have z9 := cell_of_row w2 (w.heap.size + 1 + 1) 9 _ _ _ hres.out
  have z10 := cell_of_row w2 (w.heap.size + 1 + 1) 10 _ _ _ hres.out
  have z11 := cell_of_row w2 (w.heap.size + 1 + 1) 11 _ _ _ hres.out
  have z12 := cell_of_row w2 (w.heap.size + 1 + 1) 12 _ _ _ hres.out
  have z13 := cell_of_row w2 (w.heap.size + 1 + 1) 13 _ _ _ hres.out
  have z14 := cell_of_row w2 (w.heap.size + 1 + 1) 14 _ _ _ hres.out
  have g0 := frozen_of_row w2 (w.heap.size + 1 + 1) 0 _ _ hres.out
  have g1 := frozen_of_row w2 (w.heap.size + 1 + 1) 1 _ _ hres.out
  have g2 := frozen_of_row w2 (w.heap.size + 1 + 1) 2 _ _ hres.out
  have g3 := frozen_of_row w2 (w.heap.size + 1 + 1) 3 _ _ hres.out
  have g4 := frozen_of_row w2 (w.heap.size + 1 + 1) 4 _ _ hres.out
  have g5 := frozen_of_row w2 (w.heap.size + 1 + 1) 5 _ _ hres.out
  have g6 := frozen_of_row w2 (w.heap.size + 1 + 1) 6 _ _ hres.out
  have g7 := frozen_of_row w2 (w.heap.size + 1 + 1) 7 _ _ hres.out
  have g8 := frozen_of_row w2 (w.heap.size + 1 + 1) 8 _ _ hres.out
  have g9 := frozen_of_row w2 (w.heap.size + 1 + 1) 9 _ _ hres.out
  have g10 := frozen_of_row w2 (w.heap.size + 1 + 1) 10 _ _ hres.out
  have g11 := frozen_of_row w2 (w.heap.size + 1 + 1) 11 _ _ hres.out
  have g12 := frozen_of_row w2 (w.heap.size + 1 + 1) 12 _ _ hres.out
  have g13 := frozen_of_row w2 (w.heap.size + 1 + 1) 13 _ _ hres.out
  have g14 := frozen_of_row w2 (w.heap.size + 1 + 1) 14 _ _ hres.out
  simp only [frL, List.map_cons, List.map_nil, List.cons_append, List.nil_append, numV, List.getElem?_toArray, List.getElem?_cons_zero, List.getElem?_cons_succ] at c0 c1 c2 c3 c4 c5 c6 c7 c8 c9 c10 c11 c12 c13 c14 z0 z1 z2 z3 z4 z5 z6 z7 z8 z9 z10 z11 z12 z13 z14
  simp only [frL, List.map_cons, List.map_nil, List.cons_append, List.nil_append, numV] at HPM
  go_wp2_with fail
  go_region
  go_wp2_with fail
  have hbw : Below w.heap.size w w2 := (three_new w _ _ _).trans (h4.below (Nat.le_refl _))
  exact bodyPost_ret (aft_res (by rfl) (by rfl) (fifteen_set hres.out _ _ _ _ _ _ _ _ _ _ _ _ _ _ _).drew) rfl (HPM.out _ _ (fifteen_below hbw (by omega) _ _ _ _ _ _ _ _ _ _ _ _ _ _ _).drew rfl)
set_option maxRecDepth 100000 in
set_option maxHeartbeats 1000000 in
theorem aft_drop (f : Fr) (n pl tg : Nat) (w : World) (ok : FrOk f) :
    Calls Tryd.prog 98 #[.agg (frL f).toArray, .agg #[.int .i64 pl, .int .i64 (10 : Nat), .int .i64 n, .int .i64 tg]] w (AftPost f 10 n w) := by
  have HF : Hid (afterF f 10 n = (popF f).1) := hid (rfl)
  have hld := hid (fun W hW => pop_any w.heap.size f W hW ok)
  obtain ⟨r, lo, d, st, wg⟩ := f
  obtain ⟨h1, h2, h3d⟩ := ok
  simp only at h1 h2
  obtain ⟨a, b, c, e, rfl⟩ := four h1
  obtain ⟨s0, s1, s2, s3, s4, s5, s6, s7, rfl⟩ := eight h2
  simp only [frL, List.map_cons, List.map_nil, List.cons_append, List.nil_append, numV]
  go_enter Tryd.func98, Tryd.ntmps98
  go_wp2_with fail
  refine (hld.out _ (heap_three_first w _ _ _)).mono ?_
  rintro x w2 ⟨rfl, h3, h4⟩
  have hz := h4.size
  simp at hz
  have hres := hid ((h4.block (w.heap.size + 1 + 1) (by omega)).trans (heap_three_third w _ _ _))
  rw [← HF.out] at h3
  have hok3 : FrOk (afterF ⟨r, [a, b, c, e], d, [s0, s1, s2, s3, s4, s5, s6, s7], wg⟩ 10 n) := afterF_ok ⟨rfl, rfl, h3d⟩ 10 n
  have HPM := hid (fun W b' hb' hr' => aftPost_mk (f := ⟨r, [a, b, c, e], d, [s0, s1, s2, s3, s4, s5, s6, s7], wg⟩) (op := 10) (n := n) (w := w) (W := W) b' hb' hr')
  generalize afterF ⟨r, [a, b, c, e], d, [s0, s1, s2, s3, s4, s5, s6, s7], wg⟩ 10 n = G at *
  obtain ⟨r', lo', d', st', wg'⟩ := G
  obtain ⟨j1, j2, j3⟩ := hok3
  simp only at j1 j2
  obtain ⟨a', b', c', e', rfl⟩ := four j1
  obtain ⟨t0, t1, t2, t3, t4, t5, t6, t7, rfl⟩ := eight j2
  have c0 := RowAt.cell h3 0
  have c1 := RowAt.cell h3 1
  have c2 := RowAt.cell h3 2
  have c3 := RowAt.cell h3 3
  have c4 := RowAt.cell h3 4
  have c5 := RowAt.cell h3 5
  have c6 := RowAt.cell h3 6
  have c7 := RowAt.cell h3 7
  have c8 := RowAt.cell h3 8
  have c9 := RowAt.cell h3 9
  have c10 := RowAt.cell h3 10
  have c11 := RowAt.cell h3 11
  have c12 := RowAt.cell h3 12
  have c13 := RowAt.cell h3 13
  have c14 := RowAt.cell h3 14
  have z0 := cell_of_row w2 (w.heap.size + 1 + 1) 0 _ _ _ hres.out
  have z1 := cell_of_row w2 (w.heap.size + 1 + 1) 1 _ _ _ hres.out
  have z2 := cell_of_row w2 (w.heap.size + 1 + 1) 2 _ _ _ hres.out
  have z3 := cell_of_row w2 (w.heap.size + 1 + 1) 3 _ _ _ hres.out
  have z4 := cell_of_row w2 (w.heap.size + 1 + 1) 4 _ _ _ hres.out
  have z5 := cell_of_row w2 (w.heap.size + 1 + 1) 5 _ _ _ hres.out
  have z6 := cell_of_row w2 (w.heap.size + 1 + 1) 6 _ _ _ hres.out
  have z7 := cell_of_row w2 (w.heap.size + 1 + 1) 7 _ _ _ hres.out
  have z8 := cell_of_row w2 (w.heap.size + 1 + 1) 8 _ _ _ hres.out
  have z9 := cell_of_row w2 (w.heap.size + 1 + 1) 9 _ _ _ hres.out
  have z10 := cell_of_row w2 (w.heap.size + 1 + 1) 10 _ _ _ hres.out
  have z11 := cell_of_row w2 (w.heap.size + 1 + 1) 11 _ _ _ hres.out
  have z12 := cell_of_row w2 (w.heap.size + 1 + 1) 12 _ _ _ hres.out
  have z13 := cell_of_row w2 (w.heap.size + 1 + 1) 13 _ _ _ hres.out
  have z14 := cell_of_row w2 (w.heap.size + 1 + 1) 14 _ _ _ hres.out
  have g0 := frozen_of_row w2 (w.heap.size + 1 + 1) 0 _ _ hres.out
  have g1 := frozen_of_row w2 (w.heap.size + 1 + 1) 1 _ _ hres.out
  have g2 := frozen_of_row w2 (w.heap.size + 1 + 1) 2 _ _ hres.out
  have g3 := frozen_of_row w2 (w.heap.size + 1 + 1) 3 _ _ hres.out
  have g4 := frozen_of_row w2 (w.heap.size + 1 + 1) 4 _ _ hres.out
  have g5 := frozen_of_row w2 (w.heap.size + 1 + 1) 5 _ _ hres.out
  have g6 := frozen_of_row w2 (w.heap.size + 1 + 1) 6 _ _ hres.out
  have g7 := frozen_of_row w2 (w.heap.size + 1 + 1) 7 _ _ hres.out
  have g8 := frozen_of_row w2 (w.heap.size + 1 + 1) 8 _ _ hres.out
  have g9 := frozen_of_row w2 (w.heap.size + 1 + 1) 9 _ _ hres.out
  have g10 := frozen_of_row w2 (w.heap.size + 1 + 1) 10 _ _ hres.out
  have g11 := frozen_of_row w2 (w.heap.size + 1 + 1) 11 _ _ hres.out
  have g12 := frozen_of_row w2 (w.heap.size + 1 + 1) 12 _ _ hres.out
  have g13 := frozen_of_row w2 (w.heap.size + 1 + 1) 13 _ _ hres.out
  have g14 := frozen_of_row w2 (w.heap.size + 1 + 1) 14 _ _ hres.out
  simp only [frL, List.map_cons, List.map_nil, List.cons_append, List.nil_append, numV, List.getElem?_toArray, List.getElem?_cons_zero, List.getElem?_cons_succ] at c0 c1 c2 c3 c4 c5 c6 c7 c8 c9 c10 c11 c12 c13 c14 z0 z1 z2 z3 z4 z5 z6 z7 z8 z9 z10 z11 z12 z13 z14
  simp only [frL, List.map_cons, List.map_nil, List.cons_append, List.nil_append, numV] at HPM
  go_wp2_with fail
  go_region
  go_wp2_with fail
  have hbw : Below w.heap.size w w2 := (three_new w _ _ _).trans (h4.below (Nat.le_refl _))
  exact bodyPost_ret (aft_res (by rfl) (by rfl) (fifteen_set hres.out _ _ _ _ _ _ _ _ _ _ _ _ _ _ _).drew) rfl (HPM.out _ _ (fifteen_below hbw (by omega) _ _ _ _ _ _ _ _ _ _ _ _ _ _ _).drew rfl)
end Go.Proofs.YtdmdpindonghdabDoor
namespace Go.Proofs.YtdmdpindonghdabDoor
open Go.RowKit
set_option maxRecDepth 100000 in
set_option maxHeartbeats 1000000 in
theorem aft_dup (f : Fr) (n pl tg : Nat) (w : World) (ok : FrOk f) :
    Calls Tryd.prog 98 #[.agg (frL f).toArray, .agg #[.int .i64 pl, .int .i64 (9 : Nat), .int .i64 n, .int .i64 tg]] w (AftPost f 9 n w) := by
  have HF : Hid (afterF f 9 n = pushF (pushF (popF f).1 (popF f).2) (popF f).2) := hid (rfl)
  have k1 := hid (fun W hW => pop_any w.heap.size f W hW ok)
  have k2 := hid (fun W hW => push_any w.heap.size (popF f).1 (popF f).2 W hW (popF_ok ok))
  have k3 := hid (fun W hW => push_any w.heap.size (pushF (popF f).1 (popF f).2) (popF f).2 W hW (pushF_ok (popF_ok ok) _))
  obtain ⟨r, lo, d, st, wg⟩ := f
  obtain ⟨h1, h2, h3d⟩ := ok
  simp only at h1 h2
  obtain ⟨a, b, c, e, rfl⟩ := four h1
  obtain ⟨s0, s1, s2, s3, s4, s5, s6, s7, rfl⟩ := eight h2
  simp only [frL, List.map_cons, List.map_nil, List.cons_append, List.nil_append, numV]
  go_enter Tryd.func98, Tryd.ntmps98
  go_wp2_with fail
  refine (k1.out _ (heap_three_first w _ _ _)).mono ?_
  rintro x w3 ⟨rfl, h5, h6⟩
  go_wp2_with fail
  refine (k2.out _ h5).mono ?_
  rintro x w4 ⟨rfl, h7, h8⟩
  go_wp2_with fail
  refine (k3.out _ h7).mono ?_
  rintro x w2 ⟨rfl, h3, h9⟩
  have h4 := (h6.trans h8).trans h9
  clear k1 k2 k3 h5 h6 h7 h8 h9
  have hz := h4.size
  simp at hz
  have hres := hid ((h4.block (w.heap.size + 1 + 1) (by omega)).trans (heap_three_third w _ _ _))
  rw [← HF.out] at h3
  have hok3 : FrOk (afterF ⟨r, [a, b, c, e], d, [s0, s1, s2, s3, s4, s5, s6, s7], wg⟩ 9 n) := afterF_ok ⟨rfl, rfl, h3d⟩ 9 n
  have HPM := hid (fun W b' hb' hr' => aftPost_mk (f := ⟨r, [a, b, c, e], d, [s0, s1, s2, s3, s4, s5, s6, s7], wg⟩) (op := 9) (n := n) (w := w) (W := W) b' hb' hr')
  generalize afterF ⟨r, [a, b, c, e], d, [s0, s1, s2, s3, s4, s5, s6, s7], wg⟩ 9 n = G at *
  obtain ⟨r', lo', d', st', wg'⟩ := G
  obtain ⟨j1, j2, j3⟩ := hok3
  simp only at j1 j2
  obtain ⟨a', b', c', e', rfl⟩ := four j1
  obtain ⟨t0, t1, t2, t3, t4, t5, t6, t7, rfl⟩ := eight j2
  have c0 := RowAt.cell h3 0
  have c1 := RowAt.cell h3 1
  have c2 := RowAt.cell h3 2
  have c3 := RowAt.cell h3 3
  have c4 := RowAt.cell h3 4
  have c5 := RowAt.cell h3 5
  have c6 := RowAt.cell h3 6
  have c7 := RowAt.cell h3 7
  have c8 := RowAt.cell h3 8
  have c9 := RowAt.cell h3 9
  have c10 := RowAt.cell h3 10
  have c11 := RowAt.cell h3 11
  have c12 := RowAt.cell h3 12
  have c13 := RowAt.cell h3 13
  have c14 := RowAt.cell h3 14
  have z0 := cell_of_row w2 (w.heap.size + 1 + 1) 0 _ _ _ hres.out
  have z1 := cell_of_row w2 (w.heap.size + 1 + 1) 1 _ _ _ hres.out
  have z2 := cell_of_row w2 (w.heap.size + 1 + 1) 2 _ _ _ hres.out
  have z3 := cell_of_row w2 (w.heap.size + 1 + 1) 3 _ _ _ hres.out
  have z4 := cell_of_row w2 (w.heap.size + 1 + 1) 4 _ _ _ hres.out
  have z5 := cell_of_row w2 (w.heap.size + 1 + 1) 5 _ _ _ hres.out
  have z6 := cell_of_row w2 (w.heap.size + 1 + 1) 6 _ _ _ hres.out
  have z7 := cell_of_row w2 (w.heap.size + 1 + 1) 7 _ _ _ hres.out
  have z8 := cell_of_row w2 (w.heap.size + 1 + 1) 8 _ _ _ hres.out
  have z9 := cell_of_row w2 (w.heap.size + 1 + 1) 9 _ _ _ hres.out
  have z10 := cell_of_row w2 (w.heap.size + 1 + 1) 10 _ _ _ hres.out
  have z11 := cell_of_row w2 (w.heap.size + 1 + 1) 11 _ _ _ hres.out
  have z12 := cell_of_row w2 (w.heap.size + 1 + 1) 12 _ _ _ hres.out
  have z13 := cell_of_row w2 (w.heap.size + 1 + 1) 13 _ _ _ hres.out
  have z14 := cell_of_row w2 (w.heap.size + 1 + 1) 14 _ _ _ hres.out
  have g0 := frozen_of_row w2 (w.heap.size + 1 + 1) 0 _ _ hres.out
  have g1 := frozen_of_row w2 (w.heap.size + 1 + 1) 1 _ _ hres.out
  have g2 := frozen_of_row w2 (w.heap.size + 1 + 1) 2 _ _ hres.out
  have g3 := frozen_of_row w2 (w.heap.size + 1 + 1) 3 _ _ hres.out
  have g4 := frozen_of_row w2 (w.heap.size + 1 + 1) 4 _ _ hres.out
  have g5 := frozen_of_row w2 (w.heap.size + 1 + 1) 5 _ _ hres.out
  have g6 := frozen_of_row w2 (w.heap.size + 1 + 1) 6 _ _ hres.out
  have g7 := frozen_of_row w2 (w.heap.size + 1 + 1) 7 _ _ hres.out
  have g8 := frozen_of_row w2 (w.heap.size + 1 + 1) 8 _ _ hres.out
  have g9 := frozen_of_row w2 (w.heap.size + 1 + 1) 9 _ _ hres.out
  have g10 := frozen_of_row w2 (w.heap.size + 1 + 1) 10 _ _ hres.out
  have g11 := frozen_of_row w2 (w.heap.size + 1 + 1) 11 _ _ hres.out
  have g12 := frozen_of_row w2 (w.heap.size + 1 + 1) 12 _ _ hres.out
  have g13 := frozen_of_row w2 (w.heap.size + 1 + 1) 13 _ _ hres.out
  have g14 := frozen_of_row w2 (w.heap.size + 1 + 1) 14 _ _ hres.out
  simp only [frL, List.map_cons, List.map_nil, List.cons_append, List.nil_append, numV, List.getElem?_toArray, List.getElem?_cons_zero, List.getElem?_cons_succ] at c0 c1 c2 c3 c4 c5 c6 c7 c8 c9 c10 c11 c12 c13 c14 z0 z1 z2 z3 z4 z5 z6 z7 z8 z9 z10 z11 z12 z13 z14
  simp only [frL, List.map_cons, List.map_nil, List.cons_append, List.nil_append, numV] at HPM
  go_wp2_with fail
  go_region
  go_wp2_with fail
  have hbw : Below w.heap.size w w2 := (three_new w _ _ _).trans (h4.below (Nat.le_refl _))
  exact bodyPost_ret (aft_res (by rfl) (by rfl) (fifteen_set hres.out _ _ _ _ _ _ _ _ _ _ _ _ _ _ _).drew) rfl (HPM.out _ _ (fifteen_below hbw (by omega) _ _ _ _ _ _ _ _ _ _ _ _ _ _ _).drew rfl)
set_option maxRecDepth 100000 in
set_option maxHeartbeats 1000000 in
theorem aft_swap (f : Fr) (n pl tg : Nat) (w : World) (ok : FrOk f) :
    Calls Tryd.prog 98 #[.agg (frL f).toArray, .agg #[.int .i64 pl, .int .i64 (11 : Nat), .int .i64 n, .int .i64 tg]] w (AftPost f 11 n w) := by
  have HF : Hid (afterF f 11 n = pushF (pushF (popF (popF f).1).1 (popF f).2) (popF (popF f).1).2) := hid (rfl)
  have k1 := hid (fun W hW => pop_any w.heap.size f W hW ok)
  have k2 := hid (fun W hW => pop_any w.heap.size (popF f).1 W hW (popF_ok ok))
  have k3 := hid (fun W hW => push_any w.heap.size (popF (popF f).1).1 (popF f).2 W hW (popF_ok (popF_ok ok)))
  have k4 := hid (fun W hW => push_any w.heap.size (pushF (popF (popF f).1).1 (popF f).2) (popF (popF f).1).2 W hW (pushF_ok (popF_ok (popF_ok ok)) _))
  obtain ⟨r, lo, d, st, wg⟩ := f
  obtain ⟨h1, h2, h3d⟩ := ok
  simp only at h1 h2
  obtain ⟨a, b, c, e, rfl⟩ := four h1
  obtain ⟨s0, s1, s2, s3, s4, s5, s6, s7, rfl⟩ := eight h2
  simp only [frL, List.map_cons, List.map_nil, List.cons_append, List.nil_append, numV]
  go_enter Tryd.func98, Tryd.ntmps98
  go_wp2_with fail
  refine (k1.out _ (heap_three_first w _ _ _)).mono ?_
  rintro x w3 ⟨rfl, h5, h6⟩
  go_wp2_with fail
  refine (k2.out _ h5).mono ?_
  rintro x w4 ⟨rfl, h7, h8⟩
  go_wp2_with fail
  refine (k3.out _ h7).mono ?_
  rintro x w5 ⟨rfl, h9, h10⟩
  go_wp2_with fail
  refine (k4.out _ h9).mono ?_
  rintro x w2 ⟨rfl, h3, h11⟩
  have h4 := ((h6.trans h8).trans h10).trans h11
  clear k1 k2 k3 k4 h5 h6 h7 h8 h9 h10 h11
  have hz := h4.size
  simp at hz
  have hres := hid ((h4.block (w.heap.size + 1 + 1) (by omega)).trans (heap_three_third w _ _ _))
  rw [← HF.out] at h3
  have hok3 : FrOk (afterF ⟨r, [a, b, c, e], d, [s0, s1, s2, s3, s4, s5, s6, s7], wg⟩ 11 n) := afterF_ok ⟨rfl, rfl, h3d⟩ 11 n
  have HPM := hid (fun W b' hb' hr' => aftPost_mk (f := ⟨r, [a, b, c, e], d, [s0, s1, s2, s3, s4, s5, s6, s7], wg⟩) (op := 11) (n := n) (w := w) (W := W) b' hb' hr')
  generalize afterF ⟨r, [a, b, c, e], d, [s0, s1, s2, s3, s4, s5, s6, s7], wg⟩ 11 n = G at *
  obtain ⟨r', lo', d', st', wg'⟩ := G
  obtain ⟨j1, j2, j3⟩ := hok3
  simp only at j1 j2
  obtain ⟨a', b', c', e', rfl⟩ := four j1
  obtain ⟨t0, t1, t2, t3, t4, t5, t6, t7, rfl⟩ := eight j2
  have c0 := RowAt.cell h3 0
  have c1 := RowAt.cell h3 1
  have c2 := RowAt.cell h3 2
  have c3 := RowAt.cell h3 3
  have c4 := RowAt.cell h3 4
  have c5 := RowAt.cell h3 5
  have c6 := RowAt.cell h3 6
  have c7 := RowAt.cell h3 7
  have c8 := RowAt.cell h3 8
  have c9 := RowAt.cell h3 9
  have c10 := RowAt.cell h3 10
  have c11 := RowAt.cell h3 11
  have c12 := RowAt.cell h3 12
  have c13 := RowAt.cell h3 13
  have c14 := RowAt.cell h3 14
  have z0 := cell_of_row w2 (w.heap.size + 1 + 1) 0 _ _ _ hres.out
  have z1 := cell_of_row w2 (w.heap.size + 1 + 1) 1 _ _ _ hres.out
  have z2 := cell_of_row w2 (w.heap.size + 1 + 1) 2 _ _ _ hres.out
  have z3 := cell_of_row w2 (w.heap.size + 1 + 1) 3 _ _ _ hres.out
  have z4 := cell_of_row w2 (w.heap.size + 1 + 1) 4 _ _ _ hres.out
  have z5 := cell_of_row w2 (w.heap.size + 1 + 1) 5 _ _ _ hres.out
  have z6 := cell_of_row w2 (w.heap.size + 1 + 1) 6 _ _ _ hres.out
  have z7 := cell_of_row w2 (w.heap.size + 1 + 1) 7 _ _ _ hres.out
  have z8 := cell_of_row w2 (w.heap.size + 1 + 1) 8 _ _ _ hres.out
  have z9 := cell_of_row w2 (w.heap.size + 1 + 1) 9 _ _ _ hres.out
  have z10 := cell_of_row w2 (w.heap.size + 1 + 1) 10 _ _ _ hres.out
  have z11 := cell_of_row w2 (w.heap.size + 1 + 1) 11 _ _ _ hres.out
  have z12 := cell_of_row w2 (w.heap.size + 1 + 1) 12 _ _ _ hres.out
  have z13 := cell_of_row w2 (w.heap.size + 1 + 1) 13 _ _ _ hres.out
  have z14 := cell_of_row w2 (w.heap.size + 1 + 1) 14 _ _ _ hres.out
  have g0 := frozen_of_row w2 (w.heap.size + 1 + 1) 0 _ _ hres.out
  have g1 := frozen_of_row w2 (w.heap.size + 1 + 1) 1 _ _ hres.out
  have g2 := frozen_of_row w2 (w.heap.size + 1 + 1) 2 _ _ hres.out
  have g3 := frozen_of_row w2 (w.heap.size + 1 + 1) 3 _ _ hres.out
  have g4 := frozen_of_row w2 (w.heap.size + 1 + 1) 4 _ _ hres.out
  have g5 := frozen_of_row w2 (w.heap.size + 1 + 1) 5 _ _ hres.out
  have g6 := frozen_of_row w2 (w.heap.size + 1 + 1) 6 _ _ hres.out
  have g7 := frozen_of_row w2 (w.heap.size + 1 + 1) 7 _ _ hres.out
  have g8 := frozen_of_row w2 (w.heap.size + 1 + 1) 8 _ _ hres.out
  have g9 := frozen_of_row w2 (w.heap.size + 1 + 1) 9 _ _ hres.out
  have g10 := frozen_of_row w2 (w.heap.size + 1 + 1) 10 _ _ hres.out
  have g11 := frozen_of_row w2 (w.heap.size + 1 + 1) 11 _ _ hres.out
  have g12 := frozen_of_row w2 (w.heap.size + 1 + 1) 12 _ _ hres.out
  have g13 := frozen_of_row w2 (w.heap.size + 1 + 1) 13 _ _ hres.out
  have g14 := frozen_of_row w2 (w.heap.size + 1 + 1) 14 _ _ hres.out
  simp only [frL, List.map_cons, List.map_nil, List.cons_append, List.nil_append, numV, List.getElem?_toArray, List.getElem?_cons_zero, List.getElem?_cons_succ] at c0 c1 c2 c3 c4 c5 c6 c7 c8 c9 c10 c11 c12 c13 c14 z0 z1 z2 z3 z4 z5 z6 z7 z8 z9 z10 z11 z12 z13 z14
  simp only [frL, List.map_cons, List.map_nil, List.cons_append, List.nil_append, numV] at HPM
  go_wp2_with fail
  go_region
  go_wp2_with fail
  have hbw : Below w.heap.size w w2 := (three_new w _ _ _).trans (h4.below (Nat.le_refl _))
  exact bodyPost_ret (aft_res (by rfl) (by rfl) (fifteen_set hres.out _ _ _ _ _ _ _ _ _ _ _ _ _ _ _).drew) rfl (HPM.out _ _ (fifteen_below hbw (by omega) _ _ _ _ _ _ _ _ _ _ _ _ _ _ _).drew rfl)
end Go.Proofs.YtdmdpindonghdabDoor
namespace Go.Proofs.YtdmdpindonghdabDoor
open Go.RowKit
set_option maxRecDepth 100000 in
set_option maxHeartbeats 1000000 in
theorem aft_other (f : Fr) (op n pl tg : Nat) (w : World) (ok : FrOk f) (hop : op < 25) (hne : op ≠ 7 ∧ op ≠ 8 ∧ op ≠ 9 ∧ op ≠ 10 ∧ op ≠ 11) (htab : FlowTab w) :
    Calls Tryd.prog 98 #[.agg (frL f).toArray, .agg #[.int .i64 pl, .int .i64 op, .int .i64 n, .int .i64 tg]] w (AftPost f op n w) := by
  have HF : Hid (afterF f op n = pushR (popR f (popsN op).reverse) (pushesN op)) := hid (by unfold afterF; rw [if_neg hne.1, if_neg hne.2.1, if_neg hne.2.2.1, if_neg hne.2.2.2.1, if_neg hne.2.2.2.2])
  have k1 := hid (fun W hW ht => popAll_any w.heap.size f op W hW ok hop ht)
  have k2 := hid (fun W hW ht => pushAll_any w.heap.size (popR f (popsN op).reverse) op W hW (popR_ok _ _ ok) hop ht)
  obtain ⟨q1, q2, q3, q4, q5⟩ : ((op : Int) == 7) = false ∧ ((op : Int) == 8) = false ∧ ((op : Int) == 9) = false ∧ ((op : Int) == 10) = false ∧ ((op : Int) == 11) = false := by
    simp only [beq_eq_false_iff_ne]; omega
  have hg3 := World.block_lt_of_cell? w _ (htab op hop).1
  have hg4 := World.block_lt_of_cell? w _ (htab op hop).2
  simp only at hg3 hg4
  clear hne
  obtain ⟨r, lo, d, st, wg⟩ := f
  obtain ⟨h1, h2, h3d⟩ := ok
  simp only at h1 h2
  obtain ⟨a, b, c, e, rfl⟩ := four h1
  obtain ⟨s0, s1, s2, s3, s4, s5, s6, s7, rfl⟩ := eight h2
  simp only [frL, List.map_cons, List.map_nil, List.cons_append, List.nil_append, numV]
  go_enter Tryd.func98, Tryd.ntmps98
  go_wp2_with fail
  refine (k1.out _ (heap_three_first w _ _ _) (htab.below (three_new w _ _ _))).mono ?_
  rintro x w3 ⟨rfl, h5, h6⟩
  have m1 := (h6.cell (k := w.heap.size + 1) (o := 1) (by omega)).trans (cell_three_second w _ _ _ _ 1)
  simp only [List.getElem?_toArray, List.getElem?_cons_zero, List.getElem?_cons_succ] at m1
  have ht3 := FlowTab.only (htab.below (three_new w _ _ _)) h6 (by omega) (by omega)
  go_wp2_with fail
  refine (k2.out _ h5 ht3).mono ?_
  rintro x w2 ⟨rfl, h3, h9⟩
  have h4 := h6.trans h9
  clear k1 k2 h5 h6 h9 m1 ht3
  have hz := h4.size
  simp at hz
  have hres := hid ((h4.block (w.heap.size + 1 + 1) (by omega)).trans (heap_three_third w _ _ _))
  rw [← HF.out] at h3
  have hok3 : FrOk (afterF ⟨r, [a, b, c, e], d, [s0, s1, s2, s3, s4, s5, s6, s7], wg⟩ op n) := afterF_ok ⟨rfl, rfl, h3d⟩ op n
  have HPM := hid (fun W b' hb' hr' => aftPost_mk (f := ⟨r, [a, b, c, e], d, [s0, s1, s2, s3, s4, s5, s6, s7], wg⟩) (op := op) (n := n) (w := w) (W := W) b' hb' hr')
  generalize afterF ⟨r, [a, b, c, e], d, [s0, s1, s2, s3, s4, s5, s6, s7], wg⟩ op n = G at *
  obtain ⟨r', lo', d', st', wg'⟩ := G
  obtain ⟨j1, j2, j3⟩ := hok3
  simp only at j1 j2
  obtain ⟨a', b', c', e', rfl⟩ := four j1
  obtain ⟨t0, t1, t2, t3, t4, t5, t6, t7, rfl⟩ := eight j2
  have c0 := RowAt.cell h3 0
  have c1 := RowAt.cell h3 1
  have c2 := RowAt.cell h3 2
  have c3 := RowAt.cell h3 3
  have c4 := RowAt.cell h3 4
  have c5 := RowAt.cell h3 5
  have c6 := RowAt.cell h3 6
  have c7 := RowAt.cell h3 7
  have c8 := RowAt.cell h3 8
  have c9 := RowAt.cell h3 9
  have c10 := RowAt.cell h3 10
  have c11 := RowAt.cell h3 11
  have c12 := RowAt.cell h3 12
  have c13 := RowAt.cell h3 13
  have c14 := RowAt.cell h3 14
  have z0 := cell_of_row w2 (w.heap.size + 1 + 1) 0 _ _ _ hres.out
  have z1 := cell_of_row w2 (w.heap.size + 1 + 1) 1 _ _ _ hres.out
  have z2 := cell_of_row w2 (w.heap.size + 1 + 1) 2 _ _ _ hres.out
  have z3 := cell_of_row w2 (w.heap.size + 1 + 1) 3 _ _ _ hres.out
  have z4 := cell_of_row w2 (w.heap.size + 1 + 1) 4 _ _ _ hres.out
  have z5 := cell_of_row w2 (w.heap.size + 1 + 1) 5 _ _ _ hres.out
  have z6 := cell_of_row w2 (w.heap.size + 1 + 1) 6 _ _ _ hres.out
  have z7 := cell_of_row w2 (w.heap.size + 1 + 1) 7 _ _ _ hres.out
  have z8 := cell_of_row w2 (w.heap.size + 1 + 1) 8 _ _ _ hres.out
  have z9 := cell_of_row w2 (w.heap.size + 1 + 1) 9 _ _ _ hres.out
  have z10 := cell_of_row w2 (w.heap.size + 1 + 1) 10 _ _ _ hres.out
  have z11 := cell_of_row w2 (w.heap.size + 1 + 1) 11 _ _ _ hres.out
  have z12 := cell_of_row w2 (w.heap.size + 1 + 1) 12 _ _ _ hres.out
  have z13 := cell_of_row w2 (w.heap.size + 1 + 1) 13 _ _ _ hres.out
  have z14 := cell_of_row w2 (w.heap.size + 1 + 1) 14 _ _ _ hres.out
  have g0 := frozen_of_row w2 (w.heap.size + 1 + 1) 0 _ _ hres.out
  have g1 := frozen_of_row w2 (w.heap.size + 1 + 1) 1 _ _ hres.out
  have g2 := frozen_of_row w2 (w.heap.size + 1 + 1) 2 _ _ hres.out
  have g3 := frozen_of_row w2 (w.heap.size + 1 + 1) 3 _ _ hres.out
  have g4 := frozen_of_row w2 (w.heap.size + 1 + 1) 4 _ _ hres.out
  have g5 := frozen_of_row w2 (w.heap.size + 1 + 1) 5 _ _ hres.out
  have g6 := frozen_of_row w2 (w.heap.size + 1 + 1) 6 _ _ hres.out
  have g7 := frozen_of_row w2 (w.heap.size + 1 + 1) 7 _ _ hres.out
  have g8 := frozen_of_row w2 (w.heap.size + 1 + 1) 8 _ _ hres.out
  have g9 := frozen_of_row w2 (w.heap.size + 1 + 1) 9 _ _ hres.out
  have g10 := frozen_of_row w2 (w.heap.size + 1 + 1) 10 _ _ hres.out
  have g11 := frozen_of_row w2 (w.heap.size + 1 + 1) 11 _ _ hres.out
  have g12 := frozen_of_row w2 (w.heap.size + 1 + 1) 12 _ _ hres.out
  have g13 := frozen_of_row w2 (w.heap.size + 1 + 1) 13 _ _ hres.out
  have g14 := frozen_of_row w2 (w.heap.size + 1 + 1) 14 _ _ hres.out
  simp only [frL, List.map_cons, List.map_nil, List.cons_append, List.nil_append, numV, List.getElem?_toArray, List.getElem?_cons_zero, List.getElem?_cons_succ] at c0 c1 c2 c3 c4 c5 c6 c7 c8 c9 c10 c11 c12 c13 c14 z0 z1 z2 z3 z4 z5 z6 z7 z8 z9 z10 z11 z12 z13 z14
  simp only [frL, List.map_cons, List.map_nil, List.cons_append, List.nil_append, numV] at HPM
  go_wp2_with fail
  go_region
  go_wp2_with fail
  have hbw : Below w.heap.size w w2 := (three_new w _ _ _).trans (h4.below (Nat.le_refl _))
  exact bodyPost_ret (aft_res (by rfl) (by rfl) (fifteen_set hres.out _ _ _ _ _ _ _ _ _ _ _ _ _ _ _).drew) rfl (HPM.out _ _ (fifteen_below hbw (by omega) _ _ _ _ _ _ _ _ _ _ _ _ _ _ _).drew rfl)
end Go.Proofs.YtdmdpindonghdabDoor
namespace Go.Proofs.YtdmdpindonghdabDoor
open Go.RowKit
theorem aft_any (f : Fr) (op n pl tg : Nat) (w : World) (ok : FrOk f) (hop : op < 25) (hn : op = 7 ∨ op = 8 → n < 4) (htab : FlowTab w) :
    Calls Tryd.prog 98 #[.agg (frL f).toArray, .agg #[.int .i64 pl, .int .i64 op, .int .i64 n, .int .i64 tg]] w (AftPost f op n w) := by
  by_cases e7 : op = 7
  · subst e7; exact aft_load f n pl tg w ok (hn (.inl rfl))
  by_cases e8 : op = 8
  · subst e8; exact aft_store f n pl tg w ok (hn (.inr rfl))
  by_cases e9 : op = 9
  · subst e9; exact aft_dup f n pl tg w ok
  by_cases e10 : op = 10
  · subst e10; exact aft_drop f n pl tg w ok
  by_cases e11 : op = 11
  · subst e11; exact aft_swap f n pl tg w ok
  exact aft_other f op n pl tg w ok hop ⟨e7, e8, e9, e10, e11⟩ htab
end Go.Proofs.YtdmdpindonghdabDoor
namespace Go.Proofs.YtdmdpindonghdabDoor
open Go.RowKit
attribute [local go_sem] eq4 eq8
set_option maxRecDepth 100000 in
set_option maxHeartbeats 1000000 in
theorem reach_old (bw bf cap k : Nat) (fs : List Fr) (way known : Fr) (ch : Bool) (lv : Value) (w : World) (hall : AllAt w bf fs) (hok : AllOk fs) (hk : fs[k]? = some known) (hway : FrOk way)
    (hwalk : WalkAt w bw lv bf fs.length cap ch) (hr : known.reached = true) (hd : known.depth ≠ way.depth) :
    Calls Tryd.prog 86 #[.pointer (some ⟨bw, 0, none⟩), .int .i64 k, .agg (frL way).toArray] w fun e w' =>
      e = .returned (.bool false) ∧ Below w.heap.size w w' := by
  have hkl : k < fs.length := (List.getElem?_eq_some_iff.1 hk).1
  have hkn : FrOk known := hok known (List.mem_of_getElem? hk)
  have HAL := hid hall
  have HWK := hid hwalk
  have w0 := cell_of_row w bw 0 _ _ _ hwalk
  have w1 := cell_of_row w bw 1 _ _ _ hwalk
  have w2 := cell_of_row w bw 2 _ _ _ hwalk
  simp only [List.getElem?_toArray, List.getElem?_cons_zero, List.getElem?_cons_succ] at w0 w1 w2
  have hbw := World.block_lt_of_cell? w _ w0
  have fw2 := frozen_of_row w bw 2 _ _ hwalk
  have c0 := hall.cell hok hk (j := 0) (by omega)
  have c1 := hall.cell hok hk (j := 1) (by omega)
  have c2 := hall.cell hok hk (j := 2) (by omega)
  have c3 := hall.cell hok hk (j := 3) (by omega)
  have c4 := hall.cell hok hk (j := 4) (by omega)
  have c5 := hall.cell hok hk (j := 5) (by omega)
  have c6 := hall.cell hok hk (j := 6) (by omega)
  have c7 := hall.cell hok hk (j := 7) (by omega)
  have c8 := hall.cell hok hk (j := 8) (by omega)
  have c9 := hall.cell hok hk (j := 9) (by omega)
  have c10 := hall.cell hok hk (j := 10) (by omega)
  have c11 := hall.cell hok hk (j := 11) (by omega)
  have c12 := hall.cell hok hk (j := 12) (by omega)
  have c13 := hall.cell hok hk (j := 13) (by omega)
  have c14 := hall.cell hok hk (j := 14) (by omega)
  have f0 := hall.frozen (k * 15)
  have f1 := hall.frozen (k * 15 + 1)
  have f2 := hall.frozen (k * 15 + 2)
  have f3 := hall.frozen (k * 15 + 3)
  have f4 := hall.frozen (k * 15 + 4)
  have f5 := hall.frozen (k * 15 + 5)
  have f6 := hall.frozen (k * 15 + 6)
  have f7 := hall.frozen (k * 15 + 7)
  have f8 := hall.frozen (k * 15 + 8)
  have f9 := hall.frozen (k * 15 + 9)
  have f10 := hall.frozen (k * 15 + 10)
  have f11 := hall.frozen (k * 15 + 11)
  have f12 := hall.frozen (k * 15 + 12)
  have f13 := hall.frozen (k * 15 + 13)
  have f14 := hall.frozen (k * 15 + 14)
  have hbf := World.block_lt_of_cell? w _ (c0.trans (by rfl : (frL known)[0]? = some (.bool known.reached)))
  simp only at hbw hbf
  obtain ⟨kr, klo, kd, kst, kw⟩ := known
  obtain ⟨h1, h2, h3⟩ := hkn
  simp only at h1 h2 hr
  subst hr
  obtain ⟨a, b, c, e, rfl⟩ := four h1
  obtain ⟨s0, s1, s2, s3, s4, s5, s6, s7, rfl⟩ := eight h2
  simp only [frL, List.map_cons, List.map_nil, List.cons_append, List.nil_append, numV, List.getElem?_cons_zero, List.getElem?_cons_succ] at c0 c1 c2 c3 c4 c5 c6 c7 c8 c9 c10 c11 c12 c13 c14
  rw [Nat.add_zero] at c0
  have HWAY := hid hway
  obtain ⟨yr, ylo, yd, yst, yw⟩ := way
  obtain ⟨g1, g2, g3⟩ := hway
  simp only at g1 g2 hd
  obtain ⟨a', b', c', e', rfl⟩ := four g1
  obtain ⟨t0, t1, t2, t3, t4, t5, t6, t7, rfl⟩ := eight g2
  simp only [frL, List.map_cons, List.map_nil, List.cons_append, List.nil_append, numV]
  have i0 : (0 : Int) ≤ (k : Int) := by omega
  have i1 : (k : Int) < (fs.length : Int) := by omega
  have hbw2 : bw ≤ w.heap.size := by omega
  have hbf2 : bf ≤ w.heap.size := by omega
  have d1 : decide ((k : Int) < 0) = false := by simp
  clear hall hwalk
  have hd' : ((kd : Int) != (yd : Int)) = true := by simp; omega
  clear hd
  go_enter Tryd.func86, Tryd.ntmps86
  go_wp2_with fail
  go_ret
  exact ⟨rfl, ((Below.refl _ _).alloc (Nat.le_refl _) _).alloc (by simp) _⟩
set_option maxRecDepth 100000 in
set_option maxHeartbeats 1000000 in
theorem reach_stack (bw bf cap k : Nat) (fs : List Fr) (way known : Fr) (ch : Bool) (lv : Value) (w : World) (hall : AllAt w bf fs) (hok : AllOk fs) (hk : fs[k]? = some known) (hway : FrOk way)
    (hwalk : WalkAt w bw lv bf fs.length cap ch) (hr : known.reached = true) (hd : known.depth = way.depth) (hst : known.stk ≠ way.stk) :
    Calls Tryd.prog 86 #[.pointer (some ⟨bw, 0, none⟩), .int .i64 k, .agg (frL way).toArray] w fun e w' =>
      e = .returned (.bool false) ∧ Below w.heap.size w w' := by
  have hkl : k < fs.length := (List.getElem?_eq_some_iff.1 hk).1
  have hkn : FrOk known := hok known (List.mem_of_getElem? hk)
  have HAL := hid hall
  have HWK := hid hwalk
  have w0 := cell_of_row w bw 0 _ _ _ hwalk
  have w1 := cell_of_row w bw 1 _ _ _ hwalk
  have w2 := cell_of_row w bw 2 _ _ _ hwalk
  simp only [List.getElem?_toArray, List.getElem?_cons_zero, List.getElem?_cons_succ] at w0 w1 w2
  have hbw := World.block_lt_of_cell? w _ w0
  have fw2 := frozen_of_row w bw 2 _ _ hwalk
  have c0 := hall.cell hok hk (j := 0) (by omega)
  have c1 := hall.cell hok hk (j := 1) (by omega)
  have c2 := hall.cell hok hk (j := 2) (by omega)
  have c3 := hall.cell hok hk (j := 3) (by omega)
  have c4 := hall.cell hok hk (j := 4) (by omega)
  have c5 := hall.cell hok hk (j := 5) (by omega)
  have c6 := hall.cell hok hk (j := 6) (by omega)
  have c7 := hall.cell hok hk (j := 7) (by omega)
  have c8 := hall.cell hok hk (j := 8) (by omega)
  have c9 := hall.cell hok hk (j := 9) (by omega)
  have c10 := hall.cell hok hk (j := 10) (by omega)
  have c11 := hall.cell hok hk (j := 11) (by omega)
  have c12 := hall.cell hok hk (j := 12) (by omega)
  have c13 := hall.cell hok hk (j := 13) (by omega)
  have c14 := hall.cell hok hk (j := 14) (by omega)
  have f0 := hall.frozen (k * 15)
  have f1 := hall.frozen (k * 15 + 1)
  have f2 := hall.frozen (k * 15 + 2)
  have f3 := hall.frozen (k * 15 + 3)
  have f4 := hall.frozen (k * 15 + 4)
  have f5 := hall.frozen (k * 15 + 5)
  have f6 := hall.frozen (k * 15 + 6)
  have f7 := hall.frozen (k * 15 + 7)
  have f8 := hall.frozen (k * 15 + 8)
  have f9 := hall.frozen (k * 15 + 9)
  have f10 := hall.frozen (k * 15 + 10)
  have f11 := hall.frozen (k * 15 + 11)
  have f12 := hall.frozen (k * 15 + 12)
  have f13 := hall.frozen (k * 15 + 13)
  have f14 := hall.frozen (k * 15 + 14)
  have hbf := World.block_lt_of_cell? w _ (c0.trans (by rfl : (frL known)[0]? = some (.bool known.reached)))
  simp only at hbw hbf
  obtain ⟨kr, klo, kd, kst, kw⟩ := known
  obtain ⟨h1, h2, h3⟩ := hkn
  simp only at h1 h2 hr
  subst hr
  obtain ⟨a, b, c, e, rfl⟩ := four h1
  obtain ⟨s0, s1, s2, s3, s4, s5, s6, s7, rfl⟩ := eight h2
  simp only [frL, List.map_cons, List.map_nil, List.cons_append, List.nil_append, numV, List.getElem?_cons_zero, List.getElem?_cons_succ] at c0 c1 c2 c3 c4 c5 c6 c7 c8 c9 c10 c11 c12 c13 c14
  rw [Nat.add_zero] at c0
  have HWAY := hid hway
  obtain ⟨yr, ylo, yd, yst, yw⟩ := way
  obtain ⟨g1, g2, g3⟩ := hway
  simp only at g1 g2 hd hst
  obtain ⟨a', b', c', e', rfl⟩ := four g1
  obtain ⟨t0, t1, t2, t3, t4, t5, t6, t7, rfl⟩ := eight g2
  simp only [frL, List.map_cons, List.map_nil, List.cons_append, List.nil_append, numV]
  have i0 : (0 : Int) ≤ (k : Int) := by omega
  have i1 : (k : Int) < (fs.length : Int) := by omega
  have hbw2 : bw ≤ w.heap.size := by omega
  have hbf2 : bf ≤ w.heap.size := by omega
  have d1 : decide ((k : Int) < 0) = false := by simp
  clear hall hwalk
  have hd' : ((kd : Int) != (yd : Int)) = false := by simp; omega
  have HST := hid hst
  clear hst
  clear hd
  go_enter Tryd.func86, Tryd.ntmps86
  go_wp2_with fail
  · go_ret
    exact ⟨rfl, ((Below.refl _ _).alloc (Nat.le_refl _) _).alloc (by simp) _⟩
  · have hall := ‹(!((s0 : Int) == (t0 : Int))) = false ∧ _›
    exfalso
    apply HST.out
    simp only [Bool.not_eq_false', beq_iff_eq] at hall
    obtain ⟨q0, q1, q2, q3, q4, q5, q6, q7⟩ := hall
    rw [show s0 = t0 by omega, show s1 = t1 by omega, show s2 = t2 by omega, show s3 = t3 by omega, show s4 = t4 by omega, show s5 = t5 by omega, show s6 = t6 by omega, show s7 = t7 by omega]
end Go.Proofs.YtdmdpindonghdabDoor
namespace Go.Proofs.YtdmdpindonghdabDoor
open Go.RowKit
/-- What a way that leads to instruction k makes of the frames: the frames, have they changed, does the way agree. -/
def reachF (fs : List Fr) (k : Nat) (way : Fr) : List Fr × Bool × Bool :=
  match fs[k]? with
  | none => (fs, false, false)
  | some known =>
    if known.reached = false then (fs.set k { way with reached := true }, true, true)
    else if known.depth ≠ way.depth ∨ known.stk ≠ way.stk then (fs, false, false)
    else if known.lo = List.zipWith joinN known.lo way.lo then (fs, false, true)
    else (fs.set k { way with reached := true, lo := List.zipWith joinN known.lo way.lo }, true, true)
theorem reachF_ok {fs : List Fr} {k : Nat} {way : Fr} (h : AllOk fs) (hw : FrOk way) : AllOk (reachF fs k way).1 := by
  unfold reachF
  cases hk : fs[k]? with
  | none => exact h
  | some known =>
    have hkn := h known (List.mem_of_getElem? hk)
    simp only
    split
    · exact h.set (f := { way with reached := true }) ⟨hw.lo, hw.stk, hw.depth⟩ k
    split
    · exact h
    split
    · exact h
    · exact h.set (f := { way with reached := true, lo := List.zipWith joinN known.lo way.lo }) ⟨by simp [hkn.lo, hw.lo], hw.stk, hw.depth⟩ k
theorem reachF_len (fs : List Fr) (k : Nat) (way : Fr) : (reachF fs k way).1.length = fs.length := by
  unfold reachF
  cases hk : fs[k]? with
  | none => rfl
  | some known =>
    simp only
    split
    · simp
    split
    · rfl
    split
    · rfl
    · simp
theorem reach_any (bw bf cap k : Nat) (fs : List Fr) (way : Fr) (ch : Bool) (lv : Value) (w : World) (hall : AllAt w bf fs) (hok : AllOk fs) (hk : k < fs.length) (hway : FrOk way)
    (hwalk : WalkAt w bw lv bf fs.length cap ch) (hne : bw ≠ bf) :
    Calls Tryd.prog 86 #[.pointer (some ⟨bw, 0, none⟩), .int .i64 k, .agg (frL way).toArray] w fun e w' =>
      e = .returned (.bool (reachF fs k way).2.2) ∧ AllAt w' bf (reachF fs k way).1 ∧ WalkAt w' bw lv bf fs.length cap (ch || (reachF fs k way).2.1) ∧ Two bw bf w w' := by
  obtain ⟨known, hkn⟩ : ∃ f, fs[k]? = some f := ⟨_, List.getElem?_eq_getElem hk⟩
  have hbw : bw < w.heap.size := (Array.getElem?_eq_some_iff.1 hwalk).1
  have hbf : bf < w.heap.size := (Array.getElem?_eq_some_iff.1 hall).1
  have stay : ∀ w', Below w.heap.size w w' → AllAt w' bf fs ∧ WalkAt w' bw lv bf fs.length cap (ch || false) ∧ Two bw bf w w' := fun w' hb =>
    ⟨(hb.block bf hbf).trans hall, by rw [Bool.or_false]; exact (hb.block bw hbw).trans hwalk, .of_below hb⟩
  cases hr : known.reached
  · have e : reachF fs k way = (fs.set k { way with reached := true }, true, true) := by simp [reachF, hkn, hr]
    rw [e]
    refine (reach_new bw bf cap k fs way known ch lv w hall hok hkn hway hwalk hne hr).mono ?_
    rintro x w' ⟨h1, h2, h3, h4⟩
    exact ⟨h1, h2, by rw [Bool.or_true]; exact h3, h4⟩
  by_cases hd : known.depth = way.depth
  · by_cases hst : known.stk = way.stk
    · refine (reach_join bw bf cap k fs way known ch lv w hall hok hkn hway hwalk hr hne hd hst).mono ?_
      rintro x w' ⟨h1, h4, h5⟩
      rcases h5 with ⟨h5, h2, h3⟩ | ⟨h5, h2, h3⟩
      · have e : reachF fs k way = (fs, false, true) := by
          unfold reachF; rw [hkn]; simp only
          rw [if_neg (by simp [hr]), if_neg (by simp [hd, hst]), if_pos h5]
        rw [e]
        exact ⟨h1, h2, by rw [Bool.or_false]; exact h3, h4⟩
      · have e : reachF fs k way = (fs.set k { way with reached := true, lo := List.zipWith joinN known.lo way.lo }, true, true) := by
          unfold reachF; rw [hkn]; simp only
          rw [if_neg (by simp [hr]), if_neg (by simp [hd, hst]), if_neg h5]
        rw [e]
        exact ⟨h1, h2, by rw [Bool.or_true]; exact h3, h4⟩
    · have e : reachF fs k way = (fs, false, false) := by simp [reachF, hkn, hr, hst]
      rw [e]
      refine (reach_stack bw bf cap k fs way known ch lv w hall hok hkn hway hwalk hr hd hst).mono ?_
      rintro x w' ⟨h1, hb⟩
      exact ⟨h1, stay w' hb⟩
  · have e : reachF fs k way = (fs, false, false) := by simp [reachF, hkn, hr, hd]
    rw [e]
    refine (reach_old bw bf cap k fs way known ch lv w hall hok hkn hway hwalk hr hd).mono ?_
    rintro x w' ⟨h1, hb⟩
    exact ⟨h1, stay w' hb⟩
end Go.Proofs.YtdmdpindonghdabDoor
namespace Go.Proofs.YtdmdpindonghdabDoor
open Go.RowKit
/-- What is known ahead of instruction k, handed on. -/
def passF (fs : List Fr) (k : Nat) (ci : CI) : List Fr × Bool × Bool :=
  match fs[k]? with
  | none => (fs, false, false)
  | some ahead =>
    if ahead.reached = false then (fs, false, true)
    else if (afterF ahead ci.ins.op ci.ins.n).wrong = true then (fs, false, false)
    else if ci.ins.op = 0 then (fs, false, true)
    else if ci.ins.op = 19 then reachF fs ci.tg (afterF ahead ci.ins.op ci.ins.n)
    else if ci.ins.op = 20 then (if (reachF fs ci.tg (afterF ahead ci.ins.op ci.ins.n)).2.2 = false then reachF fs ci.tg (afterF ahead ci.ins.op ci.ins.n)
      else ((reachF (reachF fs ci.tg (afterF ahead ci.ins.op ci.ins.n)).1 (k + 1) (afterF ahead ci.ins.op ci.ins.n)).1,
        (reachF fs ci.tg (afterF ahead ci.ins.op ci.ins.n)).2.1 || (reachF (reachF fs ci.tg (afterF ahead ci.ins.op ci.ins.n)).1 (k + 1) (afterF ahead ci.ins.op ci.ins.n)).2.1,
        (reachF (reachF fs ci.tg (afterF ahead ci.ins.op ci.ins.n)).1 (k + 1) (afterF ahead ci.ins.op ci.ins.n)).2.2))
    else reachF fs (k + 1) (afterF ahead ci.ins.op ci.ins.n)
def PassPost (bw bf cap : Nat) (fs : List Fr) (k : Nat) (ci : CI) (ch : Bool) (lv : Value) (w : World) (e : Ending) (w' : World) : Prop :=
  e = .returned (.bool (passF fs k ci).2.2) ∧ AllAt w' bf (passF fs k ci).1 ∧ WalkAt w' bw lv bf fs.length cap (ch || (passF fs k ci).2.1) ∧ Two bw bf w w'
theorem passPost_mk {bw bf cap k : Nat} {fs fs' : List Fr} {ci : CI} {ch c b : Bool} {lv : Value} {w w' : World} (h : passF fs k ci = (fs', c, b)) (h1 : AllAt w' bf fs') (h2 : WalkAt w' bw lv bf fs.length cap (ch || c)) (h3 : Two bw bf w w') :
    PassPost bw bf cap fs k ci ch lv w (.returned (.bool b)) w' := by
  unfold PassPost; rw [h]; exact ⟨rfl, h1, h2, h3⟩
set_option maxRecDepth 100000 in
set_option maxHeartbeats 1000000 in
theorem pass_new (bw bf gl cap capl k : Nat) (fs : List Fr) (cl : List CI) (ci : CI) (ahead : Fr) (ch : Bool) (w : World) (hall : AllAt w bf fs) (hok : AllOk fs) (hk : fs[k]? = some ahead) (hlen : cl.length = fs.length)
    (hwalk : WalkAt w bw (.slice (some ⟨gl, 0, none⟩) cl.length capl) bf fs.length cap ch) (hr : ahead.reached = false) :
    Calls Tryd.prog 96 #[.pointer (some ⟨bw, 0, none⟩), .int .i64 k] w (PassPost bw bf cap fs k ci ch (.slice (some ⟨gl, 0, none⟩) cl.length capl) w) := by
  have hkl : k < fs.length := (List.getElem?_eq_some_iff.1 hk).1
  have HF : Hid (passF fs k ci = (fs, false, true)) := hid (by simp [passF, hk, hr])
  have hkn : FrOk ahead := hok ahead (List.mem_of_getElem? hk)
  have HAL := hid hall
  have HWK := hid hwalk
  have w0 := cell_of_row w bw 0 _ _ _ hwalk
  have w1 := cell_of_row w bw 1 _ _ _ hwalk
  simp only [List.getElem?_toArray, List.getElem?_cons_zero, List.getElem?_cons_succ] at w0 w1
  have hbw : bw < w.heap.size := (Array.getElem?_eq_some_iff.1 hwalk).1
  have hbf : bf < w.heap.size := (Array.getElem?_eq_some_iff.1 hall).1
  have c0 := hall.cell hok hk (j := 0) (by omega)
  have c1 := hall.cell hok hk (j := 1) (by omega)
  have c2 := hall.cell hok hk (j := 2) (by omega)
  have c3 := hall.cell hok hk (j := 3) (by omega)
  have c4 := hall.cell hok hk (j := 4) (by omega)
  have c5 := hall.cell hok hk (j := 5) (by omega)
  have c6 := hall.cell hok hk (j := 6) (by omega)
  have c7 := hall.cell hok hk (j := 7) (by omega)
  have c8 := hall.cell hok hk (j := 8) (by omega)
  have c9 := hall.cell hok hk (j := 9) (by omega)
  have c10 := hall.cell hok hk (j := 10) (by omega)
  have c11 := hall.cell hok hk (j := 11) (by omega)
  have c12 := hall.cell hok hk (j := 12) (by omega)
  have c13 := hall.cell hok hk (j := 13) (by omega)
  have c14 := hall.cell hok hk (j := 14) (by omega)
  obtain ⟨kr, klo, kd, kst, kw⟩ := ahead
  obtain ⟨h1, h2, h3⟩ := hkn
  simp only at h1 h2 hr
  subst hr
  obtain ⟨a, b, c, e, rfl⟩ := four h1
  obtain ⟨s0, s1, s2, s3, s4, s5, s6, s7, rfl⟩ := eight h2
  simp only [frL, List.map_cons, List.map_nil, List.cons_append, List.nil_append, numV, List.getElem?_cons_zero, List.getElem?_cons_succ] at c0 c1 c2 c3 c4 c5 c6 c7 c8 c9 c10 c11 c12 c13 c14
  rw [Nat.add_zero] at c0
  have i0 : (0 : Int) ≤ (k : Int) := by omega
  have i1 : (k : Int) < (fs.length : Int) := by omega
  have i2 : (k : Int) < (cl.length : Int) := by omega
  have d1 : decide ((k : Int) < 0) = false := by simp
  clear hall hwalk hk hlen
  go_enter Tryd.func96, Tryd.ntmps96
  go_wp2_with fail
  go_ret
  have hb := (Below.refl w.heap.size w).alloc (Nat.le_refl _) (.cells #[.bool false, .int .i64 a, .int .i64 b, .int .i64 c, .int .i64 e, .int .i64 kd, .int .i64 s0, .int .i64 s1, .int .i64 s2, .int .i64 s3, .int .i64 s4, .int .i64 s5, .int .i64 s6, .int .i64 s7, .bool kw] 89)
  exact passPost_mk HF.out ((hb.block bf hbf).trans HAL.out) (by rw [Bool.or_false]; exact (hb.block bw hbw).trans HWK.out) (.of_below hb)
set_option maxRecDepth 100000 in
set_option maxHeartbeats 1000000 in
theorem pass_go (bw bf gl cap capl k : Nat) (fs : List Fr) (cl : List CI) (ci : CI) (ahead : Fr) (ch : Bool) (w : World) (hall : AllAt w bf fs) (hok : AllOk fs) (hk : fs[k]? = some ahead) (hlen : cl.length = fs.length)
    (hwalk : WalkAt w bw (.slice (some ⟨gl, 0, none⟩) cl.length capl) bf fs.length cap ch) (hr : ahead.reached = true) (hat : CiAt w gl cl) (hgl : gl < w.heap.size) (hci : cl[k]? = some ci) (htab : FlowTab w) (hop : ci.ins.op < 25) (hn : ci.ins.op = 7 ∨ ci.ins.op = 8 → ci.ins.n < 4) (hne : bw ≠ bf) (hle : fs.length ≤ 200) (htg : ci.ins.op = 19 ∨ ci.ins.op = 20 → ci.tg < fs.length) (hnx : ci.ins.op ≠ 0 → ci.ins.op ≠ 19 → k + 1 < fs.length) :
    Calls Tryd.prog 96 #[.pointer (some ⟨bw, 0, none⟩), .int .i64 k] w (PassPost bw bf cap fs k ci ch (.slice (some ⟨gl, 0, none⟩) cl.length capl) w) := by
  have hkl : k < fs.length := (List.getElem?_eq_some_iff.1 hk).1
  have HP : Hid (passF fs k ci = if (afterF ahead ci.ins.op ci.ins.n).wrong = true then (fs, false, false)
    else if ci.ins.op = 0 then (fs, false, true)
    else if ci.ins.op = 19 then reachF fs ci.tg (afterF ahead ci.ins.op ci.ins.n)
    else if ci.ins.op = 20 then (if (reachF fs ci.tg (afterF ahead ci.ins.op ci.ins.n)).2.2 = false then reachF fs ci.tg (afterF ahead ci.ins.op ci.ins.n)
      else ((reachF (reachF fs ci.tg (afterF ahead ci.ins.op ci.ins.n)).1 (k + 1) (afterF ahead ci.ins.op ci.ins.n)).1,
        (reachF fs ci.tg (afterF ahead ci.ins.op ci.ins.n)).2.1 || (reachF (reachF fs ci.tg (afterF ahead ci.ins.op ci.ins.n)).1 (k + 1) (afterF ahead ci.ins.op ci.ins.n)).2.1,
        (reachF (reachF fs ci.tg (afterF ahead ci.ins.op ci.ins.n)).1 (k + 1) (afterF ahead ci.ins.op ci.ins.n)).2.2))
    else reachF fs (k + 1) (afterF ahead ci.ins.op ci.ins.n)) := hid (by simp [passF, hk, hr])
  have HCI := hid (hat k ci hci)
  have hkn : FrOk ahead := hok ahead (List.mem_of_getElem? hk)
  have HAL := hid hall
  have HWK := hid hwalk
  have w0 := cell_of_row w bw 0 _ _ _ hwalk
  have w1 := cell_of_row w bw 1 _ _ _ hwalk
  simp only [List.getElem?_toArray, List.getElem?_cons_zero, List.getElem?_cons_succ] at w0 w1
  have hbw : bw < w.heap.size := (Array.getElem?_eq_some_iff.1 hwalk).1
  have hbf : bf < w.heap.size := (Array.getElem?_eq_some_iff.1 hall).1
  have c0 := hall.cell hok hk (j := 0) (by omega)
  have c1 := hall.cell hok hk (j := 1) (by omega)
  have c2 := hall.cell hok hk (j := 2) (by omega)
  have c3 := hall.cell hok hk (j := 3) (by omega)
  have c4 := hall.cell hok hk (j := 4) (by omega)
  have c5 := hall.cell hok hk (j := 5) (by omega)
  have c6 := hall.cell hok hk (j := 6) (by omega)
  have c7 := hall.cell hok hk (j := 7) (by omega)
  have c8 := hall.cell hok hk (j := 8) (by omega)
  have c9 := hall.cell hok hk (j := 9) (by omega)
  have c10 := hall.cell hok hk (j := 10) (by omega)
  have c11 := hall.cell hok hk (j := 11) (by omega)
  have c12 := hall.cell hok hk (j := 12) (by omega)
  have c13 := hall.cell hok hk (j := 13) (by omega)
  have c14 := hall.cell hok hk (j := 14) (by omega)
  obtain ⟨kr, klo, kd, kst, kw⟩ := ahead
  obtain ⟨h1, h2, h3⟩ := hkn
  simp only at h1 h2 hr
  subst hr
  obtain ⟨a, b, c, e, rfl⟩ := four h1
  obtain ⟨s0, s1, s2, s3, s4, s5, s6, s7, rfl⟩ := eight h2
  simp only [frL, List.map_cons, List.map_nil, List.cons_append, List.nil_append, numV, List.getElem?_cons_zero, List.getElem?_cons_succ] at c0 c1 c2 c3 c4 c5 c6 c7 c8 c9 c10 c11 c12 c13 c14
  rw [Nat.add_zero] at c0
  have i0 : (0 : Int) ≤ (k : Int) := by omega
  have i1 : (k : Int) < (fs.length : Int) := by omega
  have i2 : (k : Int) < (cl.length : Int) := by omega
  have d1 : decide ((k : Int) < 0) = false := by simp
  have haft := hid (fun W hW => aft_any ⟨true, [a, b, c, e], kd, [s0, s1, s2, s3, s4, s5, s6, s7], kw⟩ ci.ins.op ci.ins.n ci.ins.place ci.tg W ⟨rfl, rfl, h3⟩ hop hn hW)
  have hgok : FrOk (afterF ⟨true, [a, b, c, e], kd, [s0, s1, s2, s3, s4, s5, s6, s7], kw⟩ ci.ins.op ci.ins.n) := afterF_ok ⟨rfl, rfl, h3⟩ _ _
  have HG : Hid (afterF ⟨true, [a, b, c, e], kd, [s0, s1, s2, s3, s4, s5, s6, s7], kw⟩ ci.ins.op ci.ins.n = afterF ⟨true, [a, b, c, e], kd, [s0, s1, s2, s3, s4, s5, s6, s7], kw⟩ ci.ins.op ci.ins.n) := hid rfl
  unfold AftPost at haft
  generalize hGG : afterF ⟨true, [a, b, c, e], kd, [s0, s1, s2, s3, s4, s5, s6, s7], kw⟩ ci.ins.op ci.ins.n = G at haft hgok
  have HGG := hid hGG
  clear hGG HG
  obtain ⟨r', lo', d', st', wg'⟩ := G
  have HGOK := hid hgok
  obtain ⟨j1, j2, j3⟩ := hgok
  simp only at j1 j2
  obtain ⟨a', b', c', e', rfl⟩ := four j1
  obtain ⟨t0, t1, t2, t3, t4, t5, t6, t7, rfl⟩ := eight j2
  simp only [frL, List.map_cons, List.map_nil, List.cons_append, List.nil_append, numV] at haft
  obtain ⟨x0, x1, x2, x3⟩ := HCI.out
  have hgl2 : gl ≤ w.heap.size := by omega
  have HTAB := hid htab
  rw [HGG.out] at HP
  have HOP := hid hop
  clear hall hwalk hk hlen htab hat hci
  go_enter Tryd.func96, Tryd.ntmps96
  go_upto_region 7 with fail
  go_cut [7, 8] (fun x7 x8 wc => ∃ B : Nat, x7 = .pointer (some ⟨B, 0, none⟩) ∧ x8 = .bool (!wg') ∧ w.heap.size + 1 + 1 ≤ B ∧ wc.heap[B]? = some (.cells #[.bool r', .int .i64 a', .int .i64 b', .int .i64 c', .int .i64 e', .int .i64 d', .int .i64 t0, .int .i64 t1, .int .i64 t2, .int .i64 t3, .int .i64 t4, .int .i64 t5, .int .i64 t6, .int .i64 t7, .bool wg'] 89) ∧
    wc.heap[w.heap.size + 1]? = some (.cells #[.int .i64 ci.ins.place, .int .i64 ci.ins.op, .int .i64 ci.ins.n, .int .i64 ci.tg] 87) ∧ Below w.heap.size w wc)
  case first =>
    go_wp2_with fail
    refine (haft.out _ (HTAB.out.below (((Below.refl _ _).alloc (Nat.le_refl _) _).alloc (by simp) _))).mono ?_
    intro x w5 hh
    obtain ⟨hb5, hx5⟩ := hh
    subst x
    go_wp2_with fail
    go_meet
    have hz5 := hb5.size
    rw [alloc_size, alloc_size] at hz5
    refine ⟨_, rfl, rfl, hz5, heap_alloc_new _ _, ?_, ?_⟩
    · rw [Below.heap_alloc _ _ _ (by omega), hb5.block _ (by rw [alloc_size, alloc_size]; omega)]
      exact heap_two_new w _ _
    · exact ((((Below.refl _ _).alloc (Nat.le_refl _) _).alloc (by simp) _).trans (hb5.mono (by simp; omega))).alloc (by omega) _
  case rest =>
    obtain ⟨B, rfl, rfl, hB, hrow, hin, hbel⟩ := hcut
    have hA : AllAt wc bf fs := (hbel.block bf hbf).trans HAL.out
    have hW : WalkAt wc bw (.slice (some ⟨gl, 0, none⟩) cl.length capl) bf fs.length cap ch := (hbel.block bw hbw).trans HWK.out
    have m0 := cell_of_row wc B 0 _ _ _ hrow
    have m1 := cell_of_row wc B 1 _ _ _ hrow
    have m2 := cell_of_row wc B 2 _ _ _ hrow
    have m3 := cell_of_row wc B 3 _ _ _ hrow
    have m4 := cell_of_row wc B 4 _ _ _ hrow
    have m5 := cell_of_row wc B 5 _ _ _ hrow
    have m6 := cell_of_row wc B 6 _ _ _ hrow
    have m7 := cell_of_row wc B 7 _ _ _ hrow
    have m8 := cell_of_row wc B 8 _ _ _ hrow
    have m9 := cell_of_row wc B 9 _ _ _ hrow
    have m10 := cell_of_row wc B 10 _ _ _ hrow
    have m11 := cell_of_row wc B 11 _ _ _ hrow
    have m12 := cell_of_row wc B 12 _ _ _ hrow
    have m13 := cell_of_row wc B 13 _ _ _ hrow
    have m14 := cell_of_row wc B 14 _ _ _ hrow
    have n0 := cell_of_row wc (w.heap.size + 1) 0 _ _ _ hin
    have n1 := cell_of_row wc (w.heap.size + 1) 1 _ _ _ hin
    have n2 := cell_of_row wc (w.heap.size + 1) 2 _ _ _ hin
    have n3 := cell_of_row wc (w.heap.size + 1) 3 _ _ _ hin
    simp only [List.getElem?_toArray, List.getElem?_cons_zero, List.getElem?_cons_succ] at m0 m1 m2 m3 m4 m5 m6 m7 m8 m9 m10 m11 m12 m13 m14 n0 n1 n2 n3
    have HA := hid hA
    have HW := hid hW
    clear hA hW haft c0 c1 c2 c3 c4 c5 c6 c7 c8 c9 c10 c11 c12 c13 c14 w0 w1 x0 x1 x2 x3
    cases wg'
    case true =>
      have HF : Hid (passF fs k ci = (fs, false, false)) := hid (by rw [HP.out, if_pos rfl])
      go_wp2_with fail
      go_ret
      exact passPost_mk HF.out HA.out (by rw [Bool.or_false]; exact HW.out) (.of_below hbel)
    case false =>
      by_cases o0 : ci.ins.op = 0
      · have q0 : ((ci.ins.op : Int) == 0) = true := by simp; omega
        have HF : Hid (passF fs k ci = (fs, false, true)) := hid (by rw [HP.out, if_neg (by simp), if_pos o0])
        clear o0
        go_wp2_with fail
        go_ret
        exact passPost_mk HF.out HA.out (by rw [Bool.or_false]; exact HW.out) (.of_below hbel)
      have q0 : ((ci.ins.op : Int) == 0) = false := by simp; omega
      by_cases o19 : ci.ins.op = 19
      · have q1 : ((ci.ins.op : Int) == 19) = true := by simp; omega
        have HF : Hid (passF fs k ci = reachF fs ci.tg ⟨r', [a', b', c', e'], d', [t0, t1, t2, t3, t4, t5, t6, t7], false⟩) := hid (by rw [HP.out, if_neg (by simp), if_neg o0, if_pos o19])
        have hrc := hid (reach_any bw bf cap ci.tg fs ⟨r', [a', b', c', e'], d', [t0, t1, t2, t3, t4, t5, t6, t7], false⟩ ch _ wc HA.out hok (htg (.inl o19)) HGOK.out HW.out hne)
        simp only [frL, List.map_cons, List.map_nil, List.cons_append, List.nil_append, numV] at hrc
        clear o0 o19
        go_wp2_with fail
        refine hrc.out.mono ?_
        clear hrc
        intro x w6 hh
        obtain ⟨hx6, hA6, hW6, hT6⟩ := hh
        subst x
        go_wp2_with fail
        go_ret
        exact passPost_mk HF.out hA6 hW6 ((Two.of_below hbel).trans hT6)
      have q1 : ((ci.ins.op : Int) == 19) = false := by simp; omega
      have hnx2 := hnx o0 o19
      by_cases o20 : ci.ins.op = 20
      · have q2 : ((ci.ins.op : Int) == 20) = true := by simp; omega
        have HF : Hid (passF fs k ci = if (reachF fs ci.tg ⟨r', [a', b', c', e'], d', [t0, t1, t2, t3, t4, t5, t6, t7], false⟩).2.2 = false then reachF fs ci.tg ⟨r', [a', b', c', e'], d', [t0, t1, t2, t3, t4, t5, t6, t7], false⟩ else ((reachF (reachF fs ci.tg ⟨r', [a', b', c', e'], d', [t0, t1, t2, t3, t4, t5, t6, t7], false⟩).1 (k + 1) ⟨r', [a', b', c', e'], d', [t0, t1, t2, t3, t4, t5, t6, t7], false⟩).1, (reachF fs ci.tg ⟨r', [a', b', c', e'], d', [t0, t1, t2, t3, t4, t5, t6, t7], false⟩).2.1 || (reachF (reachF fs ci.tg ⟨r', [a', b', c', e'], d', [t0, t1, t2, t3, t4, t5, t6, t7], false⟩).1 (k + 1) ⟨r', [a', b', c', e'], d', [t0, t1, t2, t3, t4, t5, t6, t7], false⟩).2.1, (reachF (reachF fs ci.tg ⟨r', [a', b', c', e'], d', [t0, t1, t2, t3, t4, t5, t6, t7], false⟩).1 (k + 1) ⟨r', [a', b', c', e'], d', [t0, t1, t2, t3, t4, t5, t6, t7], false⟩).2.2)) := hid (by rw [HP.out, if_neg (by simp), if_neg o0, if_neg o19, if_pos o20])
        have hrc := hid (reach_any bw bf cap ci.tg fs ⟨r', [a', b', c', e'], d', [t0, t1, t2, t3, t4, t5, t6, t7], false⟩ ch _ wc HA.out hok (htg (.inr o20)) HGOK.out HW.out hne)
        have hok2 := reachF_ok (k := ci.tg) (way := ⟨r', [a', b', c', e'], d', [t0, t1, t2, t3, t4, t5, t6, t7], false⟩) hok HGOK.out
        have hln2 := reachF_len fs ci.tg ⟨r', [a', b', c', e'], d', [t0, t1, t2, t3, t4, t5, t6, t7], false⟩
        simp only [frL, List.map_cons, List.map_nil, List.cons_append, List.nil_append, numV] at hrc
        generalize reachF fs ci.tg ⟨r', [a', b', c', e'], d', [t0, t1, t2, t3, t4, t5, t6, t7], false⟩ = R1 at *
        obtain ⟨fs1, ch1, ok1⟩ := R1
        simp only at hok2 hln2 hrc HF
        clear o0 o19 o20
        go_wp2_with fail
        refine hrc.out.mono ?_
        clear hrc
        intro x w6 hh
        obtain ⟨hx6, hA6, hW6, hT6⟩ := hh
        subst x
        cases ok1
        · have HF2 : Hid (passF fs k ci = (fs1, ch1, false)) := hid (by rw [HF.out, if_pos rfl])
          go_wp2_with fail
          go_ret
          exact passPost_mk HF2.out hA6 hW6 ((Two.of_below hbel).trans hT6)
        · have HF2 : Hid (passF fs k ci = ((reachF fs1 (k + 1) ⟨r', [a', b', c', e'], d', [t0, t1, t2, t3, t4, t5, t6, t7], false⟩).1, ch1 || (reachF fs1 (k + 1) ⟨r', [a', b', c', e'], d', [t0, t1, t2, t3, t4, t5, t6, t7], false⟩).2.1, (reachF fs1 (k + 1) ⟨r', [a', b', c', e'], d', [t0, t1, t2, t3, t4, t5, t6, t7], false⟩).2.2)) := hid (by rw [HF.out, if_neg (by simp)])
          have hBz : B < wc.heap.size := (Array.getElem?_eq_some_iff.1 hrow).1
          have hrow6 := (hT6.block B hBz (by omega) (by omega)).trans hrow
          clear m0 m1 m2 m3 m4 m5 m6 m7 m8 m9 m10 m11 m12 m13 m14
          have m0 := cell_of_row w6 B 0 _ _ _ hrow6
          have m1 := cell_of_row w6 B 1 _ _ _ hrow6
          have m2 := cell_of_row w6 B 2 _ _ _ hrow6
          have m3 := cell_of_row w6 B 3 _ _ _ hrow6
          have m4 := cell_of_row w6 B 4 _ _ _ hrow6
          have m5 := cell_of_row w6 B 5 _ _ _ hrow6
          have m6 := cell_of_row w6 B 6 _ _ _ hrow6
          have m7 := cell_of_row w6 B 7 _ _ _ hrow6
          have m8 := cell_of_row w6 B 8 _ _ _ hrow6
          have m9 := cell_of_row w6 B 9 _ _ _ hrow6
          have m10 := cell_of_row w6 B 10 _ _ _ hrow6
          have m11 := cell_of_row w6 B 11 _ _ _ hrow6
          have m12 := cell_of_row w6 B 12 _ _ _ hrow6
          have m13 := cell_of_row w6 B 13 _ _ _ hrow6
          have m14 := cell_of_row w6 B 14 _ _ _ hrow6
          simp only [List.getElem?_toArray, List.getElem?_cons_zero, List.getElem?_cons_succ] at m0 m1 m2 m3 m4 m5 m6 m7 m8 m9 m10 m11 m12 m13 m14
          rw [← hln2] at hW6
          have hrc2 := hid (reach_any bw bf cap (k + 1) fs1 ⟨r', [a', b', c', e'], d', [t0, t1, t2, t3, t4, t5, t6, t7], false⟩ (ch || ch1) _ w6 hA6 hok2 (by omega) HGOK.out hW6 hne)
          simp only [frL, List.map_cons, List.map_nil, List.cons_append, List.nil_append, numV] at hrc2
          rw [show (((k + 1 : Nat)) : Int) = (k : Int) + 1 by omega] at hrc2
          have hk200 : (k : Int) + 1 ≤ 200 := by omega
          have HLN := hid hln2
          clear hA6 hW6 hln2
          go_wp2_with fail
          refine hrc2.out.mono ?_
          clear hrc2
          intro x w7 hh
          obtain ⟨hx7, hA7, hW7, hT7⟩ := hh
          subst x
          go_wp2_with fail
          go_ret
          exact passPost_mk HF2.out hA7 (by rw [← HLN.out, ← Bool.or_assoc]; exact hW7) (((Two.of_below hbel).trans hT6).trans hT7)
      have q2 : ((ci.ins.op : Int) == 20) = false := by simp; omega
      have HF : Hid (passF fs k ci = reachF fs (k + 1) ⟨r', [a', b', c', e'], d', [t0, t1, t2, t3, t4, t5, t6, t7], false⟩) := hid (by rw [HP.out, if_neg (by simp), if_neg o0, if_neg o19, if_neg o20])
      have hrc := hid (reach_any bw bf cap (k + 1) fs ⟨r', [a', b', c', e'], d', [t0, t1, t2, t3, t4, t5, t6, t7], false⟩ ch _ wc HA.out hok hnx2 HGOK.out HW.out hne)
      simp only [frL, List.map_cons, List.map_nil, List.cons_append, List.nil_append, numV] at hrc
      clear o0 o19 o20
      rw [show (((k + 1 : Nat)) : Int) = (k : Int) + 1 by omega] at hrc
      have hk200 : (k : Int) + 1 ≤ 200 := by omega
      go_wp2_with fail
      refine hrc.out.mono ?_
      clear hrc
      intro x w6 hh
      obtain ⟨hx6, hA6, hW6, hT6⟩ := hh
      subst x
      go_wp2_with fail
      go_ret
      exact passPost_mk HF.out hA6 hW6 ((Two.of_below hbel).trans hT6)
end Go.Proofs.YtdmdpindonghdabDoor
namespace Go.Proofs.YtdmdpindonghdabDoor
open Go.RowKit
/-- The type of local j. -/
def lk (b : ByteArray) (j : Nat) : Nat := kindN (byteAt b j)
structure Wit (R : ByteArray → ByteArray → Prop) (f : Fr) : Prop where
  wrong : f.wrong = false
  one : ∃ lo st, R lo st ∧ Stk f (tl st)
  lo : ∀ j, j < 4 → (∃ lo st, R lo st ∧ f.lo.getD j 0 = lk lo j) ∨ (f.lo.getD j 0 = 2 ∧ ∃ lo st lo' st', R lo st ∧ R lo' st' ∧ lk lo j ≠ lk lo' j)
theorem Wit.mono {R R' : ByteArray → ByteArray → Prop} {f : Fr} (h : Wit R f) (hr : ∀ lo st, R lo st → R' lo st) : Wit R' f := by
  refine ⟨h.wrong, ?_, fun j hj => ?_⟩
  · obtain ⟨lo, st, a, b⟩ := h.one
    exact ⟨lo, st, hr _ _ a, b⟩
  · rcases h.lo j hj with ⟨lo, st, a, b⟩ | ⟨a, lo, st, lo', st', b, c, d⟩
    · exact .inl ⟨lo, st, hr _ _ a, b⟩
    · exact .inr ⟨a, lo, st, lo', st', hr _ _ b, hr _ _ c, d⟩
def At (l : List Ins) (L k : Nat) (lo st : ByteArray) : Prop := Reach l L ⟨k, lo, st⟩
def Sound (l : List Ins) (L : Nat) (fs : List Fr) : Prop := ∀ k f, fs[k]? = some f → f.reached = true → Wit (At l L k) f
theorem reach_ok {l : List Ins} {L : Nat} (hw : Wf l L) {p : Pt} (h : Reach l L p) : Okp l L p := by
  obtain ⟨n, hn⟩ := h
  induction n generalizing p with
  | zero => rw [show p = initP L from hn]; exact init_ok hw
  | succ n ih =>
    obtain ⟨q, ss, h1, h2, h3⟩ := hn
    exact step_ok hw (ih h1) h2 h3
theorem kindN_inj {l : List Ins} {L n : Nat} {p q : Pt} (hp : Okp l L p) (hq : Okp l L q) (hn : n < L) (h : lk p.lo n = lk q.lo n) : byteAt p.lo n = byteAt q.lo n := by
  obtain ⟨c, c1, c2, _⟩ := tl_get (b := p.lo) (n := n) (by rw [hp.lo]; exact hn)
  obtain ⟨d, d1, d2, _⟩ := tl_get (b := q.lo) (n := n) (by rw [hq.lo]; exact hn)
  unfold lk at h
  rw [c2, d2] at h ⊢
  rw [code8_inj (hp.llo c (List.mem_of_getElem? c1)) (hq.llo d (List.mem_of_getElem? d1)) h]
theorem calm_st {i : Ins} {p q : Pt} (h : clashB i p q = false) (he : p.at_ = q.at_) : p.st = q.st ∧ (i.op = 7 → byteAt p.lo i.n = byteAt q.lo i.n) := by
  simp only [clashB, he, beq_self_eq_true, Bool.true_and, Bool.or_eq_false_iff, Bool.not_eq_false', decide_eq_true_eq, Bool.and_eq_false_iff, beq_eq_false_iff_ne, beq_iff_eq] at h
  refine ⟨h.1.symm, fun h7 => ?_⟩
  rcases h.2 with h2 | h2
  · exact absurd h7 h2
  · exact h2.symm
theorem store_tl {lo st : ByteArray} {n : Nat} (hn : n < lo.size) (hp : 1 ≤ st.size) : ∃ c, byteAt st (st.size - 1) = c.toNat ∧ tl (lo.extract 0 n ++ st.extract (st.size - 1) st.size ++ lo.extract (n + 1) lo.size) = (tl lo).set n c := by
  rcases nil_or_snoc (tl st) with e | ⟨s0, d, e⟩
  · have : st.size = 0 := by rw [← tl_len, e]; rfl
    omega
  · obtain ⟨z, z1, z2, z3⟩ := tl_last e
    refine ⟨d, z3, ?_⟩
    rw [tl_append, tl_append, z1, tl_extract, tl_extract]
    have hl : n < (tl lo).length := hn
    rw [List.set_eq_take_append_cons_drop, if_pos hl, show lo.size = (tl lo).length from rfl]
    rw [List.take_of_length_le (l := (tl lo).drop (n + 1)) (by simp)]
    simp
theorem aft_lk {f : Fr} {lo st : ByteArray} {op n : Nat} (h : Ago f lo st op n) (hn : op = 8 → n < lo.size) (j : Nat) : lk (afterV lo st op n).1 j = if op = 8 ∧ j = n then kindN (byteAt st (st.size - 1)) else lk lo j := by
  rw [h.lv]
  by_cases e8 : op = 8
  · rw [if_pos e8]
    obtain ⟨c, c1, c2⟩ := store_tl (hn e8) (h.pos e8)
    have hb : ∀ b : ByteArray, byteAt b j = ((tl b).getD j 0).toNat := fun _ => rfl
    unfold lk
    rw [hb, c2, List.getD_eq_getElem?_getD, List.getElem?_set]
    by_cases hj : j = n
    · subst hj
      rw [if_pos rfl, if_pos (show j < (tl lo).length from hn e8), if_pos ⟨e8, rfl⟩, c1]; rfl
    · rw [if_neg (fun e => hj e.symm), if_neg (fun e => hj e.2), ← List.getD_eq_getElem?_getD]; rfl
  · rw [if_neg e8, if_neg (fun e => e8 e.1)]
theorem loAft_get {lo : List Nat} {st : ByteArray} {op n : Nat} (hl : op = 8 → n < lo.length) (j : Nat) : (loAft lo st op n).getD j 0 = if op = 8 ∧ j = n then kindN (byteAt st (st.size - 1)) else lo.getD j 0 := by
  unfold loAft
  by_cases e8 : op = 8
  · rw [if_pos e8, List.getD_eq_getElem?_getD, List.getElem?_set]
    by_cases hj : j = n
    · subst hj
      rw [if_pos rfl, if_pos (hl e8), if_pos ⟨e8, rfl⟩]; rfl
    · rw [if_neg (fun e => hj e.symm), if_neg (fun e => hj e.2), ← List.getD_eq_getElem?_getD]
  · rw [if_neg e8, if_neg (fun e => e8 e.1)]
/-- Where the code is well typed, a frame that is found on some way is good for every point there. -/
theorem ago_all {l : List Ins} {L k : Nat} (hw : Wf l L) (hwt : WT l L) {i : Ins} (hi : l[k]? = some i) {f : Fr} (hf : Wit (At l L k) f) {lo st : ByteArray} (hr : At l L k lo st) : Ago f lo st i.op i.n := by
  have hm : i ∈ l := List.mem_of_getElem? hi
  have hok := reach_ok hw hr
  have calm : ∀ lo' st', At l L k lo' st' → st' = st ∧ (i.op = 7 → byteAt lo' i.n = byteAt lo i.n) := fun lo' st' h' =>
    calm_st (p := ⟨k, lo', st'⟩) (q := ⟨k, lo, st⟩) (hwt.2 _ _ i h' hr rfl hi) rfl
  have hL := hw.loc
  have harg := hw.arg i hm
  have hlo : lo.size = L := hok.lo
  obtain ⟨lo0, st0, h0, hs0⟩ := hf.one
  rw [(calm _ _ h0).1] at hs0
  have h7 : i.op = 7 → f.lo.getD i.n 0 = kindN (byteAt lo i.n) := by
    intro e7
    have hn := harg (.inl e7)
    rcases hf.lo i.n (by omega) with ⟨lo1, st1, h1, e1⟩ | ⟨_, lo1, st1, lo2, st2, h1, h2, e1⟩
    · rw [e1]; unfold lk; rw [(calm _ _ h1).2 e7]
    · exfalso; apply e1
      unfold lk
      rw [(calm _ _ h1).2 e7, (calm _ _ h2).2 e7]
  rcases aft_both hs0 hf.wrong hok.lst (fun h => by rw [hlo]; exact harg h) (by omega) h7 with h | h
  · exact h
  · exfalso
    have := hwt.1 _ hr
    rw [stepP_eq (p := ⟨k, lo, st⟩) hi, if_pos h.1] at this
    exact this rfl
/-- What is found behind instruction i, at k. -/
def Behind (l : List Ins) (L k : Nat) (i : Ins) (lo st : ByteArray) : Prop := ∃ lo0 st0, At l L k lo0 st0 ∧ (afterV lo0 st0 i.op i.n).2.2 = true ∧ (afterV lo0 st0 i.op i.n).2.1.size ≤ 8 ∧ lo = (afterV lo0 st0 i.op i.n).1 ∧ st = (afterV lo0 st0 i.op i.n).2.1
theorem wit_step {l : List Ins} {L k : Nat} (hw : Wf l L) (hwt : WT l L) {i : Ins} (hi : l[k]? = some i) {f : Fr} (hok : FrOk f) (hf : Wit (At l L k) f) : Wit (Behind l L k i) (afterF f i.op i.n) := by
  have hm : i ∈ l := List.mem_of_getElem? hi
  have harg := hw.arg i hm
  have hL := hw.loc
  have hall : ∀ lo st, At l L k lo st → Ago f lo st i.op i.n ∧ Behind l L k i (afterV lo st i.op i.n).1 (afterV lo st i.op i.n).2.1 ∧ ∀ j, lk (afterV lo st i.op i.n).1 j = if i.op = 8 ∧ j = i.n then kindN (byteAt st (st.size - 1)) else lk lo j := fun lo st h =>
    have ha := ago_all hw hwt hi hf h
    ⟨ha, ⟨lo, st, h, ha.ok, ha.sm, rfl, rfl⟩, aft_lk ha (fun e => by rw [(reach_ok hw h).lo]; exact harg (.inr e))⟩
  obtain ⟨lo0, st0, h0, hs0⟩ := hf.one
  obtain ⟨g0, b0, k0⟩ := hall _ _ h0
  refine ⟨g0.wr, ⟨_, _, b0, g0.sk⟩, fun j hj => ?_⟩
  rw [g0.fl, loAft_get (fun e => by have := harg (.inr e); rw [hok.lo]; omega)]
  by_cases hc : i.op = 8 ∧ j = i.n
  · rw [if_pos hc]
    refine .inl ⟨_, _, b0, ?_⟩
    rw [k0, if_pos hc]
  · rw [if_neg hc]
    rcases hf.lo j hj with ⟨lo1, st1, h1, e1⟩ | ⟨e2, lo1, st1, lo2, st2, h1, h2, e1⟩
    · obtain ⟨_, b1, k1⟩ := hall _ _ h1
      exact .inl ⟨_, _, b1, by rw [k1, if_neg hc]; exact e1⟩
    · obtain ⟨_, b1, k1⟩ := hall _ _ h1
      obtain ⟨_, b2, k2⟩ := hall _ _ h2
      exact .inr ⟨e2, _, _, _, _, b1, b2, by rw [k1, k2, if_neg hc, if_neg hc]; exact e1⟩
theorem zip_get {a b : List Nat} (ha : a.length = 4) (hb : b.length = 4) {j : Nat} (hj : j < 4) : (List.zipWith joinN a b).getD j 0 = joinN (a.getD j 0) (b.getD j 0) := by
  have h1 : j < a.length := by omega
  have h2 : j < b.length := by omega
  simp [List.getD_eq_getElem?_getD, List.getElem?_zipWith, List.getElem?_eq_getElem h1, List.getElem?_eq_getElem h2]
theorem reach_sound {l : List Ins} {L k : Nat} (hwt : WT l L) {fs : List Fr} {way : Fr} (hok : AllOk fs) (hway : FrOk way) (hs : Sound l L fs) (hlen : fs.length = l.length) (hk : k < fs.length) (h : Wit (At l L k) way) :
    (reachF fs k way).2.2 = true ∧ Sound l L (reachF fs k way).1 := by
  have hset : ∀ g : Fr, Wit (At l L k) g → Sound l L (fs.set k g) := by
    intro g hg m f hm hr
    rw [List.getElem?_set] at hm
    by_cases e : k = m
    · subst e
      rw [if_pos rfl, if_pos hk] at hm
      cases hm; exact hg
    · rw [if_neg e] at hm
      exact hs m f hm hr
  have hkn : fs[k]? = some fs[k] := List.getElem?_eq_getElem hk
  unfold reachF
  rw [hkn]
  simp only
  by_cases hr : fs[k].reached = false
  · rw [if_pos hr]
    exact ⟨rfl, hset _ ⟨h.wrong, by obtain ⟨a, b, c, d⟩ := h.one; exact ⟨a, b, c, ⟨d.le, d.depth, d.stk⟩⟩, h.lo⟩⟩
  rw [if_neg hr]
  have hr' : fs[k].reached = true := by simpa using hr
  have hknw := hs k _ hkn hr'
  have hkok := hok _ (List.getElem_mem hk)
  obtain ⟨lo1, st1, a1, b1⟩ := hknw.one
  obtain ⟨lo2, st2, a2, b2⟩ := h.one
  have hk2 : k < l.length := by omega
  have est : st1 = st2 := (calm_st (p := ⟨k, lo1, st1⟩) (q := ⟨k, lo2, st2⟩) (hwt.2 _ _ _ a1 a2 rfl (List.getElem?_eq_getElem hk2)) rfl).1
  rw [est] at b1
  rw [if_neg (by
    rintro (e | e)
    · exact e (b1.depth.trans b2.depth.symm)
    · exact e (b1.stk.trans b2.stk.symm))]
  by_cases hj : fs[k].lo = List.zipWith joinN fs[k].lo way.lo
  · rw [if_pos hj]; exact ⟨rfl, hs⟩
  rw [if_neg hj]
  refine ⟨rfl, hset _ ⟨h.wrong, ⟨lo2, st2, a2, ⟨b2.le, b2.depth, b2.stk⟩⟩, fun j hj4 => ?_⟩⟩
  simp only
  rw [zip_get hkok.lo hway.lo hj4]
  by_cases e : fs[k].lo.getD j 0 = way.lo.getD j 0
  · rw [joinN_eq e]; exact hknw.lo j hj4
  rw [joinN_ne e]
  refine .inr ⟨rfl, ?_⟩
  rcases hknw.lo j hj4 with ⟨lo3, st3, h3, e3⟩ | ⟨_, t⟩
  · rcases h.lo j hj4 with ⟨lo4, st4, h4, e4⟩ | ⟨_, t⟩
    · exact ⟨lo3, st3, lo4, st4, h3, h4, by rw [← e3, ← e4]; exact e⟩
    · exact t
  · exact t
theorem aims_get {l : List Ins} {k : Nat} {i : Ins} (h : l[k]? = some i) : (aims l)[k]? = some ⟨i, aimOf l i⟩ := by
  unfold aims; rw [List.getElem?_map, h]; rfl
/-- A point behind instruction i, at k, is reached at each next instruction. -/
theorem behind_jump {l : List Ins} {L k : Nat} {i : Ins} (hi : l[k]? = some i) (hj : i.op = 19 ∨ i.op = 20) {lo st : ByteArray} (h : Behind l L k i lo st) : At l L (aimOf l i) lo st := by
  obtain ⟨lo0, st0, h0, e1, e2, rfl, rfl⟩ := h
  have hjj : isJump i.op = true := by unfold isJump; rcases hj with e | e <;> rw [e] <;> rfl
  refine Reach.step h0 (stepP_eq (p := ⟨k, lo0, st0⟩) hi ▸ if_neg (by rintro (e | e); · rw [e1] at e; cases e
                                                                      · simp only at e; omega)) ?_
  rw [if_pos hjj, List.mem_append]
  refine .inl ?_
  rw [List.mem_singleton, show aimOf l i = (findP i.n l 0).toNat by unfold aimOf; rw [if_pos hjj]]
theorem behind_next {l : List Ins} {L k : Nat} {i : Ins} (hi : l[k]? = some i) (hj : i.op ≠ 0 ∧ i.op ≠ 19) {lo st : ByteArray} (h : Behind l L k i lo st) : At l L (k + 1) lo st := by
  obtain ⟨lo0, st0, h0, e1, e2, rfl, rfl⟩ := h
  refine Reach.step h0 (stepP_eq (p := ⟨k, lo0, st0⟩) hi ▸ if_neg (by rintro (e | e); · rw [e1] at e; cases e
                                                                      · simp only at e; omega)) ?_
  rw [List.mem_append, if_pos hj]
  exact .inr (by rw [List.mem_singleton])
theorem aim_lt {l : List Ins} {L : Nat} (hw : Wf l L) {i : Ins} (hm : i ∈ l) (hj : i.op = 19 ∨ i.op = 20) : aimOf l i < l.length := by
  have hjj : isJump i.op = true := by unfold isJump; rcases hj with e | e <;> rw [e] <;> rfl
  have h0 := hw.jump i hm hjj
  have h1 := findP_lt _ l 0 h0
  unfold aimOf; rw [if_pos hjj]; omega
theorem next_lt {l : List Ins} {L k : Nat} (hw : Wf l L) {i : Ins} (hi : l[k]? = some i) (hj : i.op ≠ 0 ∧ i.op ≠ 19) : k + 1 < l.length := by
  have hk := (List.getElem?_eq_some_iff.1 hi).1
  rcases Nat.lt_or_ge (k + 1) l.length with h | h
  · exact h
  · exfalso
    have hlast := hw.last
    have h1 : lastOp l = i.op := by
      unfold lastOp
      rw [List.getLast?_eq_getElem?, show l.length - 1 = k by omega, hi]
      rfl
    simp [endsOk, h1] at hlast
    omega
theorem pass_sound {l : List Ins} {L k : Nat} (hw : Wf l L) (hwt : WT l L) {fs : List Fr} (hok : AllOk fs) (hs : Sound l L fs) (hlen : fs.length = l.length) {i : Ins} (hi : l[k]? = some i) :
    (passF fs k ⟨i, aimOf l i⟩).2.2 = true ∧ Sound l L (passF fs k ⟨i, aimOf l i⟩).1 := by
  have hk := (List.getElem?_eq_some_iff.1 hi).1
  have hm : i ∈ l := List.mem_of_getElem? hi
  have hkn : fs[k]? = some (fs[k]'(by omega)) := List.getElem?_eq_getElem (by omega)
  have hkok := hok _ (List.mem_of_getElem? hkn)
  generalize fs[k]'(by omega) = ahead at hkn hkok
  unfold passF
  rw [hkn]
  simp only
  by_cases hr : ahead.reached = false
  · rw [if_pos hr]; exact ⟨rfl, hs⟩
  rw [if_neg hr]
  have hst := wit_step hw hwt hi hkok (hs k _ hkn (by simpa using hr))
  have haok := afterF_ok hkok i.op i.n
  rw [if_neg (by rw [hst.wrong]; simp)]
  by_cases o0 : i.op = 0
  · rw [if_pos o0]; exact ⟨rfl, hs⟩
  rw [if_neg o0]
  by_cases o19 : i.op = 19
  · rw [if_pos o19]
    exact reach_sound hwt hok haok hs hlen (by rw [hlen]; exact aim_lt hw hm (.inl o19)) (hst.mono fun _ _ h => behind_jump hi (.inl o19) h)
  rw [if_neg o19]
  have hnx := next_lt hw hi ⟨o0, o19⟩
  by_cases o20 : i.op = 20
  · rw [if_pos o20]
    obtain ⟨a, b⟩ := reach_sound hwt hok haok hs hlen (by rw [hlen]; exact aim_lt hw hm (.inr o20)) (hst.mono fun _ _ h => behind_jump hi (.inr o20) h)
    rw [if_neg (by rw [a]; simp)]
    exact reach_sound hwt (reachF_ok hok haok) haok b (by rw [reachF_len]; exact hlen) (by rw [reachF_len]; omega) (hst.mono fun _ _ h => behind_next hi ⟨o0, o19⟩ h)
  rw [if_neg o20]
  exact reach_sound hwt hok haok hs hlen (by omega) (hst.mono fun _ _ h => behind_next hi ⟨o0, o19⟩ h)
end Go.Proofs.YtdmdpindonghdabDoor
namespace Go.Proofs.YtdmdpindonghdabDoor
open Go.RowKit
/-- The frame tells of the point. -/
structure Cov (f : Fr) (lo st : ByteArray) : Prop where
  reached : f.reached = true
  sk : Stk f (tl st)
  lo : ∀ j, j < 4 → f.lo.getD j 0 = lk lo j ∨ f.lo.getD j 0 = 2
def CovAt (fs : List Fr) (k : Nat) (lo st : ByteArray) : Prop := ∃ f, fs[k]? = some f ∧ Cov f lo st
theorem reach_keep {fs : List Fr} (hok : AllOk fs) {k m : Nat} {way : Fr} (hway : FrOk way) {lo st : ByteArray} (h : CovAt fs m lo st) : CovAt (reachF fs k way).1 m lo st := by
  obtain ⟨f, hf, hc⟩ := h
  unfold reachF
  cases hk : fs[k]? with
  | none => exact ⟨f, hf, hc⟩
  | some known =>
    simp only
    by_cases e : k = m
    · subst e
      rw [hf] at hk
      cases hk
      have hlt := (List.getElem?_eq_some_iff.1 hf).1
      have hfo := hok f (List.mem_of_getElem? hf)
      rw [if_neg (by rw [hc.reached]; simp)]
      by_cases h1 : f.depth ≠ way.depth ∨ f.stk ≠ way.stk
      · rw [if_pos h1]; exact ⟨f, hf, hc⟩
      rw [if_neg h1]
      simp only [not_or, ne_eq, Decidable.not_not] at h1
      by_cases h2 : f.lo = List.zipWith joinN f.lo way.lo
      · rw [if_pos h2]; exact ⟨f, hf, hc⟩
      rw [if_neg h2]
      refine ⟨_, List.getElem?_set_self hlt, ⟨rfl, ⟨hc.sk.le, h1.1 ▸ hc.sk.depth, h1.2 ▸ hc.sk.stk⟩, fun j hj => ?_⟩⟩
      simp only
      rw [zip_get hfo.lo hway.lo hj]
      unfold joinN
      by_cases h3 : f.lo.getD j 0 = way.lo.getD j 0
      · rw [if_pos h3]; exact hc.lo j hj
      · rw [if_neg h3]; exact .inr rfl
    · have hset : ∀ g : Fr, CovAt (fs.set k g) m lo st := fun g => ⟨f, by rw [List.getElem?_set_ne e]; exact hf, hc⟩
      split
      · exact hset _
      split
      · exact ⟨f, hf, hc⟩
      split
      · exact ⟨f, hf, hc⟩
      · exact hset _
def nz (a : Nat) : Nat := if a = 2 then 0 else 1
def worth (f : Fr) : Nat := if f.reached = false then 5 else (f.lo.map nz).sum
def pot (fs : List Fr) : Nat := (fs.map worth).sum
theorem nz_le (a : Nat) : nz a ≤ 1 := by unfold nz; split <;> omega
theorem nz_join (a b : Nat) : nz (joinN a b) ≤ nz a ∧ (joinN a b ≠ a → nz (joinN a b) < nz a) := by
  unfold joinN
  by_cases h : a = b
  · rw [if_pos h]; exact ⟨Nat.le_refl _, fun e => absurd rfl e⟩
  · rw [if_neg h]
    refine ⟨by simp [nz], fun e => ?_⟩
    simp only [nz, if_true]
    rw [if_neg (fun e2 => e e2.symm)]; omega
theorem worth_le {f : Fr} (h : f.lo.length = 4) (hr : f.reached = true) : worth f ≤ 4 := by
  unfold worth
  rw [if_neg (by rw [hr]; simp)]
  obtain ⟨a, b, c, d, e⟩ := four h
  have h0 := nz_le a
  have h1 := nz_le b
  have h2 := nz_le c
  have h3 := nz_le d
  rw [e]; simp only [List.map_cons, List.map_nil, List.sum_cons, List.sum_nil]; omega
theorem sum_join {x y : List Nat} (hx : x.length = 4) (hy : y.length = 4) (h : x ≠ List.zipWith joinN x y) : ((List.zipWith joinN x y).map nz).sum < (x.map nz).sum := by
  obtain ⟨a, b, c, d, rfl⟩ := four hx
  obtain ⟨a', b', c', d', rfl⟩ := four hy
  simp only [List.zipWith_cons_cons, List.zipWith_nil_left, List.map_cons, List.map_nil, List.sum_cons, List.sum_nil]
  obtain ⟨p0, q0⟩ := nz_join a a'
  obtain ⟨p1, q1⟩ := nz_join b b'
  obtain ⟨p2, q2⟩ := nz_join c c'
  obtain ⟨p3, q3⟩ := nz_join d d'
  by_cases e0 : joinN a a' = a
  · by_cases e1 : joinN b b' = b
    · by_cases e2 : joinN c c' = c
      · by_cases e3 : joinN d d' = d
        · exfalso; apply h
          simp [e0, e1, e2, e3]
        · have := q3 e3; omega
      · have := q2 e2; omega
    · have := q1 e1; omega
  · have := q0 e0; omega
theorem pot_set {fs : List Fr} {k : Nat} {f g : Fr} (h : fs[k]? = some f) : pot (fs.set k g) + worth f = pot fs + worth g := by
  induction fs generalizing k with
  | nil => simp at h
  | cons a r ih =>
    cases k with
    | zero =>
      simp only [List.getElem?_cons_zero, Option.some.injEq] at h
      subst h
      simp only [pot, List.set_cons_zero, List.map_cons, List.sum_cons]; omega
    | succ k =>
      have := ih (k := k) (by simpa using h)
      simp only [pot, List.set_cons_succ, List.map_cons, List.sum_cons] at *; omega
def one (b : Bool) : Nat := if b = true then 1 else 0
theorem reach_pot {fs : List Fr} (hok : AllOk fs) {k : Nat} {way : Fr} (hway : FrOk way) : pot (reachF fs k way).1 + one (reachF fs k way).2.1 ≤ pot fs := by
  unfold reachF
  cases hk : fs[k]? with
  | none => simp [one]
  | some known =>
    have hkn := hok known (List.mem_of_getElem? hk)
    simp only
    by_cases hr : known.reached = false
    · rw [if_pos hr]
      have h1 := pot_set (g := { way with reached := true }) hk
      have h2 := worth_le (f := { way with reached := true }) hway.lo rfl
      have h3 : worth known = 5 := by unfold worth; rw [if_pos hr]
      simp only [one, if_true]; omega
    rw [if_neg hr]
    split
    · simp [one]
    split
    · simp [one]
    · rename_i h
      have h1 := pot_set (g := { way with reached := true, lo := List.zipWith joinN known.lo way.lo }) hk
      have h2 := sum_join hkn.lo hway.lo h
      have h3 : worth known = (known.lo.map nz).sum := by unfold worth; rw [if_neg hr]
      have h4 : worth { way with reached := true, lo := List.zipWith joinN known.lo way.lo } = ((List.zipWith joinN known.lo way.lo).map nz).sum := by unfold worth; rw [if_neg (by simp)]
      simp only [one, if_true]; omega
theorem reach_same {fs : List Fr} {k : Nat} {way : Fr} (h : (reachF fs k way).2.1 = false) : (reachF fs k way).1 = fs := by
  unfold reachF at *
  cases hk : fs[k]? with
  | none => rfl
  | some known =>
    simp only [hk] at *
    split at h
    · cases h
    rename_i h1
    rw [if_neg h1]
    split at h
    · rename_i h2; rw [if_pos h2]
    rename_i h2
    rw [if_neg h2]
    split at h
    · rename_i h3; rw [if_pos h3]
    · cases h
/-- What holds of a pass, by what holds of a reach. -/
theorem pass_ind {fs : List Fr} (hok : AllOk fs) {k : Nat} {ci : CI} (P : List Fr → Bool → Prop) (h0 : P fs false) (hr : ∀ fs' c t way, AllOk fs' → FrOk way → P fs' c → P (reachF fs' t way).1 (c || (reachF fs' t way).2.1)) : P (passF fs k ci).1 (passF fs k ci).2.1 := by
  unfold passF
  cases hk : fs[k]? with
  | none => exact h0
  | some ahead =>
    have hkn := hok ahead (List.mem_of_getElem? hk)
    have haok := afterF_ok hkn ci.ins.op ci.ins.n
    have h1 : ∀ t, P (reachF fs t (afterF ahead ci.ins.op ci.ins.n)).1 (reachF fs t (afterF ahead ci.ins.op ci.ins.n)).2.1 := fun t => by
      have := hr fs false t _ hok haok h0
      rwa [Bool.false_or] at this
    simp only
    split
    · exact h0
    split
    · exact h0
    split
    · exact h0
    split
    · exact h1 _
    split
    · split
      · exact h1 _
      · exact hr _ _ _ _ (reachF_ok hok haok) haok (h1 _)
    · exact h1 _
theorem passF_ok {fs : List Fr} (hok : AllOk fs) {k : Nat} {ci : CI} : AllOk (passF fs k ci).1 :=
  pass_ind hok (fun fs' _ => AllOk fs') hok (fun _ _ _ _ h hw _ => reachF_ok h hw)
theorem passF_len {fs : List Fr} (hok : AllOk fs) {k : Nat} {ci : CI} : (passF fs k ci).1.length = fs.length :=
  pass_ind hok (fun fs' _ => fs'.length = fs.length) rfl (fun _ _ _ _ _ _ h => by rw [reachF_len]; exact h)
theorem pass_keep {fs : List Fr} (hok : AllOk fs) {k m : Nat} {ci : CI} {lo st : ByteArray} (h : CovAt fs m lo st) : CovAt (passF fs k ci).1 m lo st :=
  pass_ind hok (fun fs' _ => CovAt fs' m lo st) h (fun _ _ _ _ ho hw hc => reach_keep ho hw hc)
theorem pass_pot {fs : List Fr} (hok : AllOk fs) {k : Nat} {ci : CI} : pot (passF fs k ci).1 + one (passF fs k ci).2.1 ≤ pot fs :=
  pass_ind hok (fun fs' c => pot fs' + one c ≤ pot fs) (by simp [one]) (fun fs' c t way ho hw hc => by
    have := reach_pot (k := t) ho hw
    cases c
    · rw [Bool.false_or]; simp only [one] at *; omega
    · rw [Bool.true_or]; simp only [one] at *; omega)
theorem pass_same {fs : List Fr} (hok : AllOk fs) {k : Nat} {ci : CI} (h : (passF fs k ci).2.1 = false) : (passF fs k ci).1 = fs :=
  pass_ind hok (fun fs' c => c = false → fs' = fs) (fun _ => rfl) (fun fs' c t way _ _ hc h2 => by
    rw [Bool.or_eq_false_iff] at h2
    rw [reach_same h2.2]; exact hc h2.1) h
def Still (l : List Ins) (fs : List Fr) : Prop := ∀ (k : Nat) (i : Ins), l[k]? = some i → (passF fs k ⟨i, aimOf l i⟩).2.1 = false ∧ (passF fs k ⟨i, aimOf l i⟩).2.2 = true
theorem reach_cov {fs : List Fr} (hok : AllOk fs) {t : Nat} {way : Fr} (hway : FrOk way) (h1 : (reachF fs t way).2.1 = false) (h2 : (reachF fs t way).2.2 = true) {lo st : ByteArray} (hs : Stk way (tl st)) (hl : ∀ j, j < 4 → way.lo.getD j 0 = lk lo j ∨ way.lo.getD j 0 = 2) : CovAt fs t lo st := by
  unfold reachF at *
  cases hk : fs[t]? with
  | none => rw [hk] at h2; cases h2
  | some g =>
    have hg := hok g (List.mem_of_getElem? hk)
    simp only [hk] at h1 h2
    by_cases hr : g.reached = false
    · rw [if_pos hr] at h1; cases h1
    rw [if_neg hr] at h1 h2
    by_cases hd : g.depth ≠ way.depth ∨ g.stk ≠ way.stk
    · rw [if_pos hd] at h2; cases h2
    rw [if_neg hd] at h1 h2
    by_cases hj : g.lo = List.zipWith joinN g.lo way.lo
    · simp only [not_or, ne_eq, Decidable.not_not] at hd
      refine ⟨g, hk, ⟨by simpa using hr, ⟨hs.le, hd.1 ▸ hs.depth, hd.2 ▸ hs.stk⟩, fun j hj4 => ?_⟩⟩
      have e := congrArg (fun x => x.getD j 0) hj
      rw [zip_get hg.lo hway.lo hj4] at e
      unfold joinN at e
      by_cases e3 : g.lo.getD j 0 = way.lo.getD j 0
      · rw [e3]; exact hl j hj4
      · rw [if_neg e3] at e; exact .inr e
    · rw [if_neg hj] at h1; cases h1
theorem afterF_wrong {f : Fr} (h : f.wrong = true) (op n : Nat) : (afterF f op n).wrong = true := by
  unfold afterF
  split
  · unfold loadF
    split
    · rfl
    · apply pushF_wrong
      split
      · rfl
      · exact h
  split
  · unfold storeF
    split
    · rfl
    · exact popF_wrong h
  split
  · exact pushF_wrong (pushF_wrong (popF_wrong h) _) _
  split
  · exact popF_wrong h
  split
  · exact pushF_wrong (pushF_wrong (popF_wrong (popF_wrong h)) _) _
  · exact pushR_wrong _ (popR_wrong _ h)
/-- A frame that tells of a point goes with it through its instruction. -/
theorem still_step {l : List Ins} {L : Nat} (hw : Wf l L) {fs : List Fr} (hok : AllOk fs) (hst : Still l fs) {p : Pt} {i : Ins} (hp : Okp l L p) (hi : l[p.at_]? = some i) (hc : CovAt fs p.at_ p.lo p.st) :
    ∃ f, fs[p.at_]? = some f ∧ Cov f p.lo p.st ∧ Ago f p.lo p.st i.op i.n ∧ (i.op = 7 → f.lo.getD i.n 0 = lk p.lo i.n) ∧
      (i.op = 19 ∨ i.op = 20 → CovAt fs (aimOf l i) (afterV p.lo p.st i.op i.n).1 (afterV p.lo p.st i.op i.n).2.1) ∧
      (i.op ≠ 0 ∧ i.op ≠ 19 → CovAt fs (p.at_ + 1) (afterV p.lo p.st i.op i.n).1 (afterV p.lo p.st i.op i.n).2.1) := by
  obtain ⟨f, hf, hcv⟩ := hc
  have hm : i ∈ l := List.mem_of_getElem? hi
  have harg := hw.arg i hm
  have hL := hw.loc
  have hfo := hok f (List.mem_of_getElem? hf)
  obtain ⟨s1, s2⟩ := hst _ _ hi
  unfold passF at s1 s2
  simp only [hf] at s1 s2
  rw [if_neg (by rw [hcv.reached]; simp)] at s1 s2
  by_cases hwr : (afterF f i.op i.n).wrong = true
  · rw [if_pos hwr] at s2; cases s2
  rw [if_neg hwr] at s1 s2
  have hfw : f.wrong = false := by
    cases e : f.wrong
    · rfl
    · exact absurd (afterF_wrong e _ _) hwr
  have h7 : i.op = 7 → f.lo.getD i.n 0 = lk p.lo i.n := by
    intro e7
    have hn := harg (.inl e7)
    rcases hcv.lo i.n (by omega) with h | h
    · exact h
    · exfalso; apply hwr; rw [e7]; exact load_mixed h
  have hg : Ago f p.lo p.st i.op i.n := by
    rcases aft_both hcv.sk hfw hp.lst (fun h => by rw [hp.lo]; exact harg h) (by rw [hp.lo]; omega) h7 with h | h
    · exact h
    · exact absurd h.2 hwr
  have haok := afterF_ok hfo i.op i.n
  have hlo : ∀ j, j < 4 → (afterF f i.op i.n).lo.getD j 0 = lk (afterV p.lo p.st i.op i.n).1 j ∨ (afterF f i.op i.n).lo.getD j 0 = 2 := by
    intro j hj
    rw [hg.fl, loAft_get (fun e => by have := harg (.inr e); rw [hfo.lo]; omega), aft_lk hg (fun e => by rw [hp.lo]; exact harg (.inr e))]
    by_cases hcc : i.op = 8 ∧ j = i.n
    · rw [if_pos hcc, if_pos hcc]; exact .inl rfl
    · rw [if_neg hcc, if_neg hcc]; exact hcv.lo j hj
  refine ⟨f, hf, hcv, hg, h7, fun hj => ?_, fun hj => ?_⟩
  · have o0 : i.op ≠ 0 := by omega
    rw [if_neg o0] at s1 s2
    by_cases o19 : i.op = 19
    · rw [if_pos o19] at s1 s2
      exact reach_cov hok haok s1 s2 hg.sk hlo
    · rw [if_neg o19] at s1 s2
      have o20 : i.op = 20 := by omega
      rw [if_pos o20] at s1 s2
      by_cases e : (reachF fs (aimOf l i) (afterF f i.op i.n)).2.2 = false
      · rw [if_pos e, e] at s2; cases s2
      · rw [if_neg e] at s1 s2
        simp only [Bool.or_eq_false_iff] at s1
        exact reach_cov hok haok s1.1 (by simpa using e) hg.sk hlo
  · rw [if_neg hj.1, if_neg hj.2] at s1 s2
    by_cases o20 : i.op = 20
    · rw [if_pos o20] at s1 s2
      by_cases e : (reachF fs (aimOf l i) (afterF f i.op i.n)).2.2 = false
      · rw [if_pos e, e] at s2; cases s2
      · rw [if_neg e] at s1 s2
        simp only [Bool.or_eq_false_iff] at s1
        rw [reach_same s1.1] at s1 s2
        exact reach_cov hok haok s1.2 s2 hg.sk hlo
    · rw [if_neg o20] at s1 s2
      exact reach_cov hok haok s1 s2 hg.sk hlo
theorem still_all {l : List Ins} {L : Nat} (hw : Wf l L) {fs : List Fr} (hok : AllOk fs) (hst : Still l fs) (h0 : CovAt fs 0 (initP L).lo (initP L).st) {p : Pt} (h : Reach l L p) : CovAt fs p.at_ p.lo p.st := by
  obtain ⟨n, hn⟩ := h
  induction n generalizing p with
  | zero => rw [show p = initP L from hn]; exact h0
  | succ n ih =>
    obtain ⟨q, ss, h1, h2, h3⟩ := hn
    have hq := reach_ok hw ⟨n, h1⟩
    have hi : l[q.at_]? = some (l[q.at_]'hq.at_) := List.getElem?_eq_getElem hq.at_
    obtain ⟨f, _, _, hg, _, j1, j2⟩ := still_step hw hok hst hq hi (ih h1)
    rw [stepP_eq hi, if_neg (by
      rintro (e | e)
      · rw [hg.ok] at e; cases e
      · have := hg.sm; omega)] at h2
    simp only [Option.some.injEq] at h2
    subst h2
    rw [List.mem_append] at h3
    rcases h3 with h3 | h3
    · by_cases hj : isJump (l[q.at_]'hq.at_).op = true
      · rw [if_pos hj, List.mem_singleton] at h3
        subst h3
        have hj' : (l[q.at_]'hq.at_).op = 19 ∨ (l[q.at_]'hq.at_).op = 20 := by simpa [isJump] using hj
        have := j1 hj'
        unfold aimOf at this
        rw [if_pos hj] at this
        exact this
      · rw [if_neg hj] at h3; simp at h3
    · by_cases hj : (l[q.at_]'hq.at_).op ≠ 0 ∧ (l[q.at_]'hq.at_).op ≠ 19
      · rw [if_pos hj, List.mem_singleton] at h3
        subst h3
        exact j2 hj
      · rw [if_neg hj] at h3; simp at h3
theorem stk_inj {f : Fr} {a b : List UInt8} (ha : Stk f a) (hb : Stk f b) (la : ∀ c ∈ a, letter c) (lb : ∀ c ∈ b, letter c) : a = b := by
  have hz : a.length = b.length := ha.depth.symm.trans hb.depth
  have he := ha.stk.symm.trans hb.stk
  have hm : a.map code8 = b.map code8 := (List.append_inj he (by simp [hz])).1
  clear he ha hb
  induction a generalizing b with
  | nil => cases b with
    | nil => rfl
    | cons => simp at hz
  | cons x r ih => cases b with
    | nil => simp at hz
    | cons y s =>
      simp only [List.map_cons, List.cons.injEq] at hm
      rw [code8_inj (la x (by simp)) (lb y (by simp)) hm.1, ih (fun c hc => la c (by simp [hc])) (fun c hc => lb c (by simp [hc])) (by simpa using hz) hm.2]
theorem still_wt {l : List Ins} {L : Nat} (hw : Wf l L) {fs : List Fr} (hok : AllOk fs) (hst : Still l fs) (h0 : CovAt fs 0 (initP L).lo (initP L).st) : WT l L := by
  refine ⟨fun p hp => ?_, fun p q i hp hq he hi => ?_⟩
  · have ho := reach_ok hw hp
    have hi : l[p.at_]? = some (l[p.at_]'ho.at_) := List.getElem?_eq_getElem ho.at_
    obtain ⟨f, _, _, hg, _, _, _⟩ := still_step hw hok hst ho hi (still_all hw hok hst h0 hp)
    rw [stepP_eq hi, if_neg (by
      rintro (e | e)
      · rw [hg.ok] at e; cases e
      · have := hg.sm; omega)]
    simp
  · have ho := reach_ok hw hp
    have ho2 := reach_ok hw hq
    obtain ⟨f, e1, c1, _, a1, _, _⟩ := still_step hw hok hst ho hi (still_all hw hok hst h0 hp)
    obtain ⟨g, e2, c2, _, a2, _, _⟩ := still_step hw hok hst ho2 (he ▸ hi) (still_all hw hok hst h0 hq)
    rw [he, e2] at e1
    cases e1
    have es : p.st = q.st := tl_inj (stk_inj c1.sk c2.sk ho.lst ho2.lst)
    have hm : i ∈ l := List.mem_of_getElem? hi
    unfold clashB
    rw [he, es]
    simp only [beq_self_eq_true, decide_true, Bool.not_true, Bool.false_or, Bool.true_and, Bool.and_eq_false_iff, beq_eq_false_iff_ne, Bool.not_eq_false', beq_iff_eq]
    by_cases h7 : i.op = 7
    · refine .inr ?_
      exact (kindN_inj ho ho2 (hw.arg i hm (.inl h7)) ((a1 h7).symm.trans (a2 h7))).symm
    · exact .inl h7
end Go.Proofs.YtdmdpindonghdabDoor
namespace Go.Proofs.YtdmdpindonghdabDoor
open Go.RowKit
structure SetInv (l : List Ins) (L : Nat) (fs : List Fr) : Prop where
  ok : AllOk fs
  len : fs.length = l.length
  sound : WT l L → Sound l L fs
  cov : CovAt fs 0 (initP L).lo (initP L).st
theorem SetInv.pass {l : List Ins} {L k : Nat} {fs : List Fr} {i : Ins} (hw : Wf l L) (h : SetInv l L fs) (hi : l[k]? = some i) : SetInv l L (passF fs k ⟨i, aimOf l i⟩).1 :=
  ⟨passF_ok h.ok, (passF_len h.ok).trans h.len, fun hwt => (pass_sound hw hwt h.ok (h.sound hwt) h.len hi).2, pass_keep h.ok h.cov⟩
theorem SetInv.bad {l : List Ins} {L k : Nat} {fs : List Fr} {i : Ins} (hw : Wf l L) (h : SetInv l L fs) (hi : l[k]? = some i) (hb : (passF fs k ⟨i, aimOf l i⟩).2.2 = false) : ¬ WT l L := by
  intro hwt
  rw [(pass_sound hw hwt h.ok (h.sound hwt) h.len hi).1] at hb
  cases hb
def StillTo (l : List Ins) (fs : List Fr) (n : Nat) : Prop := ∀ (k : Nat) (i : Ins), k < n → l[k]? = some i → (passF fs k ⟨i, aimOf l i⟩).2.1 = false ∧ (passF fs k ⟨i, aimOf l i⟩).2.2 = true
theorem StillTo.succ {l : List Ins} {fs : List Fr} {n : Nat} {i : Ins} (h : StillTo l fs n) (hi : l[n]? = some i) (h1 : (passF fs n ⟨i, aimOf l i⟩).2.1 = false) (h2 : (passF fs n ⟨i, aimOf l i⟩).2.2 = true) : StillTo l fs (n + 1) := by
  intro k j hk hj
  by_cases e : k = n
  · subst e
    rw [hi] at hj
    cases hj
    exact ⟨h1, h2⟩
  · exact h k j (by omega) hj
theorem StillTo.all {l : List Ins} {fs : List Fr} (h : StillTo l fs l.length) : Still l fs := fun k i hi => h k i (List.getElem?_eq_some_iff.1 hi).1 hi
theorem CiAt.two {a b g : Nat} {l : List CI} {w w' : World} (h : CiAt w g l) (ht : Two a b w w') (hg : g < w.heap.size) (h1 : g ≠ a) (h2 : g ≠ b) : CiAt w' g l := h.same (ht.block g hg h1 h2)
/-- The tables of types lie in neither block. -/
def Apart (a : Nat) : Prop := 0 ≠ a ∧ 1 ≠ a
theorem FlowTab.two {a b : Nat} {w w' : World} (h : FlowTab w) (ht : Two a b w w') (ha : Apart a) (hb : Apart b) : FlowTab w' := by
  intro k hk
  obtain ⟨h0, h1⟩ := h k hk
  have l0 := World.block_lt_of_cell? w _ h0
  have l1 := World.block_lt_of_cell? w _ h1
  exact ⟨(World.cell?_of_block (a := ⟨0, k, none⟩) (ht.block _ l0 ha.1 hb.1)).trans h0, (World.cell?_of_block (a := ⟨1, k, none⟩) (ht.block _ l1 ha.2 hb.2)).trans h1⟩
theorem pass_any {l : List Ins} {L : Nat} (hw : Wf l L) (bw bf gl cap capl k : Nat) (fs : List Fr) (i : Ins) (ch : Bool) (w : World) (hall : AllAt w bf fs) (hok : AllOk fs) (hlen : fs.length = l.length) (hi : l[k]? = some i)
    (hwalk : WalkAt w bw (.slice (some ⟨gl, 0, none⟩) l.length capl) bf l.length cap ch) (hat : CiAt w gl (aims l)) (hgl : gl < w.heap.size) (htab : FlowTab w) (hne : bw ≠ bf) :
    Calls Tryd.prog 96 #[.pointer (some ⟨bw, 0, none⟩), .int .i64 k] w (PassPost bw bf cap fs k ⟨i, aimOf l i⟩ ch (.slice (some ⟨gl, 0, none⟩) l.length capl) w) := by
  have hk := (List.getElem?_eq_some_iff.1 hi).1
  have hm : i ∈ l := List.mem_of_getElem? hi
  have hkn : fs[k]? = some (fs[k]'(by omega)) := List.getElem?_eq_getElem (by omega)
  rw [← hlen] at hwalk
  have hcl : (aims l).length = fs.length := by rw [aims_len, hlen]
  have hL := hw.loc
  have h120 := hw.len
  cases hr : (fs[k]'(by omega)).reached
  · have := pass_new bw bf gl cap capl k fs (aims l) ⟨i, aimOf l i⟩ _ ch w hall hok hkn hcl (by rw [hcl]; exact hwalk) hr
    rw [aims_len] at this
    exact this
  · have := pass_go bw bf gl cap capl k fs (aims l) ⟨i, aimOf l i⟩ _ ch w hall hok hkn hcl (by rw [hcl]; exact hwalk) hr hat hgl (aims_get hi) htab (hw.op i hm) (fun h => by have := hw.arg i hm h; simp only; omega) hne (by omega) (fun h => by rw [hlen]; exact aim_lt hw hm h) (fun h0 h1 => by rw [hlen]; exact next_lt hw hi ⟨h0, h1⟩)
    rw [aims_len] at this
    exact this
def SettlePost (l : List Ins) (L bw bf cap : Nat) (lv : Value) (w : World) (e : Ending) (w' : World) : Prop :=
  ∃ (b : Bool) (fs' : List Fr) (ch : Bool), e = .returned (.bool b) ∧ AllAt w' bf fs' ∧ WalkAt w' bw lv bf l.length cap ch ∧ Two bw bf w w' ∧ (b = true → SetInv l L fs' ∧ Still l fs') ∧ (b = false → ¬ WT l L)
set_option maxRecDepth 100000 in
set_option maxHeartbeats 1000000 in
theorem settle_any {l : List Ins} {L : Nat} (hw : Wf l L) (bw bf gl cap capl : Nat) (fs : List Fr) (ch : Bool) (w : World) (hall : AllAt w bf fs) (hinv : SetInv l L fs) (hst : ch = false → Still l fs)
    (hwalk : WalkAt w bw (.slice (some ⟨gl, 0, none⟩) l.length capl) bf l.length cap ch) (hat : CiAt w gl (aims l)) (hgl : gl < w.heap.size) (htab : FlowTab w) (hne : bw ≠ bf) (hgw : gl ≠ bw) (hgf : gl ≠ bf) (ha : Apart bw) (hb : Apart bf) :
    Calls Tryd.prog 87 #[.pointer (some ⟨bw, 0, none⟩)] w (SettlePost l L bw bf cap (.slice (some ⟨gl, 0, none⟩) l.length capl) w) := by
  go_enter Tryd.func87, Tryd.ntmps87
  go_wp2_with fail
  go_loopg [] (pot fs + one ch) (fun g w' => ∃ (fs' : List Fr) (c : Bool), AllAt w' bf fs' ∧ WalkAt w' bw (.slice (some ⟨gl, 0, none⟩) l.length capl) bf l.length cap c ∧ Two bw bf w w' ∧ SetInv l L fs' ∧ (c = false → Still l fs') ∧ pot fs' + one c ≤ g)
  case atStart => exact ⟨fs, ch, hall, hwalk, Two.refl _ _ _, hinv, hst, Nat.le_refl _⟩
  case round =>
    obtain ⟨fs1, c, hA, hW, hT, hI, hS, hp⟩ := hrel
    have w0 := cell_of_row wr bw 0 _ _ _ hW
    have w2 := cell_of_row wr bw 2 _ _ _ hW
    have z2 := frozen_of_row wr bw 2 _ _ hW
    simp only [List.getElem?_toArray, List.getElem?_cons_zero, List.getElem?_cons_succ] at w0 w2
    have HA := hid hA
    have HW := hid hW
    have HT := hid hT
    have HI := hid hI
    have HP := hid hp
    have HN := hid hne
    have HAT := hid hat
    have HTB := hid htab
    have HWF := hid hw
    clear hA hW hT hI hp hall hinv hst hwalk hat htab hw
    cases c
    · have HS := hid (hS rfl)
      clear hS
      go_wp2_with fail
      go_ret
      exact ⟨true, fs1, false, rfl, HA.out, HW.out, HT.out, fun _ => ⟨HI.out, HS.out⟩, fun h => by cases h⟩
    · clear hS
      have HW0 : Hid (WalkAt (wr.setCell ⟨bw, 2, none⟩ (.bool false)) bw (.slice (some ⟨gl, 0, none⟩) l.length capl) bf l.length cap false) := hid (setCell_row 2 (.bool false) HW.out)
      have HA0 : Hid (AllAt (wr.setCell ⟨bw, 2, none⟩ (.bool false)) bf fs1) := hid ((Below.heap_setCell _ _ _ _ (fun e => HN.out e.symm)).trans HA.out)
      have HT0 : Hid (Two bw bf w (wr.setCell ⟨bw, 2, none⟩ (.bool false))) := hid (HT.out.set)
      generalize hW1 : wr.setCell ⟨bw, 2, none⟩ (.bool false) = W1 at HW0 HA0 HT0
      have x0 := cell_of_row W1 bw 0 _ _ _ HW0.out
      simp only [List.getElem?_toArray, List.getElem?_cons_zero] at x0
      go_wp2_with fail
      go_loopg [16] (l.length) (fun g i w' => ∃ (k : Nat) (fs' : List Fr) (c : Bool), i = .int .i64 k ∧ k ≤ l.length ∧ g = l.length - k ∧ AllAt w' bf fs' ∧ WalkAt w' bw (.slice (some ⟨gl, 0, none⟩) l.length capl) bf l.length cap c ∧ Two bw bf w w' ∧ SetInv l L fs' ∧ (c = false → StillTo l fs' k) ∧ pot fs' + one c ≤ pot fs1)
      case atStart =>
        exact ⟨0, fs1, false, rfl, by omega, by omega, HA0.out, HW0.out, HT0.out, HI.out, fun _ k i hk => by omega, Nat.le_refl _⟩
      case round =>
        obtain ⟨k, fs2, c2, rfl, hk, hg, hA, hW, hT, hI, hS, hp⟩ := hrel
        have HP2 := hid hp
        have HS2 := hid hS
        have HI2 := hid hI
        have HA2 := hid hA
        have HW2 := hid hW
        have HT2 := hid hT
        have h120 := HWF.out.len
        clear hA hW hT hI hS hp
        rcases Nat.lt_or_ge k l.length with hkl | hkl
        · have hi : Hid (l[k]? = some l[k]) := hid (List.getElem?_eq_getElem hkl)
          generalize l[k] = i at hi
          have hps := hid (pass_any HWF.out bw bf gl cap capl k fs2 i c2 wr HA2.out HI2.out.ok HI2.out.len hi.out HW2.out (HAT.out.two HT2.out hgl hgw hgf) (Nat.lt_of_lt_of_le hgl HT2.out.size) (HTB.out.two HT2.out ha hb) HN.out)
          have i1 : (k : Int) < (l.length : Int) := by omega
          have hk200 : (k : Int) + 1 ≤ 200 := by omega
          have HB : Hid ((passF fs2 k ⟨i, aimOf l i⟩).2.2 = false → ¬ WT l L) := hid (HI2.out.bad HWF.out hi.out)
          have HI3 : Hid (SetInv l L (passF fs2 k ⟨i, aimOf l i⟩).1) := hid (HI2.out.pass HWF.out hi.out)
          have HPT : Hid (pot (passF fs2 k ⟨i, aimOf l i⟩).1 + one (passF fs2 k ⟨i, aimOf l i⟩).2.1 ≤ pot fs2) := hid (pass_pot HI2.out.ok)
          have HSS : Hid ((passF fs2 k ⟨i, aimOf l i⟩).2.1 = false → (passF fs2 k ⟨i, aimOf l i⟩).2.2 = true → c2 = false → StillTo l (passF fs2 k ⟨i, aimOf l i⟩).1 (k + 1)) := hid (fun h1 h2 h3 => by
            have := pass_same HI2.out.ok h1
            rw [this]
            exact (HS2.out h3).succ hi.out h1 h2)
          have HLN : Hid (fs2.length = l.length) := hid HI2.out.len
          unfold PassPost at hps
          generalize passF fs2 k ⟨i, aimOf l i⟩ = R at *
          obtain ⟨fs3, c3, ok3⟩ := R
          simp only at hps HB HI3 HPT HSS
          clear hi HS2
          go_wp2_with fail
          refine hps.out.mono ?_
          clear hps
          intro x w6 hh
          obtain ⟨hx6, hA6, hW6, hT6⟩ := hh
          subst x
          rw [HLN.out] at hW6
          have HA6 := hid hA6
          have HW6 := hid hW6
          have HT6 := hid hT6
          clear hA6 hW6 hT6
          cases ok3
          · have HB2 := hid (HB.out rfl)
            clear HB HSS
            go_wp2_with fail
            go_ret
            exact ⟨false, fs3, c2 || c3, rfl, HA6.out, HW6.out, HT2.out.trans HT6.out, fun h => absurd h (by decide), fun _ => HB2.out⟩
          · have HSS2 := hid (fun h1 h2 => HSS.out h1 rfl h2)
            clear HB HSS
            go_wp2_with fail
            go_roundg (l.length - (k + 1))
            case measure => omega
            case rel =>
              exact ⟨k + 1, fs3, c2 || c3, rfl, by omega, rfl, HA6.out, HW6.out, HT2.out.trans HT6.out, HI3.out, fun h => by
                rw [Bool.or_eq_false_iff] at h
                exact HSS2.out h.2 h.1, by
                have h1 := HPT.out
                have h2 := HP2.out
                cases c2
                · rw [Bool.false_or]; simp only [one] at *; omega
                · rw [Bool.true_or]; simp only [one] at *; omega⟩
        · have i1 : ¬ (k : Int) < (l.length : Int) := by omega
          go_wp2_with fail
          go_roundg (pot fs2 + one c2)
          case measure =>
            have h1 := HP.out
            have h2 := HP2.out
            simp only [one, if_true] at *; omega
          case rel =>
            exact ⟨fs2, c2, HA2.out, HW2.out, HT2.out, HI2.out, fun h => by
              have := HS2.out h
              rw [show k = l.length by omega] at this
              exact this.all, Nat.le_refl _⟩
end Go.Proofs.YtdmdpindonghdabDoor
namespace Go.Proofs.YtdmdpindonghdabDoor
open Go.RowKit
def zeroF : Fr := ⟨false, [0, 0, 0, 0], 0, [0, 0, 0, 0, 0, 0, 0, 0], false⟩
theorem zeroF_ok : FrOk zeroF := ⟨rfl, rfl, Nat.zero_le _⟩
theorem zeros_ok (n : Nat) : AllOk (List.replicate n zeroF) := fun f hf => by rw [List.eq_of_mem_replicate hf]; exact zeroF_ok
theorem frameInfo : (Tryd.prog.info? 89).map (fun i => (i.zero, i.size, i.bytes)) = some (some (.agg (frL zeroF).toArray), 15, 120) := by kernel_rfl
theorem zeros_made (n : Nat) : madeCells (frL zeroF).toArray (n * 15) = (allL (List.replicate n zeroF)).toArray := by
  apply Array.toList_inj.1
  apply List.ext_getElem?
  intro i
  have hl := allL_len (zeros_ok n)
  rw [List.length_replicate] at hl
  by_cases hi : i < n * 15
  · have h1 : i / 15 < n := by omega
    have h2 : i % 15 < 15 := by omega
    have e : i = i / 15 * 15 + i % 15 := by omega
    have h3 := allL_at (zeros_ok n) (k := i / 15) (j := i % 15) (f := zeroF) (by rw [List.getElem?_replicate, if_pos h1]) h2
    rw [← e] at h3
    simp only [madeCells, Array.toList_map, Array.toList_range, List.getElem?_map, List.getElem?_range hi, Option.map_some]
    rw [h3]
    have h4 : (frL zeroF).length = 15 := rfl
    rw [List.getElem?_eq_getElem (by omega)]
    simp [List.getElem?_eq_getElem (show i % 15 < (frL zeroF).length by omega), h4]
  · rw [List.getElem?_eq_none (by simp [size_madeCells]; omega), List.getElem?_eq_none (by simp; omega)]
theorem make_frames (n : Nat) (h : n ≤ 120) (w : World) : Sem.run Tryd.prog (Instr.makeSlice 76 (.int .i64 n) (.int .i64 n)) w = .ok (.slice (some ⟨w.heap.size, 0, none⟩) n n) (w.alloc (.cells (allL (List.replicate n zeroF)).toArray 89)) := by
  obtain ⟨i0, hi, hz0, hz1, hz2⟩ := info_parts frameInfo
  have := run_make (P := Tryd.prog) w 76 89 i0 _ Tryd.underlying76 hi hz0 .i64 .i64 n n (by omega) (by omega) (by rw [hz2]; omega) (by omega)
  rw [this, hz1, show Value.cells (.agg (frL zeroF).toArray) = (frL zeroF).toArray from rfl]
  simp only [Int.toNat_natCast]
  rw [zeros_made]
theorem startF (n : Nat) (h : 0 < n) : reachF (List.replicate n zeroF) 0 zeroF = ((List.replicate n zeroF).set 0 { zeroF with reached := true }, true, true) := by
  unfold reachF
  rw [List.getElem?_replicate, if_pos h]
  rfl
theorem start_stk (f : Fr) (hd : f.depth = 0) (hs : f.stk = [0, 0, 0, 0, 0, 0, 0, 0]) (L : Nat) : Stk f (tl (initP L).st) := ⟨Nat.zero_le _, hd, hs⟩
theorem start_lk (L j : Nat) : lk (initP L).lo j = 0 := by
  have h : letters (initP L).lo ∧ True := by
    refine ⟨letters_extract ?_ _ _, trivial⟩
    intro c hc
    simp at hc
    exact .inl hc
  have hall : ∀ c ∈ tl (initP L).lo, c = 105 := by
    intro c hc
    simp only [initP] at hc
    rw [tl_extract] at hc
    have := List.mem_of_mem_drop (List.mem_of_mem_take hc)
    simpa [tl] using this
  unfold lk
  show kindN (((tl (initP L).lo).getD j 0).toNat) = 0
  rw [List.getD_eq_getElem?_getD]
  cases e : (tl (initP L).lo)[j]? with
  | none => rfl
  | some c => rw [hall c (List.mem_of_getElem? e)]; rfl
theorem start_inv {l : List Ins} {L : Nat} (hw : Wf l L) : SetInv l L ((List.replicate l.length zeroF).set 0 { zeroF with reached := true }) := by
  have hp := hw.pos
  have h0 : ((List.replicate l.length zeroF).set 0 { zeroF with reached := true })[0]? = some { zeroF with reached := true } := List.getElem?_set_self (by simpa using hp)
  have hlo : ∀ j, j < 4 → ([0, 0, 0, 0] : List Nat).getD j 0 = 0 := by
    intro j hj
    match j, hj with
    | 0, _ => rfl
    | 1, _ => rfl
    | 2, _ => rfl
    | 3, _ => rfl
  refine ⟨(zeros_ok _).set (f := { zeroF with reached := true }) ⟨rfl, rfl, Nat.zero_le _⟩ 0, by simp, fun _ k f hk hr => ?_, ⟨_, h0, ⟨rfl, start_stk _ rfl rfl L, fun j hj => .inl ?_⟩⟩⟩
  · by_cases e : 0 = k
    · subst e
      rw [h0] at hk
      cases hk
      exact ⟨rfl, ⟨_, _, Reach.init l L, start_stk _ rfl rfl L⟩, fun j hj => .inl ⟨_, _, Reach.init l L, (hlo j hj).trans (start_lk L j).symm⟩⟩
    · rw [List.getElem?_set_ne e, List.getElem?_replicate] at hk
      split at hk
      · cases hk; cases hr
      · cases hk
  · rw [start_lk]; exact hlo j hj
def FramesPost (l : List Ins) (L : Nat) (w : World) (e : Ending) (w' : World) : Prop :=
  Below w.heap.size w w' ∧ ((¬ WT l L ∧ e = .returned (.tuple #[.slice none 0 0, .bool false])) ∨
    (∃ fs bf, e = .returned (.tuple #[.slice (some ⟨bf, 0, none⟩) l.length l.length, .bool true]) ∧ w.heap.size ≤ bf ∧ AllAt w' bf fs ∧ SetInv l L fs ∧ Still l fs))
theorem Two.below {a b B : Nat} {w w' : World} (h : Two a b w w') (hB : B ≤ w.heap.size) (ha : B ≤ a) (hb : B ≤ b) : Below B w w' :=
  ⟨h.os, h.tape, h.output, h.size, fun k hk => h.block k (by omega) (by omega) (by omega)⟩
theorem apart_of {w : World} {a : Nat} (h : FlowTab w) (ha : w.heap.size ≤ a) : Apart a := by
  obtain ⟨h0, h1⟩ := h 0 (by omega)
  have l0 := World.block_lt_of_cell? w _ h0
  have l1 := World.block_lt_of_cell? w _ h1
  exact ⟨by simp only at l0; omega, by simp only at l1; omega⟩
theorem three_second (w : World) (a b c : Obj) : ((((w.alloc a).alloc b).alloc c).drew).heap[w.heap.size + 1]? = some b := by
  show (((w.alloc a).alloc b).alloc c).heap[w.heap.size + 1]? = some b
  rw [Below.heap_alloc _ _ _ (by simp)]; exact heap_two_new w _ _
theorem three_below (w : World) (a b c : Obj) : Below w.heap.size w (((w.alloc a).alloc b).alloc c).drew :=
  have h : Below w.heap.size w (((w.alloc a).alloc b).alloc c) := (((Below.refl _ _).alloc (Nat.le_refl _) _).alloc (by simp) _).alloc (by simp; omega) _
  ⟨h.os, h.tape, h.output, h.size, h.block⟩
set_option maxRecDepth 100000 in
set_option maxHeartbeats 1000000 in
theorem frames_any {l : List Ins} {L : Nat} (hw : Wf l L) (gl capl : Nat) (w : World) (hat : CiAt w gl (aims l)) (hgl : gl < w.heap.size) (htab : FlowTab w) :
    Calls Tryd.prog 63 #[.agg #[.int .i64 L, .slice (some ⟨gl, 0, none⟩) l.length capl]] w (FramesPost l L w) := by
  have h120 := hw.len
  have HWF := hid hw
  have HAT := hid hat
  have HTB := hid htab
  have hmk := make_frames l.length h120
  have HSI := hid (start_inv hw)
  have HSF := hid (startF l.length hw.pos)
  have HPOS := hid hw.pos
  clear hw hat htab
  generalize hZ : List.replicate l.length zeroF = Z at *
  have HZ : Hid (Z.length = l.length ∧ AllOk Z) := hid ⟨by rw [← hZ]; simp, by rw [← hZ]; exact zeros_ok _⟩
  clear hZ
  go_enter Tryd.func63, Tryd.ntmps63
  go_upto_region 1 with fail
  go_cut [4] (fun x4 wc => ∃ bw bf : Nat, x4 = .pointer (some ⟨bw, 0, none⟩) ∧ w.heap.size ≤ bw ∧ w.heap.size ≤ bf ∧ bw ≠ bf ∧ AllAt wc bf Z ∧ WalkAt wc bw (.slice (some ⟨gl, 0, none⟩) l.length capl) bf l.length l.length false ∧ Below w.heap.size w wc)
  case first =>
    go_region
    · go_wp2_with fail
      go_meet
      exact ⟨w.heap.size + 1 + 1, w.heap.size + 1, rfl, by omega, by omega, by omega, three_second w _ _ _, heap_three_third w _ _ _, three_below w _ _ _⟩
    · go_wp2_with fail
      go_meet
      exact ⟨w.heap.size + 1, w.heap.size + 1 + 1, rfl, by omega, by omega, by omega, heap_three_third w _ _ _, three_second w _ _ _, three_below w _ _ _⟩
  case rest =>
    obtain ⟨bw, bf, rfl, h1, h2, h3, hA, hW, hB⟩ := hcut
    have hrc := hid (reach_any bw bf l.length 0 Z zeroF false _ wc hA HZ.out.2 (by rw [HZ.out.1]; exact HPOS.out) zeroF_ok (by rw [HZ.out.1]; exact hW) h3)
    rw [HSF.out] at hrc
    simp only [zeroF, frL, List.map_cons, List.map_nil, List.cons_append, List.nil_append, numV] at hrc
    have HA := hid hA
    have HB := hid hB
    clear hA hW hB hmk
    go_wp2_with fail
    refine hrc.out.mono ?_
    clear hrc
    intro x w6 hh
    obtain ⟨hx6, hA6, hW6, hT6⟩ := hh
    subst x
    rw [HZ.out.1] at hW6
    have hsz := HB.out.size
    have hgl2 : gl < wc.heap.size := by omega
    have hat6 : CiAt w6 gl (aims l) := (HAT.out.below HB.out hgl).two hT6 hgl2 (by omega) (by omega)
    have ha := apart_of HTB.out h1
    have hb := apart_of HTB.out h2
    have hst := hid (settle_any HWF.out bw bf gl l.length capl _ _ w6 hA6 HSI.out (fun h => absurd h (by decide)) hW6 hat6 (Nat.lt_of_lt_of_le hgl2 hT6.size) ((HTB.out.below HB.out).two hT6 ha hb) h3 (by omega) (by omega) ha hb)
    have HT6 := hid hT6
    clear hA6 hW6 hT6 hat6 ha hb
    go_wp2_with fail
    refine hst.out.mono ?_
    clear hst
    intro x w7 hh
    obtain ⟨b, fs', ch, hx7, hA7, hW7, hT7, hgood, hbad⟩ := hh
    subst x
    have HBB : Hid (Below w.heap.size w w7) := hid ((HB.out.trans (HT6.out.below hsz h1 h2)).trans (hT7.below (Nat.le_trans hsz HT6.out.size) h1 h2))
    have w1 := cell_of_row w7 bw 1 _ _ _ hW7
    simp only [List.getElem?_toArray, List.getElem?_cons_zero, List.getElem?_cons_succ] at w1
    have HA7 := hid hA7
    clear hA7 hW7 hT7
    cases b
    · have HN := hid (hbad rfl)
      clear hgood hbad
      go_wp2_with fail
      exact bodyPost_ret (v := .tuple #[.slice none 0 0, .bool false]) (by simp [results, Tryd.results63, go_sem]) rfl ⟨HBB.out, .inl ⟨HN.out, rfl⟩⟩
    · have HN := hid (hgood rfl)
      clear hgood hbad
      go_wp2_with fail
      exact bodyPost_ret (v := .tuple #[.slice (some ⟨bf, 0, none⟩) l.length l.length, .bool true]) (by simp [results, Tryd.results63, go_sem]) rfl ⟨HBB.out, .inr ⟨fs', bf, rfl, h2, HA7.out, HN.out.1, HN.out.2⟩⟩
end Go.Proofs.YtdmdpindonghdabDoor
namespace Go.Proofs.YtdmdpindonghdabDoor
open Go.RowKit
structure Loaded (s : ByteArray) (w w' : World) (g cap bf : Nat) (fs : List Fr) : Prop where
  err : errOf s = 0
  wt : WT (codeOf s) (byteAt s 1)
  g1 : w.heap.size ≤ g
  g2 : g < w'.heap.size
  ci : CiAt w' g (aims (codeOf s))
  b1 : w.heap.size ≤ bf
  all : AllAt w' bf fs
  inv : SetInv (codeOf s) (byteAt s 1) fs
  still : Still (codeOf s) fs
def LoadPost (s : ByteArray) (w : World) (e : Ending) (w' : World) : Prop :=
  Below w.heap.size w w' ∧ ((∃ r : Nat, r ≠ 0 ∧ IsErr s r ∧ e = .returned (.tuple #[.agg #[.int .i64 0, .slice none 0 0], .slice none 0 0, .int .i64 r])) ∨
    (∃ g cap bf fs, e = .returned (.tuple #[.agg #[.int .i64 (byteAt s 1 : Nat), .slice (some ⟨g, 0, none⟩) (codeOf s).length cap], .slice (some ⟨bf, 0, none⟩) (codeOf s).length (codeOf s).length, .int .i64 0]) ∧ Loaded s w w' g cap bf fs))
set_option maxRecDepth 100000 in
set_option maxHeartbeats 1000000 in
theorem tload_any (s : ByteArray) (w : World) (hs : s.size ≤ maxLen) (htab : FlowTab w) :
    Calls Tryd.prog 50 #[.string s] w (LoadPost s w) := by
  have hrd := hid (fun W => read_any s W hs)
  have HTB := hid htab
  clear hs htab
  go_enter Tryd.func50, Tryd.ntmps50
  go_wp2_with fail
  refine (hrd.out _).mono ?_
  clear hrd
  intro x w2 hp
  obtain ⟨hb, hp⟩ := hp
  have hb1 := instr_below hb
  clear hb
  rcases hp with ⟨he, hx⟩ | ⟨he, g, cap, hx, hg1, hg2, hat⟩
  · subst x
    have hz := hb1.size
    rw [alloc_size] at hz
    have hb2 : Below (w.heap.size + 1) (w.alloc (.cells #[.int .i64 0, .slice none 0 0] 75)) (w2.alloc (.cells #[.int .i64 0, .slice none 0 0] 75)) := hb1.alloc hz _
    obtain ⟨bx, bo, hz2⟩ := box_cells hb2
    have x0 := bx 0
    have x1 := bx 1
    simp only [List.getElem?_toArray, List.getElem?_cons_zero, List.getElem?_cons_succ] at x0 x1
    have hf0 := hb2.frozen (p := ⟨w.heap.size, 0, none⟩) (by simp)
    have hf1 := hb2.frozen (p := ⟨w.heap.size, 1, none⟩) (by simp)
    have hne : ((errOf s : Int) != 0) = true := by simp; omega
    have HE : Hid (IsErr s (errOf s)) := hid (.inl ⟨he, rfl⟩)
    have HN := hid he
    clear bx bo he hb1
    go_wp2_with fail
    refine bodyPost_ret (v := .tuple #[.agg #[.int .i64 0, .slice none 0 0], .slice none 0 0, .int .i64 (errOf s : Nat)]) (by simp [results, Tryd.results50, go_sem, x0, x1]) rfl ⟨two_set hb2, .inl ⟨errOf s, HN.out, HE.out, rfl⟩⟩
  · subst x
    have hz := hb1.size
    rw [alloc_size] at hz
    have hb2 : Below (w.heap.size + 1) (w.alloc (.cells #[.int .i64 0, .slice none 0 0] 75)) (w2.alloc (.cells #[.int .i64 (byteAt s 1 : Nat), .slice (some ⟨g, 0, none⟩) (codeOf s).length cap] 75)) := hb1.alloc hz _
    have HW := hid (wf_of he)
    have HE := hid he
    have hgz : w.heap.size + 1 ≤ g := by simpa using hg1
    have hbw : Below w.heap.size w (w2.alloc (.cells #[.int .i64 (byteAt s 1 : Nat), .slice (some ⟨g, 0, none⟩) (codeOf s).length cap] 75)) := box_below (Nat.le_refl _) hb2
    have hfr := hid (frames_any HW.out g cap _ (hat.same (Below.heap_alloc w2 (.cells #[.int .i64 (byteAt s 1 : Nat), .slice (some ⟨g, 0, none⟩) (codeOf s).length cap] 75) _ hg2)) (by rw [alloc_size]; omega) (HTB.out.below hbw))
    have HAT := hid hat
    generalize hLL : byteAt s 1 = L at *
    have HLL := hid hLL
    generalize hl : codeOf s = l at *
    have HL := hid hl
    clear hat he hbw hl hg1 hLL
    go_wp2_with fail
    refine hfr.out.mono ?_
    clear hfr
    intro x w3 hp
    obtain ⟨hb3, hp⟩ := hp
    have hz3 := hb3.size
    rw [alloc_size] at hz3
    have hb4 : Below (w.heap.size + 1) (w.alloc (.cells #[.int .i64 0, .slice none 0 0] 75)) w3 := hb2.trans (hb3.mono (by rw [alloc_size]; omega))
    obtain ⟨bx, bo, hz2⟩ := box_cells hb4
    have x0 := bx 0
    have x1 := bx 1
    simp only [List.getElem?_toArray, List.getElem?_cons_zero, List.getElem?_cons_succ] at x0 x1
    have hf0 := hb4.frozen (p := ⟨w.heap.size, 0, none⟩) (by simp)
    have hf1 := hb4.frozen (p := ⟨w.heap.size, 1, none⟩) (by simp)
    have HB3 := hid hb3
    rcases hp with ⟨hn, rfl⟩ | ⟨fs, bf, rfl, hbf, hall, hinv, hst⟩
    · have HE5 : Hid (IsErr s 5) := hid (.inr (.inr ⟨HE.out, by rw [HL.out, HLL.out]; exact hn, rfl⟩))
      clear hn bx bo hb3
      go_wp2_with fail
      exact bodyPost_ret (v := .tuple #[.agg #[.int .i64 0, .slice none 0 0], .slice none 0 0, .int .i64 5]) (by simp [results, Tryd.results50, go_sem, x0, x1]) rfl ⟨two_set hb4, .inl ⟨5, by decide, HE5.out, rfl⟩⟩
    · obtain ⟨px, po, pz⟩ := box_cells (hb3.mono (by rw [alloc_size]; omega))
      have y0 := px 0
      have y1 := px 1
      simp only [List.getElem?_toArray, List.getElem?_cons_zero, List.getElem?_cons_succ] at y0 y1
      have hbf2 : w2.heap.size + 1 ≤ bf := by rw [alloc_size] at hbf; exact hbf
      have HALL := hid hall
      have HINV := hid hinv
      have HST := hid hst
      have HWT := hid (still_wt HW.out hinv.ok hst hinv.cov)
      have HCI := hid (HAT.out.same ((hb3.block g (by rw [alloc_size]; omega)).trans (Below.heap_alloc w2 _ _ hg2)))
      clear hall hinv hst hbf bx bo px po hb3 HB3 pz
      go_wp2_with fail
      refine bodyPost_ret (v := .tuple #[.agg #[.int .i64 L, .slice (some ⟨g, 0, none⟩) l.length cap], .slice (some ⟨bf, 0, none⟩) l.length l.length, .int .i64 0]) (by simp [results, Tryd.results50, go_sem, x0, x1]) rfl ⟨two_set hb4, .inr ?_⟩
      have hs0 : ∀ b u v, b ≠ w.heap.size → ((w3.setCell ⟨w.heap.size, 0, none⟩ u).setCell ⟨w.heap.size, 1, none⟩ v).heap[b]? = w3.heap[b]? := fun b u v h => by
        rw [Below.heap_setCell _ _ _ _ h, Below.heap_setCell _ _ _ _ h]
      refine ⟨g, cap, bf, fs, by rw [HL.out, HLL.out], ⟨HE.out, by rw [HL.out, HLL.out]; exact HWT.out, by omega, by simp [World.setCell]; omega, by rw [HL.out]; exact HCI.out.same (hs0 _ _ _ (by omega)), by omega, (hs0 _ _ _ (by omega)).trans HALL.out, by rw [HL.out, HLL.out]; exact HINV.out, by rw [HL.out]; exact HST.out⟩⟩
def TCheckPost (s : ByteArray) (w : World) (e : Ending) (w' : World) : Prop := Below w.heap.size w w' ∧ ∃ r : Nat, e = .returned (.int .i64 r) ∧ IsErr s r
set_option maxRecDepth 100000 in
set_option maxHeartbeats 1000000 in
theorem tcheck_any (s : ByteArray) (w : World) (hs : s.size ≤ maxLen) (htab : FlowTab w) :
    Calls Tryd.prog 27 #[.string s] w (TCheckPost s w) := by
  have hld := hid (tload_any s w hs htab)
  clear hs htab
  go_enter Tryd.func27, Tryd.ntmps27
  go_wp2_with fail
  refine hld.out.mono ?_
  clear hld
  intro x w2 hp
  obtain ⟨hb, hp⟩ := hp
  have hz := hb.size
  have HB := hid hb
  clear hb
  rcases hp with ⟨r, hr, he, rfl⟩ | ⟨g, cap, bf, fs, rfl, hL⟩
  · have HE := hid he
    clear he hr
    go_wp2_with fail
    go_ret
    exact ⟨HB.out.alloc hz _, r, rfl, HE.out⟩
  · have HE : Hid (IsErr s 0) := hid (.inr (.inl ⟨hL.err, hL.wt, rfl⟩))
    clear hL
    go_wp2_with fail
    go_ret
    exact ⟨HB.out.alloc hz _, 0, rfl, HE.out⟩
end Go.Proofs.YtdmdpindonghdabDoor
namespace Go.Proofs.YtdmdpindonghdabDoor
open Go.RowKit
theorem below5 {wr w5 : World} {o : Obj} (hb : Below (wr.alloc o).drew.heap.size (wr.alloc o).drew w5) : Below wr.heap.size wr w5 :=
  ((Below.refl _ _).alloc (Nat.le_refl _) o).trans (⟨hb.os, hb.tape, hb.output, hb.size, fun k hk => hb.block k (by simp [World.drew]; omega)⟩)
def mapsF (l : List Ins) (fs : List Fr) (L : Nat) : List MP := List.zipWith (fun i f => ptF i.place f L) l fs
end Go.Proofs.YtdmdpindonghdabDoor
namespace Go.Proofs.YtdmdpindonghdabDoor
open Go.RowKit
theorem lk_le (b : ByteArray) (j : Nat) : lk b j ≤ 1 := by unfold lk kindN; split <;> omega
theorem codes_lk {b : ByteArray} {j : Nat} (h : j < b.size) : (codes b).getD j 0 = lk b j := codes_get h
theorem zip_getL {a b : List Nat} {L j : Nat} (ha : a.length = L) (hb : b.length = L) (hj : j < L) : (List.zipWith joinN a b).getD j 0 = joinN (a.getD j 0) (b.getD j 0) := by
  have h1 : j < a.length := by omega
  have h2 : j < b.length := by omega
  simp [List.getD_eq_getElem?_getD, List.getElem?_zipWith, List.getElem?_eq_getElem h1, List.getElem?_eq_getElem h2]
theorem list_ext {a b : List Nat} {L : Nat} (ha : a.length = L) (hb : b.length = L) (h : ∀ j, j < L → a.getD j 0 = b.getD j 0) : a = b := by
  apply List.ext_getElem (by omega)
  intro j h1 h2
  have := h j (by omega)
  simpa [List.getD_eq_getElem?_getD, List.getElem?_eq_getElem h1, List.getElem?_eq_getElem h2] using this
structure TS (k L : Nat) (all : List Pt) (a : Ac) : Prop where
  no : a.r = false → ∀ p ∈ all, p.at_ ≠ k
  len : a.r = true → a.lo.length = L
  st : a.r = true → ∃ p ∈ all, p.at_ = k ∧ a.st = codes p.st
  wit : a.r = true → ∀ j, j < L → (∃ p ∈ all, p.at_ = k ∧ a.lo.getD j 0 = lk p.lo j) ∨ (a.lo.getD j 0 = 2 ∧ ∃ p ∈ all, ∃ q ∈ all, p.at_ = k ∧ q.at_ = k ∧ lk p.lo j ≠ lk q.lo j)
  cov : a.r = true → ∀ j, j < L → ∀ p ∈ all, p.at_ = k → a.lo.getD j 0 = lk p.lo j ∨ a.lo.getD j 0 = 2
theorem TS.step {k L : Nat} {all : List Pt} {a : Ac} (h : TS k L all a) {p : Pt} (hp : p.lo.size = L) : TS k L (all ++ [p]) (toldS k a p) := by
  unfold toldS
  by_cases e : p.at_ = k
  · rw [if_pos e]
    have hcl : (codes p.lo).length = L := by rw [codes_len, hp]
    unfold baseA
    cases hr : a.r
    · rw [if_neg (by simp)]
      have hno := h.no hr
      have hg : ∀ j, j < L → (List.zipWith joinN (codes p.lo) (codes p.lo)).getD j 0 = lk p.lo j := fun j hj => by
        rw [zip_getL hcl hcl hj, joinN_eq rfl, codes_lk (by omega)]
      refine ⟨fun h => by (cases h), fun _ => by simp [hcl], fun _ => ⟨p, by simp, e, rfl⟩, fun _ j hj => .inl ⟨p, by simp, e, hg j hj⟩, fun _ j hj q hq hqk => ?_⟩
      rw [List.mem_append, List.mem_singleton] at hq
      rcases hq with hq | rfl
      · exact absurd hqk (hno q hq)
      · exact .inl (hg j hj)
    · rw [if_pos rfl]
      have hal := h.len hr
      have hg : ∀ j, j < L → (List.zipWith joinN a.lo (codes p.lo)).getD j 0 = joinN (a.lo.getD j 0) (lk p.lo j) := fun j hj => by
        rw [zip_getL hal hcl hj, codes_lk (by omega)]
      refine ⟨fun h => by (cases h), fun _ => by simp [hcl, hal], fun _ => ?_, fun _ j hj => ?_, fun _ j hj q hq hqk => ?_⟩
      · obtain ⟨q, hq, h1, h2⟩ := h.st hr
        exact ⟨q, by simp [hq], h1, h2⟩
      · simp only
        rw [hg j hj]
        by_cases ej : a.lo.getD j 0 = lk p.lo j
        · rw [joinN_eq ej]
          exact .inl ⟨p, by simp, e, ej⟩
        · rw [joinN_ne ej]
          refine .inr ⟨rfl, ?_⟩
          rcases h.wit hr j hj with ⟨q, hq, h1, h2⟩ | ⟨_, q, hq, q', hq', h1, h2, h3⟩
          · exact ⟨q, by simp [hq], p, by simp, h1, e, by rw [← h2]; exact ej⟩
          · exact ⟨q, by simp [hq], q', by simp [hq'], h1, h2, h3⟩
      · simp only
        rw [hg j hj]
        rw [List.mem_append, List.mem_singleton] at hq
        by_cases ej : a.lo.getD j 0 = lk p.lo j
        · rw [joinN_eq ej]
          rcases hq with hq | rfl
          · exact h.cov hr j hj q hq hqk
          · exact .inl ej
        · rw [joinN_ne ej]; exact .inr rfl
  · rw [if_neg e]
    refine ⟨fun hr q hq => ?_, h.len, fun hr => ?_, fun hr j hj => ?_, fun hr j hj q hq hqk => ?_⟩
    · rw [List.mem_append, List.mem_singleton] at hq
      rcases hq with hq | rfl
      · exact h.no hr q hq
      · exact e
    · obtain ⟨q, hq, h1, h2⟩ := h.st hr
      exact ⟨q, by simp [hq], h1, h2⟩
    · rcases h.wit hr j hj with ⟨q, hq, h1, h2⟩ | ⟨h0, q, hq, q', hq', h1, h2, h3⟩
      · exact .inl ⟨q, by simp [hq], h1, h2⟩
      · exact .inr ⟨h0, q, by simp [hq], q', by simp [hq'], h1, h2, h3⟩
    · rw [List.mem_append, List.mem_singleton] at hq
      rcases hq with hq | rfl
      · exact h.cov hr j hj q hq hqk
      · exact absurd hqk e
theorem ts_all {k L : Nat} (all : List Pt) (h : ∀ p ∈ all, p.lo.size = L) : TS k L all (toldF k all) := by
  suffices hs : ∀ (rest pre : List Pt) (a : Ac), (∀ p ∈ rest, p.lo.size = L) → TS k L pre a → TS k L (pre ++ rest) (rest.foldl (toldS k) a) from by
    have := hs all [] ⟨false, [], []⟩ h ⟨fun _ p hp => by simp at hp, fun h => by (cases h), fun h => by (cases h), fun h => by (cases h), fun h => by (cases h)⟩
    rw [List.nil_append] at this
    exact this
  intro rest
  induction rest with
  | nil => intro pre a _ h; simpa using h
  | cons p r ih =>
    intro pre a hp h
    have := ih (pre ++ [p]) (toldS k a p) (fun q hq => hp q (by simp [hq])) (h.step (hp p (by simp)))
    simpa using this
theorem stk_codes {f : Fr} {st : ByteArray} (h : Stk f (tl st)) : f.stk.take f.depth = codes st := by
  rw [h.stk, h.depth, List.take_append_of_le_length (by simp), List.take_of_length_le (by simp)]
  rfl
theorem told_same {l : List Ins} {L : Nat} (hw : Wf l L) {fs : List Fr} (hinv : SetInv l L fs) (hst : Still l fs) (hwt : WT l L) {all : List Pt} (hall : ∀ p, Reach l L p ↔ p ∈ all) {k : Nat} {i : Ins} {f : Fr} (hi : l[k]? = some i) (hf : fs[k]? = some f) (pl : Nat) :
    ptF pl f L = ⟨pl, (toldF k all).r, (toldF k all).lo, (toldF k all).st⟩ := by
  have hts : TS k L all (toldF k all) := ts_all all (fun p hp => (reach_ok hw ((hall p).2 hp)).lo)
  have hnone := toldF_none k all
  have hfo := hinv.ok f (List.mem_of_getElem? hf)
  have hL := hw.loc
  have hcov : ∀ lo st, At l L k lo st → Cov f lo st := fun lo st h => by
    obtain ⟨f', h1, h2⟩ := still_all hw hinv.ok hst hinv.cov h
    have : some f' = some f := h1.symm.trans hf
    cases this
    exact h2
  have hin : ∀ p ∈ all, p.at_ = k → At l L k p.lo p.st := fun p hp e => by
    have := (hall p).2 hp
    obtain ⟨a, b, c⟩ := p
    simp only at e
    subst e
    exact this
  have hout : ∀ lo st, At l L k lo st → (⟨k, lo, st⟩ : Pt) ∈ all := fun lo st h => (hall _).1 h
  generalize toldF k all = A at *
  unfold ptF
  cases hr : f.reached
  · rw [if_neg (by simp)]
    have har : A.r = false := by
      cases e : A.r
      · rfl
      · obtain ⟨p, hp, h1, _⟩ := hts.st e
        have := (hcov _ _ (hin p hp h1)).reached
        rw [hr] at this; cases this
    obtain ⟨e1, e2⟩ := hnone har
    rw [har, e1, e2]
  · rw [if_pos rfl]
    have hwit := hinv.sound hwt k f hf hr
    obtain ⟨lo0, st0, h0, hs0⟩ := hwit.one
    have har : A.r = true := by
      cases e : A.r
      · exact absurd rfl (hts.no e _ (hout _ _ h0))
      · rfl
    have est : f.stk.take f.depth = A.st := by
      obtain ⟨p, hp, h1, h2⟩ := hts.st har
      rw [h2, stk_codes hs0]
      have := (calm_st (p := ⟨k, lo0, st0⟩) (q := ⟨k, p.lo, p.st⟩) (hwt.2 _ _ i h0 (hin p hp h1) rfl hi) rfl).1
      simp only at this
      rw [this]
    have elo : f.lo.take L = A.lo := by
      refine list_ext (L := L) (by rw [List.length_take, hfo.lo]; omega) (hts.len har) (fun j hj => ?_)
      have e0 : (f.lo.take L).getD j 0 = f.lo.getD j 0 := by simp [List.getD_eq_getElem?_getD, hj]
      rw [e0]
      rcases hwit.lo j (by omega) with ⟨lo1, st1, h1, e1⟩ | ⟨e1, lo1, st1, lo2, st2, h1, h2, e2⟩
      · rcases hts.cov har j hj _ (hout _ _ h1) rfl with h | h
        · rw [e1]; exact h.symm
        · exfalso
          have l1 := lk_le lo1 j
          rcases hts.wit har j hj with ⟨p, _, _, h3⟩ | ⟨_, p, hp, q, hq, hpk, hqk, h3⟩
          · have := lk_le p.lo j; omega
          · apply h3
            have cp := (hcov _ _ (hin p hp hpk)).lo j (by omega)
            have cq := (hcov _ _ (hin q hq hqk)).lo j (by omega)
            rcases cp with cp | cp
            · rcases cq with cq | cq
              · rw [← cp, ← cq]
              · omega
            · omega
      · rw [e1]
        rcases hts.cov har j hj _ (hout _ _ h1) rfl with h | h
        · rcases hts.cov har j hj _ (hout _ _ h2) rfl with h' | h'
          · exact absurd (h.symm.trans h') e2
          · exact h'.symm
        · exact h.symm
    rw [har, est, elo]
theorem maps_same {l : List Ins} {L : Nat} (hw : Wf l L) {fs : List Fr} (hinv : SetInv l L fs) (hst : Still l fs) (hwt : WT l L) {all : List Pt} (hall : ∀ p, Reach l L p ↔ p ∈ all) : mapsF l fs L = toldAll l all := by
  have hlen := hinv.len
  apply List.ext_getElem
  · simp [mapsF, toldAll]; omega
  · intro k h1 h2
    have hk : k < l.length := by simpa [toldAll] using h2
    have hk2 : k < fs.length := by omega
    simp only [mapsF, List.getElem_zipWith, toldAll, List.getElem_map, List.getElem_range, toldM]
    rw [told_same hw hinv hst hwt hall (List.getElem?_eq_getElem hk) (List.getElem?_eq_getElem hk2) l[k].place]
    simp [List.getD_eq_getElem?_getD, hk]
end Go.Proofs.YtdmdpindonghdabDoor
namespace Go.Proofs.YtdmdpindonghdabDoor
open Go.RowKit
/-- What a machine has that no step changes: its code, what Maps tells, its inputs, its number of cells. -/
structure Env where
  l : List Ins
  L : Nat
  ms : List MP
  zs : List Int
  n : Nat
def tysAt (E : Env) (k : Nat) : List Nat × List Nat := match E.ms[k]? with | some m => (m.lo, m.st) | none => ([], [])
def slotsC (tys : List Nat) (ws : List (Bool × Int)) : List (Nat × Int) := List.zipWith (fun t (x : Bool × Int) => (t, slotV t x.2)) tys ws
def locsS (E : Env) (s : MS) : List (Nat × Int) := slotsC (tysAt E s.at_).1 s.lo
def stkS (E : Env) (s : MS) : List (Nat × Int) := slotsC (tysAt E s.at_).2 s.st
def rootsS (E : Env) (s : MS) : List Int := rootsC (locsS E s ++ stkS E s)
def noRC : RC := ⟨false, false, false, false, -1, -1, 0⟩
def cellAt (cs : List RC) (r : Int) : RC := cs.getD r.toNat noRC
def cutS (s : MS) (k : Nat) : List (Bool × Int) := s.st.take (s.st.length - k)
def weakS (a : Int) (c : RC) : RC := { c with weak := true, a := a }
def noteS (v : Int) (c : RC) : RC := { c with num := v }
/-- What an instruction on cells does. -/
def touchS (i : Ins) (cell : Int) (s : MS) : MS :=
  if i.op = 13 then { s with st := s.st ++ [(true, cell)] }
  else if i.op = 23 then { s with hs := (s.hs.1.modify cell.toNat (weakS (lastW s.st 0).2), s.hs.2), st := cutS s 1 ++ [(true, cell)] }
  else if i.op = 14 ∨ i.op = 24 then { s with st := cutS s 1 ++ [(true, if i.n = 0 then (cellAt s.hs.1 (lastW s.st 0).2).a else (cellAt s.hs.1 (lastW s.st 0).2).b)] }
  else if i.op = 16 then { s with st := cutS s 1 ++ [(false, (cellAt s.hs.1 (lastW s.st 0).2).num)] }
  else if i.op = 17 then { s with hs := (s.hs.1.modify (lastW s.st 1).2.toNat (noteS (lastW s.st 0).2), s.hs.2), st := cutS s 2 }
  else if i.op = 15 then { s with hs := (storeC s.hs.1 s.hs.2.1 (lastW s.st 1).2.toNat i.n (lastW s.st 0).2, s.hs.2), st := cutS s 2 }
  else s
/-- What an instruction does to locals, stack, cells, inputs, output. -/
def doesS (E : Env) (i : Ins) (cell : Int) (s : MS) : MS :=
  if i.op = 1 then { s with st := s.st ++ [(false, ((i.n : Int) + 128) % 256 - 128)] }
  else if i.op = 2 ∨ i.op = 3 ∨ i.op = 4 ∨ i.op = 5 ∨ i.op = 6 ∨ i.op = 18 then { s with st := cutS s 2 ++ [(false, sumC i.op (lastW s.st 1).2 (lastW s.st 0).2)] }
  else if i.op = 7 then { s with st := s.st ++ [s.lo.getD i.n (false, 0)] }
  else if i.op = 8 then { s with lo := s.lo.set i.n (lastW s.st 0), st := cutS s 1 }
  else if i.op = 9 then { s with st := s.st ++ [lastW s.st 0] }
  else if i.op = 10 ∨ i.op = 20 then { s with st := cutS s 1 }
  else if i.op = 11 then { s with st := cutS s 2 ++ [lastW s.st 0, lastW s.st 1] }
  else if i.op = 12 then { s with st := s.st ++ [(true, -1)] }
  else if i.op = 21 then (if s.rd < E.zs.length then { s with rd := s.rd + 1, st := s.st ++ [(false, E.zs.getD s.rd 0)] } else { s with st := s.st ++ [(false, 0)] })
  else if i.op = 22 then { s with out := s.out ++ [(lastW s.st 0).2], st := cutS s 1 }
  else touchS i cell s
def toS (E : Env) (i : Ins) (s : MS) : Nat := if i.op = 19 ∨ i.op = 20 ∧ (lastW s.st 0).2 ≠ 0 then (findP i.n E.l 0).toNat else s.at_ + 1
def goS (E : Env) (i : Ins) (cell : Int) (s : MS) : MS := { doesS E i cell s with at_ := toS E i s }
/-- A step at an instruction. -/
def stepI (E : Env) (i : Ins) (s : MS) : MS :=
  if endsC s.hs.1 s.st i.op = 1 then { s with oc := 1, va := (lastW s.st 0).2 }
  else if endsC s.hs.1 s.st i.op ≠ 0 then { s with oc := (endsC s.hs.1 s.st i.op).toNat }
  else if i.op = 13 ∨ i.op = 23 then
    (if (takeC (rootsS E s) s.hs).1 < 0 then { s with oc := 5, hs := (takeC (rootsS E s) s.hs).2 }
     else goS E i (takeC (rootsS E s) s.hs).1 { s with hs := (takeC (rootsS E s) s.hs).2 })
  else goS E i (-1) s
def stepS (E : Env) (s : MS) : MS := match E.l[s.at_]? with | none => s | some i => stepI E i s
/-- Units of the collector's. -/
def collS (E : Env) (n : Nat) (s : MS) : MS := { s with hs := unitsC (rootsS E s) n s.hs }
/-- The point at which a machine stands. -/
def letB (b : Bool) : UInt8 := if b = true then 114 else 105
def flagB (ws : List (Bool × Int)) : ByteArray := ⟨(ws.map (fun x => letB x.1)).toArray⟩
def ptOf (s : MS) : Pt := ⟨s.at_, flagB s.lo, flagB s.st⟩
theorem tl_flag (ws : List (Bool × Int)) : tl (flagB ws) = ws.map (fun x => letB x.1) := rfl
theorem size_flag (ws : List (Bool × Int)) : (flagB ws).size = ws.length := by
  have := tl_len (flagB ws)
  rw [tl_flag, List.length_map] at this
  exact this.symm
theorem code_let (b : Bool) : code8 (letB b) = if b = true then 1 else 0 := by cases b <;> rfl
def kindB (b : Bool) : Nat := if b = true then 1 else 0
theorem codes_flag (ws : List (Bool × Int)) : codes (flagB ws) = ws.map (fun x => kindB x.1) := by
  unfold codes
  rw [tl_flag, List.map_map]
  apply List.map_congr_left
  intro x _
  exact code_let x.1
structure EnvOk (E : Env) : Prop where
  wf : Wf E.l E.L
  wt : WT E.l E.L
  n0 : ∀ i ∈ E.l, takesB i.op = false → i.n = 0
  len : E.ms.length = E.l.length
  place : ∀ (k : Nat) (i : Ins) (m : MP), E.l[k]? = some i → E.ms[k]? = some m → m.place = i.place
  tys : ∀ p, Reach E.l E.L p → ∃ m : MP, E.ms[p.at_]? = some m ∧ m.reached = true ∧ m.st = codes p.st ∧ m.lo.length = E.L ∧ ∀ j, j < E.L → m.lo.getD j 0 = lk p.lo j ∨ m.lo.getD j 0 = 2
  n1 : 1 ≤ E.n
  n32 : E.n ≤ 32
structure MInv (E : Env) (s : MS) : Prop where
  reach : Reach E.l E.L (ptOf s)
  refs : ∀ x ∈ s.lo ++ s.st, x.1 = true → -1 ≤ x.2 ∧ x.2 < (E.n : Int)
  hok : OkS s.hs
  hx : HpX s.hs.1 s.hs.2.1
  n : s.hs.1.length = E.n
  rd : s.rd ≤ E.zs.length
  oc : s.oc ≤ 5
theorem MInv.okp {E : Env} (he : EnvOk E) {s : MS} (h : MInv E s) : Okp E.l E.L (ptOf s) := reach_ok he.wf h.reach
theorem MInv.lo {E : Env} (he : EnvOk E) {s : MS} (h : MInv E s) : s.lo.length = E.L := by
  have := (h.okp he).lo
  rw [show (ptOf s).lo = flagB s.lo from rfl, size_flag] at this
  exact this
theorem MInv.st {E : Env} (he : EnvOk E) {s : MS} (h : MInv E s) : s.st.length ≤ 8 := by
  have := (h.okp he).st
  rw [show (ptOf s).st = flagB s.st from rfl, size_flag] at this
  exact this
theorem MInv.lt {E : Env} (he : EnvOk E) {s : MS} (h : MInv E s) : s.at_ < E.l.length := (h.okp he).at_
/-- The types at the instruction. -/
structure TysOk (E : Env) (s : MS) (m : MP) : Prop where
  get : E.ms[s.at_]? = some m
  st : m.st = s.st.map (fun x => kindB x.1)
  lol : m.lo.length = s.lo.length
  lo : ∀ j (h : j < s.lo.length), m.lo.getD j 0 = kindB s.lo[j].1 ∨ m.lo.getD j 0 = 2
  reached : m.reached = true
theorem MInv.tys {E : Env} (he : EnvOk E) {s : MS} (h : MInv E s) : ∃ m, TysOk E s m := by
  obtain ⟨m, h1, h2, h3, h4, h5⟩ := he.tys _ h.reach
  have hl := h.lo he
  refine ⟨m, h1, ?_, by rw [h4, hl], ?_, h2⟩
  · rw [h3]; exact codes_flag s.st
  · intro j hj
    rcases h5 j (by omega) with e | e
    · left
      rw [e, ← codes_lk (show j < (ptOf s).lo.size by show j < (flagB s.lo).size; rw [size_flag]; exact hj)]
      show (codes (flagB s.lo)).getD j 0 = _
      rw [codes_flag, List.getD_eq_getElem?_getD, List.getElem?_map, List.getElem?_eq_getElem hj]
      rfl
    · exact .inr e
theorem zipRefs {tys : List Nat} {ws : List (Bool × Int)} (h : ∀ j (hj : j < ws.length), tys.getD j 0 = kindB ws[j].1 ∨ tys.getD j 0 = 2) {N : Int} (hw : ∀ x ∈ ws, x.1 = true → -1 ≤ x.2 ∧ x.2 < N) : ∀ r ∈ rootsC (slotsC tys ws), -1 ≤ r ∧ r < N := by
  intro r hr
  unfold rootsC slotsC at hr
  obtain ⟨x, hx, rfl⟩ := List.mem_map.1 hr
  obtain ⟨hx1, hx2⟩ := List.mem_filter.1 hx
  obtain ⟨j, hj, e⟩ := List.mem_iff_getElem.1 hx1
  rw [List.length_zipWith] at hj
  rw [List.getElem_zipWith] at e
  subst e
  have hjw : j < ws.length := by omega
  have hjt : j < tys.length := by omega
  have hg := h j hjw
  rw [List.getD_eq_getElem?_getD, List.getElem?_eq_getElem hjt] at hg
  simp only [Option.getD_some] at hg
  simp only [beq_iff_eq] at hx2
  have hb : ws[j].1 = true := by
    rcases hg with e | e
    · rw [hx2] at e
      unfold kindB at e
      by_cases hb : ws[j].1 = true
      · exact hb
      · rw [if_neg hb] at e; omega
    · omega
  simp only
  unfold slotV
  rw [if_neg (by omega)]
  exact hw _ (List.getElem_mem hjw) hb
theorem MInv.roots {E : Env} (he : EnvOk E) {s : MS} (h : MInv E s) : ∀ r ∈ rootsS E s, -1 ≤ r ∧ r < (E.n : Int) := by
  obtain ⟨m, hm⟩ := h.tys he
  intro r hr
  unfold rootsS locsS stkS tysAt at hr
  rw [hm.get, rootsC_append] at hr
  rcases List.mem_append.1 hr with hr | hr
  · exact zipRefs hm.lo (fun x hx => h.refs x (List.mem_append_left _ hx)) r hr
  · refine zipRefs (fun j hj => .inl ?_) (fun x hx => h.refs x (List.mem_append_right _ hx)) r hr
    show m.st.getD j 0 = _
    rw [hm.st, List.getD_eq_getElem?_getD, List.getElem?_map, List.getElem?_eq_getElem hj]
    rfl
theorem MInv.rootsLen {E : Env} (he : EnvOk E) {s : MS} (h : MInv E s) : (rootsS E s).length ≤ 1000 := by
  have h1 := rootsC_len (locsS E s ++ stkS E s)
  have h2 := h.lo he
  have h3 := h.st he
  have h4 := he.wf.loc
  have h5 : (locsS E s).length ≤ s.lo.length := by unfold locsS slotsC; rw [List.length_zipWith]; omega
  have h6 : (stkS E s).length ≤ s.st.length := by unfold stkS slotsC; rw [List.length_zipWith]; omega
  rw [List.length_append] at h1
  unfold rootsS
  omega
end Go.Proofs.YtdmdpindonghdabDoor
namespace Go.Proofs.YtdmdpindonghdabDoor
open Go.RowKit
structure HOk (n : Nat) (h : HSt) : Prop where
  ok : OkS h
  x : HpX h.1 h.2.1
  len : h.1.length = n
theorem HOk.unit {n : Nat} {h : HSt} (k : HOk n h) (rs : List Int) : HOk n (stepC rs h) := ⟨k.ok.step rs, k.x.unit rs, by show (unitC _ _ _ _).1.length = n; rw [unitC_len]; exact k.len⟩
theorem HOk.units {n : Nat} {h : HSt} (k : HOk n h) (rs : List Int) : ∀ m, HOk n (unitsC rs m h)
  | 0 => k
  | m + 1 => (HOk.units k rs m).unit rs
theorem toIdle_ind {rs : List Int} {P : HSt → Prop} (hP : ∀ h, P h → P (stepC rs h)) : ∀ (m : Nat) (h : HSt), P h → P (toIdle rs m h)
  | 0, _, k => k
  | m + 1, h, k => by
    simp only [toIdle]
    split
    · exact k
    · exact toIdle_ind hP m _ (hP h k)
theorem idleC_ind {rs : List Int} {P : HSt → Prop} (hP : ∀ h, P h → P (stepC rs h)) {h : HSt} (k : P h) : P (idleC rs h) := toIdle_ind hP _ h k
theorem HOk.idle {n : Nat} {h : HSt} (k : HOk n h) (rs : List Int) : HOk n (idleC rs h) := idleC_ind (P := HOk n) (fun _ k => k.unit rs) k
theorem toIdle_zero {rs : List Int} : ∀ (m : Nat) (h : HSt), OkS h → muC h ≤ m → (toIdle rs m h).2.1 = 0
  | 0, h, ok, hm => by
    by_cases e : h.2.1 = 0
    · exact e
    · have := mu_dec ok e rs; omega
  | m + 1, h, ok, hm => by
    simp only [toIdle]
    by_cases e : h.2.1 = 0
    · rw [if_pos e]; exact e
    · rw [if_neg e]
      have := mu_dec ok e rs
      exact toIdle_zero m _ (ok.step rs) (by omega)
theorem idleC_phase {rs : List Int} {h : HSt} (ok : OkS h) : (idleC rs h).2.1 = 0 := toIdle_zero _ h ok (Nat.le_refl _)
theorem fresh_ok (d : Bool) : CellOk (freshC d) := ⟨fun h => by (cases h), by simp [freshC], by simp [freshC], fun h => by (cases h)⟩
theorem fresh_col (d : Bool) : colR (freshC d) = if d = true then 3 else 1 := by cases d <;> rfl
theorem lowC_at {h : HSt} (k : 0 ≤ lowC h) : ∃ hl : (lowC h).toNat < h.1.length, h.1[(lowC h).toNat].used = false := by
  rcases firstP_spec (fun c => !c.used) h.1 0 with e | ⟨j, hj, e, hq⟩
  · unfold lowC at k; omega
  · have e' : lowC h = (j : Int) := by unfold lowC; rw [e]; simp
    have : (lowC h).toNat = j := by omega
    refine ⟨by omega, ?_⟩
    simp only [this]
    simpa using hq
theorem HOk.set {n : Nat} {h : HSt} (k : HOk n h) (j : Nat) (c : RC) (hc : CellOk c) (hr : c.a < (n : Int) ∧ c.b < (n : Int)) (h2 : h.2.1 = 2 → colR c ≠ 2) : HOk n (h.1.set j c, h.2) := by
  refine ⟨?_, ⟨?_, ?_⟩, by simp [k.len]⟩
  · refine ⟨by simpa using k.ok.pos, by simpa using k.ok.len, ?_, k.ok.phz, by simpa using k.ok.hand, k.ok.nohand⟩
    intro d hd
    simp only [List.length_set]
    rcases List.mem_or_eq_of_mem_set hd with e | e
    · exact k.ok.refs d e
    · subst e; rw [k.len]; exact hr
  · intro d hd
    rcases List.mem_or_eq_of_mem_set hd with e | e
    · exact k.x.cell d e
    · subst e; exact hc
  · intro e2 d hd
    rcases List.mem_or_eq_of_mem_set hd with e | e
    · exact k.x.nogrey e2 d e
    · subst e; exact h2 e2
theorem HOk.modify {n : Nat} {h : HSt} (k : HOk n h) (j : Nat) (f : RC → RC) (hf : ∀ c ∈ h.1, c.a < (n : Int) → c.b < (n : Int) → CellOk c → h.1[j]? = some c → CellOk (f c) ∧ (f c).a < (n : Int) ∧ (f c).b < (n : Int) ∧ colR (f c) = colR c) : HOk n (h.1.modify j f, h.2) := by
  by_cases hj : j < h.1.length
  · rw [modify_set hj]
    have hm := List.getElem_mem hj
    have hr := k.ok.refs _ hm
    rw [k.len] at hr
    obtain ⟨a1, a2, a3, a4⟩ := hf _ hm hr.1 hr.2 (k.x.cell _ hm) (List.getElem?_eq_getElem hj)
    exact k.set j _ a1 ⟨a2, a3⟩ (fun e => by rw [a4]; exact k.x.nogrey e _ hm)
  · rw [List.modify_eq_self (by omega)]; exact k
theorem HOk.begin {n : Nat} {h : HSt} (k : HOk n h) : HOk n (beginC h).2 :=
  k.set _ _ (fresh_ok _) (by have := k.ok.pos; have := k.len; simp only [freshC]; omega) (fun _ => by rw [fresh_col]; split <;> omega)
theorem HOk.take {n : Nat} {h : HSt} (k : HOk n h) (rs : List Int) : HOk n (takeC rs h).2 ∧ (takeC rs h).1 < (n : Int) ∧ -1 ≤ (takeC rs h).1 := by
  have hb : ∀ {q : HSt}, HOk n q → 0 ≤ lowC q → HOk n (beginC q).2 ∧ (beginC q).1 < (n : Int) ∧ -1 ≤ (beginC q).1 := fun {q} kq hq => ⟨kq.begin, by
    obtain ⟨hl, _⟩ := lowC_at hq
    rw [kq.len] at hl
    show lowC q < _
    omega, by show -1 ≤ lowC q; omega⟩
  unfold takeC
  split
  · exact hb k (by assumption)
  split
  · exact hb (k.idle rs) (by assumption)
  split
  · exact hb (((k.idle rs).unit rs).idle rs) (by assumption)
  · exact ⟨((k.idle rs).unit rs).idle rs, by have := k.ok.pos; have := k.len; simp only; omega, by simp⟩
theorem reachC_one (cs : List RC) (r : Int) : reachC cs [r] = if 0 ≤ r then cs.modify r.toNat markC else cs := rfl
theorem HOk.reach1 {n : Nat} {h : HSt} (k : HOk n h) (h1 : h.2.1 ≠ 2) (r : Int) : HOk n (reachC h.1 [r], h.2) := by
  rw [reachC_one]
  split
  · by_cases hj : r.toNat < h.1.length
    · rw [modify_set hj]
      have hm := List.getElem_mem hj
      have hr := k.ok.refs _ hm
      rw [k.len] at hr
      exact k.set _ _ (k.x.cell _ hm).mark hr (fun e => absurd e h1)
    · rw [List.modify_eq_self (by omega)]; exact k
  · exact k
theorem setAB_fix (m : Nat) (v : Int) (c : RC) : colR (setAB m v c) = colR c ∧ (setAB m v c).used = c.used ∧ (setAB m v c).weak = c.weak ∧ (setAB m v c).num = c.num := by
  unfold setAB; split <;> exact ⟨rfl, rfl, rfl, rfl⟩
theorem HOk.store {n : Nat} {h : HSt} (k : HOk n h) (r m : Nat) (v : Int) (hv : -1 ≤ v ∧ v < (n : Int)) (hc : ∀ c, h.1[r]? = some c → c.weak = false) : HOk n (storeC h.1 h.2.1 r m v, h.2) := by
  have k1 : HOk n (h.1.modify r (setAB m v), h.2) := k.modify r _ (fun c _ ha hb ho hg => by
    obtain ⟨e1, _, e3, _⟩ := setAB_fix m v c
    have u2 := hc c hg
    refine ⟨⟨fun _ => by rw [e3, u2], ?_, ?_, fun e => by (rw [e3, u2] at e; cases e)⟩, ?_, ?_, e1⟩
    · unfold setAB; split
      · exact hv.1
      · exact ho.lowA
    · unfold setAB; split
      · exact ho.lowB
      · exact hv.1
    · unfold setAB; split
      · exact hv.2
      · exact ha
    · unfold setAB; split
      · exact hb
      · exact hv.2)
  unfold storeC
  split
  · rename_i e
    exact k1.reach1 (by simp only; omega) v
  · exact k1
theorem HOk.weak {n : Nat} {h : HSt} (k : HOk n h) (r : Nat) (v : Int) (hv : -1 ≤ v ∧ v < (n : Int)) (hc : ∀ c, h.1[r]? = some c → c.used = true ∧ c.b = -1 ∧ c.num = 0) : HOk n (h.1.modify r (weakS v), h.2) :=
  k.modify r _ (fun c _ _ hb _ hg => by
    obtain ⟨u1, u2, u3⟩ := hc c hg
    exact ⟨⟨fun e => by (exact absurd (u1.symm.trans e) (by simp)), hv.1, by show -1 ≤ c.b; omega, fun _ => ⟨u2, u3⟩⟩, hv.2, hb, rfl⟩)
theorem HOk.note {n : Nat} {h : HSt} (k : HOk n h) (r : Nat) (v : Int) (hc : ∀ c, h.1[r]? = some c → c.weak = false) : HOk n (h.1.modify r (noteS v), h.2) :=
  k.modify r _ (fun c _ ha hb ho hg => by
    have u2 := hc c hg
    exact ⟨⟨fun _ => u2, ho.lowA, ho.lowB, fun e => by (exact absurd (u2.symm.trans e) (by simp))⟩, ha, hb, rfl⟩)
end Go.Proofs.YtdmdpindonghdabDoor
namespace Go.Proofs.YtdmdpindonghdabDoor
open Go.RowKit
theorem afterV_std {lo st : ByteArray} {op n : Nat} (h : op ≠ 7 ∧ op ≠ 8 ∧ op ≠ 9 ∧ op ≠ 10 ∧ op ≠ 11) (ht : (afterV lo st op n).2.2 = true) :
    (afterV lo st op n).1 = lo ∧ tl (afterV lo st op n).2.1 = (tl st).take (st.size - (popsL op).length) ++ pushesL op ∧ (popsL op).length ≤ st.size ∧ (tl st).drop (st.size - (popsL op).length) = popsL op := by
  obtain ⟨h7, h8, h9, h10, h11⟩ := h
  have hs : (popsS op).size = (popsL op).length := rfl
  unfold afterV at ht ⊢
  simp only [if_neg h7, if_neg h8, if_neg h9, if_neg h10, if_neg h11] at ht ⊢
  by_cases hk : st.size < (popsS op).size
  · rw [if_pos hk] at ht; cases ht
  rw [if_neg hk] at ht ⊢
  by_cases hx : st.extract (st.size - (popsS op).size) st.size = popsS op
  · rw [if_pos hx]
    have e := congrArg tl hx
    rw [tl_extract] at e
    refine ⟨rfl, ?_, by omega, ?_⟩
    · show tl (_ ++ _) = _
      rw [tl_append, tl_extract]
      simp only [List.drop_zero, Nat.sub_zero]
      rfl
    · rw [List.take_of_length_le (by rw [List.length_drop, tl_len]; omega)] at e
      exact e
  · rw [if_neg hx] at ht; cases ht
/-- The instruction at which a machine stands can be done. -/
structure CanI (E : Env) (s : MS) (i : Ins) : Prop where
  get : E.l[s.at_]? = some i
  ok : (afterV (flagB s.lo) (flagB s.st) i.op i.n).2.2 = true
  le : (afterV (flagB s.lo) (flagB s.st) i.op i.n).2.1.size ≤ 8
theorem MInv.can {E : Env} (he : EnvOk E) {s : MS} (h : MInv E s) : ∃ i, CanI E s i := by
  have hlt := h.lt he
  have hi : E.l[(ptOf s).at_]? = some E.l[s.at_] := List.getElem?_eq_getElem hlt
  have hs := he.wt.1 _ h.reach
  rw [stepP_eq hi] at hs
  have hn : ¬ ((afterV (flagB s.lo) (flagB s.st) E.l[s.at_].op E.l[s.at_].n).2.2 = false ∨ 8 < (afterV (flagB s.lo) (flagB s.st) E.l[s.at_].op E.l[s.at_].n).2.1.size) := by
    intro hc
    exact hs (if_pos hc)
  simp only [not_or, Bool.not_eq_false, Nat.not_lt] at hn
  exact ⟨_, hi, hn.1, hn.2⟩
theorem CanI.mem {E : Env} {s : MS} {i : Ins} (h : CanI E s i) : i ∈ E.l := List.mem_of_getElem? h.get
/-- The words that an instruction pops, and their flags. -/
structure Std (s : MS) (op : Nat) : Prop where
  len : (popsL op).length ≤ s.st.length
  flags : (s.st.drop (s.st.length - (popsL op).length)).map (fun x => letB x.1) = popsL op
theorem CanI.std {E : Env} {s : MS} {i : Ins} (h : CanI E s i) (hn : i.op ≠ 7 ∧ i.op ≠ 8 ∧ i.op ≠ 9 ∧ i.op ≠ 10 ∧ i.op ≠ 11) : Std s i.op := by
  obtain ⟨_, _, h3, h4⟩ := afterV_std hn h.ok
  rw [size_flag] at h3
  rw [tl_flag, size_flag, ← List.map_drop] at h4
  exact ⟨h3, h4⟩
theorem drop_lastW {st : List (Bool × Int)} {k : Nat} (h : k < st.length) : st.drop (st.length - 1 - k) = lastW st k :: st.drop (st.length - k) := by
  have e := lastW_at h
  have hl := (List.getElem?_eq_some_iff.1 e).1
  rw [List.drop_eq_getElem_cons hl, (List.getElem?_eq_some_iff.1 e).2]
  congr 2
  omega
theorem letB_r {b : Bool} (h : letB b = 114) : b = true := by cases b; · exact absurd h (by decide)
                                                              · rfl
theorem letB_i {b : Bool} (h : letB b = 105) : b = false := by cases b; · rfl
                                                               · exact absurd h (by decide)
theorem Std.one {s : MS} {op : Nat} {c : UInt8} (h : Std s op) (e : popsL op = [c]) : 0 < s.st.length ∧ letB (lastW s.st 0).1 = c := by
  have h1 := h.len
  have h2 := h.flags
  rw [e] at h1 h2
  simp only [List.length_cons, List.length_nil] at h1 h2
  have hp : 0 < s.st.length := by omega
  refine ⟨hp, ?_⟩
  rw [show s.st.length - (0 + 1) = s.st.length - 1 - 0 by omega, drop_lastW hp] at h2
  simpa using h2
theorem Std.two {s : MS} {op : Nat} {c d : UInt8} (h : Std s op) (e : popsL op = [c, d]) : 1 < s.st.length ∧ letB (lastW s.st 1).1 = c ∧ letB (lastW s.st 0).1 = d := by
  have h1 := h.len
  have h2 := h.flags
  rw [e] at h1 h2
  simp only [List.length_cons, List.length_nil] at h1 h2
  have hp : 1 < s.st.length := by omega
  refine ⟨hp, ?_⟩
  rw [show s.st.length - (0 + 1 + 1) = s.st.length - 1 - 1 by omega, drop_lastW hp, show s.st.length - 1 = s.st.length - 1 - 0 by omega, drop_lastW (by omega)] at h2
  simpa using h2
theorem lastW_mem {st : List (Bool × Int)} {k : Nat} (h : k < st.length) : lastW st k ∈ st := List.mem_of_getElem? (lastW_at h)
theorem MInv.ref {E : Env} {s : MS} (h : MInv E s) {k : Nat} (hk : k < s.st.length) (hb : (lastW s.st k).1 = true) : -1 ≤ (lastW s.st k).2 ∧ (lastW s.st k).2 < (E.n : Int) := h.refs _ (List.mem_append_right _ (lastW_mem hk)) hb
theorem flag_ext {ws : List (Bool × Int)} {b : ByteArray} (h : ws.map (fun x => letB x.1) = tl b) : flagB ws = b := tl_inj (by rw [tl_flag]; exact h)
theorem flags_last {ws : List (Bool × Int)} {k : Nat} (h : k < ws.length) : tl ((flagB ws).extract ((flagB ws).size - 1 - k) ((flagB ws).size - k)) = [letB (lastW ws k).1] := by
  rw [tl_extract, size_flag, tl_flag, ← List.map_drop, ← List.map_take, drop_lastW h, show ws.length - k - (ws.length - 1 - k) = 1 by omega]
  simp
/-- The flags behind an instruction are its types behind it. -/
theorem does_flags {E : Env} (he : EnvOk E) {s : MS} (h : MInv E s) {i : Ins} (hc : CanI E s i) (h0 : i.op ≠ 0) (cell : Int) :
    flagB (doesS E i cell s).lo = (afterV (flagB s.lo) (flagB s.st) i.op i.n).1 ∧ flagB (doesS E i cell s).st = (afterV (flagB s.lo) (flagB s.st) i.op i.n).2.1 := by
  have hlo := h.lo he
  have hok := hc.ok
  have hsz := size_flag s.st
  by_cases e7 : i.op = 7
  · have hn := he.wf.arg i hc.mem (.inl e7)
    have hnl : i.n < s.lo.length := by omega
    unfold afterV doesS
    simp only [e7, if_pos]
    simp only [reduceIte, show (7 : Nat) ≠ 1 by decide, show ¬ ((7 : Nat) = 2 ∨ (7 : Nat) = 3 ∨ (7 : Nat) = 4 ∨ (7 : Nat) = 5 ∨ (7 : Nat) = 6 ∨ (7 : Nat) = 18) by decide]
    refine ⟨trivial, flag_ext ?_⟩
    rw [tl_append, tl_extract, tl_flag, tl_flag, List.map_append, show i.n + 1 - i.n = 1 by omega, List.drop_eq_getElem_cons (by simpa using hnl)]
    simp [List.getElem?_eq_getElem hnl]
  by_cases e8 : i.op = 8
  · have hn := he.wf.arg i hc.mem (.inr e8)
    have hnl : i.n < s.lo.length := by omega
    unfold afterV at hok ⊢
    unfold doesS
    simp only [e8] at hok ⊢
    simp only [reduceIte, show (8 : Nat) ≠ 1 by decide, show (8 : Nat) ≠ 7 by decide, show ¬ ((8 : Nat) = 2 ∨ (8 : Nat) = 3 ∨ (8 : Nat) = 4 ∨ (8 : Nat) = 5 ∨ (8 : Nat) = 6 ∨ (8 : Nat) = 18) by decide] at hok ⊢
    by_cases hk : (flagB s.st).size < 1
    · rw [if_pos hk] at hok; cases hok
    rw [if_neg hk]
    have hp : 0 < s.st.length := by omega
    have hfl := flags_last hp
    simp only [Nat.sub_zero] at hfl
    refine ⟨flag_ext ?_, flag_ext ?_⟩
    · show (s.lo.set i.n (lastW s.st 0)).map _ = _
      rw [tl_append, tl_append, hfl, tl_extract, tl_extract, tl_flag, List.map_set, Nat.sub_zero, List.drop_zero, size_flag]
      rw [List.take_of_length_le (l := List.drop _ _) (by simp)]
      rw [List.set_eq_take_append_cons_drop, if_pos (by simpa using hnl)]
      simp
    · show (cutS s 1).map _ = _
      rw [tl_extract, tl_flag, size_flag, List.drop_zero, Nat.sub_zero, ← List.map_take]
      rfl
  by_cases e9 : i.op = 9
  · unfold afterV at hok ⊢
    unfold doesS
    simp only [e9] at hok ⊢
    simp only [reduceIte, show (9 : Nat) ≠ 1 by decide, show (9 : Nat) ≠ 7 by decide, show (9 : Nat) ≠ 8 by decide, show ¬ ((9 : Nat) = 2 ∨ (9 : Nat) = 3 ∨ (9 : Nat) = 4 ∨ (9 : Nat) = 5 ∨ (9 : Nat) = 6 ∨ (9 : Nat) = 18) by decide] at hok ⊢
    by_cases hk : (flagB s.st).size < 1
    · rw [if_pos hk] at hok; cases hok
    rw [if_neg hk]
    have hp : 0 < s.st.length := by omega
    have hfl := flags_last hp
    simp only [Nat.sub_zero] at hfl
    refine ⟨rfl, flag_ext ?_⟩
    rw [tl_append, hfl, tl_flag, List.map_append]
    rfl
  by_cases e10 : i.op = 10
  · unfold afterV at hok ⊢
    unfold doesS
    simp only [e10] at hok ⊢
    simp only [reduceIte, show (10 : Nat) ≠ 1 by decide, show (10 : Nat) ≠ 7 by decide, show (10 : Nat) ≠ 8 by decide, show (10 : Nat) ≠ 9 by decide, show ¬ ((10 : Nat) = 2 ∨ (10 : Nat) = 3 ∨ (10 : Nat) = 4 ∨ (10 : Nat) = 5 ∨ (10 : Nat) = 6 ∨ (10 : Nat) = 18) by decide, true_or] at hok ⊢
    by_cases hk : (flagB s.st).size < 1
    · rw [if_pos hk] at hok; cases hok
    rw [if_neg hk]
    refine ⟨rfl, flag_ext ?_⟩
    show (cutS s 1).map _ = _
    rw [tl_extract, tl_flag, size_flag, List.drop_zero, Nat.sub_zero, ← List.map_take]
    rfl
  by_cases e11 : i.op = 11
  · unfold afterV at hok ⊢
    unfold doesS
    simp only [e11] at hok ⊢
    simp only [reduceIte, show (11 : Nat) ≠ 1 by decide, show (11 : Nat) ≠ 7 by decide, show (11 : Nat) ≠ 8 by decide, show (11 : Nat) ≠ 9 by decide, show (11 : Nat) ≠ 10 by decide, show ¬ ((11 : Nat) = 2 ∨ (11 : Nat) = 3 ∨ (11 : Nat) = 4 ∨ (11 : Nat) = 5 ∨ (11 : Nat) = 6 ∨ (11 : Nat) = 18) by decide] at hok ⊢
    by_cases hk : (flagB s.st).size < 2
    · rw [if_pos hk] at hok; cases hok
    rw [if_neg hk]
    have f0 := flags_last (ws := s.st) (k := 0) (by omega)
    have f1 := flags_last (ws := s.st) (k := 1) (by omega)
    simp only [Nat.sub_zero] at f0
    rw [show (flagB s.st).size - 1 - 1 = (flagB s.st).size - 2 by omega] at f1
    refine ⟨rfl, flag_ext ?_⟩
    rw [tl_append, tl_append, f0, f1, tl_extract, tl_flag, size_flag, List.drop_zero, Nat.sub_zero, ← List.map_take]
    show (cutS s 2 ++ [lastW s.st 0, lastW s.st 1]).map _ = _
    simp [cutS]
  obtain ⟨a1, a2, a3, a4⟩ := afterV_std ⟨e7, e8, e9, e10, e11⟩ hok
  rw [size_flag, tl_flag, ← List.map_take] at a2
  have hop := he.wf.op i hc.mem
  suffices hs : (doesS E i cell s).lo = s.lo ∧ (doesS E i cell s).st.map (fun x => letB x.1) = (s.st.take (s.st.length - (popsL i.op).length)).map (fun x => letB x.1) ++ pushesL i.op by
    exact ⟨by rw [hs.1, a1], flag_ext (by rw [hs.2, a2])⟩
  unfold doesS touchS cutS
  have hcases : i.op = 1 ∨ i.op = 2 ∨ i.op = 3 ∨ i.op = 4 ∨ i.op = 5 ∨ i.op = 6 ∨ i.op = 12 ∨ i.op = 13 ∨ i.op = 14 ∨ i.op = 15 ∨ i.op = 16 ∨ i.op = 17 ∨ i.op = 18 ∨ i.op = 19 ∨ i.op = 20 ∨ i.op = 21 ∨ i.op = 22 ∨ i.op = 23 ∨ i.op = 24 := by omega
  rcases hcases with e | e | e | e | e | e | e | e | e | e | e | e | e | e | e | e | e | e | e
  all_goals
    simp only [e, popsL, pushesL]
    simp only [Nat.reduceEqDiff, or_false, or_true, or_self, true_and, if_true, if_false]
  case inr.inr.inr.inr.inr.inr.inr.inr.inr.inr.inr.inr.inr.inr.inr.inl => split <;> simp [letB]
  all_goals simp [letB]
theorem endsC_range {cs : List RC} {st : List (Bool × Int)} {op : Int} : 0 ≤ endsC cs st op ∧ endsC cs st op ≤ 4 := by
  have hw : ∀ r b, 0 ≤ wantsC cs r b ∧ wantsC cs r b ≤ 4 := by
    intro r b
    unfold wantsC
    split
    · omega
    split <;> omega
  unfold endsC
  split
  · omega
  split
  · split <;> omega
  split
  · exact hw _ _
  split
  · exact hw _ _
  split
  · exact hw _ _
  · omega
theorem endsC_halt {cs : List RC} {st : List (Bool × Int)} {op : Int} (h : endsC cs st op ≠ 1) : op ≠ 0 := by
  intro e
  apply h
  unfold endsC
  rw [if_pos e]
theorem wantsC_zero {cs : List RC} {r : Int} {b : Bool} (h : wantsC cs r b = 0) (hr : r < (cs.length : Int)) : 0 ≤ r ∧ ∃ hl : r.toNat < cs.length, cs[r.toNat].weak = b := by
  unfold wantsC at h
  by_cases h0 : r < 0
  · rw [if_pos h0] at h; omega
  rw [if_neg h0] at h
  have hl : r.toNat < cs.length := by omega
  refine ⟨by omega, hl, ?_⟩
  rw [List.getElem?_eq_getElem hl] at h
  by_cases e : cs[r.toNat].weak = b
  · exact e
  · rw [if_neg (by simpa using e)] at h; omega
theorem low_used {h : HSt} (hl : 0 ≤ lowC h) : (beginC h).2.1[(beginC h).1.toNat]? = some (freshC (doneB h.2.1 h.2.2 (lowC h).toNat)) := by
  obtain ⟨hlt, _⟩ := lowC_at hl
  show (h.1.set (lowC h).toNat _)[(lowC h).toNat]? = _
  rw [List.getElem?_set_self hlt]
/-- The cell that is taken is a fresh one. -/
theorem take_fresh {h : HSt} (rs : List Int) (hc : ¬ (takeC rs h).1 < 0) : ∃ d, (takeC rs h).2.1[(takeC rs h).1.toNat]? = some (freshC d) := by
  unfold takeC at hc ⊢
  split
  · exact ⟨_, low_used (by assumption)⟩
  rename_i h1
  rw [if_neg h1] at hc
  split
  · exact ⟨_, low_used (by assumption)⟩
  rename_i h2
  rw [if_neg h2] at hc
  split
  · exact ⟨_, low_used (by assumption)⟩
  rename_i h3
  rw [if_neg h3] at hc
  simp at hc
theorem MInv.hh {E : Env} {s : MS} (h : MInv E s) : HOk E.n s.hs := ⟨h.hok, h.hx, h.n⟩
theorem cut_sub {s : MS} {k : Nat} {x : Bool × Int} (h : x ∈ cutS s k) : x ∈ s.st := List.mem_of_mem_take h
/-- What an instruction leaves: references in range, a heap in order. -/
structure DoneOk (E : Env) (s : MS) : Prop where
  refs : ∀ x ∈ s.lo ++ s.st, x.1 = true → -1 ≤ x.2 ∧ x.2 < (E.n : Int)
  hh : HOk E.n s.hs
  rd : s.rd ≤ E.zs.length
theorem does_ok {E : Env} (he : EnvOk E) {s : MS} {i : Ins} (hlen : s.lo.length = E.L) (hd : DoneOk E s) (hc : CanI E s i) (hends : endsC s.hs.1 s.st i.op = 0) (cell : Int) (hcell : i.op = 13 ∨ i.op = 23 → 0 ≤ cell ∧ cell < (E.n : Int) ∧ ∃ d, s.hs.1[cell.toNat]? = some (freshC d)) : DoneOk E (doesS E i cell s) := by
  have hop := he.wf.op i hc.mem
  have hlo : ∀ {x}, x ∈ s.lo → x.1 = true → -1 ≤ x.2 ∧ x.2 < (E.n : Int) := fun hx => hd.refs _ (List.mem_append_left _ hx)
  have hst : ∀ {x}, x ∈ s.st → x.1 = true → -1 ≤ x.2 ∧ x.2 < (E.n : Int) := fun hx => hd.refs _ (List.mem_append_right _ hx)
  have push : ∀ (k : Nat) (ws : List (Bool × Int)), (∀ x ∈ ws, x.1 = true → -1 ≤ x.2 ∧ x.2 < (E.n : Int)) → ∀ x ∈ s.lo ++ (cutS s k ++ ws), x.1 = true → -1 ≤ x.2 ∧ x.2 < (E.n : Int) := by
    intro k ws hws x hx
    rcases List.mem_append.1 hx with hx | hx
    · exact hlo hx
    rcases List.mem_append.1 hx with hx | hx
    · exact hst (cut_sub hx)
    · exact hws x hx
  have push0 : ∀ (ws : List (Bool × Int)), (∀ x ∈ ws, x.1 = true → -1 ≤ x.2 ∧ x.2 < (E.n : Int)) → ∀ x ∈ s.lo ++ (s.st ++ ws), x.1 = true → -1 ≤ x.2 ∧ x.2 < (E.n : Int) := by
    intro ws hws x hx
    have := push 0 ws hws x
    unfold cutS at this
    rw [Nat.sub_zero, List.take_length] at this
    exact this hx
  have cut : ∀ (k : Nat), ∀ x ∈ s.lo ++ cutS s k, x.1 = true → -1 ≤ x.2 ∧ x.2 < (E.n : Int) := by
    intro k x hx
    exact push k [] (by simp) x (by simpa using hx)
  have hlen8 : ∀ {k : Nat}, k < s.st.length → (lastW s.st k).1 = true → -1 ≤ (lastW s.st k).2 ∧ (lastW s.st k).2 < (E.n : Int) := fun hk => hst (lastW_mem hk)
  have hpos : (0 : Int) < (E.n : Int) := by have := he.n1; omega
  have hN := hd.hh.len
  have crefs : ∀ r, -1 ≤ (cellAt s.hs.1 r).a ∧ (cellAt s.hs.1 r).a < (E.n : Int) ∧ -1 ≤ (cellAt s.hs.1 r).b ∧ (cellAt s.hs.1 r).b < (E.n : Int) := by
    intro r
    unfold cellAt
    rw [List.getD_eq_getElem?_getD]
    by_cases hr : r.toNat < s.hs.1.length
    · rw [List.getElem?_eq_getElem hr]
      have h1 := hd.hh.ok.refs _ (List.getElem_mem hr)
      have h2 := hd.hh.x.cell _ (List.getElem_mem hr)
      rw [hN] at h1
      exact ⟨h2.lowA, h1.1, h2.lowB, h1.2⟩
    · rw [List.getElem?_eq_none (by omega)]
      simp only [Option.getD_none, noRC]
      omega
  by_cases e1 : i.op = 1
  · simp only [doesS, e1, if_true]
    exact ⟨push0 _ (by simp), hd.hh, hd.rd⟩
  by_cases e2 : i.op = 2 ∨ i.op = 3 ∨ i.op = 4 ∨ i.op = 5 ∨ i.op = 6 ∨ i.op = 18
  · simp only [doesS, if_neg e1, if_pos e2]
    exact ⟨push _ _ (by simp), hd.hh, hd.rd⟩
  by_cases e7 : i.op = 7
  · simp only [doesS, if_neg e1, if_neg e2, if_pos e7]
    refine ⟨push0 _ ?_, hd.hh, hd.rd⟩
    have hn := he.wf.arg i hc.mem (.inl e7)
    have hnl : i.n < s.lo.length := by omega
    rw [List.getD_eq_getElem?_getD, List.getElem?_eq_getElem hnl]
    simpa using hlo (List.getElem_mem hnl)
  by_cases e8 : i.op = 8
  · simp only [doesS, if_neg e1, if_neg e2, if_neg e7, if_pos e8]
    have hp : 0 < s.st.length := by
      have := hc.ok
      unfold afterV at this
      rw [if_neg e7, if_pos e8, size_flag] at this
      by_cases hk : s.st.length < 1
      · rw [if_pos hk] at this; cases this
      · omega
    refine ⟨?_, hd.hh, hd.rd⟩
    intro x hx
    rcases List.mem_append.1 hx with hx | hx
    · rcases List.mem_or_eq_of_mem_set hx with hx | hx
      · exact hlo hx
      · rw [hx]; exact hlen8 hp
    · exact hst (cut_sub hx)
  by_cases e9 : i.op = 9
  · simp only [doesS, if_neg e1, if_neg e2, if_neg e7, if_neg e8, if_pos e9]
    have hp : 0 < s.st.length := by
      have := hc.ok
      unfold afterV at this
      rw [if_neg e7, if_neg e8, if_pos e9, size_flag] at this
      by_cases hk : s.st.length < 1
      · rw [if_pos hk] at this; cases this
      · omega
    refine ⟨push0 _ ?_, hd.hh, hd.rd⟩
    simpa using hlen8 hp
  by_cases e10 : i.op = 10 ∨ i.op = 20
  · simp only [doesS, if_neg e1, if_neg e2, if_neg e7, if_neg e8, if_neg e9, if_pos e10]
    exact ⟨cut 1, hd.hh, hd.rd⟩
  by_cases e11 : i.op = 11
  · simp only [doesS, if_neg e1, if_neg e2, if_neg e7, if_neg e8, if_neg e9, if_neg e10, if_pos e11]
    have hp : 1 < s.st.length := by
      have := hc.ok
      unfold afterV at this
      rw [if_neg e7, if_neg e8, if_neg e9, if_neg (fun e => e10 (.inl e)), if_pos e11, size_flag] at this
      by_cases hk : s.st.length < 2
      · rw [if_pos hk] at this; cases this
      · omega
    refine ⟨push _ _ ?_, hd.hh, hd.rd⟩
    intro x hx
    rcases List.mem_cons.1 hx with rfl | hx
    · exact hlen8 (by omega)
    · rw [List.mem_singleton.1 hx]; exact hlen8 hp
  by_cases e12 : i.op = 12
  · simp only [doesS, if_neg e1, if_neg e2, if_neg e7, if_neg e8, if_neg e9, if_neg e10, if_neg e11, if_pos e12]
    refine ⟨push0 _ ?_, hd.hh, hd.rd⟩
    intro x hx
    rw [List.mem_singleton.1 hx]
    simp only
    omega
  by_cases e21 : i.op = 21
  · simp only [doesS, if_neg e1, if_neg e2, if_neg e7, if_neg e8, if_neg e9, if_neg e10, if_neg e11, if_neg e12, if_pos e21]
    split
    · exact ⟨push0 _ (by simp), hd.hh, by simp only; omega⟩
    · exact ⟨push0 _ (by simp), hd.hh, hd.rd⟩
  by_cases e22 : i.op = 22
  · simp only [doesS, if_neg e1, if_neg e2, if_neg e7, if_neg e8, if_neg e9, if_neg e10, if_neg e11, if_neg e12, if_neg e21, if_pos e22]
    exact ⟨cut 1, hd.hh, hd.rd⟩
  have hstd := hc.std ⟨e7, e8, e9, fun e => e10 (.inl e), e11⟩
  simp only [doesS, if_neg e1, if_neg e2, if_neg e7, if_neg e8, if_neg e9, if_neg e10, if_neg e11, if_neg e12, if_neg e21, if_neg e22]
  have hi : ∀ k : Nat, i.op = k → (i.op : Int) = (k : Int) := fun k e => by rw [e]
  by_cases e13 : i.op = 13
  · simp only [touchS, if_pos e13]
    obtain ⟨c1, c2, _⟩ := hcell (.inl e13)
    refine ⟨push0 _ ?_, hd.hh, hd.rd⟩
    intro x hx
    rw [List.mem_singleton.1 hx]
    simp only
    omega
  by_cases e23 : i.op = 23
  · simp only [touchS, if_neg e13, if_pos e23]
    obtain ⟨c1, c2, d, c3⟩ := hcell (.inr e23)
    obtain ⟨hp, hf⟩ := hstd.one (c := 114) (by rw [e23]; rfl)
    refine ⟨push _ _ ?_, hd.hh.weak _ _ (hlen8 hp (letB_r hf)) ?_, hd.rd⟩
    · intro x hx
      rw [List.mem_singleton.1 hx]
      simp only
      omega
    · intro c hcc
      rw [c3] at hcc
      cases hcc
      exact ⟨rfl, rfl, rfl⟩
  by_cases e14 : i.op = 14 ∨ i.op = 24
  · simp only [touchS, if_neg e13, if_neg e23, if_pos e14]
    refine ⟨push _ _ ?_, hd.hh, hd.rd⟩
    have := crefs (lastW s.st 0).2
    intro x hx
    rw [List.mem_singleton.1 hx]
    simp only
    split <;> omega
  by_cases e16 : i.op = 16
  · simp only [touchS, if_neg e13, if_neg e23, if_neg e14, if_pos e16]
    exact ⟨push _ _ (by simp), hd.hh, hd.rd⟩
  by_cases e17 : i.op = 17
  · simp only [touchS, if_neg e13, if_neg e23, if_neg e14, if_neg e16, if_pos e17]
    obtain ⟨hp, hf, _⟩ := hstd.two (c := 114) (d := 105) (by rw [e17]; rfl)
    have hr := hlen8 hp (letB_r hf)
    have hw : wantsC s.hs.1 (lastW s.st 1).2 false = 0 := by rw [← hends, hi 17 e17]; rfl
    obtain ⟨_, hl, hwk⟩ := wantsC_zero hw (by rw [hN]; exact hr.2)
    refine ⟨cut 2, hd.hh.note _ _ ?_, hd.rd⟩
    intro c hcc
    rw [List.getElem?_eq_getElem hl] at hcc
    cases hcc
    exact hwk
  by_cases e15 : i.op = 15
  · simp only [touchS, if_neg e13, if_neg e23, if_neg e14, if_neg e16, if_neg e17, if_pos e15]
    obtain ⟨hp, hf, hf2⟩ := hstd.two (c := 114) (d := 114) (by rw [e15]; rfl)
    have hr := hlen8 hp (letB_r hf)
    have hw : wantsC s.hs.1 (lastW s.st 1).2 false = 0 := by rw [← hends, hi 15 e15]; rfl
    obtain ⟨_, hl, hwk⟩ := wantsC_zero hw (by rw [hN]; exact hr.2)
    refine ⟨cut 2, hd.hh.store _ _ _ (hlen8 (by omega) (letB_r hf2)) ?_, hd.rd⟩
    intro c hcc
    rw [List.getElem?_eq_getElem hl] at hcc
    cases hcc
    exact hwk
  simp only [touchS, if_neg e13, if_neg e23, if_neg e14, if_neg e16, if_neg e17, if_neg e15]
  exact hd
theorem does_oc (E : Env) (i : Ins) (cell : Int) (s : MS) : (doesS E i cell s).oc = s.oc ∧ (doesS E i cell s).va = s.va := by
  unfold doesS touchS
  exact ⟨by simp only [apply_ite MS.oc, ite_self], by simp only [apply_ite MS.va, ite_self]⟩
theorem go_ok {E : Env} (he : EnvOk E) {s s' : MS} {i : Ins} (h : MInv E s) (hc : CanI E s i) (h0 : i.op ≠ 0) (hd : DoneOk E s') (hs : s' = { s with hs := s'.hs }) (hends : endsC s'.hs.1 s'.st i.op = 0) (cell : Int) (hcell : i.op = 13 ∨ i.op = 23 → 0 ≤ cell ∧ cell < (E.n : Int) ∧ ∃ d, s'.hs.1[cell.toNat]? = some (freshC d)) : MInv E (goS E i cell s') := by
  have hlo : s'.lo = s.lo := by rw [hs]
  have hst : s'.st = s.st := by rw [hs]
  have hat : s'.at_ = s.at_ := by rw [hs]
  have hoc : s'.oc = s.oc := by rw [hs]
  have hc' : CanI E s' i := ⟨by rw [hat]; exact hc.get, by rw [hlo, hst]; exact hc.ok, by rw [hlo, hst]; exact hc.le⟩
  have hd' := does_ok he (by rw [hlo]; exact h.lo he) hd hc' hends cell hcell
  have hm : MInv E s' := ⟨by
    have e : ptOf s' = ptOf s := by unfold ptOf; rw [hlo, hst, hat]
    rw [e]; exact h.reach, hd.refs, hd.hh.ok, hd.hh.x, hd.hh.len, hd.rd, by rw [hoc]; exact h.oc⟩
  obtain ⟨f1, f2⟩ := does_flags he hm hc' h0 cell
  refine ⟨?_, hd'.refs, hd'.hh.ok, hd'.hh.x, hd'.hh.len, hd'.rd, by
    show (doesS E i cell s').oc ≤ 5
    rw [(does_oc E i cell s').1, hoc]; exact h.oc⟩
  have hi : E.l[(ptOf s').at_]? = some i := hc'.get
  have hsp := stepP_eq (l := E.l) (p := ptOf s') hi
  rw [if_neg (show ¬ ((afterV (ptOf s').lo (ptOf s').st i.op i.n).2.2 = false ∨ 8 < (afterV (ptOf s').lo (ptOf s').st i.op i.n).2.1.size) by
    simp only [not_or, Bool.not_eq_false, Nat.not_lt]
    exact ⟨hc'.ok, hc'.le⟩)] at hsp
  refine hm.reach.step hsp ?_
  have ept : ptOf (goS E i cell s') = ⟨toS E i s', (afterV (ptOf s').lo (ptOf s').st i.op i.n).1, (afterV (ptOf s').lo (ptOf s').st i.op i.n).2.1⟩ := by
    show (⟨toS E i s', flagB (doesS E i cell s').lo, flagB (doesS E i cell s').st⟩ : Pt) = _
    rw [f1, f2]
    rfl
  rw [ept, List.mem_append]
  unfold toS
  by_cases hj : i.op = 19 ∨ i.op = 20 ∧ (lastW s'.st 0).2 ≠ 0
  · left
    rw [if_pos hj, if_pos (by unfold isJump; rcases hj with e | ⟨e, _⟩ <;> simp [e])]
    exact List.mem_singleton.2 rfl
  · right
    rw [if_neg hj, if_pos ⟨h0, fun e => hj (.inl e)⟩]
    exact List.mem_singleton.2 rfl
theorem endsC_take {cs cs' : List RC} {st : List (Bool × Int)} {op : Nat} (h : op = 13 ∨ op = 23) : endsC cs st op = endsC cs' st op := by
  rcases h with rfl | rfl <;> rfl
theorem MInv.step {E : Env} (he : EnvOk E) {s : MS} (h : MInv E s) : MInv E (stepS E s) := by
  obtain ⟨i, hc⟩ := h.can he
  unfold stepS
  rw [hc.get]
  simp only
  unfold stepI
  have hr := endsC_range (cs := s.hs.1) (st := s.st) (op := i.op)
  by_cases h1 : endsC s.hs.1 s.st i.op = 1
  · rw [if_pos h1]
    exact ⟨h.reach, h.refs, h.hok, h.hx, h.n, h.rd, by simp⟩
  rw [if_neg h1]
  by_cases h2' : endsC s.hs.1 s.st i.op ≠ 0
  · rw [if_pos h2']
    exact ⟨h.reach, h.refs, h.hok, h.hx, h.n, h.rd, by simp only; omega⟩
  rw [if_neg h2']
  have h2 : endsC s.hs.1 s.st i.op = 0 := by omega
  have h0 : i.op ≠ 0 := by
    have := endsC_halt h1
    omega
  by_cases ht : i.op = 13 ∨ i.op = 23
  · rw [if_pos ht]
    obtain ⟨t1, t2, t3⟩ := h.hh.take (rootsS E s)
    by_cases hn : (takeC (rootsS E s) s.hs).1 < 0
    · rw [if_pos hn]
      exact ⟨h.reach, h.refs, t1.ok, t1.x, t1.len, h.rd, by simp⟩
    · rw [if_neg hn]
      refine go_ok he (s := s) (s' := { s with hs := (takeC (rootsS E s) s.hs).2 }) h hc h0 ⟨h.refs, t1, h.rd⟩ rfl ?_ _ (fun _ => ⟨by omega, t2, take_fresh _ hn⟩)
      rw [← h2]
      exact endsC_take ht
  · rw [if_neg ht]
    exact go_ok he h hc h0 ⟨h.refs, h.hh, h.rd⟩ rfl h2 _ (fun e => absurd e ht)
theorem MInv.coll {E : Env} {s : MS} (h : MInv E s) (m : Nat) : MInv E (collS E m s) := by
  have k := h.hh.units (rootsS E s) m
  exact ⟨h.reach, h.refs, k.ok, k.x, k.len, h.rd, h.oc⟩
end Go.Proofs.YtdmdpindonghdabDoor
namespace Go.Proofs.YtdmdpindonghdabDoor
open Go.RowKit
theorem ends_other {cs : List RC} {st : List (Bool × Int)} {op : Nat} (h0 : op ≠ 0) (h5 : op ≠ 5) (h14 : op ≠ 14) (h16 : op ≠ 16) (h24 : op ≠ 24) (h15 : op ≠ 15) (h17 : op ≠ 17) : endsC cs st op = 0 := by
  unfold endsC
  rw [if_neg (by omega), if_neg (by omega), if_neg (by omega), if_neg (by omega), if_neg (by omega)]
theorem step_go {E : Env} {i : Ins} {s : MS} (h : endsC s.hs.1 s.st i.op = 0) (h13 : i.op ≠ 13) (h23 : i.op ≠ 23) : stepI E i s = goS E i (-1) s := by
  unfold stepI
  rw [if_neg (by omega), if_neg (by omega), if_neg (by omega)]
theorem step_halt {E : Env} {i : Ins} {s : MS} (h : i.op = 0) : stepI E i s = { s with oc := 1, va := (lastW s.st 0).2 } := by
  unfold stepI
  rw [if_pos (by unfold endsC; rw [if_pos (by omega)])]
theorem step_trap {E : Env} {i : Ins} {s : MS} (h0 : endsC s.hs.1 s.st i.op ≠ 0) (h1 : endsC s.hs.1 s.st i.op ≠ 1) : stepI E i s = { s with oc := (endsC s.hs.1 s.st i.op).toNat } := by
  unfold stepI
  rw [if_neg h1, if_pos h0]
theorem step_take {E : Env} {i : Ins} {s : MS} (h : i.op = 13 ∨ i.op = 23) : stepI E i s = if (takeC (rootsS E s) s.hs).1 < 0 then { s with oc := 5, hs := (takeC (rootsS E s) s.hs).2 } else goS E i (takeC (rootsS E s) s.hs).1 { s with hs := (takeC (rootsS E s) s.hs).2 } := by
  have he : endsC s.hs.1 s.st i.op = 0 := by
    apply ends_other <;> omega
  unfold stepI
  rw [if_neg (by omega), if_neg (by omega), if_pos h]
theorem to_next {E : Env} {i : Ins} {s : MS} (h19 : i.op ≠ 19) (h20 : i.op ≠ 20) : toS E i s = s.at_ + 1 := by
  unfold toS
  rw [if_neg (by rintro (h | ⟨h, _⟩) <;> omega)]
/-- What a step has done to the machine ahead of its standing. -/
def midS (s t : MS) : MS := { s with rd := t.rd, out := t.out, hs := t.hs }
theorem wants_vals (cs : List RC) (r : Int) (b : Bool) : wantsC cs r b = 0 ∨ wantsC cs r b = 2 ∨ wantsC cs r b = 4 := by
  unfold wantsC
  split
  · exact .inr (.inl rfl)
  split
  · exact .inl rfl
  · exact .inr (.inr rfl)
theorem ends_read {cs : List RC} {st : List (Bool × Int)} {op : Nat} (h : op = 14 ∨ op = 16) : endsC cs st op = wantsC cs (lastW st 0).2 false := by
  rcases h with rfl | rfl <;> rfl
theorem ends_peek {cs : List RC} {st : List (Bool × Int)} : endsC cs st (24 : Nat) = wantsC cs (lastW st 0).2 true := rfl
theorem ends_write {cs : List RC} {st : List (Bool × Int)} {op : Nat} (h : op = 15 ∨ op = 17) : endsC cs st op = wantsC cs (lastW st 1).2 false := by
  rcases h with rfl | rfl <;> rfl
theorem does_len {E : Env} (he : EnvOk E) {s : MS} (h : MInv E s) {i : Ins} (hc : CanI E s i) (h0 : i.op ≠ 0) (cell : Int) : (doesS E i cell s).st.length ≤ 8 := by
  have := (does_flags he h hc h0 cell).2
  have h2 := congrArg ByteArray.size this
  rw [size_flag] at h2
  have := hc.le
  omega
theorem can_one {E : Env} {s : MS} {i : Ins} (h : CanI E s i) (ho : i.op = 8 ∨ i.op = 9 ∨ i.op = 10) : 0 < s.st.length := by
  have := h.ok
  unfold afterV at this
  rw [size_flag] at this
  by_cases hk : s.st.length < 1
  · rcases ho with e | e | e
    · rw [if_neg (by omega), if_pos e, if_pos hk] at this; cases this
    · rw [if_neg (by omega), if_neg (by omega), if_pos e, if_pos hk] at this; cases this
    · rw [if_neg (by omega), if_neg (by omega), if_neg (by omega), if_pos e, if_pos hk] at this; cases this
  · omega
theorem can_two {E : Env} {s : MS} {i : Ins} (h : CanI E s i) (ho : i.op = 11) : 1 < s.st.length := by
  have := h.ok
  unfold afterV at this
  rw [size_flag] at this
  by_cases hk : s.st.length < 2
  · rw [if_neg (by omega), if_neg (by omega), if_neg (by omega), if_neg (by omega), if_pos ho, if_pos hk] at this; cases this
  · omega
theorem ends_one {cs : List RC} {st : List (Bool × Int)} {op : Nat} (h : endsC cs st op = 1) : op = 0 := by
  unfold endsC at h
  by_cases h0 : (op : Int) = 0
  · omega
  rw [if_neg h0] at h
  split at h
  · split at h <;> omega
  split at h
  · have := wants_vals cs (lastW st 0).2 false; omega
  split at h
  · have := wants_vals cs (lastW st 0).2 true; omega
  split at h
  · have := wants_vals cs (lastW st 1).2 false; omega
  · omega
theorem step_shape {E : Env} {i : Ins} {s : MS} (h0 : s.oc = 0) : ((stepI E i s).oc = 0 ∧ (stepI E i s).va = s.va) ∨ (i.op = 0 ∧ stepI E i s = { s with oc := 1, va := (lastW s.st 0).2 }) ∨ ((stepI E i s).oc ≠ 0 ∧ (stepI E i s).oc ≠ 1 ∧ stepI E i s = { s with oc := (stepI E i s).oc, hs := (stepI E i s).hs }) := by
  have hr := endsC_range (cs := s.hs.1) (st := s.st) (op := i.op)
  have hgo : ∀ cell (q : MS), q.oc = 0 → q.va = s.va → (goS E i cell q).oc = 0 ∧ (goS E i cell q).va = s.va := fun cell q h1 h2 => by
    unfold goS
    simp only
    rw [(does_oc E i cell q).1, (does_oc E i cell q).2]
    exact ⟨h1, h2⟩
  unfold stepI
  by_cases e1 : endsC s.hs.1 s.st i.op = 1
  · rw [if_pos e1]
    exact .inr (.inl ⟨ends_one e1, rfl⟩)
  rw [if_neg e1]
  by_cases e0 : endsC s.hs.1 s.st i.op ≠ 0
  · rw [if_pos e0]
    exact .inr (.inr ⟨by simp only; omega, by simp only; omega, rfl⟩)
  rw [if_neg e0]
  by_cases e2 : i.op = 13 ∨ i.op = 23
  · rw [if_pos e2]
    by_cases e3 : (takeC (rootsS E s) s.hs).1 < 0
    · rw [if_pos e3]
      exact .inr (.inr ⟨by simp, by simp, rfl⟩)
    · rw [if_neg e3]
      exact .inl (hgo _ _ h0 rfl)
  · rw [if_neg e2]
    exact .inl (hgo _ _ h0 rfl)
end Go.Proofs.YtdmdpindonghdabDoor
namespace Go.Proofs.YtdmdpindonghdabDoor
open Go.RowKit
/-- The program's heap: its cells in block gC, phase and hand in block b. -/
structure PH (w : World) (b gC : Nat) (cC : CK) (base : Nat) (cs : List Cl) (ph hd : Nat) : Prop where
  c0 : w.cell? ⟨b, 21, none⟩ = some (.slice (some ⟨gC, 0, none⟩) cs.length cC.cap)
  c1 : w.cell? ⟨b, 22, none⟩ = some (.int .i64 ph)
  c2 : w.cell? ⟨b, 23, none⟩ = some (.int .i64 hd)
  f1 : w.frozen? ⟨b, 22, none⟩ = false
  f2 : w.frozen? ⟨b, 23, none⟩ = false
  row : w.ownsRow base 42 5 (.slice (some ⟨gC, 0, none⟩) cs.length cC.cap) cs.length (cs.flatMap clCells)
  ne : b ≠ gC
  blk : w.heap[b]? = some (.cells ((cC.row.setIfInBounds 22 (.int .i64 ph)).setIfInBounds 23 (.int .i64 hd)) cC.ty)
theorem PH.cell {w : World} {b gC : Nat} {cC : CK} {base ph hd : Nat} {cs : List Cl} (h : PH w b gC cC base cs ph hd) {k j : Nat} (hk : k < cs.length) (hj : j < 5) : w.cell? ⟨gC, k * 5 + j, none⟩ = (clCells cs[k])[j]? := by
  rw [World.ownsRow.cellAt h.row (k * 5 + j) (by omega)]
  exact flat_at clCells 5 (fun _ => rfl) cs k j hk hj
theorem PH.frozen {w : World} {b gC : Nat} {cC : CK} {base ph hd : Nat} {cs : List Cl} (h : PH w b gC cC base cs ph hd) (j : Nat) : w.frozen? ⟨gC, j, none⟩ = false := World.ownsRow.frozenAt h.row j
/-- A field of a cell is written. -/
theorem PH.upd {w : World} {b gC : Nat} {cC : CK} {base ph hd k j : Nat} {cs : List Cl} {c : Cl} {v : Value} (h : PH w b gC cC base cs ph hd) (hk : k < cs.length) (hj : j < 5) (e : clCells c = (clCells cs[k]).set j v) : PH (w.setCell ⟨gC, k * 5 + j, none⟩ v) b gC cC base (cs.set k c) ph hd := by
  have hb : (w.setCell ⟨gC, k * 5 + j, none⟩ v).heap[b]? = w.heap[b]? := Below.heap_setCell _ _ _ _ h.ne
  have hc : ∀ o, (w.setCell ⟨gC, k * 5 + j, none⟩ v).cell? ⟨b, o, none⟩ = w.cell? ⟨b, o, none⟩ := fun o => World.cell?_of_block (a := ⟨b, o, none⟩) hb
  have hf : ∀ o, (w.setCell ⟨gC, k * 5 + j, none⟩ v).frozen? ⟨b, o, none⟩ = w.frozen? ⟨b, o, none⟩ := fun o => World.frozen?_of_block (a := ⟨b, o, none⟩) hb
  have hr := owns_cell (n := k * 5 + j) h.row v
  rw [flat_set clCells 5 (fun _ => rfl) cs k j c v hk hj e] at hr
  refine ⟨?_, (hc _).trans h.c1, (hc _).trans h.c2, (hf _).trans h.f1, (hf _).trans h.f2, ?_, h.ne, hb.trans h.blk⟩
  · rw [hc, List.length_set]; exact h.c0
  · rw [List.length_set]; exact hr
theorem PH.below {w w' : World} {b gC : Nat} {cC : CK} {base ph hd : Nat} {cs : List Cl} (h : PH w b gC cC base cs ph hd) (hb : Below w.heap.size w w') : PH w' b gC cC base cs ph hd := by
  have h1 := World.block_lt_of_cell? w _ h.c0
  simp only at h1
  exact ⟨(hb.cell (p := ⟨b, 21, none⟩) h1).trans h.c0, (hb.cell (p := ⟨b, 22, none⟩) h1).trans h.c1, (hb.cell (p := ⟨b, 23, none⟩) h1).trans h.c2, (hb.frozen (p := ⟨b, 22, none⟩) h1).trans h.f1, (hb.frozen (p := ⟨b, 23, none⟩) h1).trans h.f2, owns_keep h.row (fun g hg => hb.block g (h.row.lt g hg).2), h.ne, (hb.block b h1).trans h.blk⟩
theorem PH.drew {w : World} {b gC : Nat} {cC : CK} {base ph hd : Nat} {cs : List Cl} (h : PH w b gC cC base cs ph hd) : PH w.drew b gC cC base cs ph hd := h.below ⟨rfl, rfl, rfl, Nat.le_refl _, fun _ _ => rfl⟩
theorem row_22 (r : Array Value) (a b c : Value) : ((r.setIfInBounds 22 a).setIfInBounds 23 b).setIfInBounds 22 c = (r.setIfInBounds 22 c).setIfInBounds 23 b := by
  apply Array.toList_inj.1
  simp only [Array.toList_setIfInBounds]
  rw [List.set_comm _ _ (by decide), List.set_set]
theorem row_23 (r : Array Value) (a b c : Value) : ((r.setIfInBounds 22 a).setIfInBounds 23 b).setIfInBounds 23 c = (r.setIfInBounds 22 a).setIfInBounds 23 c := by
  apply Array.toList_inj.1
  simp only [Array.toList_setIfInBounds]
  rw [List.set_set]
theorem PH.phase {w : World} {b gC : Nat} {cC : CK} {base ph hd : Nat} {cs : List Cl} (h : PH w b gC cC base cs ph hd) (p : Nat) : PH (w.setCell ⟨b, 22, none⟩ (.int .i64 p)) b gC cC base cs p hd := by
  have hg : (w.setCell ⟨b, 22, none⟩ (.int .i64 (p : Int))).heap[gC]? = w.heap[gC]? := Below.heap_setCell _ _ _ _ (fun e => h.ne e.symm)
  exact ⟨(World.cell?_setCell_other _ _ _ _ (by simp)).trans h.c0, World.cell?_setCell_same _ _ _ h.c1, (World.cell?_setCell_other _ _ _ _ (by simp)).trans h.c2, (World.frozen?_setCell _ _ _ _).trans h.f1, (World.frozen?_setCell _ _ _ _).trans h.f2, owns_keep h.row (fun g e => by
    have : gC = g := by simpa [Value.ownBlock] using e
    subst this; exact hg), h.ne, by rw [← row_22 cC.row (.int .i64 ph) (.int .i64 hd) (.int .i64 p)]; exact setCell_row 22 _ h.blk⟩
theorem PH.hand {w : World} {b gC : Nat} {cC : CK} {base ph hd : Nat} {cs : List Cl} (h : PH w b gC cC base cs ph hd) (p : Nat) : PH (w.setCell ⟨b, 23, none⟩ (.int .i64 p)) b gC cC base cs ph p := by
  have hg : (w.setCell ⟨b, 23, none⟩ (.int .i64 (p : Int))).heap[gC]? = w.heap[gC]? := Below.heap_setCell _ _ _ _ (fun e => h.ne e.symm)
  exact ⟨(World.cell?_setCell_other _ _ _ _ (by simp)).trans h.c0, (World.cell?_setCell_other _ _ _ _ (by simp)).trans h.c1, World.cell?_setCell_same _ _ _ h.c2, (World.frozen?_setCell _ _ _ _).trans h.f1, (World.frozen?_setCell _ _ _ _).trans h.f2, owns_keep h.row (fun g e => by
    have : gC = g := by simpa [Value.ownBlock] using e
    subst this; exact hg), h.ne, by rw [← row_23 cC.row (.int .i64 ph) (.int .i64 hd) (.int .i64 p)]; exact setCell_row 23 _ h.blk⟩
set_option maxRecDepth 100000 in
set_option maxHeartbeats 1000000 in
theorem has_any (b gC : Nat) (cC : CK) (base ph hd k : Nat) (cs : List Cl) (r : Int) (w : World) (h : PH w b gC cC base cs ph hd) :
    Calls Tryd.prog 69 #[.pointer (some ⟨b, 21, none⟩), .int .i64 r, .int .i64 k] w fun e w' => e = .returned (.bool (hasL cs r k)) ∧ w' = w := by
  have h0 := h.c0
  by_cases r0 : 0 ≤ r
  · by_cases r1 : r < (cs.length : Int)
    · obtain ⟨q, hq⟩ : ∃ q : Nat, r = (q : Int) := ⟨r.toNat, by omega⟩
      subst hq
      have hql : q < cs.length := by omega
      have k0 := h.cell hql (j := 0) (by omega)
      rw [Nat.add_zero] at k0
      simp only [clCells, List.getElem?_cons_zero] at k0
      have HE : Hid (hasL cs (q : Int) k = (cs[q].col == k)) := hid (by
        unfold hasL
        rw [Int.toNat_natCast, colL_get hql, decide_eq_true r0, decide_eq_true r1]; simp)
      generalize cs[q].col = co at *
      clear h
      by_cases e : co = k
      · have q2 : ((co : Int) == (k : Int)) = true := by simp; omega
        go_enter Tryd.func69, Tryd.ntmps69
        go_wp2_with fail
        go_ret
        exact ⟨by rw [HE.out]; simp [e], rfl⟩
      · have q2 : ((co : Int) == (k : Int)) = false := by simp; omega
        go_enter Tryd.func69, Tryd.ntmps69
        go_wp2_with fail
        go_ret
        exact ⟨by rw [HE.out]; simp [e], rfl⟩
    · have HE : Hid (hasL cs r k = false) := hid (hasL_out (by omega))
      clear h
      go_enter Tryd.func69, Tryd.ntmps69
      go_wp2_with fail
      go_ret
      exact ⟨by rw [HE.out]; rfl, rfl⟩
  · have HE : Hid (hasL cs r k = false) := hid (hasL_neg (by omega))
    clear h
    go_enter Tryd.func69, Tryd.ntmps69
    go_wp2_with fail
    go_ret
    exact ⟨by rw [HE.out]; rfl, rfl⟩
set_option maxRecDepth 100000 in
set_option maxHeartbeats 1000000 in
theorem shade_any (b gC : Nat) (cC : CK) (base ph hd : Nat) (cs : List Cl) (r : Int) (w : World) (h : PH w b gC cC base cs ph hd) :
    Calls Tryd.prog 65 #[.pointer (some ⟨b, 21, none⟩), .int .i64 r] w fun e w' => e = .returned (.tuple #[]) ∧ PH w' b gC cC base (shadeL cs r) ph hd ∧ Only gC w w' := by
  have hh := hid (has_any b gC cC base ph hd 1 cs r w h)
  have h0 := h.c0
  cases hb : hasL cs r 1
  · rw [hb] at hh
    have HE : Hid (shadeL cs r = cs) := hid (by unfold shadeL; rw [hb]; simp)
    have H := hid h
    clear h hb
    go_enter Tryd.func65, Tryd.ntmps65
    go_wp2_with fail
    refine hh.out.mono ?_
    clear hh
    rintro x w1 ⟨rfl, rfl⟩
    go_wp2_with fail
    go_end0
    exact ⟨rfl, by rw [HE.out]; exact H.out, Only.refl _ _⟩
  · rw [hb] at hh
    have hb' := hb
    unfold hasL at hb'
    simp only [Bool.and_eq_true, decide_eq_true_eq] at hb'
    obtain ⟨r0, r1, _⟩ := hb'
    obtain ⟨q, hq⟩ : ∃ q : Nat, r = (q : Int) := ⟨r.toNat, by omega⟩
    subst hq
    have hql : q < cs.length := by omega
    have k0 := h.cell hql (j := 0) (by omega)
    have f0 := h.frozen (q * 5 + 0)
    have hu := h.upd (k := q) (j := 0) (c := paintL 2 cs[q]) (v := .int .i64 2) hql (by omega) rfl
    rw [Nat.add_zero] at k0 f0 hu
    simp only [clCells, List.getElem?_cons_zero] at k0
    have HE : Hid (shadeL cs (q : Int) = cs.set q (paintL 2 cs[q])) := hid (by unfold shadeL; rw [hb, if_pos rfl, Int.toNat_natCast, modify_setL hql])
    have HU := hid hu
    clear h hb hu
    go_enter Tryd.func65, Tryd.ntmps65
    go_wp2_with fail
    refine hh.out.mono ?_
    clear hh
    intro x w1 hh1
    obtain ⟨hx, hw⟩ := hh1
    subst x
    subst w1
    go_wp2_with fail
    go_end0
    exact ⟨rfl, by rw [HE.out]; exact HU.out, (Only.refl _ _).set _ _⟩
set_option maxRecDepth 100000 in
set_option maxHeartbeats 1000000 in
theorem shadeAll_any (b gC : Nat) (cC : CK) (base ph hd : Nat) (cs : List Cl) (rs : List Int) (v : Value) (w : World) (h : PH w b gC cC base cs ph hd) (hrl : rs.length ≤ 1000) (hv : RefsAt w gC v rs) :
    Calls Tryd.prog 52 #[.pointer (some ⟨b, 21, none⟩), v] w fun e w' => e = .returned (.tuple #[]) ∧ PH w' b gC cC base (shadesL cs rs) ph hd ∧ Only gC w w' := by
  have H := hid h
  have HV := hid hv
  obtain ⟨p0, c0, e0⟩ := hv.slice
  subst e0
  clear h hv
  go_enter Tryd.func52, Tryd.ntmps52
  go_wp2_with fail
  go_loopg [8] rs.length (fun g x w' => ∃ k : Nat, k ≤ rs.length ∧ g = rs.length - k ∧ x = .int .i64 k ∧ PH w' b gC cC base (shadesL cs (rs.take k)) ph hd ∧ Only gC w w')
  case atStart => exact ⟨0, by omega, by omega, rfl, H.out, Only.refl _ _⟩
  case round =>
    obtain ⟨k, hk, hg, rfl, hh, ho⟩ := hrel
    have HH := hid hh
    have HO := hid ho
    rcases Nat.lt_or_ge k rs.length with hlt | hge
    · have d0 : (0 : Int) ≤ (k : Int) := by omega
      have d1 : (k : Int) < (rs.length : Int) := by omega
      rcases HV.out with ⟨_, h0⟩ | ⟨a, ca, ea, hne, _, hca⟩
      · rw [h0] at hlt; simp at hlt
      have x0 := hca k _ (List.getElem?_eq_getElem hlt)
      cases ea
      have hbl : (a.add k).block = a.block := by unfold Addr.add; split <;> rfl
      have x1 : wr.cell? (a.add k) = some (.int .i64 rs[k]) := (World.cell?_of_block (a := a.add k) (ho.block _ (by rw [hbl]; exact hne))).trans x0
      have HT : Hid (rs.take (k + 1) = rs.take k ++ [rs[k]]) := hid (List.take_succ_eq_append_getElem hlt)
      have hsh := hid (shade_any b gC cC base ph hd _ rs[k] wr hh)
      generalize rs[k] = r at *
      clear x0 hbl hh ho hca
      go_wp2_with fail
      refine hsh.out.mono ?_
      clear hsh
      intro x w1 hh1
      obtain ⟨hx, hH, hO⟩ := hh1
      subst x
      have H1 := hid hH
      have O1 := hid hO
      clear hH hO
      go_wp2_with fail
      go_roundg (rs.length - (k + 1))
      case measure => omega
      case rel => exact ⟨k + 1, by omega, rfl, by go_num, by rw [HT.out, shadesL_snoc]; exact H1.out, HO.out.trans O1.out⟩
    · have d1 : ¬ (k : Int) < (rs.length : Int) := by omega
      go_wp2_with fail
      go_end0
      refine ⟨rfl, ?_, HO.out⟩
      have := HH.out
      rw [List.take_of_length_le hge] at this
      exact this
end Go.Proofs.YtdmdpindonghdabDoor
namespace Go.Proofs.YtdmdpindonghdabDoor
open Go.RowKit
theorem firstL_hit {p : Cl → Bool} {cs : List Cl} {k : Nat} (h : k < cs.length) (hp : p cs[k] = true) : firstL p (cs.drop k) k = k := by
  rw [List.drop_eq_getElem_cons h]; simp [firstL, hp]
theorem firstL_miss {p : Cl → Bool} {cs : List Cl} {k : Nat} (h : k < cs.length) (hp : p cs[k] = false) : firstL p (cs.drop k) k = firstL p (cs.drop (k + 1)) (k + 1) := by
  rw [List.drop_eq_getElem_cons h]; simp [firstL, hp]
def ptrL (gC : Nat) (k : Int) : Value := if k < 0 then .pointer none else .pointer (some ⟨gC, k.toNat * 5, none⟩)
set_option maxRecDepth 100000 in
set_option maxHeartbeats 1000000 in
theorem firstGrey_any (b gC : Nat) (cC : CK) (base ph hd : Nat) (cs : List Cl) (w : World) (h : PH w b gC cC base cs ph hd) (hl : cs.length ≤ 1000) :
    Calls Tryd.prog 66 #[.pointer (some ⟨b, 21, none⟩)] w fun e w' => e = .returned (ptrL gC (greyL cs)) ∧ w' = w := by
  have h0 := h.c0
  have H := hid h
  unfold greyL
  clear h
  go_enter Tryd.func66, Tryd.ntmps66
  go_wp2_with fail
  go_loopg [9] cs.length (fun g x w' => ∃ k : Nat, k ≤ cs.length ∧ g = cs.length - k ∧ x = .int .i64 k ∧ w' = w ∧ firstL (fun c => c.col == 2) cs 0 = firstL (fun c => c.col == 2) (cs.drop k) k)
  case atStart => exact ⟨0, by omega, by omega, rfl, rfl, rfl⟩
  case round =>
    obtain ⟨k, hk, hg, rfl, hw, hf⟩ := hrel
    subst hw
    have HF := hid hf
    clear hf
    rcases Nat.lt_or_ge k cs.length with hlt | hge
    · have d0 : (0 : Int) ≤ (k : Int) := by omega
      have d1 : (k : Int) < (cs.length : Int) := by omega
      have c0 := H.out.cell hlt (j := 0) (by omega)
      rw [Nat.add_zero] at c0
      have HH := hid (fun hp => firstL_hit (p := fun c => c.col == 2) hlt hp)
      have HM := hid (fun hp => firstL_miss (p := fun c => c.col == 2) hlt hp)
      generalize cs[k] = c at *
      obtain ⟨co, wk, a, b', n⟩ := c
      simp only [clCells, List.getElem?_cons_zero] at c0
      by_cases h2 : co = 2
      · subst h2
        have HE := hid (HH.out rfl)
        clear HH HM
        go_wp2_with fail
        go_ret
        refine ⟨?_, rfl⟩
        rw [HF.out, HE.out]
        unfold ptrL
        rw [if_neg (by omega), Int.toNat_natCast]
        rfl
      · have q2 : ((co : Int) == 2) = false := by simp; omega
        have HE := hid (HM.out (by simp [h2]))
        clear HH HM
        go_wp2_with fail
        go_roundg (cs.length - (k + 1))
        case measure => omega
        case rel => exact ⟨k + 1, by omega, rfl, by go_num, rfl, by rw [HF.out, HE.out]⟩
    · have d1 : ¬ (k : Int) < (cs.length : Int) := by omega
      go_wp2_with fail
      go_ret
      refine ⟨?_, rfl⟩
      rw [HF.out, List.drop_of_length_le hge]
      rfl
def freeL (cs : List Cl) : Int := firstL (fun c => c.col == 0) cs 0
set_option maxRecDepth 100000 in
set_option maxHeartbeats 1000000 in
theorem hasFree_any (b gC : Nat) (cC : CK) (base ph hd : Nat) (cs : List Cl) (w : World) (h : PH w b gC cC base cs ph hd) (hl : cs.length ≤ 1000) :
    Calls Tryd.prog 88 #[.pointer (some ⟨b, 21, none⟩)] w fun e w' => e = .returned (.bool (decide (0 ≤ freeL cs))) ∧ w' = w := by
  have h0 := h.c0
  have H := hid h
  unfold freeL
  clear h
  go_enter Tryd.func88, Tryd.ntmps88
  go_wp2_with fail
  go_loopg [9] cs.length (fun g x w' => ∃ k : Nat, k ≤ cs.length ∧ g = cs.length - k ∧ x = .int .i64 k ∧ w' = w ∧ firstL (fun c => c.col == 0) cs 0 = firstL (fun c => c.col == 0) (cs.drop k) k)
  case atStart => exact ⟨0, by omega, by omega, rfl, rfl, rfl⟩
  case round =>
    obtain ⟨k, hk, hg, rfl, hw, hf⟩ := hrel
    subst hw
    have HF := hid hf
    clear hf
    rcases Nat.lt_or_ge k cs.length with hlt | hge
    · have d0 : (0 : Int) ≤ (k : Int) := by omega
      have d1 : (k : Int) < (cs.length : Int) := by omega
      have c0 := H.out.cell hlt (j := 0) (by omega)
      rw [Nat.add_zero] at c0
      have HH := hid (fun hp => firstL_hit (p := fun c => c.col == 0) hlt hp)
      have HM := hid (fun hp => firstL_miss (p := fun c => c.col == 0) hlt hp)
      generalize cs[k] = c at *
      obtain ⟨co, wk, a, b', n⟩ := c
      simp only [clCells, List.getElem?_cons_zero] at c0
      by_cases h2 : co = 0
      · subst h2
        have HE := hid (HH.out rfl)
        clear HH HM
        go_wp2_with fail
        go_ret
        refine ⟨?_, rfl⟩
        rw [HF.out, HE.out, decide_eq_true (by omega)]
        rfl
      · have q2 : ((co : Int) == 0) = false := by simp; omega
        have HE := hid (HM.out (by simp [h2]))
        clear HH HM
        go_wp2_with fail
        go_roundg (cs.length - (k + 1))
        case measure => omega
        case rel => exact ⟨k + 1, by omega, rfl, by go_num, rfl, by rw [HF.out, HE.out]⟩
    · have d1 : ¬ (k : Int) < (cs.length : Int) := by omega
      go_wp2_with fail
      go_ret
      refine ⟨?_, rfl⟩
      rw [HF.out, List.drop_of_length_le hge]
      rfl
set_option maxRecDepth 100000 in
set_option maxHeartbeats 1000000 in
theorem blacken_any (b gC : Nat) (cC : CK) (base ph hd g : Nat) (cs : List Cl) (w : World) (h : PH w b gC cC base cs ph hd) (hg : g < cs.length) :
    Calls Tryd.prog 67 #[.pointer (some ⟨b, 21, none⟩), .pointer (some ⟨gC, g * 5, none⟩)] w fun e w' => e = .returned (.tuple #[]) ∧ PH w' b gC cC base (blackL cs g) ph hd ∧ Only gC w w' := by
  have e1 : cs.getD g zeroL = cs[g] := by rw [List.getD_eq_getElem?_getD, List.getElem?_eq_getElem hg]; rfl
  have HB : Hid (blackL cs g = (if cs[g].weak = true then cs else shadeL (shadeL cs cs[g].a) cs[g].b).modify g (paintL 3)) := hid (by unfold blackL; rw [e1])
  have last : ∀ (W : World) (T : List Cl) (hT : PH W b gC cC base T ph hd) (hgT : g < T.length), (∃ v, W.cell? ⟨gC, g * 5, none⟩ = some v) ∧ W.frozen? ⟨gC, g * 5, none⟩ = false ∧ PH (W.setCell ⟨gC, g * 5, none⟩ (.int .i64 3)) b gC cC base (T.modify g (paintL 3)) ph hd := by
    intro W T hT hgT
    have k0 := hT.cell hgT (j := 0) (by omega)
    have hu := hT.upd (k := g) (j := 0) (c := paintL 3 T[g]) (v := .int .i64 3) hgT (by omega) rfl
    rw [Nat.add_zero] at k0 hu
    rw [modify_setL hgT]
    exact ⟨⟨_, k0⟩, hT.frozen _, hu⟩
  have LA := hid last
  have k1 := h.cell hg (j := 1) (by omega)
  have k2 := h.cell hg (j := 2) (by omega)
  simp only [clCells, List.getElem?_cons_zero, List.getElem?_cons_succ] at k1 k2
  have H := hid h
  clear last e1
  cases hw : cs[g].weak
  · rw [hw] at k1 HB
    simp only [Bool.false_eq_true, if_false] at HB
    have hs1 := hid (shade_any b gC cC base ph hd cs cs[g].a w h)
    have hs2 := hid (fun (W : World) (hW : PH W b gC cC base (shadeL cs cs[g].a) ph hd) => shade_any b gC cC base ph hd _ cs[g].b W hW)
    have hc : Hid (∀ (W : World) (hW : PH W b gC cC base (shadeL cs cs[g].a) ph hd), W.cell? ⟨gC, g * 5 + 3, none⟩ = some (.int .i64 cs[g].b)) := hid (by
      intro W hW
      have hgl : g < (shadeL cs cs[g].a).length := by rw [shadeL_len]; exact hg
      have k3 := hW.cell hgl (j := 3) (by omega)
      rw [k3]
      have : (shadeL cs cs[g].a)[g].b = cs[g].b := by
        unfold shadeL
        split
        · by_cases e : cs[g].a.toNat = g
          · simp [paintL, e]
          · simp [e]
        · rfl
      simp only [clCells, List.getElem?_cons_zero, List.getElem?_cons_succ]
      rw [this])
    have hl2 : g < (shadeL (shadeL cs cs[g].a) cs[g].b).length := by rw [shadeL_len, shadeL_len]; exact hg
    generalize cs[g].a = aa at *
    generalize cs[g].b = bb at *
    clear h hw
    go_enter Tryd.func67, Tryd.ntmps67
    go_wp2_with fail
    refine hs1.out.mono ?_
    clear hs1
    intro x w1 hh
    obtain ⟨hx, hH1, hO1⟩ := hh
    subst x
    have k3 := hc.out w1 hH1
    have hs := hid (hs2.out w1 hH1)
    have HO1 := hid hO1
    clear hs2 hH1 hO1 hc k1 k2
    go_wp2_with fail
    refine hs.out.mono ?_
    clear hs
    intro x w2 hh
    obtain ⟨hx, hH2, hO2⟩ := hh
    subst x
    obtain ⟨⟨v, l1⟩, l2, l3⟩ := LA.out w2 _ hH2 hl2
    have L3 := hid l3
    have HO2 := hid hO2
    clear hH2 hO2 l3 k3
    go_wp2_with fail
    go_end0
    exact ⟨rfl, by rw [HB.out]; exact L3.out, (HO1.out.trans HO2.out).set _ _⟩
  · rw [hw] at k1 HB
    simp only [if_true] at HB
    obtain ⟨⟨v, l1⟩, l2, l3⟩ := LA.out w _ h hg
    have L3 := hid l3
    clear h hw l3
    go_enter Tryd.func67, Tryd.ntmps67
    go_wp2_with fail
    go_end0
    exact ⟨rfl, by rw [HB.out]; exact L3.out, (Only.refl _ _).set _ _⟩
end Go.Proofs.YtdmdpindonghdabDoor
namespace Go.Proofs.YtdmdpindonghdabDoor
open Go.RowKit
def cutA (c : Cl) : Cl := { c with a := -1 }
def midL (cs : List Cl) (k : Nat) : List Cl := (cs.take k).map (fgL cs) ++ cs.drop k
theorem midL_len (cs : List Cl) (k : Nat) : (midL cs k).length = cs.length := by simp [midL]; omega
theorem midL_get {cs : List Cl} {k : Nat} (h : k < cs.length) : (midL cs k)[k]'(by rw [midL_len]; exact h) = cs[k] := by
  unfold midL
  rw [List.getElem_append_right (by simp; omega)]
  simp [Nat.min_eq_left (Nat.le_of_lt h)]
theorem midL_next {cs : List Cl} {k : Nat} (h : k < cs.length) : midL cs (k + 1) = (midL cs k).set k (fgL cs cs[k]) := by
  unfold midL
  rw [List.take_succ_eq_append_getElem h, List.map_append, List.drop_eq_getElem_cons h, List.set_append_right _ _ (by simp; omega), show k - ((cs.take k).map (fgL cs)).length = 0 by simp; omega, List.set_cons_zero, List.append_assoc]
  rfl
theorem fgL_col (cs : List Cl) (c : Cl) : (fgL cs c).col = c.col := by unfold fgL; split <;> rfl
theorem midL_col (cs : List Cl) (k j : Nat) : colL (midL cs k) j = colL cs j := by
  unfold colL
  congr 1
  rw [← List.getElem?_map, ← List.getElem?_map]
  congr 1
  unfold midL
  rw [List.map_append, List.map_map]
  conv => rhs; rw [← List.take_append_drop k cs, List.map_append]
  congr 1
  apply List.map_congr_left
  intro c _
  exact fgL_col cs c
theorem midL_has (cs : List Cl) (k : Nat) (r : Int) (q : Nat) : hasL (midL cs k) r q = hasL cs r q := by
  unfold hasL
  rw [midL_len, midL_col]
theorem midL_all (cs : List Cl) {k : Nat} (h : cs.length ≤ k) : midL cs k = forgetL cs := by
  unfold midL forgetL
  rw [List.take_of_length_le h, List.drop_of_length_le h, List.append_nil]
set_option maxRecDepth 100000 in
set_option maxHeartbeats 1000000 in
theorem forgetWhite_any (b gC : Nat) (cC : CK) (base ph hd : Nat) (cs : List Cl) (w : World) (h : PH w b gC cC base cs ph hd) (hl : cs.length ≤ 1000) :
    Calls Tryd.prog 68 #[.pointer (some ⟨b, 21, none⟩)] w fun e w' => e = .returned (.tuple #[]) ∧ PH w' b gC cC base (forgetL cs) ph hd ∧ Only gC w w' := by
  have h0 := h.c0
  have H := hid h
  clear h
  go_enter Tryd.func68, Tryd.ntmps68
  go_wp2_with fail
  clear h0
  go_loopg [8] cs.length (fun g x w' => ∃ k : Nat, k ≤ cs.length ∧ g = cs.length - k ∧ x = .int .i64 k ∧ PH w' b gC cC base (midL cs k) ph hd ∧ Only gC w w')
  case atStart => exact ⟨0, by omega, by omega, rfl, by unfold midL; simpa using H.out, Only.refl _ _⟩
  case round =>
    obtain ⟨k, hk, hg, rfl, hh, ho⟩ := hrel
    have HH := hid hh
    have HO := hid ho
    have h0 := hh.c0
    rw [midL_len] at h0
    clear ho
    rcases Nat.lt_or_ge k cs.length with hlt | hge
    · have d0 : (0 : Int) ≤ (k : Int) := by omega
      have d1 : (k : Int) < (cs.length : Int) := by omega
      have hml : k < (midL cs k).length := by rw [midL_len]; exact hlt
      have c1 := hh.cell hml (j := 1) (by omega)
      have c2 := hh.cell hml (j := 2) (by omega)
      have f2 := hh.frozen (k * 5 + 2)
      rw [midL_get hlt] at c1 c2
      simp only [clCells, List.getElem?_cons_zero, List.getElem?_cons_succ] at c1 c2
      have HN := hid (midL_next hlt)
      have hhas := hid (has_any b gC cC base ph hd 1 (midL cs k) cs[k].a wr hh)
      rw [midL_has] at hhas
      have HU : Hid (PH (wr.setCell ⟨gC, k * 5 + 2, none⟩ (.int .i64 (-1))) b gC cC base ((midL cs k).set k (cutA cs[k])) ph hd) := hid (hh.upd (k := k) (j := 2) hml (by omega) (by rw [midL_get hlt]; rfl))
      have HK : Hid (PH wr b gC cC base ((midL cs k).set k cs[k]) ph hd) := hid (by
        have e := set_self hml
        rw [midL_get hlt] at e
        rw [e]; exact hh)
      clear hh
      cases hwk : cs[k].weak
      · have HF : Hid (fgL cs cs[k] = cs[k]) := hid (by unfold fgL; rw [hwk]; simp)
        rw [hwk] at c1
        clear hwk hhas
        go_wp2_with fail
        go_roundg (cs.length - (k + 1))
        case measure => omega
        case rel => exact ⟨k + 1, by omega, rfl, by go_num, by rw [HN.out, HF.out]; exact HK.out, HO.out⟩
      · rw [hwk] at c1
        cases hhb : hasL cs cs[k].a 1
        · have HF : Hid (fgL cs cs[k] = cs[k]) := hid (by unfold fgL; rw [hwk, hhb]; simp)
          rw [hhb] at hhas
          clear hwk hhb
          generalize cs[k].a = aa at *
          go_wp2_with fail
          refine hhas.out.mono ?_
          clear hhas
          intro x w1 hh1
          obtain ⟨hx, hw⟩ := hh1
          subst x
          subst w1
          go_wp2_with fail
          go_roundg (cs.length - (k + 1))
          case measure => omega
          case rel => exact ⟨k + 1, by omega, rfl, by go_num, by rw [HN.out, HF.out]; exact HK.out, HO.out⟩
        · have HF : Hid (fgL cs cs[k] = cutA cs[k]) := hid (by unfold fgL cutA; rw [hwk, hhb]; simp)
          rw [hhb] at hhas
          clear hwk hhb
          go_wp2_with fail
          refine hhas.out.mono ?_
          clear hhas
          intro x w1 hh1
          obtain ⟨hx, hw⟩ := hh1
          subst x
          subst w1
          go_wp2_with fail
          go_roundg (cs.length - (k + 1))
          case measure => omega
          case rel => exact ⟨k + 1, by omega, rfl, by go_num, by rw [HN.out, HF.out]; exact HU.out, HO.out.set _ _⟩
    · have d1 : ¬ (k : Int) < (cs.length : Int) := by omega
      go_wp2_with fail
      go_end0
      refine ⟨rfl, ?_, HO.out⟩
      have := HH.out
      rw [midL_all cs hge] at this
      exact this
/-- A whole cell is written. -/
theorem PH.put {w : World} {b gC : Nat} {cC : CK} {base ph hd k : Nat} {cs : List Cl} (h : PH w b gC cC base cs ph hd) (hk : k < cs.length) (co : Nat) (wk : Bool) (a e n : Int) : PH (((((w.setCell ⟨gC, k * 5, none⟩ (.int .i64 co)).setCell ⟨gC, k * 5 + 1, none⟩ (.bool wk)).setCell ⟨gC, k * 5 + 2, none⟩ (.int .i64 a)).setCell ⟨gC, k * 5 + 3, none⟩ (.int .i64 e)).setCell ⟨gC, k * 5 + 4, none⟩ (.int .i64 n)) b gC cC base (cs.set k ⟨co, wk, a, e, n⟩) ph hd := by
  have h0 := h.upd (k := k) (j := 0) (c := ⟨co, cs[k].weak, cs[k].a, cs[k].b, cs[k].num⟩) (v := .int .i64 co) hk (by omega) rfl
  have h1 := h0.upd (k := k) (j := 1) (c := ⟨co, wk, cs[k].a, cs[k].b, cs[k].num⟩) (v := .bool wk) (by simpa using hk) (by omega) (by simp [clCells])
  have h2 := h1.upd (k := k) (j := 2) (c := ⟨co, wk, a, cs[k].b, cs[k].num⟩) (v := .int .i64 a) (by simpa using hk) (by omega) (by simp [clCells])
  have h3 := h2.upd (k := k) (j := 3) (c := ⟨co, wk, a, e, cs[k].num⟩) (v := .int .i64 e) (by simpa using hk) (by omega) (by simp [clCells])
  have h4 := h3.upd (k := k) (j := 4) (c := ⟨co, wk, a, e, n⟩) (v := .int .i64 n) (by simpa using hk) (by omega) (by simp [clCells])
  rw [List.set_set, List.set_set, List.set_set, List.set_set, Nat.add_zero] at h4
  exact h4
theorem Only.put {gC k : Nat} {w W : World} (h : Only gC w W) (v0 v1 v2 v3 v4 : Value) : Only gC w (((((W.setCell ⟨gC, k * 5, none⟩ v0).setCell ⟨gC, k * 5 + 1, none⟩ v1).setCell ⟨gC, k * 5 + 2, none⟩ v2).setCell ⟨gC, k * 5 + 3, none⟩ v3).setCell ⟨gC, k * 5 + 4, none⟩ v4) := ((((h.set _ _).set _ _).set _ _).set _ _).set _ _
theorem Two.put {b gC k : Nat} {w W : World} (h : Two b gC w W) (v0 v1 v2 v3 v4 : Value) : Two b gC w (((((W.setCell ⟨gC, k * 5, none⟩ v0).setCell ⟨gC, k * 5 + 1, none⟩ v1).setCell ⟨gC, k * 5 + 2, none⟩ v2).setCell ⟨gC, k * 5 + 3, none⟩ v3).setCell ⟨gC, k * 5 + 4, none⟩ v4) := ((((h.setB _ _).setB _ _).setB _ _).setB _ _).setB _ _
set_option maxRecDepth 100000 in
theorem plainCell_any (w : World) : Calls Tryd.prog 64 #[] w fun e w' => e = .returned (.agg #[.int .i64 0, .bool false, .int .i64 (-1), .int .i64 (-1), .int .i64 0]) ∧ Below w.heap.size w w' := by
  go_enter Tryd.func64, Tryd.ntmps64
  go_wp2_with fail
  refine bodyPost_ret (v := .agg #[.int .i64 0, .bool false, .int .i64 (-1), .int .i64 (-1), .int .i64 0]) (by simp [results, Tryd.results64, go_sem]) rfl ⟨rfl, ?_⟩
  exact (Below.refl _ _).alloc (Nat.le_refl _) _
set_option maxRecDepth 100000 in
set_option maxHeartbeats 1000000 in
theorem sweep_any (b gC : Nat) (cC : CK) (base ph hd : Nat) (cs : List Cl) (w : World) (h : PH w b gC cC base cs ph hd) (hl : cs.length ≤ 1000) (hh : hd < cs.length) :
    Calls Tryd.prog 54 #[.pointer (some ⟨b, 21, none⟩)] w fun e w' => e = .returned (.tuple #[]) ∧ PH w' b gC cC base (sweepL cs hd) (if cs.length ≤ hd + 1 then 0 else ph) (if cs.length ≤ hd + 1 then 0 else hd + 1) ∧ Two b gC w w' := by
  have hs1 := hid (has_any b gC cC base ph hd 1 cs hd w h)
  have hs3 := hid (has_any b gC cC base ph hd 3 cs hd w h)
  have hpc := hid (plainCell_any w.drew)
  have h0 := h.c0
  have h2 := h.c2
  have d0 : (0 : Int) ≤ (hd : Int) := by omega
  have d1 : (hd : Int) < (cs.length : Int) := by omega
  have k0 := h.cell hh (j := 0) (by omega)
  have k1 := h.cell hh (j := 1) (by omega)
  have k2 := h.cell hh (j := 2) (by omega)
  have k3 := h.cell hh (j := 3) (by omega)
  have k4 := h.cell hh (j := 4) (by omega)
  simp only [clCells, List.getElem?_cons_zero, List.getElem?_cons_succ] at k0 k1 k2 k3 k4
  rw [Nat.add_zero] at k0
  have H := hid h
  clear h
  have fin : ∀ (W : World) (T : List Cl), PH W b gC cC base T ph hd → T.length = cs.length → W.cell? ⟨b, 21, none⟩ = some (.slice (some ⟨gC, 0, none⟩) cs.length cC.cap) ∧ W.cell? ⟨b, 22, none⟩ = some (.int .i64 ph) ∧ W.cell? ⟨b, 23, none⟩ = some (.int .i64 hd) ∧ W.frozen? ⟨b, 22, none⟩ = false ∧ W.frozen? ⟨b, 23, none⟩ = false ∧ PH (W.drew.setCell ⟨b, 23, none⟩ (.int .i64 (hd + 1 : Nat))) b gC cC base T ph (hd + 1) ∧ PH (((W.drew.setCell ⟨b, 23, none⟩ (.int .i64 (hd + 1 : Nat))).setCell ⟨b, 22, none⟩ (.int .i64 (0 : Nat))).setCell ⟨b, 23, none⟩ (.int .i64 (0 : Nat))) b gC cC base T 0 0 := fun W T hT hlT => ⟨by rw [← hlT]; exact hT.c0, hT.c1, hT.c2, hT.f1, hT.f2, hT.drew.hand (hd + 1), ((hT.drew.hand (hd + 1)).phase 0).hand 0⟩
  have FIN := hid fin
  clear fin
  cases hb1 : hasL cs hd 1
  · rw [hb1] at hs1
    cases hb3 : hasL cs hd 3
    · rw [hb3] at hs3
      have HS : Hid (sweepL cs hd = cs) := hid (by unfold sweepL; rw [hb1, hb3]; rfl)
      obtain ⟨t0, t1, t2, t3, t4, t5, t6⟩ := FIN.out w cs H.out rfl
      have T5 := hid t5
      have T6 := hid t6
      clear t5 t6 FIN hb1 hb3 k0 k1 k2 k3 k4 hpc
      by_cases hend : cs.length ≤ hd + 1
      · have d2 : (cs.length : Int) ≤ (hd : Int) + 1 := by omega
        rw [if_pos hend, if_pos hend]
        clear hend
        go_enter Tryd.func54, Tryd.ntmps54
        go_wp2_with fail
        refine hs1.out.mono ?_
        rintro x w1 ⟨rfl, rfl⟩
        go_wp2_with fail
        refine hs3.out.mono ?_
        rintro x w1 ⟨rfl, rfl⟩
        go_wp2_with fail
        go_region
        go_wp2_with fail
        go_end0
        exact ⟨rfl, by rw [HS.out]; exact T6.out, ((((Two.refl _ _ _).drew).set).set).set⟩
      · have d2 : ¬ (cs.length : Int) ≤ (hd : Int) + 1 := by omega
        rw [if_neg hend, if_neg hend]
        clear hend
        go_enter Tryd.func54, Tryd.ntmps54
        go_wp2_with fail
        refine hs1.out.mono ?_
        rintro x w1 ⟨rfl, rfl⟩
        go_wp2_with fail
        refine hs3.out.mono ?_
        rintro x w1 ⟨rfl, rfl⟩
        go_wp2_with fail
        go_region
        go_wp2_with fail
        go_end0
        exact ⟨rfl, by rw [HS.out]; exact T5.out, ((Two.refl _ _ _).drew).set⟩
    · rw [hb3] at hs3
      have HS : Hid (sweepL cs hd = cs.set hd (paintL 1 cs[hd])) := hid (by unfold sweepL; rw [hb1, hb3]; exact modify_setL hh _)
      have hu := H.out.upd (k := hd) (j := 0) (c := paintL 1 cs[hd]) (v := .int .i64 1) hh (by omega) rfl
      have f0 := H.out.frozen (hd * 5 + 0)
      rw [Nat.add_zero] at hu f0
      obtain ⟨t0, t1, t2, t3, t4, t5, t6⟩ := FIN.out _ _ hu (by simp)
      have T5 := hid t5
      have T6 := hid t6
      clear t5 t6 FIN hb1 hb3 k1 k2 k3 k4 hpc hu
      by_cases hend : cs.length ≤ hd + 1
      · have d2 : (cs.length : Int) ≤ (hd : Int) + 1 := by omega
        rw [if_pos hend, if_pos hend]
        clear hend
        go_enter Tryd.func54, Tryd.ntmps54
        go_wp2_with fail
        refine hs1.out.mono ?_
        rintro x w1 ⟨rfl, rfl⟩
        go_wp2_with fail
        refine hs3.out.mono ?_
        rintro x w1 ⟨rfl, rfl⟩
        go_wp2_with fail
        go_region
        go_wp2_with fail
        go_end0
        exact ⟨rfl, by rw [HS.out]; exact T6.out, ((((Two.refl _ _ _).setB _ _).drew.set).set).set⟩
      · have d2 : ¬ (cs.length : Int) ≤ (hd : Int) + 1 := by omega
        rw [if_neg hend, if_neg hend]
        clear hend
        go_enter Tryd.func54, Tryd.ntmps54
        go_wp2_with fail
        refine hs1.out.mono ?_
        rintro x w1 ⟨rfl, rfl⟩
        go_wp2_with fail
        refine hs3.out.mono ?_
        rintro x w1 ⟨rfl, rfl⟩
        go_wp2_with fail
        go_region
        go_wp2_with fail
        go_end0
        exact ⟨rfl, by rw [HS.out]; exact T5.out, (((Two.refl _ _ _).setB _ _).drew).set⟩
  · rw [hb1] at hs1
    have HS : Hid (sweepL cs hd = cs.set hd ⟨0, false, -1, -1, 0⟩) := hid (by unfold sweepL; rw [hb1]; rfl)
    have PUT : Hid (∀ w9, Below w.drew.heap.size w.drew w9 → PH (((((w9.setCell ⟨gC, hd * 5, none⟩ (.int .i64 0)).setCell ⟨gC, hd * 5 + 1, none⟩ (.bool false)).setCell ⟨gC, hd * 5 + 2, none⟩ (.int .i64 (-1))).setCell ⟨gC, hd * 5 + 3, none⟩ (.int .i64 (-1))).setCell ⟨gC, hd * 5 + 4, none⟩ (.int .i64 0)) b gC cC base (cs.set hd ⟨0, false, -1, -1, 0⟩) ph hd ∧ Two b gC w (((((w9.setCell ⟨gC, hd * 5, none⟩ (.int .i64 0)).setCell ⟨gC, hd * 5 + 1, none⟩ (.bool false)).setCell ⟨gC, hd * 5 + 2, none⟩ (.int .i64 (-1))).setCell ⟨gC, hd * 5 + 3, none⟩ (.int .i64 (-1))).setCell ⟨gC, hd * 5 + 4, none⟩ (.int .i64 0))) := hid (fun w9 hb9 => ⟨(H.out.drew.below hb9).put hh 0 false (-1) (-1) 0, ((Two.refl _ _ _).drew.trans (Two.of_below hb9)).put _ _ _ _ _⟩)
    clear hb1 hs3 k0 k1 k2 k3 k4
    by_cases hend : cs.length ≤ hd + 1
    · have d2 : (cs.length : Int) ≤ (hd : Int) + 1 := by omega
      rw [if_pos hend, if_pos hend]
      clear hend
      go_enter Tryd.func54, Tryd.ntmps54
      go_wp2_with fail
      refine hs1.out.mono ?_
      clear hs1
      intro x w1 hh1
      obtain ⟨hx, hw⟩ := hh1
      subst x
      subst w1
      go_wp2_with fail
      go_region_law ((go_simp; go_at_call 64; refine hpc.out.mono ?_; intro x w9 hh9; obtain ⟨hx9, hB9⟩ := hh9; subst hx9; have P9 := H.out.drew.below hB9; have z0 := P9.c0; have z1 := P9.cell hh (j := 0) (by omega); have z2 := P9.cell hh (j := 1) (by omega); have z3 := P9.cell hh (j := 2) (by omega); have z4 := P9.cell hh (j := 3) (by omega); have z5 := P9.cell hh (j := 4) (by omega); have g0 := P9.frozen (hd * 5 + 0); have g1 := P9.frozen (hd * 5 + 1); have g2 := P9.frozen (hd * 5 + 2); have g3 := P9.frozen (hd * 5 + 3); have g4 := P9.frozen (hd * 5 + 4); rw [Nat.add_zero] at z1 g0; simp only [clCells, List.getElem?_cons_zero, List.getElem?_cons_succ] at z1 z2 z3 z4 z5; have HB9 := hid hB9; clear P9 hB9; dsimp only))
      all_goals
        obtain ⟨hP, hT⟩ := PUT.out w9 HB9.out
        clear z0 z1 z2 z3 z4 z5 g0 g1 g2 g3 g4 h0 h2 hpc
        generalize ((((w9.setCell ⟨gC, hd * 5, none⟩ (.int .i64 0)).setCell ⟨gC, hd * 5 + 1, none⟩ (.bool false)).setCell ⟨gC, hd * 5 + 2, none⟩ (.int .i64 (-1))).setCell ⟨gC, hd * 5 + 3, none⟩ (.int .i64 (-1))).setCell ⟨gC, hd * 5 + 4, none⟩ (.int .i64 0) = W at *
        obtain ⟨t0, t1, t2, t3, t4, t5, t6⟩ := FIN.out _ _ hP (by simp)
        have T6 := hid t6
        have HT := hid hT
        clear t5 t6 FIN hP hT PUT
        go_wp2_with fail
        go_region
        go_wp2_with fail
        go_end0
        exact ⟨rfl, by rw [HS.out]; exact T6.out, ((HT.out.drew.set).set).set⟩
    · have d2 : ¬ (cs.length : Int) ≤ (hd : Int) + 1 := by omega
      rw [if_neg hend, if_neg hend]
      clear hend
      go_enter Tryd.func54, Tryd.ntmps54
      go_wp2_with fail
      refine hs1.out.mono ?_
      clear hs1
      intro x w1 hh1
      obtain ⟨hx, hw⟩ := hh1
      subst x
      subst w1
      go_wp2_with fail
      go_region_law ((go_simp; go_at_call 64; refine hpc.out.mono ?_; intro x w9 hh9; obtain ⟨hx9, hB9⟩ := hh9; subst hx9; have P9 := H.out.drew.below hB9; have z0 := P9.c0; have z1 := P9.cell hh (j := 0) (by omega); have z2 := P9.cell hh (j := 1) (by omega); have z3 := P9.cell hh (j := 2) (by omega); have z4 := P9.cell hh (j := 3) (by omega); have z5 := P9.cell hh (j := 4) (by omega); have g0 := P9.frozen (hd * 5 + 0); have g1 := P9.frozen (hd * 5 + 1); have g2 := P9.frozen (hd * 5 + 2); have g3 := P9.frozen (hd * 5 + 3); have g4 := P9.frozen (hd * 5 + 4); rw [Nat.add_zero] at z1 g0; simp only [clCells, List.getElem?_cons_zero, List.getElem?_cons_succ] at z1 z2 z3 z4 z5; have HB9 := hid hB9; clear P9 hB9; dsimp only))
      all_goals
        obtain ⟨hP, hT⟩ := PUT.out w9 HB9.out
        clear z0 z1 z2 z3 z4 z5 g0 g1 g2 g3 g4 h0 h2 hpc
        generalize ((((w9.setCell ⟨gC, hd * 5, none⟩ (.int .i64 0)).setCell ⟨gC, hd * 5 + 1, none⟩ (.bool false)).setCell ⟨gC, hd * 5 + 2, none⟩ (.int .i64 (-1))).setCell ⟨gC, hd * 5 + 3, none⟩ (.int .i64 (-1))).setCell ⟨gC, hd * 5 + 4, none⟩ (.int .i64 0) = W at *
        obtain ⟨t0, t1, t2, t3, t4, t5, t6⟩ := FIN.out _ _ hP (by simp)
        have T5 := hid t5
        have HT := hid hT
        clear t5 t6 FIN hP hT PUT
        go_wp2_with fail
        go_region
        go_wp2_with fail
        go_end0
        exact ⟨rfl, by rw [HS.out]; exact T5.out, HT.out.drew.set⟩
end Go.Proofs.YtdmdpindonghdabDoor
