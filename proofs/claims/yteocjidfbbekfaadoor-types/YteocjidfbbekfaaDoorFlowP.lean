/- The contract of the program's Frames. -/
import Derived.Test.YteocjidfbbekfaaDoorFlowO
import Derived.BigRegion
import Derived.Laws.MakeOwn
namespace Go.Proofs.YteocjidfbbekfaaDoor
open Go.RowKit

def zeroF : Fr := ⟨false, [0, 0, 0, 0], 0, [0, 0, 0, 0, 0, 0, 0, 0], false⟩
theorem zeroF_ok : FrOk zeroF := ⟨rfl, rfl, Nat.zero_le _⟩
theorem zeros_ok (n : Nat) : AllOk (List.replicate n zeroF) := fun f hf => by rw [List.eq_of_mem_replicate hf]; exact zeroF_ok
theorem frameInfo : (Tryd.prog.info? 48).map (fun i => (i.zero, i.size, i.bytes)) = some (some (.agg (frL zeroF).toArray), 15, 120) := by kernel_rfl
theorem zeros_made (n : Nat) : madeCells (frL zeroF).toArray (n * 15) = (allL (List.replicate n zeroF)).toArray := by
  apply Array.toList_inj.1
  apply List.ext_getElem?
  intro i
  have hl := allL_len (zeros_ok n)
  rw [List.length_replicate] at hl
  by_cases hi : i < n * 15
  · have h1 : i / 15 < n := by omega
    have h2 : i % 15 < 15 := by omega
    have e : i = i / 15 * 15 + i % 15 := by omega
    have h3 := allL_at (zeros_ok n) (k := i / 15) (j := i % 15) (f := zeroF) (by rw [List.getElem?_replicate, if_pos h1]) h2
    rw [← e] at h3
    simp only [madeCells, Array.toList_map, Array.toList_range, List.getElem?_map, List.getElem?_range hi, Option.map_some]
    rw [h3]
    have h4 : (frL zeroF).length = 15 := rfl
    rw [List.getElem?_eq_getElem (by omega)]
    simp [List.getElem?_eq_getElem (show i % 15 < (frL zeroF).length by omega), h4]
  · rw [List.getElem?_eq_none (by simp [size_madeCells]; omega), List.getElem?_eq_none (by simp; omega)]
theorem make_frames (n : Nat) (h : n ≤ 120) (w : World) : Sem.run Tryd.prog (Instr.makeSlice 36 (.int .i64 n) (.int .i64 n)) w = .ok (.slice (some ⟨w.heap.size, 0, none⟩) n n) (w.alloc (.cells (allL (List.replicate n zeroF)).toArray 48)) := by
  obtain ⟨i0, hi, hz0, hz1, hz2⟩ := info_parts frameInfo
  have := run_make (P := Tryd.prog) w 36 48 i0 _ Tryd.underlying36 hi hz0 .i64 .i64 n n (by omega) (by omega) (by rw [hz2]; omega) (by omega)
  rw [this, hz1, show Value.cells (.agg (frL zeroF).toArray) = (frL zeroF).toArray from rfl]
  simp only [Int.toNat_natCast]
  rw [zeros_made]
theorem startF (n : Nat) (h : 0 < n) : reachF (List.replicate n zeroF) 0 zeroF = ((List.replicate n zeroF).set 0 { zeroF with reached := true }, true, true) := by
  unfold reachF
  rw [List.getElem?_replicate, if_pos h]
  rfl
theorem start_stk (f : Fr) (hd : f.depth = 0) (hs : f.stk = [0, 0, 0, 0, 0, 0, 0, 0]) (L : Nat) : Stk f (tl (initP L).st) := ⟨Nat.zero_le _, hd, hs⟩
theorem start_lk (L j : Nat) : lk (initP L).lo j = 0 := by
  have h : letters (initP L).lo ∧ True := by
    refine ⟨letters_extract ?_ _ _, trivial⟩
    intro c hc
    simp at hc
    exact .inl hc
  have hall : ∀ c ∈ tl (initP L).lo, c = 105 := by
    intro c hc
    simp only [initP] at hc
    rw [tl_extract] at hc
    have := List.mem_of_mem_drop (List.mem_of_mem_take hc)
    simpa [tl] using this
  unfold lk
  show kindN (((tl (initP L).lo).getD j 0).toNat) = 0
  rw [List.getD_eq_getElem?_getD]
  cases e : (tl (initP L).lo)[j]? with
  | none => rfl
  | some c => rw [hall c (List.mem_of_getElem? e)]; rfl
theorem start_inv {l : List Ins} {L : Nat} (hw : Wf l L) : SetInv l L ((List.replicate l.length zeroF).set 0 { zeroF with reached := true }) := by
  have hp := hw.pos
  have h0 : ((List.replicate l.length zeroF).set 0 { zeroF with reached := true })[0]? = some { zeroF with reached := true } := List.getElem?_set_self (by simpa using hp)
  have hlo : ∀ j, j < 4 → ([0, 0, 0, 0] : List Nat).getD j 0 = 0 := by
    intro j hj
    match j, hj with
    | 0, _ => rfl
    | 1, _ => rfl
    | 2, _ => rfl
    | 3, _ => rfl
  refine ⟨(zeros_ok _).set (f := { zeroF with reached := true }) ⟨rfl, rfl, Nat.zero_le _⟩ 0, by simp, fun _ k f hk hr => ?_, ⟨_, h0, ⟨rfl, start_stk _ rfl rfl L, fun j hj => .inl ?_⟩⟩⟩
  · by_cases e : 0 = k
    · subst e
      rw [h0] at hk
      cases hk
      exact ⟨rfl, ⟨_, _, Reach.init l L, start_stk _ rfl rfl L⟩, fun j hj => .inl ⟨_, _, Reach.init l L, (hlo j hj).trans (start_lk L j).symm⟩⟩
    · rw [List.getElem?_set_ne e, List.getElem?_replicate] at hk
      split at hk
      · cases hk; cases hr
      · cases hk
  · rw [start_lk]; exact hlo j hj

def FramesPost (l : List Ins) (L : Nat) (w : World) (e : Ending) (w' : World) : Prop :=
  Below w.heap.size w w' ∧ ((¬ WT l L ∧ e = .returned (.tuple #[.slice none 0 0, .bool false])) ∨
    (∃ fs bf, e = .returned (.tuple #[.slice (some ⟨bf, 0, none⟩) l.length l.length, .bool true]) ∧ w.heap.size ≤ bf ∧ AllAt w' bf fs ∧ SetInv l L fs ∧ Still l fs))
theorem Two.below {a b B : Nat} {w w' : World} (h : Two a b w w') (hB : B ≤ w.heap.size) (ha : B ≤ a) (hb : B ≤ b) : Below B w w' :=
  ⟨h.os, h.tape, h.output, h.size, fun k hk => h.block k (by omega) (by omega) (by omega)⟩
theorem apart_of {w : World} {a : Nat} (h : FlowTab w) (ha : w.heap.size ≤ a) : Apart a := by
  obtain ⟨h0, h1⟩ := h 0 (by omega)
  have l0 := World.block_lt_of_cell? w _ h0
  have l1 := World.block_lt_of_cell? w _ h1
  exact ⟨by simp only at l0; omega, by simp only at l1; omega⟩

theorem three_second (w : World) (a b c : Obj) : ((((w.alloc a).alloc b).alloc c).drew).heap[w.heap.size + 1]? = some b := by
  show (((w.alloc a).alloc b).alloc c).heap[w.heap.size + 1]? = some b
  rw [Below.heap_alloc _ _ _ (by simp)]; exact heap_two_new w _ _
theorem three_below (w : World) (a b c : Obj) : Below w.heap.size w (((w.alloc a).alloc b).alloc c).drew :=
  have h : Below w.heap.size w (((w.alloc a).alloc b).alloc c) := (((Below.refl _ _).alloc (Nat.le_refl _) _).alloc (by simp) _).alloc (by simp; omega) _
  ⟨h.os, h.tape, h.output, h.size, h.block⟩

set_option maxRecDepth 100000 in
set_option maxHeartbeats 1000000 in
theorem frames_any {l : List Ins} {L : Nat} (hw : Wf l L) (gl capl : Nat) (w : World) (hat : CiAt w gl (aims l)) (hgl : gl < w.heap.size) (htab : FlowTab w) :
    Calls Tryd.prog 18 #[.agg #[.int .i64 L, .slice (some ⟨gl, 0, none⟩) l.length capl]] w (FramesPost l L w) := by
  have h120 := hw.len
  have HWF := hid hw
  have HAT := hid hat
  have HTB := hid htab
  have hmk := make_frames l.length h120
  have HSI := hid (start_inv hw)
  have HSF := hid (startF l.length hw.pos)
  have HPOS := hid hw.pos
  clear hw hat htab
  generalize hZ : List.replicate l.length zeroF = Z at *
  have HZ : Hid (Z.length = l.length ∧ AllOk Z) := hid ⟨by rw [← hZ]; simp, by rw [← hZ]; exact zeros_ok _⟩
  clear hZ
  go_enter Tryd.func18, Tryd.ntmps18
  go_upto_region 1 with fail
  go_cut [4] (fun x4 wc => ∃ bw bf : Nat, x4 = .pointer (some ⟨bw, 0, none⟩) ∧ w.heap.size ≤ bw ∧ w.heap.size ≤ bf ∧ bw ≠ bf ∧ AllAt wc bf Z ∧ WalkAt wc bw (.slice (some ⟨gl, 0, none⟩) l.length capl) bf l.length l.length false ∧ Below w.heap.size w wc)
  case first =>
    go_region
    · go_wp2_with fail
      go_meet
      exact ⟨w.heap.size + 1 + 1, w.heap.size + 1, rfl, by omega, by omega, by omega, three_second w _ _ _, heap_three_third w _ _ _, three_below w _ _ _⟩
    · go_wp2_with fail
      go_meet
      exact ⟨w.heap.size + 1, w.heap.size + 1 + 1, rfl, by omega, by omega, by omega, heap_three_third w _ _ _, three_second w _ _ _, three_below w _ _ _⟩
  case rest =>
    obtain ⟨bw, bf, rfl, h1, h2, h3, hA, hW, hB⟩ := hcut
    have hrc := hid (reach_any bw bf l.length 0 Z zeroF false _ wc hA HZ.out.2 (by rw [HZ.out.1]; exact HPOS.out) zeroF_ok (by rw [HZ.out.1]; exact hW) h3)
    rw [HSF.out] at hrc
    simp only [zeroF, frL, List.map_cons, List.map_nil, List.cons_append, List.nil_append, numV] at hrc
    have HA := hid hA
    have HB := hid hB
    clear hA hW hB hmk
    go_wp2_with fail
    refine hrc.out.mono ?_
    clear hrc
    intro x w6 hh
    obtain ⟨hx6, hA6, hW6, hT6⟩ := hh
    subst x
    rw [HZ.out.1] at hW6
    have hsz := HB.out.size
    have hgl2 : gl < wc.heap.size := by omega
    have hat6 : CiAt w6 gl (aims l) := (HAT.out.below HB.out hgl).two hT6 hgl2 (by omega) (by omega)
    have ha := apart_of HTB.out h1
    have hb := apart_of HTB.out h2
    have hst := hid (settle_any HWF.out bw bf gl l.length capl _ _ w6 hA6 HSI.out (fun h => absurd h (by decide)) hW6 hat6 (Nat.lt_of_lt_of_le hgl2 hT6.size) ((HTB.out.below HB.out).two hT6 ha hb) h3 (by omega) (by omega) ha hb)
    have HT6 := hid hT6
    clear hA6 hW6 hT6 hat6 ha hb
    go_wp2_with fail
    refine hst.out.mono ?_
    clear hst
    intro x w7 hh
    obtain ⟨b, fs', ch, hx7, hA7, hW7, hT7, hgood, hbad⟩ := hh
    subst x
    have HBB : Hid (Below w.heap.size w w7) := hid ((HB.out.trans (HT6.out.below hsz h1 h2)).trans (hT7.below (Nat.le_trans hsz HT6.out.size) h1 h2))
    have w1 := cell_of_row w7 bw 1 _ _ _ hW7
    simp only [List.getElem?_toArray, List.getElem?_cons_zero, List.getElem?_cons_succ] at w1
    have HA7 := hid hA7
    clear hA7 hW7 hT7
    cases b
    · have HN := hid (hbad rfl)
      clear hgood hbad
      go_wp2_with fail
      exact bodyPost_ret (v := .tuple #[.slice none 0 0, .bool false]) (by simp [results, Tryd.results18, go_sem]) rfl ⟨HBB.out, .inl ⟨HN.out, rfl⟩⟩
    · have HN := hid (hgood rfl)
      clear hgood hbad
      go_wp2_with fail
      exact bodyPost_ret (v := .tuple #[.slice (some ⟨bf, 0, none⟩) l.length l.length, .bool true]) (by simp [results, Tryd.results18, go_sem]) rfl ⟨HBB.out, .inr ⟨fs', bf, rfl, h2, HA7.out, HN.out.1, HN.out.2⟩⟩
end Go.Proofs.YteocjidfbbekfaaDoor
