/- The contract of the reference's told. -/
import Derived.Test.YteocjidfbbekfaaDoorTypE
import Derived.Deep.DeepCutAuto
import Derived.Deep.RegionLaw
namespace Go.Proofs.YteocjidfbbekfaaDoor
open Go.RowKit

theorem toldF_none (i : Nat) (all : List Pt) : (toldF i all).r = false → (toldF i all).lo = [] ∧ (toldF i all).st = [] := by
  suffices hs : ∀ (all : List Pt) (a : Ac), (a.r = false → a.lo = [] ∧ a.st = []) → (all.foldl (toldS i) a).r = false → (all.foldl (toldS i) a).lo = [] ∧ (all.foldl (toldS i) a).st = [] from hs all _ (fun _ => ⟨rfl, rfl⟩)
  intro all
  induction all with
  | nil => intro a ha; exact ha
  | cons p r ih =>
    intro a ha
    simp only [List.foldl_cons]
    refine ih _ ?_
    unfold toldS
    by_cases e : p.at_ = i
    · rw [if_pos e]; intro h; cases h
    · rw [if_neg e]; exact ha

theorem cell6 {wr w6 : World} {o : Obj} {b : Nat} {row : Option Nat} (hgrow : (wr.alloc o).drew.grownBy w6 row) (hz : b < wr.heap.size) (hne : some b ≠ row) (j : Nat) : w6.cell? ⟨b, j, none⟩ = wr.cell? ⟨b, j, none⟩ ∧ w6.frozen? ⟨b, j, none⟩ = wr.frozen? ⟨b, j, none⟩ := by
  have h : w6.heap[b]? = wr.heap[b]? := (hgrow.block b (by simp [World.drew]; omega) hne).trans (Below.heap_alloc wr o b hz)
  exact ⟨World.cell?_of_block (a := ⟨b, j, none⟩) h, World.frozen?_of_block (a := ⟨b, j, none⟩) h⟩
def mixL (X C : List Nat) (n : Nat) : List Nat := (List.zipWith joinN X C).take n ++ X.drop n
theorem mix_zero (X C : List Nat) : mixL X C 0 = X := by simp [mixL]
theorem mix_end {X C : List Nat} {n : Nat} (hX : X.length = n) (hC : C.length = n) : mixL X C n = List.zipWith joinN X C := by
  unfold mixL
  rw [List.take_of_length_le (by simp; omega), List.drop_of_length_le (by omega), List.append_nil]
theorem mix_len {X C : List Nat} {n N : Nat} (hX : X.length = N) (hC : C.length = N) (h : n ≤ N) : (mixL X C n).length = N := by
  simp [mixL, hX, hC]; omega
theorem mix_get {X C : List Nat} {n N : Nat} (hX : X.length = N) (hC : C.length = N) (h : n < N) : (mixL X C n)[n]? = some (X.getD n 0) := by
  unfold mixL
  rw [List.getElem?_append_right (by simp; omega), List.length_take, List.length_zipWith, hX, hC, Nat.min_self, Nat.min_eq_left (by omega), Nat.sub_self, List.getElem?_drop, Nat.add_zero, List.getD_eq_getElem?_getD, List.getElem?_eq_getElem (by omega)]
  rfl
theorem mix_next {X C : List Nat} {n N : Nat} (hX : X.length = N) (hC : C.length = N) (h : n < N) : mixL X C (n + 1) = (mixL X C n).set n (joinN (X.getD n 0) (C.getD n 0)) := by
  have h1 : n < (List.zipWith joinN X C).length := by simp; omega
  have h2 : n < X.length := by omega
  have h3 : n < C.length := by omega
  unfold mixL
  rw [List.take_succ_eq_append_getElem h1, List.drop_eq_getElem_cons h2, List.set_append_right _ _ (by simp; omega), List.append_assoc]
  simp only [List.length_take, List.length_zipWith, hX, hC, Nat.min_self, Nat.min_eq_left (Nat.le_of_lt h), Nat.sub_self, List.set_cons_zero, List.getElem_zipWith]
  simp [List.getD_eq_getElem?_getD, List.getElem?_eq_getElem h2, List.getElem?_eq_getElem h3]
theorem mix_eq {X C : List Nat} {n N : Nat} (hX : X.length = N) (hC : C.length = N) (h : n < N) (e : X.getD n 0 = C.getD n 0) : mixL X C (n + 1) = mixL X C n := by
  rw [mix_next hX hC h, joinN_eq e]
  have := mix_get hX hC h
  obtain ⟨h1, h2⟩ := List.getElem?_eq_some_iff.1 this
  rw [← h2, List.set_getElem_self]
theorem mix_ne {X C : List Nat} {n N : Nat} (hX : X.length = N) (hC : C.length = N) (h : n < N) (e : ¬ X.getD n 0 = C.getD n 0) : mixL X C (n + 1) = (mixL X C n).set n 2 := by
  rw [mix_next hX hC h, joinN_ne e]
theorem owns_some {w : World} {base e n : Nat} {v : Value} {xs : List Value} (h : w.ownsRow base e 1 v n xs) (hn : 0 < n) : ∃ g cap, v = .slice (some ⟨g, 0, none⟩) n cap := by
  rcases h.2 with ⟨_, h2⟩ | ⟨g, cap, cur, hv, _⟩
  · omega
  · exact ⟨g, cap, hv⟩
theorem ToldAt.mark {w W : World} {place : Nat} {r : Bool} {x y : List Nat} {v1 v2 : Value} (h : ToldAt w W place ⟨r, x, y⟩ v1 v2) : ToldAt w (W.setCell ⟨w.heap.size + 1, 1, none⟩ (.bool true)) place ⟨true, x, y⟩ v1 v2 := by
  have hset : ∀ k, k ≠ w.heap.size + 1 → (W.setCell ⟨w.heap.size + 1, 1, none⟩ (.bool true)).heap[k]? = W.heap[k]? := fun k hk => Below.heap_setCell _ _ _ _ hk
  exact ⟨h.below.setCell (by simp) _, (hset _ (by omega)).trans h.res, out_set h.out, owns_keep h.o1 (fun g hg => hset _ (by have := (h.o1.lt g hg).1; omega)), owns_keep h.o2 (fun g hg => hset _ (by have := (h.o2.lt g hg).1; omega)), h.ne⟩
theorem told_start (w : World) (pl i : Nat) : ToldAt w ((w.alloc (.cells #[.int .i64 0, .bool false, .slice none 0 0, .slice none 0 0] 51)).alloc (.cells #[.int .i64 pl, .bool false, .slice none 0 0, .slice none 0 0] 51)) pl (toldF i []) (.slice none 0 0) (.slice none 0 0) :=
  ⟨((Below.refl _ _).alloc (Nat.le_refl _) _).alloc (by simp) _, heap_two_first w _ _, heap_two_new w _ _, World.ownsRow_nil _ _ _ _, World.ownsRow_nil _ _ _ _, fun _ h => by cases h⟩
theorem out_cells {w : World} {b place : Nat} {r : Bool} {v1 v2 : Value} (h : OutAt w b place r v1 v2) : w.cell? ⟨b, 0, none⟩ = some (.int .i64 place) ∧ w.cell? ⟨b, 1, none⟩ = some (.bool r) ∧ w.cell? ⟨b, 2, none⟩ = some v1 ∧ w.cell? ⟨b, 3, none⟩ = some v2 := by
  refine ⟨?_, ?_, ?_, ?_⟩
  · rw [cell_of_row w b 0 _ _ _ h]; rfl
  · rw [cell_of_row w b 1 _ _ _ h]; rfl
  · rw [cell_of_row w b 2 _ _ _ h]; rfl
  · rw [cell_of_row w b 3 _ _ _ h]; rfl
theorem box_cells3 {w : World} {b : Nat} {p : Pt} (h : w.heap[b]? = some (.cells #[.int .i64 p.at_, .string p.lo, .string p.st] 67)) : w.cell? ⟨b, 0, none⟩ = some (.int .i64 p.at_) ∧ w.cell? ⟨b, 1, none⟩ = some (.string p.lo) ∧ w.cell? ⟨b, 2, none⟩ = some (.string p.st) := by
  refine ⟨?_, ?_, ?_⟩
  · rw [cell_of_row w b 0 _ _ _ h]; rfl
  · rw [cell_of_row w b 1 _ _ _ h]; rfl
  · rw [cell_of_row w b 2 _ _ _ h]; rfl

set_option maxRecDepth 100000 in
set_option maxHeartbeats 1000000 in
theorem told_any (l : List Ins) (all : List Pt) (i L gi ci g ca : Nat) (w : World) (hins : InsAt w gi l) (hgi : gi < w.heap.size) (hpt : PtAt w g all) (hg : g < w.heap.size) (hi : i < l.length)
    (hlo : ∀ p ∈ all, p.lo.size = L) (hL : L ≤ 4) (hst : ∀ p ∈ all, p.st.size ≤ 8) (hln : all.length ≤ 10000) :
    Calls Tryd.prog 15 #[.slice (some ⟨gi, 0, none⟩) l.length ci, .slice (some ⟨g, 0, none⟩) all.length ca, .int .i64 i] w (PointPost ⟨l[i].place, (toldF i all).r, (toldF i all).lo, (toldF i all).st⟩ w) := by
  obtain ⟨i0, hi0, hz0, hz1, hz2⟩ := info_parts intInfo
  obtain ⟨_, _, q2⟩ := hins i hi
  have i1 : (0 : Int) ≤ (i : Int) := by omega
  have i2 : (i : Int) < (l.length : Int) := by omega
  generalize l[i].place = pl at *
  have HPT := hid hpt
  have HLO := hid hlo
  have HST := hid hst
  clear hins hpt hlo hst
  go_enter Tryd.func15, Tryd.ntmps15
  go_wp2_with fail
  go_loopg [8] all.length (fun gk x w' => ∃ (k : Nat) (v1 v2 : Value), k ≤ all.length ∧ gk = all.length - k ∧ x = .int .i64 k ∧ ToldAt w w' pl (toldF i (all.take k)) v1 v2)
  case atStart => exact ⟨0, .slice none 0 0, .slice none 0 0, by omega, by omega, rfl, told_start w pl i⟩
  case round =>
    obtain ⟨k, v1, v2, hk, hgk, rfl, hT⟩ := hrel
    rcases Nat.lt_or_ge k all.length with hlt | hge
    · have d1 : (k : Int) < (all.length : Int) := by omega
      have d0 : (0 : Int) ≤ (k : Int) := by omega
      obtain ⟨p0, p1, p2⟩ := HPT.out k hlt
      have HSN := hid (toldF_snoc i all k hlt)
      have HN := hid (toldF_none i (all.take k))
      have hpL := HLO.out all[k] (List.getElem_mem hlt)
      have hpS := HST.out all[k] (List.getElem_mem hlt)
      have hbel := hT.below
      rw [← hbel.cell (p := ⟨g, k * 3, none⟩) hg] at p0
      rw [← hbel.cell (p := ⟨g, k * 3 + 1, none⟩) hg] at p1
      rw [← hbel.cell (p := ⟨g, k * 3 + 2, none⟩) hg] at p2
      have hlen : (toldF i (all.take k)).r = true → (toldF i (all.take k)).lo.length = L := toldF_len i (all.take k) (fun p hp => HLO.out p (List.mem_of_mem_take hp))
      have HLN := hid hlen
      have hgz : g < wr.heap.size := Nat.lt_of_lt_of_le hg hbel.size
      have hIn := InAt.start hT all[k]
      generalize all[k] = p at *
      generalize toldF i (all.take k) = A at *
      have HIN := hid hIn
      have HTT := hid hT
      clear hIn hT hbel hlen q2
      by_cases ha : p.at_ = i
      · have ha' : (((p.at_ : Nat) : Int) != (i : Int)) = false := by simp; omega
        obtain ⟨r, alo, ast⟩ := A
        obtain ⟨o0, o1, o2, o3⟩ := out_cells HTT.out.out
        have hOz : w.heap.size + 1 < wr.heap.size := (Array.getElem?_eq_some_iff.1 HTT.out.out).1
        have hf1 := frozen_of_row wr (w.heap.size + 1) 1 _ _ HTT.out.out
        cases r
        · obtain ⟨e1, e2⟩ := HN.out rfl
          simp only at e1 e2
          subst e1
          subst e2
          have HAT := hid ha
          clear ha
          go_wp2_with fail
          generalize hBB : wr.heap.size = B at *
          have HBB := hid hBB
          clear hBB
          go_loopg [10] p.lo.size (fun gk2 x w' => ∃ (n : Nat) (u1 : Value), n ≤ p.lo.size ∧ gk2 = p.lo.size - n ∧ x = .int .i64 n ∧ InAt w w' B pl ⟨false, (codes p.lo).take n, []⟩ u1 v2 p)
          case atStart => exact ⟨0, v1, by omega, by omega, rfl, HIN.out⟩
          case round =>
            obtain ⟨n, u1, hn, hgk2, rfl, hI⟩ := hrel
            have HI := hid hI
            have hown := hI.o1
            simp only [List.length_take, codes_len] at hown
            rw [Nat.min_eq_left hn] at hown
            obtain ⟨o0', o1', o2', o3'⟩ := out_cells hI.out
            obtain ⟨b0, b1, b2⟩ := box_cells3 hI.box
            have hzz : w.heap.size + 2 ≤ wr.heap.size := by
              have h1 := (Array.getElem?_eq_some_iff.1 hI.out).1
              omega
            have fo := frozen_of_row wr (w.heap.size + 1) 2 _ _ hI.out
            have ne1 := World.new_ne wr ⟨w.heap.size + 1, 2, none⟩ o2'
            have ne2 := World.new_ne wr ⟨B, 1, none⟩ b1
            have hfar : some (w.heap.size + 1) ≠ u1.ownBlock := fun e => by
              have := (hown.lt _ e.symm).1
              omega
            clear hI
            rcases Nat.lt_or_ge n p.lo.size with hnl | hnl
            · have n0 : (0 : Int) ≤ (n : Int) := by omega
              have n1 : (n : Int) < (p.lo.size : Int) := by omega
              have e0 := byteAt_eq p.lo n hnl
              have hb2 := byteAt_lt p.lo n
              have hkd := hid (fun W => kind_any (byteAt p.lo n) W)
              have HCG := hid (codes_get hnl)
              have HTK := hid (take_snoc (l := codes p.lo) (k := n) (by rw [codes_len]; exact hnl))
              have HT1 : Hid ((codes p.lo).take (n + 1) = (codes p.lo).take n ++ [(codes p.lo).getD n 0]) := hid (by
                have h1 : n < (codes p.lo).length := by rw [codes_len]; exact hnl
                rw [List.take_succ_eq_append_getElem h1]
                simp [List.getD_eq_getElem?_getD, List.getElem?_eq_getElem h1])
              generalize byteAt p.lo n = c at *
              have a1 : (wr.alloc (.cells #[.int .i64 (kindN c : Nat)] 3)).cell? ⟨w.heap.size + 1, 2, none⟩ = some u1 := (World.cell?_alloc_past _ _ _ (by omega)).trans o2'
              go_upto_region 11 with fail
              go_region_law
                ((first
                  | (refine step_append_lies _ (by rfl) _ _ _ (by rfl) (w.heap.size + 2) 3 i0 _ 1 8 Tryd.underlying49 hi0 hz0 hz1 hz2 rfl (by omega) _ n (((codes p.lo).take n).map numV) (by rfl) ((hown.alloc _).drew)
                      ⟨wr.heap.size, 0, none⟩ 1 1 [.int .i64 (kindN c : Nat)] (by rfl) (by rfl) (World.news_of_block (cs := #[.int .i64 (kindN c : Nat)]) (t := 3) (fr := (0, 0)) (heap_alloc_new wr _)) (by simp [Value.oneCell'])
                      (by omega) (by unfold maxLen; omega) (by omega) (by simp; omega) (wr.heap.size + 1) (by simp) ?_; intro gg gcap w6 hown6 hgrow6 hat6 hlt6; obtain ⟨c6, f6⟩ := cell6 hgrow6 (b := w.heap.size + 1) (by omega) hfar 2; rw [o2'] at c6; rw [fo] at f6)
                  | (go_simp; go_at_call 25; refine (hkd.out _).mono ?_; intro x w9 hh; obtain ⟨hx9, hw9⟩ := hh; subst hx9; subst hw9; dsimp only)))
              all_goals
                have HO6 := hid hown6
                have HG6 := hid hgrow6
                have HA6 := hid hat6
                clear hown6 hgrow6 hat6 hown o0' o1' o2' o3' b0 b1 b2 fo a1 c6 f6 hkd p0 p1 p2 o0 o1 o2 o3
                go_wp2_with fail
                go_roundg (p.lo.size - (n + 1))
                case measure => omega
                case rel =>
                  refine ⟨n + 1, .slice (some ⟨gg, 0, none⟩) (n + 1) gcap, by omega, rfl, by go_num, ?_⟩
                  rw [HT1.out, HCG.out]
                  exact InAt.push1 (HI.out.same (((Below.refl _ _).alloc (Nat.le_refl _) _).drew)) (by rw [List.length_take, codes_len, Nat.min_eq_left hn]) HO6.out HG6.out (by simpa using HA6.out)
            · have n1 : ¬ (n : Int) < (p.lo.size : Int) := by omega
              have hnn : n = p.lo.size := by omega
              have HIA : Hid (InAt w wr B pl ⟨false, codes p.lo, []⟩ u1 v2 p) := hid (by
                have := HI.out
                rw [List.take_of_length_le (by rw [codes_len]; omega)] at this
                exact this)
              clear HI hown
              go_wp2_with fail
              go_loopg [11] p.st.size (fun gk2 x w' => ∃ (n : Nat) (u2 : Value), n ≤ p.st.size ∧ gk2 = p.st.size - n ∧ x = .int .i64 n ∧ InAt w w' B pl ⟨false, codes p.lo, (codes p.st).take n⟩ u1 u2 p)
              case atStart => exact ⟨0, v2, by omega, by omega, rfl, HIA.out⟩
              case round =>
                obtain ⟨n, u2, hn, hgk2, rfl, hI⟩ := hrel
                have HI := hid hI
                have hown := hI.o2
                simp only [List.length_take, codes_len] at hown
                rw [Nat.min_eq_left hn] at hown
                obtain ⟨o0', o1', o2', o3'⟩ := out_cells hI.out
                obtain ⟨b0, b1, b2⟩ := box_cells3 hI.box
                have hzz : w.heap.size + 2 ≤ wr.heap.size := by
                  have h1 := (Array.getElem?_eq_some_iff.1 hI.out).1
                  omega
                have fo := frozen_of_row wr (w.heap.size + 1) 3 _ _ hI.out
                have ne1 := World.new_ne wr ⟨w.heap.size + 1, 3, none⟩ o3'
                have ne2 := World.new_ne wr ⟨B, 2, none⟩ b2
                have hfar : some (w.heap.size + 1) ≠ u2.ownBlock := fun e => by
                  have := (hown.lt _ e.symm).1
                  omega
                clear hI
                rcases Nat.lt_or_ge n p.st.size with hnl | hnl
                · have n0 : (0 : Int) ≤ (n : Int) := by omega
                  have n1 : (n : Int) < (p.st.size : Int) := by omega
                  have e0 := byteAt_eq p.st n hnl
                  have hb2 := byteAt_lt p.st n
                  have hkd := hid (fun W => kind_any (byteAt p.st n) W)
                  have HCG := hid (codes_get hnl)
                  have HTK := hid (take_snoc (l := codes p.st) (k := n) (by rw [codes_len]; exact hnl))
                  have HT1 : Hid ((codes p.st).take (n + 1) = (codes p.st).take n ++ [(codes p.st).getD n 0]) := hid (by
                    have h1 : n < (codes p.st).length := by rw [codes_len]; exact hnl
                    rw [List.take_succ_eq_append_getElem h1]
                    simp [List.getD_eq_getElem?_getD, List.getElem?_eq_getElem h1])
                  generalize byteAt p.st n = c at *
                  have a1 : (wr.alloc (.cells #[.int .i64 (kindN c : Nat)] 3)).cell? ⟨w.heap.size + 1, 3, none⟩ = some u2 := (World.cell?_alloc_past _ _ _ (by omega)).trans o3'
                  go_upto_region 15 with fail
                  go_region_law
                    ((first
                      | (refine step_append_lies _ (by rfl) _ _ _ (by rfl) (w.heap.size + 2) 3 i0 _ 1 8 Tryd.underlying49 hi0 hz0 hz1 hz2 rfl (by omega) _ n (((codes p.st).take n).map numV) (by rfl) ((hown.alloc _).drew)
                          ⟨wr.heap.size, 0, none⟩ 1 1 [.int .i64 (kindN c : Nat)] (by rfl) (by rfl) (World.news_of_block (cs := #[.int .i64 (kindN c : Nat)]) (t := 3) (fr := (0, 0)) (heap_alloc_new wr _)) (by simp [Value.oneCell'])
                          (by omega) (by unfold maxLen; omega) (by omega) (by simp; omega) (wr.heap.size + 1) (by simp) ?_; intro gg gcap w6 hown6 hgrow6 hat6 hlt6; obtain ⟨c6, f6⟩ := cell6 hgrow6 (b := w.heap.size + 1) (by omega) hfar 3; rw [o3'] at c6; rw [fo] at f6)
                      | (go_simp; go_at_call 25; refine (hkd.out _).mono ?_; intro x w9 hh; obtain ⟨hx9, hw9⟩ := hh; subst hx9; subst hw9; dsimp only)))
                  all_goals
                    have HO6 := hid hown6
                    have HG6 := hid hgrow6
                    have HA6 := hid hat6
                    clear hown6 hgrow6 hat6 hown o0' o1' o3' o2' b0 b2 b1 fo a1 c6 f6 hkd p0 p1 p2 o0 o1 o2 o3
                    go_wp2_with fail
                    go_roundg (p.st.size - (n + 1))
                    case measure => omega
                    case rel =>
                      refine ⟨n + 1, .slice (some ⟨gg, 0, none⟩) (n + 1) gcap, by omega, rfl, by go_num, ?_⟩
                      rw [HT1.out, HCG.out]
                      exact InAt.push2 (HI.out.same (((Below.refl _ _).alloc (Nat.le_refl _) _).drew)) (by rw [List.length_take, codes_len, Nat.min_eq_left hn]) HO6.out HG6.out (by simpa using HA6.out)
                · have n1 : ¬ (n : Int) < (p.st.size : Int) := by omega
                  have HIB : Hid (InAt w wr B pl ⟨false, codes p.lo, codes p.st⟩ u1 u2 p) := hid (by
                    have := HI.out
                    rw [List.take_of_length_le (by rw [codes_len]; omega)] at this
                    exact this)
                  have HMK := hid (HIB.out.mark)
                  have f1' := frozen_of_row wr (w.heap.size + 1) 1 _ _ HIB.out.out
                  have HX := hid (codes_len p.lo)
                  have HS : Hid (toldF i (all.take (k + 1)) = ⟨true, List.zipWith joinN (codes p.lo) (codes p.lo), codes p.st⟩) := hid (by rw [HSN.out]; unfold toldS; rw [if_pos HAT.out]; rfl)
                  clear HI hown HN HLN
                  go_wp2_with fail
                  go_loopg [12] p.lo.size (fun gk2 x w' => ∃ (n : Nat), n ≤ p.lo.size ∧ gk2 = p.lo.size - n ∧ x = .int .i64 n ∧ InAt w w' B pl ⟨true, mixL (codes p.lo) (codes p.lo) n, codes p.st⟩ u1 u2 p)
                  case atStart => exact ⟨0, by omega, by omega, rfl, by rw [mix_zero]; exact HMK.out⟩
                  case round =>
                    obtain ⟨n, hn, hgk2, rfl, hI⟩ := hrel
                    obtain ⟨o0', o1', o2', o3'⟩ := out_cells hI.out
                    obtain ⟨b0, b1, b2⟩ := box_cells3 hI.box
                    have HI := hid hI
                    rcases Nat.lt_or_ge n p.lo.size with hnl | hnl
                    · have n0 : (0 : Int) ≤ (n : Int) := by omega
                      have n1 : (n : Int) < (p.lo.size : Int) := by omega
                      have hml := mix_len HX.out (codes_len p.lo) hn
                      have hown := hI.o1
                      simp only [hml] at hown
                      obtain ⟨g1, cp1, hz1e⟩ := owns_some hown (by omega)
                      have hcell := hown.cells (g := g1) (by rw [hz1e]; rfl) n (numV ((codes p.lo).getD n 0)) (by rw [List.getElem?_map, mix_get HX.out (codes_len p.lo) hnl]; rfl)
                      rw [addr_add] at hcell
                      unfold numV at hcell
                      have hfz1 : wr.frozen? ⟨g1, n, none⟩ = false := World.ownsRow.frozenAt (hz1e ▸ hown) n
                      have HZE := hid hz1e
                      rw [hz1e] at o2'
                      have e0 := byteAt_eq p.lo n hnl
                      have hb2 := byteAt_lt p.lo n
                      have hkd := hid (fun W => kind_any (byteAt p.lo n) W)
                      have HCG := hid (codes_get hnl)
                      have HEQ := hid (mix_eq (X := codes p.lo) (C := codes p.lo) HX.out (codes_len p.lo) hnl)
                      have HNE := hid (mix_ne (X := codes p.lo) (C := codes p.lo) HX.out (codes_len p.lo) hnl)
                      have n2 : (n : Int) < (p.lo.size : Int) := n1
                      clear hI hml hown hz1e
                      generalize byteAt p.lo n = c at *
                      generalize hxn : (codes p.lo).getD n 0 = xn at *
                      have hxc : xn = kindN c := HCG.out
                      have hx' : ((xn : Int) != ((kindN c : Nat) : Int)) = false := by simp; omega
                      have HM : Hid (mixL (codes p.lo) (codes p.lo) (n + 1) = mixL (codes p.lo) (codes p.lo) n) := hid (HEQ.out rfl)
                      clear hxc HEQ HNE hxn
                      go_upto_region 20 with fail
                      go_quiet ((go_at_call 25; refine Calls.quiet_of_same (hkd.out _)))
                      clear hkd o0' o1' o2' o3' b0 b1 b2 hcell
                      go_wp2_with fail
                      go_roundg (p.lo.size - (n + 1))
                      case measure => omega
                      case rel => exact ⟨n + 1, by omega, rfl, by go_num, by rw [HM.out]; exact HI.out.same (below_drewN (Below.refl _ _) _)⟩
                    · have n1 : ¬ (n : Int) < (p.lo.size : Int) := by omega
                      have hnn : n = p.lo.size := by omega
                      have HDN : Hid (ToldAt w wr pl (toldF i (all.take (k + 1))) u1 u2) := hid (by
                        have := hI.toToldAt
                        rw [hnn, mix_end HX.out (codes_len p.lo)] at this
                        rw [HS.out]
                        exact this)
                      clear hI HI
                      go_wp2_with fail
                      go_roundg (all.length - (k + 1))
                      case measure => omega
                      case rel => exact ⟨k + 1, u1, u2, by omega, rfl, by go_num, HDN.out⟩
        · have HX : Hid (alo.length = p.lo.size) := hid (by rw [hpL]; exact HLN.out rfl)
          have HMK := hid (InAt.start HTT.out.mark p)
          rw [show (wr.setCell ⟨w.heap.size + 1, 1, none⟩ (.bool true)).heap.size = wr.heap.size by simp [World.setCell]] at HMK
          have HS : Hid (toldF i (all.take (k + 1)) = ⟨true, List.zipWith joinN alo (codes p.lo), ast⟩) := hid (by rw [HSN.out]; unfold toldS; rw [if_pos ha]; rfl)
          clear ha HN HLN
          go_wp2_with fail
          generalize hBB : wr.heap.size = B at *
          have HBB := hid hBB
          clear hBB
          go_loopg [12] p.lo.size (fun gk2 x w' => ∃ (n : Nat), n ≤ p.lo.size ∧ gk2 = p.lo.size - n ∧ x = .int .i64 n ∧ InAt w w' B pl ⟨true, mixL alo (codes p.lo) n, ast⟩ v1 v2 p)
          case atStart => exact ⟨0, by omega, by omega, rfl, by rw [mix_zero]; exact HMK.out⟩
          case round =>
            obtain ⟨n, hn, hgk2, rfl, hI⟩ := hrel
            obtain ⟨o0', o1', o2', o3'⟩ := out_cells hI.out
            obtain ⟨b0, b1, b2⟩ := box_cells3 hI.box
            have HI := hid hI
            rcases Nat.lt_or_ge n p.lo.size with hnl | hnl
            · have n0 : (0 : Int) ≤ (n : Int) := by omega
              have n1 : (n : Int) < (p.lo.size : Int) := by omega
              have hml := mix_len HX.out (codes_len p.lo) hn
              have hown := hI.o1
              simp only [hml] at hown
              obtain ⟨g1, cp1, hz1e⟩ := owns_some hown (by omega)
              have hcell := hown.cells (g := g1) (by rw [hz1e]; rfl) n (numV (alo.getD n 0)) (by rw [List.getElem?_map, mix_get HX.out (codes_len p.lo) hnl]; rfl)
              rw [addr_add] at hcell
              unfold numV at hcell
              have hfz1 : wr.frozen? ⟨g1, n, none⟩ = false := World.ownsRow.frozenAt (hz1e ▸ hown) n
              have HZE := hid hz1e
              rw [hz1e] at o2'
              have e0 := byteAt_eq p.lo n hnl
              have hb2 := byteAt_lt p.lo n
              have hkd := hid (fun W => kind_any (byteAt p.lo n) W)
              have HCG := hid (codes_get hnl)
              have HEQ := hid (mix_eq (X := alo) (C := codes p.lo) HX.out (codes_len p.lo) hnl)
              have HNE := hid (mix_ne (X := alo) (C := codes p.lo) HX.out (codes_len p.lo) hnl)
              have n2 : (n : Int) < (p.lo.size : Int) := n1
              clear hI hml hown hz1e
              generalize byteAt p.lo n = c at *
              generalize alo.getD n 0 = xn at *
              by_cases hxc : xn = kindN c
              · have hx' : ((xn : Int) != ((kindN c : Nat) : Int)) = false := by simp; omega
                have HM : Hid (mixL alo (codes p.lo) (n + 1) = mixL alo (codes p.lo) n) := hid (HEQ.out (by rw [HCG.out]; exact hxc))
                clear hxc HEQ HNE
                go_upto_region 20 with fail
                go_quiet ((go_at_call 25; refine Calls.quiet_of_same (hkd.out _)))
                clear hkd o0' o1' o2' o3' b0 b1 b2 hcell
                go_wp2_with fail
                go_roundg (p.lo.size - (n + 1))
                case measure => omega
                case rel => exact ⟨n + 1, by omega, rfl, by go_num, by rw [HM.out]; exact HI.out.same (below_drewN (Below.refl _ _) _)⟩
              · have hx' : ((xn : Int) != ((kindN c : Nat) : Int)) = true := by simp; omega
                have HM : Hid (mixL alo (codes p.lo) (n + 1) = (mixL alo (codes p.lo) n).set n 2) := hid (HNE.out (by rw [HCG.out]; exact hxc))
                clear hxc HEQ HNE
                go_upto_region 20 with fail
                go_quiet ((go_at_call 25; refine Calls.quiet_of_same (hkd.out _)))
                go_wp2_with fail
                go_roundg (p.lo.size - (n + 1))
                case measure => omega
                case rel =>
                  refine ⟨n + 1, by omega, rfl, by go_num, ?_⟩
                  have h := HI.out
                  rw [HZE.out] at h ⊢
                  rw [HM.out]
                  exact (h.same (below_drewN (Below.refl _ _) _)).mixed 2
            · have n1 : ¬ (n : Int) < (p.lo.size : Int) := by omega
              have hnn : n = p.lo.size := by omega
              have HDN : Hid (ToldAt w wr pl (toldF i (all.take (k + 1))) v1 v2) := hid (by
                have := hI.toToldAt
                rw [hnn, mix_end HX.out (codes_len p.lo)] at this
                rw [HS.out]
                exact this)
              clear hI HI
              go_wp2_with fail
              go_roundg (all.length - (k + 1))
              case measure => omega
              case rel => exact ⟨k + 1, v1, v2, by omega, rfl, by go_num, HDN.out⟩
      · have ha' : (((p.at_ : Nat) : Int) != (i : Int)) = true := by simp; omega
        have HS : Hid (toldF i (all.take (k + 1)) = A) := hid (by rw [HSN.out]; unfold toldS; rw [if_neg ha])
        clear ha
        go_wp2_with fail
        go_roundg (all.length - (k + 1))
        case measure => omega
        case rel => exact ⟨k + 1, v1, v2, by omega, rfl, by go_num, by rw [HS.out]; exact HIN.out.toToldAt⟩
    · have d1 : ¬ (k : Int) < (all.length : Int) := by omega
      have hkl : k = all.length := by omega
      have hT2 := hT
      rw [hkl, List.take_length] at hT2
      have HTT := hid hT2
      obtain ⟨o0, o1, o2, o3⟩ := out_cells hT.out
      obtain ⟨r0, r1, r2, r3⟩ := out_cells hT.res
      have f0 := frozen_of_row wr w.heap.size 0 _ _ hT.res
      have f1 := frozen_of_row wr w.heap.size 1 _ _ hT.res
      have f2 := frozen_of_row wr w.heap.size 2 _ _ hT.res
      have f3 := frozen_of_row wr w.heap.size 3 _ _ hT.res
      obtain ⟨s1, c1, hv1⟩ := owns_slice hT.o1
      obtain ⟨s2, c2, hv2⟩ := owns_slice hT.o2
      rw [hkl, List.take_length] at o1 hv1 hv2
      generalize toldF i all = A at *
      generalize toldF i (all.take k) = A' at *
      obtain ⟨ar, alo, ast⟩ := A
      simp only at o1 hv1 hv2
      subst hv1
      subst hv2
      clear hT hT2
      have hOz : w.heap.size + 1 < wr.heap.size := (Array.getElem?_eq_some_iff.1 HTT.out.out).1
      go_wp2_with fail
      have hset : ∀ (u0 u1 u2 u3 : Value) j, j ≠ w.heap.size → ((((wr.setCell ⟨w.heap.size, 0, none⟩ u0).setCell ⟨w.heap.size, 1, none⟩ u1).setCell ⟨w.heap.size, 2, none⟩ u2).setCell ⟨w.heap.size, 3, none⟩ u3).heap[j]? = wr.heap[j]? := fun u0 u1 u2 u3 j hj => by
        rw [Below.heap_setCell _ _ _ _ hj, Below.heap_setCell _ _ _ _ hj, Below.heap_setCell _ _ _ _ hj, Below.heap_setCell _ _ _ _ hj]
      refine bodyPost_ret (v := .agg #[.int .i64 pl, .bool ar, .slice s1 alo.length c1, .slice s2 ast.length c2]) (by simp [results, Tryd.results15, go_sem, r0, r1, r2, r3]) rfl ⟨(((HTT.out.below.setCell (by simp) _).setCell (by simp) _).setCell (by simp) _).setCell (by simp) _, _, _, rfl, ?_, ?_⟩
      · refine (IntsAt.of_owns HTT.out.o1).keep (fun g' hg' => ⟨⟨by omega, by simp [World.setCell]; omega⟩, hset _ _ _ _ _ (by omega)⟩)
      · refine (IntsAt.of_owns HTT.out.o2).keep (fun g' hg' => ⟨⟨by omega, by simp [World.setCell]; omega⟩, hset _ _ _ _ _ (by omega)⟩)
end Go.Proofs.YteocjidfbbekfaaDoor
