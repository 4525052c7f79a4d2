/- What the proofs of these statements stand on, part 7: MacF. -/
import Derived.Test.YtdmdpindonghdaaGreatDoorAll6
set_option maxHeartbeats 40000000
set_option maxRecDepth 100000
namespace Go.Proofs.YtdmdpindonghdaaGreatDoor
open Go.RowKit
def RStatePost (oc va : Int) (pl : Nat) (ph hd : Int) (Q1 Q2 : List (Nat × Int)) (w : World) (e : Ending) (w' : World) : Prop :=
  Below w.heap.size w w' ∧ ∃ v1 v2, e = .returned (.agg #[.int .i64 oc, .int .i64 va, .int .i64 pl, .int .i64 ph, .int .i64 hd, v1, v2]) ∧ LsAt w' (fun g => w.heap.size ≤ g ∧ g < w'.heap.size) v1 Q1.length (Q1.flatMap slCells) ∧ LsAt w' (fun g => w.heap.size ≤ g ∧ g < w'.heap.size) v2 Q2.length (Q2.flatMap slCells)
theorem rstate_any (b : Nat) (vL vM vI vO vLo vSt vC : Value) (rd oc va at_ ph hd : Int) (pl : Nat) (rc : Bool) (g1 q1 q2 k : Nat) (u1 u2 : Value) (tl1 tl2 : List Nat) (lo st : List (Bool × Int)) (P Q P1 P2 : Nat → Prop) (w : World)
    (hm : w.heap[b]? = some (.cells #[vL, vM, vI, .int .i64 rd, vO, .int .i64 oc, .int .i64 va, .int .i64 at_, vLo, vSt, vC, .int .i64 ph, .int .i64 hd] 82))
    (hM : vM = .slice (some ⟨g1, 0, none⟩) q1 q2) (hat : at_ = (k : Int)) (hk : k < q1)
    (x0 : w.cell? ⟨g1, k * 4, none⟩ = some (.int .i64 pl)) (x1 : w.cell? ⟨g1, k * 4 + 1, none⟩ = some (.bool rc)) (x2 : w.cell? ⟨g1, k * 4 + 2, none⟩ = some u1) (x3 : w.cell? ⟨g1, k * 4 + 3, none⟩ = some u2)
    (ht1 : IntsAt w P u1 tl1) (ht2 : IntsAt w Q u2 tl2) (hlo : LsAt w P1 vLo lo.length (lo.flatMap wdCells)) (hst : LsAt w P2 vSt st.length (st.flatMap wdCells)) (hl1 : tl1.length = lo.length) (hl2 : tl2.length = st.length) (hs1 : lo.length ≤ 100) (hs2 : st.length ≤ 100) :
    Calls Tryz.prog 61 #[.pointer (some ⟨b, 0, none⟩)] w (RStatePost oc va pl ph hd (List.zipWith (fun t (x : Bool × Int) => (t, slotV t x.2)) tl1 lo) (List.zipWith (fun t (x : Bool × Int) => (t, slotV t x.2)) tl2 st) w) := by
  obtain ⟨i9, hi9, hz9, hz8, hz7⟩ := info_parts slotInfo
  have m1 := cell_of_row w b 1 _ _ _ hm
  have m5 := cell_of_row w b 5 _ _ _ hm
  have m6 := cell_of_row w b 6 _ _ _ hm
  have m7 := cell_of_row w b 7 _ _ _ hm
  have m8 := cell_of_row w b 8 _ _ _ hm
  have m9 := cell_of_row w b 9 _ _ _ hm
  have m11 := cell_of_row w b 11 _ _ _ hm
  have m12 := cell_of_row w b 12 _ _ _ hm
  simp only [List.getElem?_toArray, List.getElem?_cons_zero, List.getElem?_cons_succ] at m1 m5 m6 m7 m8 m9 m11 m12
  subst hM
  subst hat
  have hbz := World.block_lt_of_cell? w _ m1
  have hgz := World.block_lt_of_cell? w _ x0
  simp only at hbz hgz
  obtain ⟨p1, c1, e1⟩ := ht1.slice
  obtain ⟨p2, c2, e2⟩ := ht2.slice
  subst e1
  subst e2
  have i0 : (0 : Int) ≤ (k : Int) := by omega
  have i1 : (k : Int) < (q1 : Int) := by omega
  have hwa : ∀ (v : Value) (j : Nat), w.cell? ⟨b, j, none⟩ = some v → b < w.heap.size := fun v j h => World.block_lt_of_cell? w _ h
  clear hwa
  have HT1 := hid ht1
  have HT2 := hid ht2
  have HLO := hid hlo
  have HST := hid hst
  have HL1 := hid hl1
  have HL2 := hid hl2
  obtain ⟨pL, cL, eL⟩ := hlo.slice
  obtain ⟨pS, cS, eS⟩ := hst.slice
  subst eL
  subst eS
  have HM8 := hid m8
  have HM9 := hid m9
  clear hm ht1 ht2 hlo hst hl1 hl2
  go_enter Tryz.func61, Tryz.ntmps61
  have hbl := fun j => World.cell?_of_block (w := w) (w' := w) (a := ⟨b, j, none⟩) rfl
  clear hbl
  go_upto_region 1 with fail
  go_cut [3] (fun x wc => x = .pointer (some ⟨w.heap.size + 1, 0, none⟩) ∧ wc.heap[w.heap.size + 1]? = some (.cells #[.int .i64 pl, .bool rc, .slice p1 tl1.length c1, .slice p2 tl2.length c2] 102) ∧ wc.heap[w.heap.size]? = some (.cells #[.int .i64 0, .int .i64 0, .int .i64 0, .int .i64 0, .int .i64 0, .slice none 0 0, .slice none 0 0] 134) ∧ Below w.heap.size w wc)
  case first =>
    go_region
    go_wp2_with fail
    go_meet
    exact ⟨rfl, heap_two_new w _ _, heap_two_first w _ _, two_below w _ _⟩
  case rest =>
    obtain ⟨rfl, hp, hr, hb1⟩ := hcut
    have z0 := cell_of_row wc (w.heap.size + 1) 0 _ _ _ hp
    simp only [List.getElem?_toArray, List.getElem?_cons_zero] at z0
    rw [← hb1.cell (p := ⟨b, 1, none⟩) hbz] at m1
    rw [← hb1.cell (p := ⟨b, 5, none⟩) hbz] at m5
    rw [← hb1.cell (p := ⟨b, 6, none⟩) hbz] at m6
    rw [← hb1.cell (p := ⟨b, 7, none⟩) hbz] at m7
    rw [← hb1.cell (p := ⟨b, 8, none⟩) hbz] at m8
    rw [← hb1.cell (p := ⟨b, 9, none⟩) hbz] at m9
    rw [← hb1.cell (p := ⟨b, 11, none⟩) hbz] at m11
    rw [← hb1.cell (p := ⟨b, 12, none⟩) hbz] at m12
    have hzc : w.heap.size + 1 < wc.heap.size := (Array.getElem?_eq_some_iff.1 hp).1
    have hbc : b < wc.heap.size := by omega
    have HP := hid hp
    have HR := hid hr
    have HB1 := hid hb1
    clear hp hr hb1
    obtain ⟨sb, hsb⟩ : ∃ sb, sb = wc.heap.size := ⟨_, rfl⟩
    have HSB := hid hsb
    clear hsb
    go_upto_region 2 with fail
    go_cut [4] (fun x wd => x = .pointer (some ⟨sb, 0, none⟩) ∧ SnAt w wd sb oc va ph hd pl #[.int .i64 pl, .bool rc, .slice p1 tl1.length c1, .slice p2 tl2.length c2] [] [] (.slice none 0 0) (.slice none 0 0))
    case first =>
      go_region
      go_wp2_with fail
      go_meet
      rw [HSB.out]
      exact ⟨rfl, SnAt.start HB1.out HR.out HP.out⟩
    case rest =>
      obtain ⟨rfl, hsn⟩ := hcut
      clear m1 m5 m6 m7 m8 m9 m11 m12 z0 HP HR HB1
      have HSN := hid hsn
      clear hsn
      generalize hQ1 : List.zipWith (fun t (x : Bool × Int) => (t, slotV t x.2)) tl1 lo = Q1
      have HQE := hid hQ1
      clear hQ1
      generalize hQ2 : List.zipWith (fun t (x : Bool × Int) => (t, slotV t x.2)) tl2 st = Q2
      have HQF := hid hQ2
      clear hQ2
      have HQ2 : Hid (Q2.length = st.length) := hid (by rw [← HQF.out, List.length_zipWith, HL2.out, Nat.min_self])
      have HQ1 : Hid (Q1.length = lo.length) := hid (by rw [← HQE.out, List.length_zipWith, HL1.out, Nat.min_self])
      go_wp2_with fail
      go_loopg [5] lo.length (fun gk x w' => ∃ (n : Nat) (v1 : Value), n ≤ lo.length ∧ gk = lo.length - n ∧ x = .int .i64 n ∧ SnAt w w' sb oc va ph hd pl #[.int .i64 pl, .bool rc, .slice p1 tl1.length c1, .slice p2 tl2.length c2] (Q1.take n) [] v1 (.slice none 0 0))
      case atStart => exact ⟨0, .slice none 0 0, by omega, by omega, rfl, HSN.out⟩
      case round =>
        obtain ⟨n, v1, hn, hgk, rfl, hS⟩ := hrel
        have hbel := hS.below
        have hown := hS.o1
        rw [List.length_take, HQ1.out, Nat.min_eq_left hn] at hown
        have q8 := (hbel.cell (p := ⟨b, 8, none⟩) hbz).trans HM8.out
        have pz2 := cell_of_row wr (w.heap.size + 1) 2 _ _ _ hS.pt
        have sz5 := cell_of_row wr sb 5 _ _ _ hS.out
        have fz5 := frozen_of_row wr sb 5 _ _ hS.out
        simp only [List.getElem?_toArray, List.getElem?_cons_zero, List.getElem?_cons_succ] at pz2 sz5
        have hsbz : sb < wr.heap.size := (Array.getElem?_eq_some_iff.1 hS.out).1
        have hfar : some sb ≠ v1.ownBlock := fun e => by have := (hown.lt _ e.symm).1; omega
        have HS := hid hS
        rcases Nat.lt_or_ge n lo.length with hnl | hnl
        · have n0 : (0 : Int) ≤ (n : Int) := by omega
          have n1 : (n : Int) < (lo.length : Int) := by omega
          have hnt : n < tl1.length := by rw [HL1.out]; exact hnl
          have n2 : (n : Int) < (tl1.length : Int) := by omega
          obtain ⟨gl, cl, el, _, hcl⟩ := HLO.out.some (by omega)
          have y0 := hcl _ _ (flat_at wdCells 2 (fun _ => rfl) lo n 0 hnl (by omega))
          have y1 := hcl _ _ (flat_at wdCells 2 (fun _ => rfl) lo n 1 hnl (by omega))
          rw [Nat.add_zero] at y0
          have hglz := World.block_lt_of_cell? w _ y0
          simp only at hglz
          rw [← hbel.cell (p := ⟨gl, n * 2, none⟩) hglz] at y0
          rw [← hbel.cell (p := ⟨gl, n * 2 + 1, none⟩) hglz] at y1
          rcases HT1.out with ⟨_, h0⟩ | ⟨gt, ct, et, _, hct⟩
          · rw [h0] at hnt; simp at hnt
          have t0 := hct n _ (List.getElem?_eq_getElem hnt)
          have hgtz := World.block_lt_of_cell? w _ t0
          simp only at hgtz
          rw [← hbel.cell (p := ⟨gt, n, none⟩) hgtz] at t0
          unfold numV at t0
          have HNX : Hid (Q1.take (n + 1) = Q1.take n ++ [(tl1[n], slotV tl1[n] lo[n].2)]) := hid (by
            have h1 : n < Q1.length := by rw [HQ1.out]; exact hnl
            rw [List.take_succ_eq_append_getElem h1]
            simp [← HQE.out])
          cases el
          cases et
          generalize lo[n] = xx at *
          generalize tl1[n] = tt at *
          obtain ⟨xr, xv⟩ := xx
          simp only at y0 y1
          have hsl := hid (fun W => slot_any tt xr xv W)
          generalize slotV tt xv = sv at *
          have hgl2 : gl < wr.heap.size := Nat.lt_of_lt_of_le hglz hbel.size
          have hgt2 : gt < wr.heap.size := Nat.lt_of_lt_of_le hgtz hbel.size
          have hb2 : b < wr.heap.size := Nat.lt_of_lt_of_le hbz hbel.size
          clear hcl hct hS hbel
          go_upto_region 6 with fail
          go_region_law
            ((first
              | (refine step_append_lies _ (by rfl) _ _ _ (by rfl) (sb + 1) 98 i9 _ 2 16 Tryz.underlying96 hi9 hz9 hz8 hz7 rfl (by omega) _ n ((Q1.take n).flatMap slCells) (by rfl) (hown9.alloc _)
                  ⟨w9.heap.size, 0, none⟩ 1 1 [.int .i64 tt, .int .i64 sv] (by rfl) (by rfl) (World.news_of_block (cs := #[.int .i64 tt, .int .i64 sv]) (t := 98) (fr := (0, 0)) (heap_alloc_new w9 _)) (by simp [Value.oneCell'])
                  (by omega) (by unfold maxLen; omega) (by omega) (by simp; omega) (w9.heap.size + 1) (by simp) ?_; intro gg gcap w6 hown6 hgrow6 hat6 hlt6; obtain ⟨c6, f6⟩ := cell6b hgrow6 (b := sb) (by omega) hfar 5; rw [a9] at c6; rw [f9] at f6)
              | (go_simp; go_at_call 103; refine (hsl.out _).mono ?_; intro x w9 hh; obtain ⟨hx9, hb9⟩ := hh; subst hx9; have hz9w := hb9.size; have a9 := (hb9.cell (p := ⟨sb, 5, none⟩) hsbz).trans sz5; have f9 := (hb9.frozen (p := ⟨sb, 5, none⟩) hsbz).trans fz5; have hz9x : wr.heap.size ≤ w9.heap.size := hz9w; have a9' : (w9.alloc (.cells #[.int .i64 tt, .int .i64 sv] 98)).cell? ⟨sb, 5, none⟩ = some v1 := (World.cell?_alloc_past _ _ _ (by omega)).trans a9; have hown9 := owns_keep (w' := w9) hown (fun g' hg' => hb9.block g' (hown.lt g' hg').2); dsimp only)))
          all_goals
            have HO6 := hid hown6
            have HG6 := hid hgrow6
            have HA6 := hid hat6
            have HB9 : Hid (Below wr.heap.size wr w9) := hid ⟨hb9.os, hb9.tape, hb9.output, hb9.size, hb9.block⟩
            clear hown6 hgrow6 hat6 hb9 hown hown9 c6 f6 a9 f9 a9' q8 pz2 sz5 fz5 y0 y1 t0 hsl
            go_wp2_with fail
            go_roundg (lo.length - (n + 1))
            case measure => omega
            case rel =>
              refine ⟨n + 1, .slice (some ⟨gg, 0, none⟩) (n + 1) gcap, by omega, rfl, by go_num, ?_⟩
              rw [HNX.out]
              exact SnAt.push1 ((HS.out.same HB9.out).same ((Below.refl _ _).alloc (Nat.le_refl _) _)) (by rw [List.length_take, HQ1.out, Nat.min_eq_left hn]) HO6.out HG6.out (by simpa using HA6.out)
        · have n1 : ¬ (n : Int) < (lo.length : Int) := by omega
          have HSA : Hid (SnAt w wr sb oc va ph hd pl #[.int .i64 pl, .bool rc, .slice p1 tl1.length c1, .slice p2 tl2.length c2] Q1 [] v1 (.slice none 0 0)) := hid (by
            have h := HS.out
            rw [List.take_of_length_le (by rw [HQ1.out]; omega)] at h
            exact h)
          clear hS hbel hown HS
          go_wp2_with fail
          go_loopg [6] st.length (fun gk x w' => ∃ (n : Nat) (z2 : Value), n ≤ st.length ∧ gk = st.length - n ∧ x = .int .i64 n ∧ SnAt w w' sb oc va ph hd pl #[.int .i64 pl, .bool rc, .slice p1 tl1.length c1, .slice p2 tl2.length c2] Q1 (Q2.take n) v1 z2)
          case atStart => exact ⟨0, .slice none 0 0, by omega, by omega, rfl, HSA.out⟩
          case round =>
            obtain ⟨n, z2, hn, hgk, rfl, hS⟩ := hrel
            have hbel := hS.below
            have hown := hS.o2
            rw [List.length_take, HQ2.out, Nat.min_eq_left hn] at hown
            have q8 := (hbel.cell (p := ⟨b, 9, none⟩) hbz).trans HM9.out
            have pz2 := cell_of_row wr (w.heap.size + 1) 3 _ _ _ hS.pt
            have sz5 := cell_of_row wr sb 6 _ _ _ hS.out
            have fz5 := frozen_of_row wr sb 6 _ _ hS.out
            simp only [List.getElem?_toArray, List.getElem?_cons_zero, List.getElem?_cons_succ] at pz2 sz5
            have hsbz : sb < wr.heap.size := (Array.getElem?_eq_some_iff.1 hS.out).1
            have hfar : some sb ≠ z2.ownBlock := fun e => by have := (hown.lt _ e.symm).1; omega
            have HS := hid hS
            rcases Nat.lt_or_ge n st.length with hnl | hnl
            · have n0 : (0 : Int) ≤ (n : Int) := by omega
              have n1 : (n : Int) < (st.length : Int) := by omega
              have hnt : n < tl2.length := by rw [HL2.out]; exact hnl
              have n2 : (n : Int) < (tl2.length : Int) := by omega
              obtain ⟨gl, cl, el, _, hcl⟩ := HST.out.some (by omega)
              have y0 := hcl _ _ (flat_at wdCells 2 (fun _ => rfl) st n 0 hnl (by omega))
              have y1 := hcl _ _ (flat_at wdCells 2 (fun _ => rfl) st n 1 hnl (by omega))
              rw [Nat.add_zero] at y0
              have hglz := World.block_lt_of_cell? w _ y0
              simp only at hglz
              rw [← hbel.cell (p := ⟨gl, n * 2, none⟩) hglz] at y0
              rw [← hbel.cell (p := ⟨gl, n * 2 + 1, none⟩) hglz] at y1
              rcases HT2.out with ⟨_, h0⟩ | ⟨gt, ct, et, _, hct⟩
              · rw [h0] at hnt; simp at hnt
              have t0 := hct n _ (List.getElem?_eq_getElem hnt)
              have hgtz := World.block_lt_of_cell? w _ t0
              simp only at hgtz
              rw [← hbel.cell (p := ⟨gt, n, none⟩) hgtz] at t0
              unfold numV at t0
              have HNX : Hid (Q2.take (n + 1) = Q2.take n ++ [(tl2[n], slotV tl2[n] st[n].2)]) := hid (by
                have h1 : n < Q2.length := by rw [HQ2.out]; exact hnl
                rw [List.take_succ_eq_append_getElem h1]
                simp [← HQF.out])
              cases el
              cases et
              generalize st[n] = xx at *
              generalize tl2[n] = tt at *
              obtain ⟨xr, xv⟩ := xx
              simp only at y0 y1
              have hsl := hid (fun W => slot_any tt xr xv W)
              generalize slotV tt xv = sv at *
              have hgl2 : gl < wr.heap.size := Nat.lt_of_lt_of_le hglz hbel.size
              have hgt2 : gt < wr.heap.size := Nat.lt_of_lt_of_le hgtz hbel.size
              have hb2 : b < wr.heap.size := Nat.lt_of_lt_of_le hbz hbel.size
              clear hcl hct hS hbel
              go_upto_region 10 with fail
              go_region_law
                ((first
                  | (refine step_append_lies _ (by rfl) _ _ _ (by rfl) (sb + 1) 98 i9 _ 2 16 Tryz.underlying96 hi9 hz9 hz8 hz7 rfl (by omega) _ n ((Q2.take n).flatMap slCells) (by rfl) (hown9.alloc _)
                      ⟨w9.heap.size, 0, none⟩ 1 1 [.int .i64 tt, .int .i64 sv] (by rfl) (by rfl) (World.news_of_block (cs := #[.int .i64 tt, .int .i64 sv]) (t := 98) (fr := (0, 0)) (heap_alloc_new w9 _)) (by simp [Value.oneCell'])
                      (by omega) (by unfold maxLen; omega) (by omega) (by simp; omega) (w9.heap.size + 1) (by simp) ?_; intro gg gcap w6 hown6 hgrow6 hat6 hlt6; obtain ⟨c6, f6⟩ := cell6b hgrow6 (b := sb) (by omega) hfar 6; rw [a9] at c6; rw [f9] at f6)
                  | (go_simp; go_at_call 103; refine (hsl.out _).mono ?_; intro x w9 hh; obtain ⟨hx9, hb9⟩ := hh; subst hx9; have hz9w := hb9.size; have a9 := (hb9.cell (p := ⟨sb, 6, none⟩) hsbz).trans sz5; have f9 := (hb9.frozen (p := ⟨sb, 6, none⟩) hsbz).trans fz5; have hz9x : wr.heap.size ≤ w9.heap.size := hz9w; have a9' : (w9.alloc (.cells #[.int .i64 tt, .int .i64 sv] 98)).cell? ⟨sb, 6, none⟩ = some z2 := (World.cell?_alloc_past _ _ _ (by omega)).trans a9; have hown9 := owns_keep (w' := w9) hown (fun g' hg' => hb9.block g' (hown.lt g' hg').2); dsimp only)))
              all_goals
                have HO6 := hid hown6
                have HG6 := hid hgrow6
                have HA6 := hid hat6
                have HB9 : Hid (Below wr.heap.size wr w9) := hid ⟨hb9.os, hb9.tape, hb9.output, hb9.size, hb9.block⟩
                clear hown6 hgrow6 hat6 hb9 hown hown9 c6 f6 a9 f9 a9' q8 pz2 sz5 fz5 y0 y1 t0 hsl
                go_wp2_with fail
                go_roundg (st.length - (n + 1))
                case measure => omega
                case rel =>
                  refine ⟨n + 1, .slice (some ⟨gg, 0, none⟩) (n + 1) gcap, by omega, rfl, by go_num, ?_⟩
                  rw [HNX.out]
                  exact SnAt.push2 ((HS.out.same HB9.out).same ((Below.refl _ _).alloc (Nat.le_refl _) _)) (by rw [List.length_take, HQ2.out, Nat.min_eq_left hn]) HO6.out HG6.out (by simpa using HA6.out)
            · have n1 : ¬ (n : Int) < (st.length : Int) := by omega
              have hSB : SnAt w wr sb oc va ph hd pl #[.int .i64 pl, .bool rc, .slice p1 tl1.length c1, .slice p2 tl2.length c2] Q1 Q2 v1 z2 := by
                have h := HS.out
                rw [List.take_of_length_le (by rw [HQ2.out]; omega)] at h
                exact h
              obtain ⟨s1, k1, hv1⟩ := owns_slice hSB.o1
              obtain ⟨s2, k2, hv2⟩ := owns_slice hSB.o2
              subst hv1
              subst hv2
              have HSB := hid hSB
              have t0 := cell_of_row wr sb 0 _ _ _ hSB.out
              have t1 := cell_of_row wr sb 1 _ _ _ hSB.out
              have t2 := cell_of_row wr sb 2 _ _ _ hSB.out
              have t3 := cell_of_row wr sb 3 _ _ _ hSB.out
              have t4 := cell_of_row wr sb 4 _ _ _ hSB.out
              have t5 := cell_of_row wr sb 5 _ _ _ hSB.out
              have t6 := cell_of_row wr sb 6 _ _ _ hSB.out
              have r0 := cell_of_row wr w.heap.size 0 _ _ _ hSB.res
              have r1 := cell_of_row wr w.heap.size 1 _ _ _ hSB.res
              have r2 := cell_of_row wr w.heap.size 2 _ _ _ hSB.res
              have r3 := cell_of_row wr w.heap.size 3 _ _ _ hSB.res
              have r4 := cell_of_row wr w.heap.size 4 _ _ _ hSB.res
              have r5 := cell_of_row wr w.heap.size 5 _ _ _ hSB.res
              have r6 := cell_of_row wr w.heap.size 6 _ _ _ hSB.res
              have f0 := frozen_of_row wr w.heap.size 0 _ _ hSB.res
              have f1 := frozen_of_row wr w.heap.size 1 _ _ hSB.res
              have f2 := frozen_of_row wr w.heap.size 2 _ _ hSB.res
              have f3 := frozen_of_row wr w.heap.size 3 _ _ hSB.res
              have f4 := frozen_of_row wr w.heap.size 4 _ _ hSB.res
              have f5 := frozen_of_row wr w.heap.size 5 _ _ hSB.res
              have f6 := frozen_of_row wr w.heap.size 6 _ _ hSB.res
              simp only [List.getElem?_toArray, List.getElem?_cons_zero, List.getElem?_cons_succ] at t0 t1 t2 t3 t4 t5 t6 r0 r1 r2 r3 r4 r5 r6
              clear hS hbel hown HS hSB sz5 fz5 pz2
              go_wp2_with fail
              have hs3 := HSB.out.hs
              have hset : ∀ (u0 u1 u2 u3 u4 u5 u6 : Value) j, j ≠ w.heap.size → (((((((wr.setCell ⟨w.heap.size, 0, none⟩ u0).setCell ⟨w.heap.size, 1, none⟩ u1).setCell ⟨w.heap.size, 2, none⟩ u2).setCell ⟨w.heap.size, 3, none⟩ u3).setCell ⟨w.heap.size, 4, none⟩ u4).setCell ⟨w.heap.size, 5, none⟩ u5).setCell ⟨w.heap.size, 6, none⟩ u6).heap[j]? = wr.heap[j]? := fun u0 u1 u2 u3 u4 u5 u6 j hj => by
                iterate 7 rw [Below.heap_setCell _ _ _ _ hj]
              refine bodyPost_ret (v := .agg #[.int .i64 oc, .int .i64 va, .int .i64 pl, .int .i64 ph, .int .i64 hd, .slice s1 Q1.length k1, .slice s2 Q2.length k2]) (by simp [results, Tryz.results61, go_sem, r0, r1, r2, r3, r4, r5, r6]) rfl ⟨((((((HSB.out.below.setCell (by simp) _).setCell (by simp) _).setCell (by simp) _).setCell (by simp) _).setCell (by simp) _).setCell (by simp) _).setCell (by simp) _, _, _, rfl, ?_, ?_⟩
              · rw [HQE.out]
                exact (LsAt.of_owns HSB.out.o1).keep (fun g' hg' => ⟨⟨by omega, by simp [World.setCell]; omega⟩, hset _ _ _ _ _ _ _ _ (by omega)⟩)
              · rw [HQF.out]
                exact (LsAt.of_owns HSB.out.o2).keep (fun g' hg' => ⟨⟨by omega, by simp [World.setCell]; omega⟩, hset _ _ _ _ _ _ _ _ (by omega)⟩)
end Go.Proofs.YtdmdpindonghdaaGreatDoor
