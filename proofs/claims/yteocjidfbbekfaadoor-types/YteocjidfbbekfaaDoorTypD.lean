/- The contract of the program's Maps. -/
import Derived.Test.YteocjidfbbekfaaDoorTypC
import Derived.Test.YteocjidfbbekfaaDoorTintA
import Derived.Deep.RegionHeld3
namespace Go.Proofs.YteocjidfbbekfaaDoor
open Go.RowKit

theorem row5 {wr w5 : World} {o o' : Obj} {base n : Nat} {v : Value} {cs : List Value} (h : wr.ownsRow base 51 4 v n cs) (hb : Below (wr.alloc o).drew.heap.size (wr.alloc o).drew w5) : (w5.alloc o').ownsRow base 51 4 v n cs := by
  have hb' : Below wr.heap.size wr w5 := ((Below.refl _ _).alloc (Nat.le_refl _) o).trans (⟨hb.os, hb.tape, hb.output, hb.size, fun k hk => hb.block k (by simp [World.drew]; omega)⟩)
  exact (owns_below h hb' (fun g hg => (h.lt g hg).2)).alloc _
theorem below5 {wr w5 : World} {o : Obj} (hb : Below (wr.alloc o).drew.heap.size (wr.alloc o).drew w5) : Below wr.heap.size wr w5 :=
  ((Below.refl _ _).alloc (Nat.le_refl _) o).trans (⟨hb.os, hb.tape, hb.output, hb.size, fun k hk => hb.block k (by simp [World.drew]; omega)⟩)
theorem OwnPts.mono {w : World} {base base' : Nat} {v : Value} {ms : List MP} (h : OwnPts w base v ms) (hb : base' ≤ base) : OwnPts w base' v ms := by
  obtain ⟨cs, h1, h2⟩ := h
  exact ⟨cs, owns_mono h1 hb, PtsIn.keep (fun g hg => ⟨⟨Nat.le_trans hb hg.1, hg.2⟩, rfl⟩) _ _ h2⟩
def mapsF (l : List Ins) (fs : List Fr) (L : Nat) : List MP := List.zipWith (fun i f => ptF i.place f L) l fs
def TMapsPost (s : ByteArray) (w : World) (e : Ending) (w' : World) : Prop :=
  Below w.heap.size w w' ∧ ((∃ r : Nat, r ≠ 0 ∧ IsErr s r ∧ e = .returned (.tuple #[.slice none 0 0, .int .i64 r])) ∨
    (∃ v fs, e = .returned (.tuple #[v, .int .i64 0]) ∧ errOf s = 0 ∧ SetInv (codeOf s) (byteAt s 1) fs ∧ Still (codeOf s) fs ∧ OwnPts w' w.heap.size v (mapsF (codeOf s) fs (byteAt s 1))))

set_option maxRecDepth 100000 in
set_option maxHeartbeats 1000000 in
theorem tmaps_any (s : ByteArray) (w : World) (hs : s.size ≤ maxLen) (htab : FlowTab w) :
    Calls Tryd.prog 8 #[.string s] w (TMapsPost s w) := by
  obtain ⟨i0, hi0, hz0, hz1, hz2⟩ := info_parts pointInfo
  have hld := hid (tload_any s w hs htab)
  clear hs htab
  go_enter Tryd.func8, Tryd.ntmps8
  go_wp2_with fail
  refine hld.out.mono ?_
  clear hld
  intro x w2 hp
  obtain ⟨hb, hp⟩ := hp
  have hz := hb.size
  have HB := hid hb
  clear hb
  rcases hp with ⟨r, hr, he, rfl⟩ | ⟨g, cap, bf, fs, rfl, hLd⟩
  · have HE := hid he
    have HR := hid hr
    have hne : ((r : Int) != 0) = true := by simp; omega
    clear he hr
    go_wp2_with fail
    exact bodyPost_ret (v := .tuple #[.slice none 0 0, .int .i64 r]) (by simp [results, Tryd.results8, go_sem]) rfl ⟨HB.out.alloc hz _, .inl ⟨r, HR.out, HE.out, rfl⟩⟩
  · have HLD := hid hLd
    have hgl : g < w2.heap.size := hLd.g2
    have hL : byteAt s 1 ≤ 4 := (wf_of hLd.err).loc
    have hlen := hLd.inv.len
    have h120 := (wf_of hLd.err).len
    clear hLd
    generalize hLL : byteAt s 1 = L at *
    have HLL := hid hLL
    generalize hl : codeOf s = l at *
    have HL := hid hl
    clear hl hLL
    have hf0 := HLD.out.b1
    go_wp2_with fail
    go_loopg [7, 21] l.length (fun gk v i w' => ∃ k : Nat, k ≤ l.length ∧ gk = l.length - k ∧ i = .int .i64 k ∧ OwnPts w' (w2.heap.size + 1) v ((mapsF l fs L).take k) ∧ Below (w2.heap.size + 1) (w2.alloc (.cells #[.int .i64 L, .slice (some ⟨g, 0, none⟩) l.length cap] 35)) w')
    case atStart => exact ⟨0, by omega, by omega, rfl, OwnPts.nil _ _, Below.refl _ _⟩
    case round =>
      obtain ⟨k, hk, hg, rfl, hown, hbel⟩ := hrel
      have hz2' := hbel.size
      rw [alloc_size] at hz2'
      have HBEL := hid hbel
      have HOWN := hid hown
      rcases Nat.lt_or_ge k l.length with hlt | hge
      · have d1 : (k : Int) < (l.length : Int) := by omega
        have d0 : (0 : Int) ≤ (k : Int) := by omega
        have hbfz : bf < w2.heap.size := (Array.getElem?_eq_some_iff.1 HLD.out.all).1
        have hall : AllAt wr bf fs := ((hbel.block bf (by omega)).trans (Below.heap_alloc w2 _ _ hbfz)).trans HLD.out.all
        have hok := HLD.out.inv.ok
        have hci : CiAt wr g (aims l) := by
          have := HLD.out.ci
          rw [HL.out] at this
          exact this.same ((hbel.block g (by omega)).trans (Below.heap_alloc w2 _ _ hgl))
        obtain ⟨bx, bo, _⟩ := box_cells hbel
        have y0 := bx 0
        have y1 := bx 1
        simp only [List.getElem?_toArray, List.getElem?_cons_zero, List.getElem?_cons_succ] at y0 y1
        have hi : l[k]? = some l[k] := List.getElem?_eq_getElem hlt
        have hfk : fs[k]? = some (fs[k]'(by omega)) := List.getElem?_eq_getElem (by omega)
        obtain ⟨p0, _, _, _⟩ := hci k _ (aims_get hi)
        have HNX : Hid ((mapsF l fs L).take (k + 1) = (mapsF l fs L).take k ++ [ptF l[k].place (fs[k]'(by omega)) L]) := hid (by
          have hkm : k < (mapsF l fs L).length := by simp [mapsF]; omega
          rw [List.take_succ_eq_append_getElem hkm]
          simp [mapsF])
        have hfok := hok _ (List.mem_of_getElem? hfk)
        have hpt := hid (fun W => point_any l[k].place L (fs[k]'(by omega)) W hfok hL)
        have HFK := hid hfk
        generalize fs[k]'(by omega) = f at *
        generalize l[k].place = pl at *
        have c0 := hall.cell hok HFK.out (j := 0) (by omega)
        have c1 := hall.cell hok HFK.out (j := 1) (by omega)
        have c2 := hall.cell hok HFK.out (j := 2) (by omega)
        have c3 := hall.cell hok HFK.out (j := 3) (by omega)
        have c4 := hall.cell hok HFK.out (j := 4) (by omega)
        have c5 := hall.cell hok HFK.out (j := 5) (by omega)
        have c6 := hall.cell hok HFK.out (j := 6) (by omega)
        have c7 := hall.cell hok HFK.out (j := 7) (by omega)
        have c8 := hall.cell hok HFK.out (j := 8) (by omega)
        have c9 := hall.cell hok HFK.out (j := 9) (by omega)
        have c10 := hall.cell hok HFK.out (j := 10) (by omega)
        have c11 := hall.cell hok HFK.out (j := 11) (by omega)
        have c12 := hall.cell hok HFK.out (j := 12) (by omega)
        have c13 := hall.cell hok HFK.out (j := 13) (by omega)
        have c14 := hall.cell hok HFK.out (j := 14) (by omega)
        have HM := hid (rfl : ptF pl f L = ptF pl f L)
        generalize hM : ptF pl f L = M at hpt HNX HM
        clear HM hM
        obtain ⟨fr, flo, d, fst, fw⟩ := f
        obtain ⟨h1, h2, h3⟩ := hfok
        simp only at h1 h2
        obtain ⟨a, b, c, e, rfl⟩ := four h1
        obtain ⟨s0, s1, s2, s3, s4, s5, s6, s7, rfl⟩ := eight h2
        simp only [frL, List.map_cons, List.map_nil, List.cons_append, List.nil_append, numV, List.getElem?_cons_zero, List.getElem?_cons_succ] at c0 c1 c2 c3 c4 c5 c6 c7 c8 c9 c10 c11 c12 c13 c14 hpt
        rw [Nat.add_zero] at c0
        obtain ⟨cs, hrow, hpts⟩ := hown
        rw [List.length_take, Nat.min_eq_left (by simp [mapsF]; omega)] at hrow
        have hgz : g < wr.heap.size := by omega
        have hwz : w2.heap.size < wr.heap.size := by omega
        have HPTS := hid hpts
        have hfar : ∀ b, b ≤ w2.heap.size ∨ wr.heap.size ≤ b → some b ≠ u7.ownBlock := fun b hb e => by
          have := hrow.lt b e.symm
          omega
        clear hall hci hbel bx bo hi hfk hok HOWN hpts
        go_upto_region 9 with fail
        go_region_held3 (fun w' => w'.cell? ⟨w2.heap.size, 0, none⟩ = some (.int .i64 L) ∧ w'.cell? ⟨w2.heap.size, 1, none⟩ = some (.slice (some ⟨g, 0, none⟩) l.length cap) ∧ w'.cell? ⟨g, k * 4, none⟩ = some (.int .i64 pl) ∧ w'.cell? ⟨wr.heap.size, 0, none⟩ = some (.bool fr) ∧ w'.cell? ⟨wr.heap.size, 1, none⟩ = some (.int .i64 a) ∧ w'.cell? ⟨wr.heap.size, 2, none⟩ = some (.int .i64 b) ∧ w'.cell? ⟨wr.heap.size, 3, none⟩ = some (.int .i64 c) ∧ w'.cell? ⟨wr.heap.size, 4, none⟩ = some (.int .i64 e) ∧ w'.cell? ⟨wr.heap.size, 5, none⟩ = some (.int .i64 d) ∧ w'.cell? ⟨wr.heap.size, 6, none⟩ = some (.int .i64 s0) ∧ w'.cell? ⟨wr.heap.size, 7, none⟩ = some (.int .i64 s1) ∧ w'.cell? ⟨wr.heap.size, 8, none⟩ = some (.int .i64 s2) ∧ w'.cell? ⟨wr.heap.size, 9, none⟩ = some (.int .i64 s3) ∧ w'.cell? ⟨wr.heap.size, 10, none⟩ = some (.int .i64 s4) ∧ w'.cell? ⟨wr.heap.size, 11, none⟩ = some (.int .i64 s5) ∧ w'.cell? ⟨wr.heap.size, 12, none⟩ = some (.int .i64 s6) ∧ w'.cell? ⟨wr.heap.size, 13, none⟩ = some (.int .i64 s7) ∧ w'.cell? ⟨wr.heap.size, 14, none⟩ = some (.bool fw))
          (first
            | go_keep
            | (go_split_ands
               refine ⟨?_, ?_, ?_, ?_, ?_, ?_, ?_, ?_, ?_, ?_, ?_, ?_, ?_, ?_, ?_, ?_, ?_, ?_⟩ <;> first | (exact hgrow6.cell (by assumption) (hfar _ (by simp <;> omega))) | (rw [hb5.cell (by simp <;> omega)]; assumption)))
          ((first
            | (go_at_call 14; refine (hpt.out _).mono ?_; intro x w5 hpost; obtain ⟨hb5, v1, v2, hx5, hi1, hi2⟩ := hpost; obtain ⟨p1, q1, hv1⟩ := hi1.slice; obtain ⟨p2, q2, hv2⟩ := hi2.slice; subst hv1; subst hv2; subst hx5; have hz5 : wr.heap.size + 1 ≤ w5.heap.size := by simpa using hb5.size)
            | (refine step_append_lies _ (by rfl) _ _ _ (by rfl) (w2.heap.size + 1) 51 i0 _ 4 64 Tryd.underlying27 hi0 hz0 hz1 hz2 rfl (by omega) _ k cs (by rfl) (row5 hrow hb5)
                ⟨w5.heap.size, 0, none⟩ 1 1 [.int .i64 M.place, .bool M.reached, .slice p1 M.lo.length q1, .slice p2 M.st.length q2] (by rfl) (by rfl) (World.news_of_block (cs := #[.int .i64 M.place, .bool M.reached, .slice p1 M.lo.length q1, .slice p2 M.st.length q2]) (t := 51) (fr := (0, 0)) (heap_alloc_new w5 _)) (by simp [Value.oneCell'])
                (by omega) (by unfold maxLen; omega) (by omega) (by simp; omega) (w5.heap.size + 1) (by simp) ?_; intro gg gcap w6 hown6 hgrow6 hat6 hlt6)))
        have HROW := hid hrow
        have HI1 := hid hi1
        have HI2 := hid hi2
        have HB5 := hid (below5 hb5)
        have HO6 := hid hown6
        have HG6 := hid hgrow6
        have HAT6 := hid hat6
        clear hrow hi1 hi2 hb5 hown6 hgrow6 hat6 y0 y1 p0 c0 c1 c2 c3 c4 c5 c6 c7 c8 c9 c10 c11 c12 c13 c14 hpt
        go_wp2_with fail
        go_roundg (l.length - (k + 1))
        case measure => omega
        case rel =>
          have hlt7 : ∀ g', u7.ownBlock = some g' → g' < wr.heap.size := fun g' hg' => (HROW.out.lt g' hg').2
          have hmk : k + 1 = ((mapsF l fs L).take (k + 1)).length := by rw [List.length_take, Nat.min_eq_left (by simp [mapsF]; omega)]
          refine ⟨k + 1, by omega, rfl, by go_num, ?_, ?_⟩
          · have hps : PtsIn (w5.alloc (.cells #[.int .i64 M.place, .bool M.reached, .slice p1 M.lo.length q1, .slice p2 M.st.length q2] 51)) (fun g' => w2.heap.size + 1 ≤ g' ∧ g' < (w5.alloc (.cells #[.int .i64 M.place, .bool M.reached, .slice p1 M.lo.length q1, .slice p2 M.st.length q2] 51)).heap.size ∧ u7.ownBlock ≠ some g') cs ((mapsF l fs L).take k) :=
              PtsIn.keep (fun g' hg' => ⟨⟨hg'.1, by rw [alloc_size]; omega, hg'.2.2⟩, (Below.heap_alloc _ _ _ (by omega)).trans (HB5.out.block g' hg'.2.1)⟩) _ _ HPTS.out
            have hk1 : ∀ (v : Value) (x : List Nat), IntsAt w5 (fun g' => wr.heap.size + 1 ≤ g' ∧ g' < w5.heap.size) v x → IntsAt (w5.alloc (.cells #[.int .i64 M.place, .bool M.reached, .slice p1 M.lo.length q1, .slice p2 M.st.length q2] 51)) (fun g' => w2.heap.size + 1 ≤ g' ∧ g' < (w5.alloc (.cells #[.int .i64 M.place, .bool M.reached, .slice p1 M.lo.length q1, .slice p2 M.st.length q2] 51)).heap.size ∧ u7.ownBlock ≠ some g') v x := fun v x h =>
              h.keep (fun g' hg' => ⟨⟨by omega, by rw [alloc_size]; omega, fun e => by have := hlt7 g' e; omega⟩, Below.heap_alloc _ _ _ hg'.2⟩)
            have := OwnPts.push (m := M) (by rw [List.length_take, Nat.min_eq_left (by simp [mapsF]; omega)]) hps (hk1 _ _ (by simpa using HI1.out)) (hk1 _ _ (by simpa using HI2.out)) HO6.out HG6.out (by rw [alloc_size]; exact HAT6.out)
            rw [← HNX.out, ← hmk] at this
            exact this
          · have h1 : Below (w2.heap.size + 1) (w2.alloc (.cells #[.int .i64 L, .slice (some ⟨g, 0, none⟩) l.length cap] 35)) w5 := HBEL.out.trans (HB5.out.mono hz2')
            exact (h1.alloc (by omega) _).grown HG6.out (by rw [alloc_size]; omega) (fun k hk => (HROW.out.lt k hk).1)
      · have d1 : ¬ (k : Int) < (l.length : Int) := by omega
        have hkl : k = l.length := by omega
        clear hbel hown
        go_wp2_with fail
        refine bodyPost_ret (v := .tuple #[u7, .int .i64 0]) (by simp [results, Tryd.results8, go_sem]) rfl ⟨HB.out.trans ((box_below (Nat.le_refl _) HBEL.out).mono hz), .inr ⟨u7, fs, rfl, HLD.out.err, HLD.out.inv, HLD.out.still, ?_⟩⟩
        have := HOWN.out
        rw [hkl, List.take_of_length_le (by simp [mapsF]; omega)] at this
        rw [HL.out, HLL.out]
        exact this.mono (by omega)
end Go.Proofs.YteocjidfbbekfaaDoor
