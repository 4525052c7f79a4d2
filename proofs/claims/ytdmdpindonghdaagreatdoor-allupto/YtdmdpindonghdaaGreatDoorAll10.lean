/- tintlaw.All is true of every image, list of inputs, number of cells and script that are together of bulk at most 1048576: each call of a machine, in every order, answers what the document's answer (tintref) is, with everything that came out written full by its owner, and nothing that was written is disturbed; conditions: that bound; the five listed variables hold what the program's text lays in them. -/
import Derived.Test.YtdmdpindonghdaaGreatDoorAll9
import Derived.Deep.DeepHandedRow
set_option maxHeartbeats 4000000
set_option maxRecDepth 100000
namespace Go.Proofs.YtdmdpindonghdaaGreatDoor
open Go.RowKit
def PointPost2 (m : MP) (w : World) (e : Ending) (w' : World) : Prop :=
  Below w.heap.size w w' ∧ ∃ v1 v2, e = .returned (.agg #[.int .i64 m.place, .bool m.reached, v1, v2]) ∧ w'.ownsRow w.heap.size 3 1 v1 m.lo.length (m.lo.map numV) ∧ w'.ownsRow w.heap.size 3 1 v2 m.st.length (m.st.map numV) ∧ ∀ g, v1.ownBlock = some g → v2.ownBlock ≠ some g
theorem point_two (place L : Nat) (f : Fr) (w : World) (hf : FrOk f) (hL : L ≤ 4) :
    Calls Tryz.prog 53 #[.int .i64 place, .agg (frL f).toArray, .int .i64 L] w (PointPost2 (ptF place f L) w) := by
  have hlt := hid (fun W => localTypes_any f L W hf hL)
  have hsk := hid (fun W => stackTypes_any f W hf)
  obtain ⟨r, lo, d, st, wr⟩ := f
  obtain ⟨h1, h2, h3⟩ := hf
  simp only at h1 h2
  obtain ⟨a, b, c, e, rfl⟩ := four h1
  obtain ⟨s0, s1, s2, s3, s4, s5, s6, s7, rfl⟩ := eight h2
  simp only [frL, List.map_cons, List.map_nil, List.cons_append, List.nil_append, numV] at hlt hsk ⊢
  cases r
  · have HF : Hid (ptF place ⟨false, [a, b, c, e], d, [s0, s1, s2, s3, s4, s5, s6, s7], wr⟩ L = ⟨place, false, [], []⟩) := hid rfl
    clear hlt hsk
    go_enter Tryz.func53, Tryz.ntmps53
    go_wp2_with fail
    exact bodyPost_ret (v := .agg #[.int .i64 place, .bool false, .slice none 0 0, .slice none 0 0]) (by simp [results, Tryz.results53, go_sem]) rfl ⟨((Below.refl _ _).alloc (Nat.le_refl _) _).alloc (by simp) _, _, _, by rw [HF.out], by rw [HF.out]; exact World.ownsRow_nil _ _ _ _, by rw [HF.out]; exact World.ownsRow_nil _ _ _ _, fun g hg => by simp [Value.ownBlock] at hg⟩
  · have HF : Hid (ptF place ⟨true, [a, b, c, e], d, [s0, s1, s2, s3, s4, s5, s6, s7], wr⟩ L = ⟨place, true, [a, b, c, e].take L, [s0, s1, s2, s3, s4, s5, s6, s7].take d⟩) := hid rfl
    generalize [a, b, c, e].take L = l1 at *
    generalize [s0, s1, s2, s3, s4, s5, s6, s7].take d = l2 at *
    generalize ptF place ⟨true, [a, b, c, e], d, [s0, s1, s2, s3, s4, s5, s6, s7], wr⟩ L = M at *
    go_enter Tryz.func53, Tryz.ntmps53
    go_wp2_with fail
    refine (hlt.out _).mono ?_
    clear hlt
    intro x w2 hp
    obtain ⟨hb2, v1, hx, ho1⟩ := hp
    obtain ⟨p1, c1, hv1⟩ := owns_slice ho1
    subst x
    subst hv1
    have hrow : w2.heap[w.heap.size]? = some (.cells #[.bool true, .int .i64 a, .int .i64 b, .int .i64 c, .int .i64 e, .int .i64 d, .int .i64 s0, .int .i64 s1, .int .i64 s2, .int .i64 s3, .int .i64 s4, .int .i64 s5, .int .i64 s6, .int .i64 s7, .bool wr] 125) := by
      rw [hb2.block _ (by simp; omega)]; exact heap_two_first w _ _
    have m0 := cell_of_row w2 w.heap.size 0 _ _ _ hrow
    have m1 := cell_of_row w2 w.heap.size 1 _ _ _ hrow
    have m2 := cell_of_row w2 w.heap.size 2 _ _ _ hrow
    have m3 := cell_of_row w2 w.heap.size 3 _ _ _ hrow
    have m4 := cell_of_row w2 w.heap.size 4 _ _ _ hrow
    have m5 := cell_of_row w2 w.heap.size 5 _ _ _ hrow
    have m6 := cell_of_row w2 w.heap.size 6 _ _ _ hrow
    have m7 := cell_of_row w2 w.heap.size 7 _ _ _ hrow
    have m8 := cell_of_row w2 w.heap.size 8 _ _ _ hrow
    have m9 := cell_of_row w2 w.heap.size 9 _ _ _ hrow
    have m10 := cell_of_row w2 w.heap.size 10 _ _ _ hrow
    have m11 := cell_of_row w2 w.heap.size 11 _ _ _ hrow
    have m12 := cell_of_row w2 w.heap.size 12 _ _ _ hrow
    have m13 := cell_of_row w2 w.heap.size 13 _ _ _ hrow
    have m14 := cell_of_row w2 w.heap.size 14 _ _ _ hrow
    simp only [List.getElem?_toArray, List.getElem?_cons_zero, List.getElem?_cons_succ] at m0 m1 m2 m3 m4 m5 m6 m7 m8 m9 m10 m11 m12 m13 m14
    have HB2 := hid hb2
    have HO1 := hid ho1
    clear hrow hb2 ho1
    go_wp2_with fail
    refine (hsk.out _).mono ?_
    clear hsk m0 m1 m2 m3 m4 m5 m6 m7 m8 m9 m10 m11 m12 m13 m14
    intro x w3 hp
    obtain ⟨hb3, v2, hx, ho2⟩ := hp
    obtain ⟨p2, c2, hv2⟩ := owns_slice ho2
    subst x
    subst hv2
    have hz2 := HB2.out.size
    simp only [World.alloc, Array.size_push] at hz2
    have hrow : w3.heap[w.heap.size + 1]? = some (.cells #[.int .i64 0, .bool false, .slice none 0 0, .slice none 0 0] 102) := by
      rw [hb3.block _ (by omega), HB2.out.block _ (by simp)]; exact heap_two_new w _ _
    have m0 := cell_of_row w3 (w.heap.size + 1) 0 _ _ _ hrow
    have m1 := cell_of_row w3 (w.heap.size + 1) 1 _ _ _ hrow
    have m2 := cell_of_row w3 (w.heap.size + 1) 2 _ _ _ hrow
    have m3 := cell_of_row w3 (w.heap.size + 1) 3 _ _ _ hrow
    simp only [List.getElem?_toArray, List.getElem?_cons_zero, List.getElem?_cons_succ] at m0 m1 m2 m3
    have f0 := frozen_of_row w3 (w.heap.size + 1) 0 _ _ hrow
    have f1 := frozen_of_row w3 (w.heap.size + 1) 1 _ _ hrow
    have f2 := frozen_of_row w3 (w.heap.size + 1) 2 _ _ hrow
    have f3 := frozen_of_row w3 (w.heap.size + 1) 3 _ _ hrow
    have HB3 := hid hb3
    have HO2 := hid ho2
    clear hrow hb3 ho2
    have HFK : Hid (∀ (u0 u1 u2 u3 : Value) k, k ≠ w.heap.size + 1 → ((((w3.setCell ⟨w.heap.size + 1, 0, none⟩ u0).setCell ⟨w.heap.size + 1, 1, none⟩ u1).setCell ⟨w.heap.size + 1, 2, none⟩ u2).setCell ⟨w.heap.size + 1, 3, none⟩ u3).heap[k]? = w3.heap[k]?) := hid (fun u0 u1 u2 u3 k hk => by
      rw [Below.heap_setCell _ _ _ _ hk, Below.heap_setCell _ _ _ _ hk, Below.heap_setCell _ _ _ _ hk, Below.heap_setCell _ _ _ _ hk])
    have hz3 := HB3.out.size
    go_wp2_with fail
    have hw3 : Below w.heap.size w w3 := ((((Below.refl _ _).alloc (Nat.le_refl _) _).alloc (by simp) _).trans (HB2.out.mono (by simp; omega))).trans (HB3.out.mono (by omega))
    refine bodyPost_ret (v := .agg #[.int .i64 place, .bool true, .slice p1 l1.length c1, .slice p2 l2.length c2]) (by simp [results, Tryz.results53, go_sem, m0, m1, m2, m3]) rfl ⟨(((hw3.setCell (by simp) _).setCell (by simp) _).setCell (by simp) _).setCell (by simp) _, _, _, by rw [HF.out], ?_, ?_, ?_⟩
    · rw [HF.out]
      refine owns_mono (owns_keep HO1.out (fun g hg => ?_)) (by simp only [World.alloc, Array.size_push]; omega)
      have h1 := HO1.out.lt g hg
      simp only [World.alloc, Array.size_push] at h1
      rw [HFK.out _ _ _ _ _ (by omega), HB3.out.block _ (by omega)]
    · rw [HF.out]
      refine owns_mono (owns_keep HO2.out (fun g hg => ?_)) (by omega)
      have h1 := HO2.out.lt g hg
      rw [HFK.out _ _ _ _ _ (by omega)]
    · intro g h1 h2
      have g1 := (HO1.out.lt g h1).2
      have g2 := (HO2.out.lt g h2).1
      omega
/-- v is a list of n points; each list in it lies in a block of its own, which lab tells. -/
def OwnPts2 (w : World) (base : Nat) (v : Value) (n : Nat) : Prop :=
  ∃ (cs : List Value) (lab : Nat → Nat), w.ownsRow base 102 4 v n cs ∧ ∀ (j : Nat) (x : Value), cs[j]? = some x → 2 ≤ j % 4 → ∃ cap, Box w (fun g => base ≤ g ∧ g < w.heap.size ∧ v.ownBlock ≠ some g ∧ lab g = j) 3 1 x cap
theorem OwnPts2.nil (w : World) (base : Nat) : OwnPts2 w base (.slice none 0 0) 0 := ⟨[], fun _ => 0, World.ownsRow_nil _ _ _ _, fun j x h => by simp at h⟩
theorem OwnPts2.mono {w : World} {base base' : Nat} {v : Value} {n : Nat} (h : OwnPts2 w base v n) (hb : base' ≤ base) : OwnPts2 w base' v n := by
  obtain ⟨cs, lab, h1, h2⟩ := h
  refine ⟨cs, lab, owns_mono h1 hb, fun j x hj hm => ?_⟩
  obtain ⟨cap, hc⟩ := h2 j x hj hm
  exact ⟨cap, hc.keep (fun g _ hg => ⟨⟨Nat.le_trans hb hg.1, hg.2⟩, rfl⟩)⟩
theorem OwnPts2.push {wr w5 w6 : World} {o : Obj} {base k gg cap n1 n2 : Nat} {v v1 v2 a b : Value} {cs c1 c2 : List Value} {lab : Nat → Nat} (hrow : wr.ownsRow base 102 4 v k cs)
    (hp : ∀ (j : Nat) (x : Value), cs[j]? = some x → 2 ≤ j % 4 → ∃ cap, Box wr (fun g => base ≤ g ∧ g < wr.heap.size ∧ v.ownBlock ≠ some g ∧ lab g = j) 3 1 x cap)
    (hb : Below wr.heap.size wr w5) (h1 : w5.ownsRow wr.heap.size 3 1 v1 n1 c1) (h2 : w5.ownsRow wr.heap.size 3 1 v2 n2 c2) (h12 : ∀ g, v1.ownBlock = some g → v2.ownBlock ≠ some g) (hbase : base ≤ wr.heap.size)
    (hown : w6.ownsRow base 102 4 (.slice (some ⟨gg, 0, none⟩) (k + 1) cap) (k + 1) (cs ++ [a, b, v1, v2])) (hgrow : (w5.alloc o).grownBy w6 v.ownBlock) (hat : v.ownBlock = some gg ∨ gg = w5.heap.size + 1) :
    OwnPts2 w6 base (.slice (some ⟨gg, 0, none⟩) (k + 1) cap) (k + 1) := by
  have hlen : cs.length = k * 4 := hrow.1
  have hz5 := hb.size
  have hz6 := hgrow.size
  rw [alloc_size] at hz6
  have hblk : ∀ g, g < w5.heap.size → v.ownBlock ≠ some g → w6.heap[g]? = w5.heap[g]? := fun g hg hne => (hgrow.block g (by rw [alloc_size]; omega) (fun e => hne e.symm)).trans (Below.heap_alloc _ _ _ hg)
  have hne : ∀ g, g < w5.heap.size → v.ownBlock ≠ some g → (Value.slice (some ⟨gg, 0, none⟩) (k + 1) cap).ownBlock ≠ some g := fun g hg h e => by
    simp only [Value.ownBlock, Option.some.injEq] at e
    rcases hat with h' | h'
    · exact h (h'.trans (by rw [e]))
    · omega
  have hvlt : ∀ g, v.ownBlock = some g → g < wr.heap.size := fun g hg => (hrow.lt g hg).2
  refine ⟨_, fun g => if g < wr.heap.size then lab g else if v1.ownBlock = some g then k * 4 + 2 else k * 4 + 3, hown, fun j x hj hm => ?_⟩
  rcases Nat.lt_or_ge j cs.length with hlt | hge
  · rw [List.getElem?_append_left hlt] at hj
    obtain ⟨c, hc⟩ := hp j x hj hm
    refine ⟨c, hc.keep (fun g _ hg => ⟨⟨hg.1, by omega, hne g (by omega) hg.2.2.1, by show (if g < wr.heap.size then _ else _) = _; rw [if_pos hg.2.1]; exact hg.2.2.2⟩, (hblk g (by omega) hg.2.2.1).trans (hb.block g hg.2.1)⟩)⟩
  · rw [List.getElem?_append_right hge] at hj
    obtain ⟨i, hi⟩ : ∃ i, j - cs.length = i := ⟨_, rfl⟩
    rw [hi] at hj
    have hi2 : i = 2 ∨ i = 3 := by
      have hi4 : i < 4 := by have := (List.getElem?_eq_some_iff.1 hj).1; simpa using this
      omega
    rcases hi2 with rfl | rfl
    · simp only [List.getElem?_cons_zero, List.getElem?_cons_succ, Option.some.injEq] at hj
      subst hj
      obtain ⟨c, hc⟩ := Box.of_owns h1
      refine ⟨c, hc.keep (fun g hg hh => ?_)⟩
      have hv : v.ownBlock ≠ some g := fun e => by have := hvlt g e; omega
      exact ⟨⟨by omega, by omega, hne g hh.2 hv, by show (if g < wr.heap.size then _ else _) = _; rw [if_neg (by omega), if_pos hg]; omega⟩, hblk g hh.2 hv⟩
    · simp only [List.getElem?_cons_zero, List.getElem?_cons_succ, Option.some.injEq] at hj
      subst hj
      obtain ⟨c, hc⟩ := Box.of_owns h2
      refine ⟨c, hc.keep (fun g hg hh => ?_)⟩
      have hv : v.ownBlock ≠ some g := fun e => by have := hvlt g e; omega
      exact ⟨⟨by omega, by omega, hne g hh.2 hv, by show (if g < wr.heap.size then _ else _) = _; rw [if_neg (by omega), if_neg (fun e => h12 g e hg)]; omega⟩, hblk g hh.2 hv⟩
/-- What Maps answers, as far as it can be written on. -/
def TMapsPost2 (w : World) (e : Ending) (w' : World) : Prop :=
  Below w.heap.size w w' ∧ ∃ v r n, e = .returned (.tuple #[v, .int .i64 r]) ∧ n ≤ 120 ∧ OwnPts2 w' w.heap.size v n
theorem tmaps_two (s : ByteArray) (w : World) (hs : s.size ≤ maxLen) (htab : FlowTab w) :
    Calls Tryz.prog 31 #[.string s] w (TMapsPost2 w) := by
  obtain ⟨i0, hi0, hz0, hz1, hz2⟩ := info_parts pointInfo
  have hld := hid (tload_any s w hs htab)
  clear hs htab
  go_enter Tryz.func31, Tryz.ntmps31
  go_wp2_with fail
  refine hld.out.mono ?_
  clear hld
  intro x w2 hp
  obtain ⟨hb, hp⟩ := hp
  have hz := hb.size
  have HB := hid hb
  clear hb
  rcases hp with ⟨r, hr, he, rfl⟩ | ⟨g, cap, bf, fs, rfl, hLd⟩
  · have HE := hid he
    have HR := hid hr
    have hne : ((r : Int) != 0) = true := by simp; omega
    clear he hr
    go_wp2_with fail
    exact bodyPost_ret (v := .tuple #[.slice none 0 0, .int .i64 r]) (by simp [results, Tryz.results31, go_sem]) rfl ⟨HB.out.alloc hz _, _, r, 0, rfl, by omega, OwnPts2.nil _ _⟩
  · have HLD := hid hLd
    have hgl : g < w2.heap.size := hLd.g2
    have hL : byteAt s 1 ≤ 4 := (wf_of hLd.err).loc
    have hlen := hLd.inv.len
    have h120 := (wf_of hLd.err).len
    clear hLd
    generalize hLL : byteAt s 1 = L at *
    have HLL := hid hLL
    generalize hl : codeOf s = l at *
    have HL := hid hl
    clear hl hLL
    have hf0 := HLD.out.b1
    go_wp2_with fail
    go_loopg [7, 21] l.length (fun gk v i w' => ∃ k : Nat, k ≤ l.length ∧ gk = l.length - k ∧ i = .int .i64 k ∧ OwnPts2 w' (w2.heap.size + 1) v k ∧ Below (w2.heap.size + 1) (w2.alloc (.cells #[.int .i64 L, .slice (some ⟨g, 0, none⟩) l.length cap] 64)) w')
    case atStart => exact ⟨0, by omega, by omega, rfl, OwnPts2.nil _ _, Below.refl _ _⟩
    case round =>
      obtain ⟨k, hk, hg, rfl, hown, hbel⟩ := hrel
      have hz2' := hbel.size
      rw [alloc_size] at hz2'
      have HBEL := hid hbel
      have HOWN := hid hown
      rcases Nat.lt_or_ge k l.length with hlt | hge
      · have d1 : (k : Int) < (l.length : Int) := by omega
        have d0 : (0 : Int) ≤ (k : Int) := by omega
        have hbfz : bf < w2.heap.size := (Array.getElem?_eq_some_iff.1 HLD.out.all).1
        have hall : AllAt wr bf fs := ((hbel.block bf (by omega)).trans (Below.heap_alloc w2 _ _ hbfz)).trans HLD.out.all
        have hok := HLD.out.inv.ok
        have hci : CiAt wr g (aims l) := by
          have := HLD.out.ci
          rw [HL.out] at this
          exact this.same ((hbel.block g (by omega)).trans (Below.heap_alloc w2 _ _ hgl))
        obtain ⟨bx, bo, _⟩ := box_cells hbel
        have y0 := bx 0
        have y1 := bx 1
        simp only [List.getElem?_toArray, List.getElem?_cons_zero, List.getElem?_cons_succ] at y0 y1
        have hi : l[k]? = some l[k] := List.getElem?_eq_getElem hlt
        have hfk : fs[k]? = some (fs[k]'(by omega)) := List.getElem?_eq_getElem (by omega)
        obtain ⟨p0, _, _, _⟩ := hci k _ (aims_get hi)
        have hfok := hok _ (List.mem_of_getElem? hfk)
        have hpt := hid (fun W => point_two l[k].place L (fs[k]'(by omega)) W hfok hL)
        have HFK := hid hfk
        generalize fs[k]'(by omega) = f at *
        generalize l[k].place = pl at *
        have c0 := hall.cell hok HFK.out (j := 0) (by omega)
        have c1 := hall.cell hok HFK.out (j := 1) (by omega)
        have c2 := hall.cell hok HFK.out (j := 2) (by omega)
        have c3 := hall.cell hok HFK.out (j := 3) (by omega)
        have c4 := hall.cell hok HFK.out (j := 4) (by omega)
        have c5 := hall.cell hok HFK.out (j := 5) (by omega)
        have c6 := hall.cell hok HFK.out (j := 6) (by omega)
        have c7 := hall.cell hok HFK.out (j := 7) (by omega)
        have c8 := hall.cell hok HFK.out (j := 8) (by omega)
        have c9 := hall.cell hok HFK.out (j := 9) (by omega)
        have c10 := hall.cell hok HFK.out (j := 10) (by omega)
        have c11 := hall.cell hok HFK.out (j := 11) (by omega)
        have c12 := hall.cell hok HFK.out (j := 12) (by omega)
        have c13 := hall.cell hok HFK.out (j := 13) (by omega)
        have c14 := hall.cell hok HFK.out (j := 14) (by omega)
        have HM := hid (rfl : ptF pl f L = ptF pl f L)
        generalize hM : ptF pl f L = M at hpt HM
        clear HM hM
        obtain ⟨fr, flo, d, fst, fw⟩ := f
        obtain ⟨h1, h2, h3⟩ := hfok
        simp only at h1 h2
        obtain ⟨a, b, c, e, rfl⟩ := four h1
        obtain ⟨s0, s1, s2, s3, s4, s5, s6, s7, rfl⟩ := eight h2
        simp only [frL, List.map_cons, List.map_nil, List.cons_append, List.nil_append, numV, List.getElem?_cons_zero, List.getElem?_cons_succ] at c0 c1 c2 c3 c4 c5 c6 c7 c8 c9 c10 c11 c12 c13 c14 hpt
        rw [Nat.add_zero] at c0
        obtain ⟨cs, lab, hrow, hpts⟩ := hown
        have hgz : g < wr.heap.size := by omega
        have hwz : w2.heap.size < wr.heap.size := by omega
        have HPTS := hid hpts
        have hfar : ∀ b, b ≤ w2.heap.size ∨ wr.heap.size ≤ b → some b ≠ u7.ownBlock := fun b hb e => by
          have := hrow.lt b e.symm
          omega
        clear hall hci hbel bx bo hi hfk hok HOWN hpts
        go_upto_region 9 with fail
        go_region_held3 (fun w' => w'.cell? ⟨w2.heap.size, 0, none⟩ = some (.int .i64 L) ∧ w'.cell? ⟨w2.heap.size, 1, none⟩ = some (.slice (some ⟨g, 0, none⟩) l.length cap) ∧ w'.cell? ⟨g, k * 4, none⟩ = some (.int .i64 pl) ∧ w'.cell? ⟨wr.heap.size, 0, none⟩ = some (.bool fr) ∧ w'.cell? ⟨wr.heap.size, 1, none⟩ = some (.int .i64 a) ∧ w'.cell? ⟨wr.heap.size, 2, none⟩ = some (.int .i64 b) ∧ w'.cell? ⟨wr.heap.size, 3, none⟩ = some (.int .i64 c) ∧ w'.cell? ⟨wr.heap.size, 4, none⟩ = some (.int .i64 e) ∧ w'.cell? ⟨wr.heap.size, 5, none⟩ = some (.int .i64 d) ∧ w'.cell? ⟨wr.heap.size, 6, none⟩ = some (.int .i64 s0) ∧ w'.cell? ⟨wr.heap.size, 7, none⟩ = some (.int .i64 s1) ∧ w'.cell? ⟨wr.heap.size, 8, none⟩ = some (.int .i64 s2) ∧ w'.cell? ⟨wr.heap.size, 9, none⟩ = some (.int .i64 s3) ∧ w'.cell? ⟨wr.heap.size, 10, none⟩ = some (.int .i64 s4) ∧ w'.cell? ⟨wr.heap.size, 11, none⟩ = some (.int .i64 s5) ∧ w'.cell? ⟨wr.heap.size, 12, none⟩ = some (.int .i64 s6) ∧ w'.cell? ⟨wr.heap.size, 13, none⟩ = some (.int .i64 s7) ∧ w'.cell? ⟨wr.heap.size, 14, none⟩ = some (.bool fw))
          (first
            | go_keep
            | (go_split_ands
               refine ⟨?_, ?_, ?_, ?_, ?_, ?_, ?_, ?_, ?_, ?_, ?_, ?_, ?_, ?_, ?_, ?_, ?_, ?_⟩ <;> first | (exact hgrow6.cell (by assumption) (hfar _ (by simp <;> omega))) | (rw [hb5.cell (by simp <;> omega)]; assumption)))
          ((first
            | (go_at_call 53; refine (hpt.out _).mono ?_; intro x w5 hpost; obtain ⟨hb5, v1, v2, hx5, hi1, hi2, hi3⟩ := hpost; obtain ⟨p1, q1, hv1⟩ := owns_slice hi1; obtain ⟨p2, q2, hv2⟩ := owns_slice hi2; subst hv1; subst hv2; subst hx5; have hz5 : wr.heap.size + 1 ≤ w5.heap.size := by simpa using hb5.size)
            | (refine step_append_lies _ (by rfl) _ _ _ (by rfl) (w2.heap.size + 1) 102 i0 _ 4 64 Tryz.underlying76 hi0 hz0 hz1 hz2 rfl (by omega) _ k cs (by rfl) (row5 hrow hb5)
                ⟨w5.heap.size, 0, none⟩ 1 1 [.int .i64 M.place, .bool M.reached, .slice p1 M.lo.length q1, .slice p2 M.st.length q2] (by rfl) (by rfl) (World.news_of_block (cs := #[.int .i64 M.place, .bool M.reached, .slice p1 M.lo.length q1, .slice p2 M.st.length q2]) (t := 102) (fr := (0, 0)) (heap_alloc_new w5 _)) (by simp [Value.oneCell'])
                (by omega) (by unfold maxLen; omega) (by omega) (by simp; omega) (w5.heap.size + 1) (by simp) ?_; intro gg gcap w6 hown6 hgrow6 hat6 hlt6)))
        have HROW := hid hrow
        have HI1 := hid hi1
        have HI2 := hid hi2
        have HI3 := hid hi3
        have HB5 := hid (below5 hb5)
        have HO6 := hid hown6
        have HG6 := hid hgrow6
        have HAT6 := hid hat6
        clear hrow hi1 hi2 hi3 hb5 hown6 hgrow6 hat6 y0 y1 p0 c0 c1 c2 c3 c4 c5 c6 c7 c8 c9 c10 c11 c12 c13 c14 hpt
        go_wp2_with fail
        go_roundg (l.length - (k + 1))
        case measure => omega
        case rel =>
          have hlt7 : ∀ g', u7.ownBlock = some g' → g' < wr.heap.size := fun g' hg' => (HROW.out.lt g' hg').2
          refine ⟨k + 1, by omega, rfl, by go_num, ?_, ?_⟩
          · refine OwnPts2.push (wr := wr) (w5 := w5) HROW.out HPTS.out HB5.out (owns_mono HI1.out (by simp)) (owns_mono HI2.out (by simp)) HI3.out (by omega) HO6.out HG6.out HAT6.out
          · have h1 : Below (w2.heap.size + 1) (w2.alloc (.cells #[.int .i64 L, .slice (some ⟨g, 0, none⟩) l.length cap] 64)) w5 := HBEL.out.trans (HB5.out.mono hz2')
            exact (h1.alloc (by omega) _).grown HG6.out (by rw [alloc_size]; omega) (fun k hk => (HROW.out.lt k hk).1)
      · have d1 : ¬ (k : Int) < (l.length : Int) := by omega
        have hkl : k = l.length := by omega
        clear hbel hown
        go_wp2_with fail
        refine bodyPost_ret (v := .tuple #[u7, .int .i64 0]) (by simp [results, Tryz.results31, go_sem]) rfl ⟨HB.out.trans ((box_below (Nat.le_refl _) HBEL.out).mono hz), u7, 0, k, rfl, by omega, HOWN.out.mono (by omega)⟩
theorem KN.fresh {E : Env} {B q : Nat} {K : PK} {R : RK} {F G : Nat → Prop} {s : MS} {img : ByteArray} {lab : Nat → Nat} {nI nS nC nM : Nat} {w : World} (h : KN E B q K R F G s img lab nI nS nC nM w) {g : Nat} (hg : w.heap.size ≤ g) : B ≤ g ∧ lab g = 0 ∧ ¬ F g ∧ ¬ G g := by
  obtain ⟨_, _, h3, h4, h5, h6, _, _⟩ := h.facts
  refine ⟨by omega, ?_, fun e => by have := h4 g e; omega, fun e => by have := h5 g e; omega⟩
  by_cases h0 : lab g = 0
  · exact h0
  · have := (h3 g h0).2; omega
theorem Box.lt {w : World} {P : Nat → Prop} {t : TypeId} {k cap : Nat} {v : Value} (h : Box w P t k v cap) : ∀ g, v.ownBlock = some g → P g ∧ g < w.heap.size := by
  intro g hg
  rcases h with ⟨e, _⟩ | ⟨g', n', r, e, hp, hr, _⟩
  · rw [e] at hg; cases hg
  · rw [e] at hg
    simp only [Value.ownBlock, Option.some.injEq] at hg
    subst hg
    exact ⟨hp, (Array.getElem?_eq_some_iff.1 hr).1⟩
/-- What is nobody's and no machine's. -/
def Free (B : Nat) (F G : Nat → Prop) (lab : Nat → Nat) (g : Nat) : Prop := B ≤ g ∧ lab g = 0 ∧ ¬ F g ∧ ¬ G g
/-- What is left to keep of the lists in Maps. -/
structure MLeft (B : Nat) (F G : Nat → Prop) (base : Nat) (vp : Value) (n : Nat) (cs : List Value) (labM lab : Nat → Nat) (w : World) (j0 : Nat) : Prop where
  row : w.ownsRow base 102 4 vp n cs
  blk : ∀ g, vp.ownBlock = some g → Free B F G lab g
  box : ∀ (j : Nat) (x : Value), j0 ≤ j → cs[j]? = some x → 2 ≤ j % 4 → ∃ cap, Box w (fun g => Free B F G lab g ∧ vp.ownBlock ≠ some g ∧ labM g = j) 3 1 x cap
theorem MLeft.next {B : Nat} {F G : Nat → Prop} {base : Nat} {vp : Value} {n : Nat} {cs : List Value} {labM lab lab' : Nat → Nat} {w w' : World} {j0 j1 : Nat} (h : MLeft B F G base vp n cs labM lab w j0) {x1 : Value} (hj : j0 ≤ j1) (hx : cs[j1]? = some x1) (hm : 2 ≤ j1 % 4) (hr : Rest w lab w' lab' x1.ownBlock) : MLeft B F G base vp n cs labM lab' w' (j1 + 1) := by
  obtain ⟨c1, hc1⟩ := h.box j1 x1 hj hx hm
  have hne : ∀ g, x1.ownBlock = some g → vp.ownBlock ≠ some g ∧ labM g = j1 := fun g hg => ((hc1.lt g hg).1).2
  have hb : ∀ g, vp.ownBlock = some g → w'.heap[g]? = w.heap[g]? ∧ lab' g = 0 := fun g hg => hr g (h.row.lt g hg).2 (h.blk g hg).2.1 (fun e => (hne g e).1 hg)
  refine ⟨owns_keep h.row (fun g hg => (hb g hg).1), fun g hg => ⟨(h.blk g hg).1, (hb g hg).2, (h.blk g hg).2.2⟩, fun j x h1 h2 h3 => ?_⟩
  obtain ⟨c, hc⟩ := h.box j x (by omega) h2 h3
  refine ⟨c, hc.keep (fun g hg hh => ?_)⟩
  obtain ⟨⟨p1, p2, p3⟩, p4, p5⟩ := hh
  have := hr g (hc.lt g hg).2 p2 (fun e => by have := (hne g e).2; omega)
  exact ⟨⟨⟨p1, this.2, p3⟩, p4, p5⟩, this.1⟩
theorem MLeft.start {E : Env} {B q : Nat} {K : PK} {R : RK} {F G : Nat → Prop} {s : MS} {img : ByteArray} {lab : Nat → Nat} {nI nS nC nM : Nat} {w w' : World} (h : KN E B q K R F G s img lab nI nS nC nM w) {v : Value} {n : Nat} (ho : OwnPts2 w' w.heap.size v n) : ∃ cs labM, MLeft B F G w.heap.size v n cs labM lab w' 0 := by
  obtain ⟨cs, labM, h1, h2⟩ := ho
  refine ⟨cs, labM, h1, fun g hg => h.fresh (h1.lt g hg).1, fun j x _ hj hm => ?_⟩
  obtain ⟨c, hc⟩ := h2 j x hj hm
  exact ⟨c, hc.keep (fun g _ hg => ⟨⟨h.fresh hg.1, hg.2.2.1, hg.2.2.2⟩, rfl⟩)⟩
theorem MLeft.mono {B : Nat} {F G : Nat → Prop} {base : Nat} {vp : Value} {n : Nat} {cs : List Value} {labM lab : Nat → Nat} {w : World} {j0 j1 : Nat} (h : MLeft B F G base vp n cs labM lab w j0) (hj : j0 ≤ j1) : MLeft B F G base vp n cs labM lab w j1 := ⟨h.row, h.blk, fun j x h1 h2 h3 => h.box j x (by omega) h2 h3⟩
theorem owns_any {E : Env} {B q : Nat} {K : PK} {R : RK} {F G : Nat → Prop} {s : MS} {img : ByteArray} {lab : Nat → Nat} {nI nS nC nM : Nat} {w : World} (h : KN E B q K R F G s img lab nI nS nC nM w) (hft : ∀ W, Below B w W → FlowTab W) (himg : img.size ≤ maxLen) (hI : nI ≤ 999999000) (hS : nS ≤ 999999000) (hC : nC ≤ 999999000) (hM : nM ≤ 999999000) (hout : s.out.length ≤ 8796093022208) :
    Calls Tryz.prog 39 #[.pointer (some ⟨q, 0, none⟩)] w fun e w' => e = .returned (.tuple #[]) ∧ ∃ lab' n, n ≤ 120 ∧ KN E B q K R F G s img lab' (nI + 1 + 2 * n) (nS + 2) (nC + 1) (nM + 1) w' ∧ Below B w w' := by
  obtain ⟨hpx, hke, hok, hinv⟩ := h.pm
  obtain ⟨i, hc⟩ := hinv.can hok
  obtain ⟨vI, vO, lo4, st8, hP, _⟩ := hpx
  have hps := hid (pstate_m hP hke hok hinv hc.get)
  have hn : s.hs.1.length ≤ 100 := by have := hinv.hok.len; omega
  have hph := hid (fun (W : World) (hx : PX W K F s) => by
    obtain ⟨vI, vO, lo4, st8, hP, _⟩ := hx
    exact pheap_any hP hn)
  have hpo := hid (fun (W : World) (hx : PX W K F s) => by
    obtain ⟨vI, vO, lo4, st8, hP, _⟩ := hx
    exact poutput_any hP hout)
  have hmp := hid (fun (W : World) (hb : Below B w W) => tmaps_two img W himg (hft W hb))
  obtain ⟨k0, _, _, _, _, hBw, hqz, hBq⟩ := h.facts
  have HK := hid h
  generalize locsS E s = Q1 at *
  generalize stkS E s = Q2 at *
  generalize s.hs.1.map toldC = Q3 at *
  clear h hP hc hke hok hinv hft himg hn hout
  go_enter Tryz.func39, Tryz.ntmps39
  go_wp2_with fail
  refine hps.out.mono ?_
  clear hps k0
  intro x w1 hp
  obtain ⟨hb1, v1, v2, hx, o1, o2, h12⟩ := hp
  subst x
  obtain ⟨p1, c1, e1⟩ := owns_slice o1
  subst e1
  obtain ⟨p2, c2, e2⟩ := owns_slice o2
  subst e2
  obtain ⟨ob, hob⟩ : ∃ ob : Obj, ob = .cells #[.int .i64 s.oc, .int .i64 s.va, .int .i64 i.place, .int .i64 s.hs.2.1, .int .i64 s.hs.2.2, .slice p1 Q1.length c1, .slice p2 Q2.length c2] 134 := ⟨_, rfl⟩
  have hbA : Below w1.heap.size w1 (w1.alloc ob) := (Below.refl _ _).alloc (Nat.le_refl _) _
  have hbW : Below w.heap.size w (w1.alloc ob) := hb1.trans (hbA.mono hb1.size)
  have hK1 := HK.out.below hbW
  have hzA : (w1.alloc ob).heap.size = w1.heap.size + 1 := alloc_size _ _
  have hrow := heap_alloc_new w1 ob
  obtain ⟨cp1, B1⟩ := Box.of_owns o1
  obtain ⟨cp2, B2⟩ := Box.of_owns o2
  have B1' := B1.keep (w' := w1.alloc ob) (P' := fun g => B ≤ g ∧ lab g = 0 ∧ ¬ F g ∧ ¬ G g) (fun g _ hg => ⟨HK.out.fresh hg.1, hbA.block g hg.2⟩)
  have B2' := B2.keep (w' := w1.alloc ob) (P' := fun g => B ≤ g ∧ lab g = 0 ∧ ¬ F g ∧ ¬ G g) (fun g _ hg => ⟨HK.out.fresh hg.1, hbA.block g hg.2⟩)
  have hz1 := hb1.size
  have hfs := HK.out.fresh hz1
  have n1 : (Value.slice p1 Q1.length c1).ownBlock ≠ some w1.heap.size := fun e => by have := (B1.lt _ e).1.2; omega
  have n2 : (Value.slice p2 Q2.length c2).ownBlock ≠ some w1.heap.size := fun e => by have := (B2.lt _ e).1.2; omega
  have hk1 := hid (kn_keepSlots hK1 B1' (by omega) (by omega) (by omega) (by omega))
  have HBW := hid (hbW.mono hBw)
  have HR := hid hrow
  have HB2 := hid B2'
  have H12 := hid h12
  rw [hob] at hrow
  have z5 := cell_of_row _ w1.heap.size 5 _ _ _ hrow
  simp only [List.getElem?_toArray, List.getElem?_cons_zero, List.getElem?_cons_succ] at z5
  rw [← hob] at z5
  clear o1 o2 B1 B2 B1' B2' hrow hbA hbW hK1 hb1 h12
  go_wp2_with fail
  rw [← hob]
  refine hk1.out.mono ?_
  clear hk1 z5
  intro x w2 hp
  obtain ⟨hx, lab2, hK2, hb2, hR2⟩ := hp
  subst x
  have rb2 := (hR2 w1.heap.size (by omega) hfs.2.1 n1).1.trans HR.out
  have B2 := HB2.out.keep (w' := w2) (P' := fun g => B ≤ g ∧ lab2 g = 0 ∧ ¬ F g ∧ ¬ G g) (fun g hg hh => by
    have := hR2 g (HB2.out.lt g hg).2 hh.2.1 (fun e => H12.out g e hg)
    exact ⟨⟨hh.1, this.2, hh.2.2⟩, this.1⟩)
  have hk2 := hid (kn_keepSlots hK2 B2 (by omega) (by omega) (by omega) (by omega))
  have HB02 := hid (HBW.out.trans hb2)
  rw [hob] at rb2
  have z6 := cell_of_row w2 w1.heap.size 6 _ _ _ rb2
  simp only [List.getElem?_toArray, List.getElem?_cons_zero, List.getElem?_cons_succ] at z6
  clear hob rb2 B2 hR2 hb2 hK2 HBW HR HB2 H12 hfs n1 n2 hzA HK
  go_wp2_with fail
  refine hk2.out.mono ?_
  clear hk2 z6
  intro x w3 hp
  obtain ⟨hx, lab3, hK3, hb3, _⟩ := hp
  subst x
  obtain ⟨k0, _, _, _, _, hB3, _⟩ := hK3.facts
  have HK3 := hid hK3
  have hh3 := hid (hph.out w3 hK3.pm.1)
  have HB03 := hid (HB02.out.trans hb3)
  clear hph hb3 HB02 hK3
  go_wp2_with fail
  refine hh3.out.mono ?_
  clear hh3 k0
  intro x w4 hp
  obtain ⟨hb4, v3, hx, o3⟩ := hp
  subst x
  obtain ⟨cp3, B3⟩ := Box.of_owns o3
  have B3' := B3.keep (w' := w4) (P' := fun g => B ≤ g ∧ lab3 g = 0 ∧ ¬ F g ∧ ¬ G g) (fun g _ hg => ⟨HK3.out.fresh hg.1, rfl⟩)
  have hk4 := hid (kn_keepCells (HK3.out.below hb4) B3' (by omega) (by omega) (by omega) (by omega))
  have HB04 := hid (HB03.out.trans (hb4.mono hB3))
  clear B3 B3' o3 hb4 HB03 HK3 hB3
  go_wp2_with fail
  refine hk4.out.mono ?_
  clear hk4
  intro x w5 hp
  obtain ⟨hx, lab5, hK5, hb5, _⟩ := hp
  subst x
  obtain ⟨k0, _, _, _, _, hB5, _⟩ := hK5.facts
  have HK5 := hid hK5
  have hh5 := hid (hpo.out w5 hK5.pm.1)
  have HB05 := hid (HB04.out.trans hb5)
  clear hpo hb5 HB04 hK5
  go_wp2_with fail
  refine hh5.out.mono ?_
  clear hh5 k0
  intro x w6 hp
  obtain ⟨hb6, v4, hx, o4⟩ := hp
  subst x
  obtain ⟨cp4, B4⟩ := Box.of_owns o4
  have B4' := B4.keep (w' := w6) (P' := fun g => B ≤ g ∧ lab5 g = 0 ∧ ¬ F g ∧ ¬ G g) (fun g _ hg => ⟨HK5.out.fresh hg.1, rfl⟩)
  have hk6 := hid (kn_keepInts (HK5.out.below hb6) B4' (by omega) (by omega) (by omega) (by omega))
  have HB06 := hid (HB05.out.trans (hb6.mono hB5))
  clear B4 B4' o4 hb6 HB05 HK5 hB5
  go_wp2_with fail
  refine hk6.out.mono ?_
  clear hk6
  intro x w7 hp
  obtain ⟨hx, lab7, hK7, hb7, _⟩ := hp
  subst x
  obtain ⟨_, k2, _, _, _, hB7, _⟩ := hK7.facts
  have HK7 := hid hK7
  have hb07 := HB06.out.trans hb7
  have hh7 := hid (hmp.out w7 hb07)
  have HB07 := hid hb07
  clear hmp hb7 HB06 hK7 hb07
  go_wp2_with fail
  refine hh7.out.mono ?_
  clear hh7 k2
  intro x w8 hp
  obtain ⟨hb8, vp, rr, n, hx, hn, ho⟩ := hp
  subst x
  obtain ⟨cs, labM, hML⟩ := MLeft.start HK7.out ho
  obtain ⟨pp, cc, ep⟩ := owns_slice hML.row
  subst ep
  have HML := hid hML
  have HK8 := hid (HK7.out.below hb8)
  have HB08 := hid (HB07.out.trans (hb8.mono hB7))
  clear ho hML hb8 HB07 HK7 hB7
  go_wp2_with fail
  go_loopg [7] n (fun gk x w' => ∃ (k : Nat) (lab' : Nat → Nat), k ≤ n ∧ gk = n - k ∧ x = .int .i64 k ∧ KN E B q K R F G s img lab' (nI + 1 + 2 * k) (nS + 2) (nC + 1) nM w' ∧ MLeft B F G w7.heap.size (.slice pp n cc) n cs labM lab' w' (k * 4) ∧ Below B w w')
  case atStart => exact ⟨0, lab7, by omega, by omega, rfl, HK8.out, HML.out.mono (by omega), HB08.out⟩
  case round =>
    obtain ⟨k, labk, hk, hgk, rfl, hKk, hMk, hbk⟩ := hrel
    have HBk := hid hbk
    rcases Nat.lt_or_ge k n with hlt | hge
    · have d0 : (0 : Int) ≤ (k : Int) := by omega
      have d1 : (k : Int) < (n : Int) := by omega
      have hcl : cs.length = n * 4 := hMk.row.1
      obtain ⟨gp, cp, ep, _, hgpz⟩ := hMk.row.form (by omega)
      cases ep
      obtain ⟨x2, hx2⟩ : ∃ x2, cs[k * 4 + 2]? = some x2 := ⟨_, List.getElem?_eq_getElem (by omega)⟩
      obtain ⟨x3, hx3⟩ : ∃ x3, cs[k * 4 + 3]? = some x3 := ⟨_, List.getElem?_eq_getElem (by omega)⟩
      have y2 := hMk.row.cells (g := gp) rfl _ _ hx2
      rw [add_none, Nat.zero_add] at y2
      obtain ⟨cb2, hB2⟩ := hMk.box (k * 4 + 2) x2 (by omega) hx2 (by omega)
      have hkk := hid (kn_keepInts hKk (hB2.keep (w' := wr) (P' := fun g => B ≤ g ∧ labk g = 0 ∧ ¬ F g ∧ ¬ G g) (fun g _ hh => ⟨hh.1, rfl⟩)) (by omega) (by omega) (by omega) (by omega))
      have HMk := hid hMk
      have HX2 := hid hx2
      have HX3 := hid hx3
      clear hMk hKk hbk hB2 hx2 hx3 hcl
      go_wp2_with fail
      refine hkk.out.mono ?_
      clear hkk y2
      intro x w9 hp
      obtain ⟨hx, lab9, hK9, hb9, hR9⟩ := hp
      subst x
      have hM9 := HMk.out.next (by omega) HX2.out (by omega) hR9
      have y3 := hM9.row.cells (g := gp) rfl _ _ HX3.out
      rw [add_none, Nat.zero_add] at y3
      obtain ⟨cb3, hB3⟩ := hM9.box (k * 4 + 3) x3 (by omega) HX3.out (by omega)
      have hkk := hid (kn_keepInts hK9 (hB3.keep (w' := w9) (P' := fun g => B ≤ g ∧ lab9 g = 0 ∧ ¬ F g ∧ ¬ G g) (fun g _ hh => ⟨hh.1, rfl⟩)) (by omega) (by omega) (by omega) (by omega))
      have HM9 := hid hM9
      have HB9 := hid (HBk.out.trans hb9)
      clear hM9 hB3 hK9 hb9 hR9 HMk HBk
      go_wp2_with fail
      refine hkk.out.mono ?_
      clear hkk y3
      intro x w10 hp
      obtain ⟨hx, lab10, hK10, hb10, hR10⟩ := hp
      subst x
      have HM10 := hid (HM9.out.next (by omega) HX3.out (by omega) hR10)
      have HK10 := hid hK10
      have HB10 := hid (HB9.out.trans hb10)
      clear hK10 hR10 hb10 HM9 HB9
      go_wp2_with fail
      go_roundg (n - (k + 1))
      case measure => omega
      case rel =>
        refine ⟨k + 1, lab10, by omega, rfl, by go_num, ?_, HM10.out.mono (by omega), HB10.out⟩
        have := HK10.out
        rw [show nI + 1 + 2 * k + 1 + 1 = nI + 1 + 2 * (k + 1) by omega] at this
        exact this
    · have d1 : ¬ (k : Int) < (n : Int) := by omega
      obtain rfl : k = n := by omega
      obtain ⟨cbp, hBp⟩ := Box.of_owns hMk.row
      have hkk := hid (kn_keepMaps hKk (hBp.keep (w' := wr) (P' := fun g => B ≤ g ∧ labk g = 0 ∧ ¬ F g ∧ ¬ G g) (fun g hg _ => ⟨hMk.blk g hg, rfl⟩)) (by omega) (by omega) (by omega) (by omega))
      clear hMk hKk hbk hBp
      go_wp2_with fail
      refine hkk.out.mono ?_
      clear hkk
      intro x w9 hp
      obtain ⟨hx, lab9, hK9, hb9, _⟩ := hp
      subst x
      have HK9 := hid hK9
      have HB9 := hid (HBk.out.trans hb9)
      clear hK9 hb9 HBk
      go_wp2_with fail
      go_end0
      exact ⟨rfl, lab9, k, hn, HK9.out, HB9.out⟩
/-- Both machines a step on; what is neither's is as it was. -/
def MNext (E : Env) (B : Nat) (q : Nat) (r : Array Value) (K : PK) (R : RK) (F G : Nat → Prop) (t : MS) (w w' : World) : Prop :=
  ∃ F' G', LW E w' q r K R F' G' t ∧ (∀ k, F' k → F k ∨ w.heap.size ≤ k) ∧ (∀ k, G' k → G k ∨ w.heap.size ≤ k) ∧ (∀ k, k < w.heap.size → ¬ F k → ¬ G k → w'.heap[k]? = w.heap[k]?) ∧ Below B w w'
def MStepPost (E : Env) (B : Nat) (q : Nat) (r : Array Value) (K : PK) (R : RK) (F G : Nat → Prop) (t : MS) (w : World) (e : Ending) (w' : World) : Prop :=
  e = .returned (.bool true) ∧ MNext E B q r K R F G t w w'
theorem MNext.pre {E : Env} {B : Nat} {q : Nat} {r : Array Value} {K : PK} {R : RK} {F G : Nat → Prop} {t : MS} {w wA w' : World} (h : MNext E B q r K R F G t wA w') (hb : Below w.heap.size w wA) (hB : B ≤ w.heap.size) : MNext E B q r K R F G t w w' := by
  obtain ⟨F', G', h1, h2, h3, h4, h5⟩ := h
  have hz := hb.size
  refine ⟨F', G', h1, fun k hk => ?_, fun k hk => ?_, fun k hk hf hg => (h4 k (by omega) hf hg).trans (hb.block k hk), (hb.mono hB).trans h5⟩
  · rcases h2 k hk with h | h
    · exact .inl h
    · exact .inr (by omega)
  · rcases h3 k hk with h | h
    · exact .inl h
    · exact .inr (by omega)
theorem MNext.of {E : Env} {B : Nat} {q : Nat} {r : Array Value} {K : PK} {R : RK} {F G : Nat → Prop} {s : MS} {w w' : World} (h : LW E w q r K R F G s) (hB : B ≤ w.heap.size) (hb : Below w.heap.size w w') : MNext E B q r K R F G s w w' :=
  ⟨F, G, h.keep hb, fun _ h => .inl h, fun _ h => .inl h, fun k hk _ _ => hb.block k hk, hb.mono hB⟩
theorem LN.next {E : Env} {B : Nat} {w w1 w2 : World} {q : Nat} {r : Array Value} {K : PK} {R : RK} {F G : Nat → Prop} {s t : MS} (h : LW E w q r K R F G s) (hF : ∀ k, F k → B ≤ k) (hG : ∀ k, G k → B ≤ k) (_ : B ≤ q) (hB : B ≤ w.heap.size) (hp : PX w1 K (Grown F w w1) t) (t1 : Touch F w w1) (hr : RX w2 R (Grown G w1 w2) t) (t2 : Touch G w1 w2) (hinv : MInv E t) : MNext E B q r K R F G t w w2 := by
  have hz1 := t1.size
  have hz2 := t2.size
  refine ⟨_, _, h.next hp t1 hr t2 hinv, ?_, ?_, fun k hk hf hg => (t2.block k (by omega) hg).trans (t1.block k hk hf), (t1.under hF hB).trans (t2.under hG (by omega))⟩
  · rintro k (hf | hf)
    · exact .inl hf
    · exact .inr hf.1
  · rintro k (hf | hf)
    · exact .inl hf
    · exact .inr (by omega)
theorem mstep_1 {E : Env} {B : Nat} {w : World} {q : Nat} {r : Array Value} {K : PK} {R : RK} {F G : Nat → Prop} {s t : MS} (h : LW E w q r K R F G s) (hF : ∀ k, F k → B ≤ k) (hG : ∀ k, G k → B ≤ k) (hq : B ≤ q) (hB : B ≤ w.heap.size) (hinv : MInv E t) (a x : Int) (y : Nat)
    (hp : ∀ W, PX W K F s → Calls Tryz.prog 34 #[.pointer (some ⟨K.b, 0, none⟩)] W (PCall K F x y t W))
    (hr : ∀ W, RX W R G s → Calls Tryz.prog 27 #[.pointer (some ⟨R.b, 0, none⟩)] W (RCall R G x y t W)) :
    Calls Tryz.prog 18 #[.pointer (some ⟨q, 0, none⟩), .agg #[.int .i64 1, .int .i64 a]] w (MStepPost E B q r K R F G t w) := by
  have hb0 : Below w.heap.size w (w.alloc (.cells #[.int .i64 1, .int .i64 a] 44)) := (Below.refl _ _).alloc (Nat.le_refl _) _
  have hA := h.keep hb0
  have hBA : B ≤ (w.alloc (.cells #[.int .i64 1, .int .i64 a] 44)).heap.size := Nat.le_trans hB hb0.size
  have HB0 := hid (And.intro hb0 hB)
  have hp1 := hid (hp _ hA.pm)
  have hr1 := hid (fun (w1 : World) (ht : Touch F (w.alloc (.cells #[.int .i64 1, .int .i64 a] 44)) w1) => hr w1 (hA.mid ht))
  have h0 := (cell_of_row _ q 0 _ _ _ hA.row).trans hA.r0
  have hrw := hid (fun (w1 : World) (ht : Touch F (w.alloc (.cells #[.int .i64 1, .int .i64 a] 44)) w1) => (cell_of_row w1 q 1 _ _ _ ((ht.block q (Array.getElem?_eq_some_iff.1 hA.row).1 hA.fq).trans hA.row)).trans hA.r1)
  have FIN := hid (fun (w1 w2 : World) => LN.next (w1 := w1) (w2 := w2) (t := t) hA hF hG hq hBA)
  have hnu := hid (fun W => num_any y W)
  clear h hA hb0 hp hr hB hBA
  go_enter Tryz.func18, Tryz.ntmps18
  go_wp2_with fail
  refine hp1.out.mono ?_
  clear hp1
  intro e w1 hh
  obtain ⟨hx, hP, hT⟩ := hh
  subst e
  have hr2 := hid (hr1.out w1 hT)
  have h1 := hrw.out w1 hT
  have HP := hid hP
  have HT := hid hT
  clear hr1 hrw hP hT h0
  go_wp2_with fail
  refine hr2.out.mono ?_
  clear hr2
  intro e w2 hh
  obtain ⟨hx, hR, hT2⟩ := hh
  subst e
  have HF := hid (FIN.out w1 w2 HP.out HT.out hR hT2 hinv)
  have hn2 := hid (hnu.out w2)
  clear hR hT2 FIN HP HT hnu h1
  go_wp2_with fail
  refine hn2.out.mono ?_
  clear hn2
  intro e w3 hh
  obtain ⟨hx, hw⟩ := hh
  subst e
  subst hw
  go_wp2_with fail
  exact bodyPost_ret (v := .bool true) (by simp [results, Tryz.results18, go_sem]) rfl ⟨rfl, HF.out.pre HB0.out.1 HB0.out.2⟩
theorem mstep_2 {E : Env} {B : Nat} {w : World} {q : Nat} {r : Array Value} {K : PK} {R : RK} {F G : Nat → Prop} {s t : MS} (h : LW E w q r K R F G s) (hF : ∀ k, F k → B ≤ k) (hG : ∀ k, G k → B ≤ k) (hq : B ≤ q) (hB : B ≤ w.heap.size) (hinv : MInv E t) (a x : Int) (y : Nat)
    (hp : ∀ W, PX W K F s → Calls Tryz.prog 35 #[.pointer (some ⟨K.b, 0, none⟩), .int .i64 a] W (PCall K F x y t W))
    (hr : ∀ W, RX W R G s → Calls Tryz.prog 26 #[.pointer (some ⟨R.b, 0, none⟩), .int .i64 a] W (RCall R G x y t W)) :
    Calls Tryz.prog 18 #[.pointer (some ⟨q, 0, none⟩), .agg #[.int .i64 2, .int .i64 a]] w (MStepPost E B q r K R F G t w) := by
  have hb0 : Below w.heap.size w (w.alloc (.cells #[.int .i64 2, .int .i64 a] 44)).drew := ((Below.refl _ _).alloc (Nat.le_refl _) _).drew
  have hA := h.keep hb0
  have hBA : B ≤ (w.alloc (.cells #[.int .i64 2, .int .i64 a] 44)).drew.heap.size := Nat.le_trans hB hb0.size
  have HB0 := hid (And.intro hb0 hB)
  have hp1 := hid (hp _ hA.pm)
  have hpre : Hid (∀ w1, PX w1 K (Grown F (w.alloc (.cells #[.int .i64 2, .int .i64 a] 44)).drew w1) t → Touch F (w.alloc (.cells #[.int .i64 2, .int .i64 a] 44)).drew w1 → PX w1.drew K (Grown F (w.alloc (.cells #[.int .i64 2, .int .i64 a] 44)).drew w1.drew) t ∧ Touch F (w.alloc (.cells #[.int .i64 2, .int .i64 a] 44)).drew w1.drew) := hid (fun w1 h1 h2 => ⟨h1.below (Below.refl _ w1).drew, h2.trans (Touch.below (F := F) (Below.refl _ w1).drew) (fun _ _ h => h)⟩)
  have hr1 := hid (fun (w1 : World) (ht : Touch F (w.alloc (.cells #[.int .i64 2, .int .i64 a] 44)).drew w1.drew) => hr w1.drew (hA.mid ht))
  have h0 := (cell_of_row _ q 0 _ _ _ (h.keep ((Below.refl _ _).alloc (Nat.le_refl _) (.cells #[.int .i64 2, .int .i64 a] 44))).row).trans hA.r0
  have hrw := hid (fun (w1 : World) (ht : Touch F (w.alloc (.cells #[.int .i64 2, .int .i64 a] 44)).drew w1) => (cell_of_row w1 q 1 _ _ _ ((ht.block q (Array.getElem?_eq_some_iff.1 hA.row).1 hA.fq).trans hA.row)).trans hA.r1)
  have hbx := hid (fun (w1 : World) (ht : Touch F (w.alloc (.cells #[.int .i64 2, .int .i64 a] 44)).drew w1) => cell_of_row w1 w.heap.size 1 _ _ _ ((ht.block w.heap.size (by simp) (fun hf => Nat.lt_irrefl _ (h.fz _ hf))).trans (heap_alloc_new w _)))
  have FIN := hid (fun (w1 w2 : World) => LN.next (w1 := w1.drew) (w2 := w2) (t := t) hA hF hG hq hBA)
  have hnu := hid (fun W => num_any y W)
  clear h hA hb0 hp hr hB hBA
  go_enter Tryz.func18, Tryz.ntmps18
  go_wp2_with fail
  go_region_law ((go_simp; go_at_call 35; refine hp1.out.mono ?_; intro e w1 hh; obtain ⟨hx, hP, hT⟩ := hh; subst hx; have h1 := hrw.out w1 hT; have b1 := hbx.out w1 hT; simp only [List.getElem?_toArray, List.getElem?_cons_zero, List.getElem?_cons_succ] at b1; clear hp1; dsimp only))
  all_goals
    have HPT := hid (hpre.out w1 hP hT)
    have hr2 := hid (hr1.out w1 HPT.out.2)
    clear hr1 hrw hbx hpre hP hT h0
    go_wp2_with fail
    go_region_law ((go_simp; go_at_call 26; refine hr2.out.mono ?_; intro e w2 hh; obtain ⟨hx, hR, hT2⟩ := hh; subst hx; clear hr2; dsimp only))
  all_goals
    have HF := hid (FIN.out w1 w2 HPT.out.1 HPT.out.2 hR hT2 hinv)
    have hn2 := hid (hnu.out w2)
    clear hR hT2 FIN HPT hnu h1 b1
    go_wp2_with fail
    refine hn2.out.mono ?_
    clear hn2
    intro e w3 hh
    obtain ⟨hx, hw⟩ := hh
    subst e
    subst hw
    go_wp2_with fail
    exact bodyPost_ret (v := .bool true) (by simp [results, Tryz.results18, go_sem]) rfl ⟨rfl, HF.out.pre HB0.out.1 HB0.out.2⟩
theorem mstep_other {E : Env} {B : Nat} {w : World} {q : Nat} {r : Array Value} {K : PK} {R : RK} {F G : Nat → Prop} {s : MS} (h : LW E w q r K R F G s) (hB : B ≤ w.heap.size) (k a : Int) (h1 : k ≠ 1) (h2 : k ≠ 2) (h6 : k ≠ 6) (hlen : s.out.length ≤ 8796093022208) :
    Calls Tryz.prog 18 #[.pointer (some ⟨q, 0, none⟩), .agg #[.int .i64 k, .int .i64 a]] w (MStepPost E B q r K R F G s w) := by
  have hb0 : Below w.heap.size w (w.alloc (.cells #[.int .i64 k, .int .i64 a] 44)) := (Below.refl _ _).alloc (Nat.le_refl _) _
  have hA := h.keep hb0
  have FIN := hid (fun (W : World) (hb : Below (w.alloc (.cells #[.int .i64 k, .int .i64 a] 44)).heap.size (w.alloc (.cells #[.int .i64 k, .int .i64 a] 44)) W) => MNext.of h hB (hb0.trans (hb.mono hb0.size)))
  have hL := hA
  have hs := hid (lstate_any hL)
  have hh := hid (lheap_any hL)
  have ho := hid (loutput_any hL hlen)
  clear h hb0 hL hA hB
  have y1 : (k == 1) = false := by simp [h1]
  have y2 : (k == 2) = false := by simp [h2]
  have y6 : (k == 6) = false := by simp [h6]
  by_cases h3 : k = 3
  · subst h3
    go_enter Tryz.func18, Tryz.ntmps18
    go_wp2_with fail
    refine hs.out.mono ?_
    clear hs
    intro e w1 hp
    obtain ⟨hx, hb⟩ := hp
    subst e
    have HF := hid (FIN.out w1 hb)
    clear hb FIN
    go_wp2_with fail
    exact bodyPost_ret (v := .bool true) (by simp [results, Tryz.results18, go_sem]) rfl ⟨rfl, HF.out⟩
  by_cases h4 : k = 4
  · subst h4
    go_enter Tryz.func18, Tryz.ntmps18
    go_wp2_with fail
    refine hh.out.mono ?_
    clear hh
    intro e w1 hp
    obtain ⟨hx, hb⟩ := hp
    subst e
    have HF := hid (FIN.out w1 hb)
    clear hb FIN
    go_wp2_with fail
    exact bodyPost_ret (v := .bool true) (by simp [results, Tryz.results18, go_sem]) rfl ⟨rfl, HF.out⟩
  by_cases h5 : k = 5
  · subst h5
    go_enter Tryz.func18, Tryz.ntmps18
    go_wp2_with fail
    refine ho.out.mono ?_
    clear ho
    intro e w1 hp
    obtain ⟨hx, hb⟩ := hp
    subst e
    have HF := hid (FIN.out w1 hb)
    clear hb FIN
    go_wp2_with fail
    exact bodyPost_ret (v := .bool true) (by simp [results, Tryz.results18, go_sem]) rfl ⟨rfl, HF.out⟩
  have y3 : (k == 3) = false := by simp [h3]
  have y4 : (k == 4) = false := by simp [h4]
  have y5 : (k == 5) = false := by simp [h5]
  clear hs hh ho
  go_enter Tryz.func18, Tryz.ntmps18
  go_wp2_with fail
  have HF := hid (FIN.out _ (Below.refl _ _))
  exact bodyPost_ret (v := .bool true) (by simp [results, Tryz.results18, go_sem]) rfl ⟨rfl, HF.out⟩
theorem mstep_any {E : Env} {B : Nat} {w : World} {q : Nat} {r : Array Value} {K : PK} {R : RK} {F G : Nat → Prop} {s : MS} (hL : LW E w q r K R F G s) (hF : ∀ k, F k → B ≤ k) (hG : ∀ k, G k → B ≤ k) (hq : B ≤ q) (hB : B ≤ w.heap.size) (k a : Int) (h6 : k ≠ 6) (hz : E.zs.length ≤ 64) (hlen : s.out.length ≤ 8796093022208) :
    Calls Tryz.prog 18 #[.pointer (some ⟨q, 0, none⟩), .agg #[.int .i64 k, .int .i64 a]] w (MStepPost E B q r K R F G (opS E k a s) w) := by
  have hinv := hL.inv.op hL.ok k a
  by_cases h1 : k = 1
  · subst h1
    by_cases ho : s.oc = 0
    · have e : opS E 1 a s = stepS E s := by unfold opS; rw [if_pos rfl, if_pos ho]
      rw [e] at hinv ⊢
      exact mstep_1 hL hF hG hq hB hinv a (stepS E s).oc 0 (fun W hW => pstep_x hW hL.ke hL.ok hL.inv ho hz hlen) (fun W hW => rstep_x hW hL.re hL.ok hL.inv ho hz hlen)
    · have e : opS E 1 a s = s := by unfold opS; rw [if_pos rfl, if_neg ho]
      rw [e] at hinv ⊢
      refine mstep_1 hL hF hG hq hB hinv a 0 9 (fun W hW => (pstep_done hW ho).mono ?_) (fun W hW => (rstep_done hW ho).mono ?_)
      · rintro e w' ⟨h1, h2⟩
        subst h2
        exact ⟨h1, hW.mono (fun _ h => .inl h), Touch.refl _ _⟩
      · rintro e w' ⟨h1, h2⟩
        subst h2
        exact ⟨h1, hW.mono (fun _ h => .inl h), Touch.refl _ _⟩
  by_cases h2 : k = 2
  · subst h2
    by_cases ha : 0 ≤ a ∧ a ≤ 1000
    · have e : opS E 2 a s = collS E a.toNat s := by unfold opS; rw [if_neg (by omega), if_pos rfl, if_pos ha]
      rw [e] at hinv ⊢
      obtain ⟨n, rfl⟩ := Int.eq_ofNat_of_zero_le ha.1
      simp only [Int.toNat_natCast] at hinv ⊢
      refine mstep_2 hL hF hG hq hB hinv n (collS E n s).hs.2.1 0 (fun W hW => (pcollect_x hW hL.ke hL.ok hL.inv n (by omega)).mono ?_) (fun W hW => (rcollect_x hW hL.re hL.ok hL.inv n (by omega)).mono ?_)
      · rintro e w' ⟨h1, h2, h3⟩
        exact ⟨h1, h2.mono (fun _ h => .inl h), h3⟩
      · rintro e w' ⟨h1, h2, h3⟩
        exact ⟨h1, h2.mono (fun _ h => .inl h), h3⟩
    · have e : opS E 2 a s = s := by unfold opS; rw [if_neg (by omega), if_pos rfl, if_neg ha]
      rw [e] at hinv ⊢
      refine mstep_2 hL hF hG hq hB hinv a 0 8 (fun W hW => (pcollect_bad K.b a W (by omega)).mono ?_) (fun W hW => (rcollect_bad R.b a W (by omega)).mono ?_)
      · rintro e w' ⟨h1, h2⟩
        subst h2
        exact ⟨h1, hW.mono (fun _ h => .inl h), Touch.refl _ _⟩
      · rintro e w' ⟨h1, h2⟩
        subst h2
        exact ⟨h1, hW.mono (fun _ h => .inl h), Touch.refl _ _⟩
  have e : opS E k a s = s := by unfold opS; rw [if_neg h1, if_neg h2]
  rw [e]
  exact mstep_other hL hB k a h1 h2 h6 hlen
theorem belowN {B : Nat} {w w' : World} (h : Below B w w') (n : Nat) : Below B w (w'.drewN n) := ⟨h.os, h.tape, h.output, h.size, h.block⟩
theorem KL.at {w : World} {B : Nat} {lab : Nat → Nat} {a : Nat} {te t : TypeId} {pat : Int → List Value} {v vm : Value} {es : List (Value × Int)} (h : KL w B lab a te t pat v vm es) {i : Nat} {e : Value × Int} (hi : es[i]? = some e) :
    ∃ gl cl gm cm, v = .slice (some ⟨gl, 0, none⟩) es.length cl ∧ vm = .slice (some ⟨gm, 0, none⟩) es.length cm ∧ gl < w.heap.size ∧ gm < w.heap.size ∧ w.cell? ⟨gl, i, none⟩ = some e.1 ∧ w.cell? ⟨gm, i, none⟩ = some (.int .i64 e.2) := by
  have hlt := (List.getElem?_eq_some_iff.1 hi).1
  obtain ⟨gl, cl, h1, _, h2⟩ := h.o.form (by omega)
  obtain ⟨gm, cm, h3, _, h4⟩ := h.m.form (by omega)
  refine ⟨gl, cl, gm, cm, h1, h3, h2, h4, ?_, ?_⟩
  · have := h.o.cells (g := gl) (by rw [h1]; rfl) i e.1 (by rw [List.getElem?_map, hi]; rfl)
    rwa [add_none, Nat.zero_add] at this
  · have := h.m.cells (g := gm) (by rw [h3]; rfl) i (.int .i64 e.2) (by rw [List.getElem?_map, hi]; rfl)
    rwa [add_none, Nat.zero_add] at this
theorem Full.at {w : World} {P : Nat → Prop} {t : TypeId} {cs : List Value} {v : Value} (h : Full w P t cs v) : ∃ (p : Option Addr) (cap : Nat), v = .slice p cap cap ∧ cap ≤ maxLen ∧ (0 < cap → ∃ g, p = some ⟨g, 0, none⟩ ∧ g < w.heap.size ∧ ∀ (k c : Nat) (x : Value), k < cap → cs[c]? = some x → w.cell? ⟨g, k * cs.length + c, none⟩ = some x) := by
  rcases h with h | ⟨g, cap, r, hv, _, hr, hm, hc⟩
  · exact ⟨none, 0, h, by unfold maxLen; omega, fun h => by omega⟩
  · exact ⟨_, cap, hv, hm, fun _ => ⟨g, rfl, (Array.getElem?_eq_some_iff.1 hr).1, fun k c x hk hx => (cell_of_row w g _ _ _ _ hr).trans (hc k c x hk hx)⟩⟩
theorem looks_any {w : World} {B q : Nat} {lab : Nat → Nat} {V : KV} {Is Ss Cs Ms : List (Value × Int)} (h : KS w B q lab V Is Ss Cs Ms) (hI : Is.length ≤ 17592186044416) (hS : Ss.length ≤ 17592186044416) (hC : Cs.length ≤ 17592186044416) (hM : Ms.length ≤ 17592186044416) :
    Calls Tryz.prog 19 #[.pointer (some ⟨q, 0, none⟩)] w fun e w' => e = .returned (.bool true) ∧ Below w.heap.size w w' := by
  have HL := hid h
  have hqz := (Array.getElem?_eq_some_iff.1 h.row).1
  have h4 : w.cell? ⟨q, 4, none⟩ = some V.vI := (cell_of_row w q 4 _ _ _ h.row).trans rfl
  have h5 : w.cell? ⟨q, 5, none⟩ = some V.vJ := (cell_of_row w q 5 _ _ _ h.row).trans rfl
  have h6 : w.cell? ⟨q, 6, none⟩ = some V.vS := (cell_of_row w q 6 _ _ _ h.row).trans rfl
  have h7 : w.cell? ⟨q, 7, none⟩ = some V.vT := (cell_of_row w q 7 _ _ _ h.row).trans rfl
  have h8 : w.cell? ⟨q, 8, none⟩ = some V.vC := (cell_of_row w q 8 _ _ _ h.row).trans rfl
  have h9 : w.cell? ⟨q, 9, none⟩ = some V.vD := (cell_of_row w q 9 _ _ _ h.row).trans rfl
  have h10 : w.cell? ⟨q, 10, none⟩ = some V.vM := (cell_of_row w q 10 _ _ _ h.row).trans rfl
  have h11 : w.cell? ⟨q, 11, none⟩ = some V.vN := (cell_of_row w q 11 _ _ _ h.row).trans rfl
  obtain ⟨p4, c4, e4⟩ := owns_slice h.li.o
  obtain ⟨p5, c5, e5⟩ := owns_slice h.li.m
  rw [e4] at h4
  rw [e5] at h5
  obtain ⟨p6, c6, e6⟩ := owns_slice h.ls.o
  obtain ⟨p7, c7, e7⟩ := owns_slice h.ls.m
  rw [e6] at h6
  rw [e7] at h7
  obtain ⟨p8, c8, e8⟩ := owns_slice h.lc.o
  obtain ⟨p9, c9, e9⟩ := owns_slice h.lc.m
  rw [e8] at h8
  rw [e9] at h9
  obtain ⟨p10, c10, e10⟩ := owns_slice h.lm.o
  obtain ⟨p11, c11, e11⟩ := owns_slice h.lm.m
  rw [e10] at h10
  rw [e11] at h11
  have HC := hid (fun (W : World) (hb : Below w.heap.size w W) => (⟨(hb.cell (p := ⟨q, 4, none⟩) hqz).trans h4, (hb.cell (p := ⟨q, 5, none⟩) hqz).trans h5, (hb.cell (p := ⟨q, 6, none⟩) hqz).trans h6, (hb.cell (p := ⟨q, 7, none⟩) hqz).trans h7, (hb.cell (p := ⟨q, 8, none⟩) hqz).trans h8, (hb.cell (p := ⟨q, 9, none⟩) hqz).trans h9, (hb.cell (p := ⟨q, 10, none⟩) hqz).trans h10, (hb.cell (p := ⟨q, 11, none⟩) hqz).trans h11⟩ : W.cell? ⟨q, 4, none⟩ = some (.slice p4 Is.length c4) ∧ W.cell? ⟨q, 5, none⟩ = some (.slice p5 Is.length c5) ∧ W.cell? ⟨q, 6, none⟩ = some (.slice p6 Ss.length c6) ∧ W.cell? ⟨q, 7, none⟩ = some (.slice p7 Ss.length c7) ∧ W.cell? ⟨q, 8, none⟩ = some (.slice p8 Cs.length c8) ∧ W.cell? ⟨q, 9, none⟩ = some (.slice p9 Cs.length c9) ∧ W.cell? ⟨q, 10, none⟩ = some (.slice p10 Ms.length c10) ∧ W.cell? ⟨q, 11, none⟩ = some (.slice p11 Ms.length c11)))
  clear h h4 h5 h6 h7 h8 h9 h10 h11
  go_enter Tryz.func19, Tryz.ntmps19
  go_wp2_with fail
  go_loopg [3] Is.length (fun gk x w' => ∃ i : Nat, i ≤ Is.length ∧ gk = Is.length - i ∧ x = .int .i64 i ∧ Below w.heap.size w w')
  case atStart => exact ⟨0, by omega, by omega, rfl, Below.refl _ _⟩
  case round =>
    obtain ⟨i, hi, hgk, rfl, hbo⟩ := hrel
    obtain ⟨k4, k5, k6, k7, k8, k9, k10, k11⟩ := HC.out _ hbo
    have HBo := hid hbo
    clear hbo
    rcases Nat.lt_or_ge i Is.length with hlt | hge
    · have d0 : (0 : Int) ≤ (i : Int) := by omega
      have d1 : (i : Int) < (Is.length : Int) := by omega
      have d2 : (i : Int) + 1 ≤ 17592186044417 := by omega
      have hie : Is[i]? = some Is[i] := List.getElem?_eq_getElem hlt
      obtain ⟨gl, cl, gm, cm, z1, z2, z3, z4, z5, z6⟩ := HL.out.li.at hie
      have hfu := HL.out.li.f _ (List.mem_of_getElem? hie)
      rw [z1] at e4
      cases e4
      rw [z2] at e5
      cases e5
      generalize Is[i] = e at *
      obtain ⟨ev, mk⟩ := e
      obtain ⟨p, cap, ep, hmx, hfc⟩ := hfu.at
      simp only at ep z5 z6 hfc
      subst ep
      have HX := hid (fun (W : World) (hb : Below w.heap.size w W) => (⟨(hb.cell (p := ⟨gl, i, none⟩) z3).trans z5, (hb.cell (p := ⟨gm, i, none⟩) z4).trans z6⟩ : W.cell? ⟨gl, i, none⟩ = some (.slice p cap cap) ∧ W.cell? ⟨gm, i, none⟩ = some (.int .i64 mk)))
      have HFC := hid hfc
      have hmx2 : cap ≤ 9223372036854775807 := hmx
      clear z1 z2 z5 z6 hfu hfc hie hmx
      go_wp2_with fail
      clear k4 k5 k6 k7 k8 k9 k10 k11
      go_loopg [4] cap (fun gk x w' => ∃ k : Nat, k ≤ cap ∧ gk = cap - k ∧ x = .int .i64 k ∧ Below w.heap.size w w')
      case atStart => exact ⟨0, by omega, by omega, rfl, HBo.out⟩
      case round =>
        obtain ⟨k, hk, hgk2, rfl, hbi⟩ := hrel
        obtain ⟨k4, k5, k6, k7, k8, k9, k10, k11⟩ := HC.out _ hbi
        obtain ⟨y1, y2⟩ := HX.out _ hbi
        have HBi := hid hbi
        clear hbi
        rcases Nat.lt_or_ge k cap with hlt2 | hge2
        · have s0 : (0 : Int) ≤ (k : Int) := by omega
          have s1 : (k : Int) < (cap : Int) := by omega
          have s2 : (k : Int) + 1 ≤ 9223372036854775807 := by omega
          obtain ⟨g, eg, hgz, hcc⟩ := HFC.out (by omega)
          subst eg
          have x0 := (HBi.out.cell (p := ⟨g, k * 1 + 0, none⟩) hgz).trans (hcc k 0 _ hlt2 rfl)
          rw [Nat.mul_one, Nat.add_zero] at x0
          clear hcc
          go_wp2_with fail
          go_quiet (fail)
          go_wp2_with fail
          go_roundg (cap - (k + 1))
          case measure => omega
          case rel => exact ⟨k + 1, by omega, rfl, by go_num, belowN HBi.out _⟩
        · have s1 : ¬ (k : Int) < (cap : Int) := by omega
          go_wp2_with fail
          go_roundg (Is.length - (i + 1))
          case measure => omega
          case rel => exact ⟨i + 1, by omega, rfl, by go_num, HBi.out⟩
    · have d1 : ¬ (i : Int) < (Is.length : Int) := by omega
      go_wp2_with fail
      go_loopg [5] Ss.length (fun gk x w' => ∃ i : Nat, i ≤ Ss.length ∧ gk = Ss.length - i ∧ x = .int .i64 i ∧ Below w.heap.size w w')
      case atStart => exact ⟨0, by omega, by omega, rfl, HBo.out⟩
      case round =>
        obtain ⟨i, hi, hgk, rfl, hbo⟩ := hrel
        obtain ⟨k4, k5, k6, k7, k8, k9, k10, k11⟩ := HC.out _ hbo
        have HBo := hid hbo
        clear hbo
        rcases Nat.lt_or_ge i Ss.length with hlt | hge
        · have d0 : (0 : Int) ≤ (i : Int) := by omega
          have d1 : (i : Int) < (Ss.length : Int) := by omega
          have d2 : (i : Int) + 1 ≤ 17592186044417 := by omega
          have hie : Ss[i]? = some Ss[i] := List.getElem?_eq_getElem hlt
          obtain ⟨gl, cl, gm, cm, z1, z2, z3, z4, z5, z6⟩ := HL.out.ls.at hie
          have hfu := HL.out.ls.f _ (List.mem_of_getElem? hie)
          rw [z1] at e6
          cases e6
          rw [z2] at e7
          cases e7
          generalize Ss[i] = e at *
          obtain ⟨ev, mk⟩ := e
          obtain ⟨p, cap, ep, hmx, hfc⟩ := hfu.at
          simp only at ep z5 z6 hfc
          subst ep
          have HX := hid (fun (W : World) (hb : Below w.heap.size w W) => (⟨(hb.cell (p := ⟨gl, i, none⟩) z3).trans z5, (hb.cell (p := ⟨gm, i, none⟩) z4).trans z6⟩ : W.cell? ⟨gl, i, none⟩ = some (.slice p cap cap) ∧ W.cell? ⟨gm, i, none⟩ = some (.int .i64 mk)))
          have HFC := hid hfc
          have hmx2 : cap ≤ 9223372036854775807 := hmx
          clear z1 z2 z5 z6 hfu hfc hie hmx
          go_wp2_with fail
          clear k4 k5 k6 k7 k8 k9 k10 k11
          go_loopg [6] cap (fun gk x w' => ∃ k : Nat, k ≤ cap ∧ gk = cap - k ∧ x = .int .i64 k ∧ Below w.heap.size w w')
          case atStart => exact ⟨0, by omega, by omega, rfl, HBo.out⟩
          case round =>
            obtain ⟨k, hk, hgk2, rfl, hbi⟩ := hrel
            obtain ⟨k4, k5, k6, k7, k8, k9, k10, k11⟩ := HC.out _ hbi
            obtain ⟨y1, y2⟩ := HX.out _ hbi
            have HBi := hid hbi
            clear hbi
            rcases Nat.lt_or_ge k cap with hlt2 | hge2
            · have s0 : (0 : Int) ≤ (k : Int) := by omega
              have s1 : (k : Int) < (cap : Int) := by omega
              have s2 : (k : Int) + 1 ≤ 9223372036854775807 := by omega
              obtain ⟨g, eg, hgz, hcc⟩ := HFC.out (by omega)
              subst eg
              have x0 := (HBi.out.cell (p := ⟨g, k * 2 + 0, none⟩) hgz).trans (hcc k 0 _ hlt2 rfl)
              have x1 := (HBi.out.cell (p := ⟨g, k * 2 + 1, none⟩) hgz).trans (hcc k 1 _ hlt2 rfl)
              rw [Nat.add_zero] at x0
              clear hcc
              go_wp2_with fail
              go_quiet (fail)
              go_wp2_with fail
              go_roundg (cap - (k + 1))
              case measure => omega
              case rel => exact ⟨k + 1, by omega, rfl, by go_num, belowN HBi.out _⟩
            · have s1 : ¬ (k : Int) < (cap : Int) := by omega
              go_wp2_with fail
              go_roundg (Ss.length - (i + 1))
              case measure => omega
              case rel => exact ⟨i + 1, by omega, rfl, by go_num, HBi.out⟩
        · have d1 : ¬ (i : Int) < (Ss.length : Int) := by omega
          go_wp2_with fail
          go_loopg [7] Cs.length (fun gk x w' => ∃ i : Nat, i ≤ Cs.length ∧ gk = Cs.length - i ∧ x = .int .i64 i ∧ Below w.heap.size w w')
          case atStart => exact ⟨0, by omega, by omega, rfl, HBo.out⟩
          case round =>
            obtain ⟨i, hi, hgk, rfl, hbo⟩ := hrel
            obtain ⟨k4, k5, k6, k7, k8, k9, k10, k11⟩ := HC.out _ hbo
            have HBo := hid hbo
            clear hbo
            rcases Nat.lt_or_ge i Cs.length with hlt | hge
            · have d0 : (0 : Int) ≤ (i : Int) := by omega
              have d1 : (i : Int) < (Cs.length : Int) := by omega
              have d2 : (i : Int) + 1 ≤ 17592186044417 := by omega
              have hie : Cs[i]? = some Cs[i] := List.getElem?_eq_getElem hlt
              obtain ⟨gl, cl, gm, cm, z1, z2, z3, z4, z5, z6⟩ := HL.out.lc.at hie
              have hfu := HL.out.lc.f _ (List.mem_of_getElem? hie)
              rw [z1] at e8
              cases e8
              rw [z2] at e9
              cases e9
              generalize Cs[i] = e at *
              obtain ⟨ev, mk⟩ := e
              obtain ⟨p, cap, ep, hmx, hfc⟩ := hfu.at
              simp only at ep z5 z6 hfc
              subst ep
              have HX := hid (fun (W : World) (hb : Below w.heap.size w W) => (⟨(hb.cell (p := ⟨gl, i, none⟩) z3).trans z5, (hb.cell (p := ⟨gm, i, none⟩) z4).trans z6⟩ : W.cell? ⟨gl, i, none⟩ = some (.slice p cap cap) ∧ W.cell? ⟨gm, i, none⟩ = some (.int .i64 mk)))
              have HFC := hid hfc
              have hmx2 : cap ≤ 9223372036854775807 := hmx
              clear z1 z2 z5 z6 hfu hfc hie hmx
              go_wp2_with fail
              clear k4 k5 k6 k7 k8 k9 k10 k11
              go_loopg [8] cap (fun gk x w' => ∃ k : Nat, k ≤ cap ∧ gk = cap - k ∧ x = .int .i64 k ∧ Below w.heap.size w w')
              case atStart => exact ⟨0, by omega, by omega, rfl, HBo.out⟩
              case round =>
                obtain ⟨k, hk, hgk2, rfl, hbi⟩ := hrel
                obtain ⟨k4, k5, k6, k7, k8, k9, k10, k11⟩ := HC.out _ hbi
                obtain ⟨y1, y2⟩ := HX.out _ hbi
                have HBi := hid hbi
                clear hbi
                rcases Nat.lt_or_ge k cap with hlt2 | hge2
                · have s0 : (0 : Int) ≤ (k : Int) := by omega
                  have s1 : (k : Int) < (cap : Int) := by omega
                  have s2 : (k : Int) + 1 ≤ 9223372036854775807 := by omega
                  obtain ⟨g, eg, hgz, hcc⟩ := HFC.out (by omega)
                  subst eg
                  have x0 := (HBi.out.cell (p := ⟨g, k * 5 + 0, none⟩) hgz).trans (hcc k 0 _ hlt2 rfl)
                  have x1 := (HBi.out.cell (p := ⟨g, k * 5 + 1, none⟩) hgz).trans (hcc k 1 _ hlt2 rfl)
                  have x2 := (HBi.out.cell (p := ⟨g, k * 5 + 2, none⟩) hgz).trans (hcc k 2 _ hlt2 rfl)
                  have x3 := (HBi.out.cell (p := ⟨g, k * 5 + 3, none⟩) hgz).trans (hcc k 3 _ hlt2 rfl)
                  have x4 := (HBi.out.cell (p := ⟨g, k * 5 + 4, none⟩) hgz).trans (hcc k 4 _ hlt2 rfl)
                  rw [Nat.add_zero] at x0
                  clear hcc
                  go_wp2_with fail
                  have HBA := hid (HBi.out.alloc HBi.out.size (.cells #[.int .i64 mk, .bool false, .int .i64 mk, .int .i64 0, .int .i64 mk] 100))
                  have hbn := heap_alloc_new wr (.cells #[.int .i64 mk, .bool false, .int .i64 mk, .int .i64 0, .int .i64 mk] 100)
                  have hqw : q ≠ wr.heap.size := by have := HBi.out.size; omega
                  clear k4 k5 k6 k7 k8 k9 k10 k11 y1 y2
                  obtain ⟨k4, k5, k6, k7, k8, k9, k10, k11⟩ := HC.out _ HBA.out
                  obtain ⟨y1, y2⟩ := HX.out _ HBA.out
                  have b0 := cell_of_row _ wr.heap.size 0 _ _ _ hbn
                  have b1 := cell_of_row _ wr.heap.size 1 _ _ _ hbn
                  have b2 := cell_of_row _ wr.heap.size 2 _ _ _ hbn
                  have b3 := cell_of_row _ wr.heap.size 3 _ _ _ hbn
                  have b4 := cell_of_row _ wr.heap.size 4 _ _ _ hbn
                  simp only [List.getElem?_toArray, List.getElem?_cons_zero, List.getElem?_cons_succ] at b0 b1 b2 b3 b4
                  clear hbn
                  generalize wr.alloc (.cells #[.int .i64 mk, .bool false, .int .i64 mk, .int .i64 0, .int .i64 mk] 100) = W2 at *
                  go_quiet (fail)
                  go_wp2_with fail
                  go_roundg (cap - (k + 1))
                  case measure => omega
                  case rel => exact ⟨k + 1, by omega, rfl, by go_num, belowN HBA.out _⟩
                · have s1 : ¬ (k : Int) < (cap : Int) := by omega
                  go_wp2_with fail
                  go_roundg (Cs.length - (i + 1))
                  case measure => omega
                  case rel => exact ⟨i + 1, by omega, rfl, by go_num, HBi.out⟩
            · have d1 : ¬ (i : Int) < (Cs.length : Int) := by omega
              go_wp2_with fail
              go_loopg [10] Ms.length (fun gk x w' => ∃ i : Nat, i ≤ Ms.length ∧ gk = Ms.length - i ∧ x = .int .i64 i ∧ Below w.heap.size w w')
              case atStart => exact ⟨0, by omega, by omega, rfl, HBo.out⟩
              case round =>
                obtain ⟨i, hi, hgk, rfl, hbo⟩ := hrel
                obtain ⟨k4, k5, k6, k7, k8, k9, k10, k11⟩ := HC.out _ hbo
                have HBo := hid hbo
                clear hbo
                rcases Nat.lt_or_ge i Ms.length with hlt | hge
                · have d0 : (0 : Int) ≤ (i : Int) := by omega
                  have d1 : (i : Int) < (Ms.length : Int) := by omega
                  have d2 : (i : Int) + 1 ≤ 17592186044417 := by omega
                  have hie : Ms[i]? = some Ms[i] := List.getElem?_eq_getElem hlt
                  obtain ⟨gl, cl, gm, cm, z1, z2, z3, z4, z5, z6⟩ := HL.out.lm.at hie
                  have hfu := HL.out.lm.f _ (List.mem_of_getElem? hie)
                  rw [z1] at e10
                  cases e10
                  rw [z2] at e11
                  cases e11
                  generalize Ms[i] = e at *
                  obtain ⟨ev, mk⟩ := e
                  obtain ⟨p, cap, ep, hmx, hfc⟩ := hfu.at
                  simp only at ep z5 z6 hfc
                  subst ep
                  have HX := hid (fun (W : World) (hb : Below w.heap.size w W) => (⟨(hb.cell (p := ⟨gl, i, none⟩) z3).trans z5, (hb.cell (p := ⟨gm, i, none⟩) z4).trans z6⟩ : W.cell? ⟨gl, i, none⟩ = some (.slice p cap cap) ∧ W.cell? ⟨gm, i, none⟩ = some (.int .i64 mk)))
                  have HFC := hid hfc
                  have hmx2 : cap ≤ 9223372036854775807 := hmx
                  clear z1 z2 z5 z6 hfu hfc hie hmx
                  go_wp2_with fail
                  clear k4 k5 k6 k7 k8 k9 k10 k11
                  go_loopg [11] cap (fun gk x w' => ∃ k : Nat, k ≤ cap ∧ gk = cap - k ∧ x = .int .i64 k ∧ Below w.heap.size w w')
                  case atStart => exact ⟨0, by omega, by omega, rfl, HBo.out⟩
                  case round =>
                    obtain ⟨k, hk, hgk2, rfl, hbi⟩ := hrel
                    obtain ⟨k4, k5, k6, k7, k8, k9, k10, k11⟩ := HC.out _ hbi
                    obtain ⟨y1, y2⟩ := HX.out _ hbi
                    have HBi := hid hbi
                    clear hbi
                    rcases Nat.lt_or_ge k cap with hlt2 | hge2
                    · have s0 : (0 : Int) ≤ (k : Int) := by omega
                      have s1 : (k : Int) < (cap : Int) := by omega
                      have s2 : (k : Int) + 1 ≤ 9223372036854775807 := by omega
                      obtain ⟨g, eg, hgz, hcc⟩ := HFC.out (by omega)
                      subst eg
                      have x0 := (HBi.out.cell (p := ⟨g, k * 4 + 0, none⟩) hgz).trans (hcc k 0 _ hlt2 rfl)
                      have x1 := (HBi.out.cell (p := ⟨g, k * 4 + 1, none⟩) hgz).trans (hcc k 1 _ hlt2 rfl)
                      have x2 := (HBi.out.cell (p := ⟨g, k * 4 + 2, none⟩) hgz).trans (hcc k 2 _ hlt2 rfl)
                      have x3 := (HBi.out.cell (p := ⟨g, k * 4 + 3, none⟩) hgz).trans (hcc k 3 _ hlt2 rfl)
                      rw [Nat.add_zero] at x0
                      clear hcc
                      go_wp2_with fail
                      have HBA := hid (HBi.out.alloc HBi.out.size (.cells #[.int .i64 mk, .bool false, .slice none 0 0, .slice none 0 0] 102))
                      have hbn := heap_alloc_new wr (.cells #[.int .i64 mk, .bool false, .slice none 0 0, .slice none 0 0] 102)
                      have hqw : q ≠ wr.heap.size := by have := HBi.out.size; omega
                      clear k4 k5 k6 k7 k8 k9 k10 k11 y1 y2
                      obtain ⟨k4, k5, k6, k7, k8, k9, k10, k11⟩ := HC.out _ HBA.out
                      obtain ⟨y1, y2⟩ := HX.out _ HBA.out
                      have b0 := cell_of_row _ wr.heap.size 0 _ _ _ hbn
                      have b1 := cell_of_row _ wr.heap.size 1 _ _ _ hbn
                      have b2 := cell_of_row _ wr.heap.size 2 _ _ _ hbn
                      have b3 := cell_of_row _ wr.heap.size 3 _ _ _ hbn
                      simp only [List.getElem?_toArray, List.getElem?_cons_zero, List.getElem?_cons_succ] at b0 b1 b2 b3
                      clear hbn
                      generalize wr.alloc (.cells #[.int .i64 mk, .bool false, .slice none 0 0, .slice none 0 0] 102) = W2 at *
                      go_quiet (fail)
                      go_wp2_with fail
                      go_roundg (cap - (k + 1))
                      case measure => omega
                      case rel => exact ⟨k + 1, by omega, rfl, by go_num, belowN HBA.out _⟩
                    · have s1 : ¬ (k : Int) < (cap : Int) := by omega
                      go_wp2_with fail
                      go_roundg (Ms.length - (i + 1))
                      case measure => omega
                      case rel => exact ⟨i + 1, by omega, rfl, by go_num, HBi.out⟩
                · have d1 : ¬ (i : Int) < (Ms.length : Int) := by omega
                  go_wp2_with fail
                  exact bodyPost_ret (v := .bool true) (by simp [results, Tryz.results19, go_sem]) rfl ⟨rfl, HBo.out⟩
theorem checks_any (s : ByteArray) (w : World) (hs : s.size ≤ maxLen) (hflow : FlowTab w) (htak : TakesTab w) (htyp : TypeTab w) :
    Calls Tryz.prog 16 #[.string s] w fun e w' => e = .returned (.bool true) ∧ Below w.heap.size w w' := by
  have hc := hid (tcheck_any s w hs hflow)
  have hr := hid (fun W (hb : Below w.heap.size w W) => refCheck_any s W hs (htak.below hb) (htyp.below hb))
  clear hs hflow htak htyp
  go_enter Tryz.func16, Tryz.ntmps16
  go_wp2_with fail
  refine hc.out.mono ?_
  clear hc
  intro x w2 hp
  obtain ⟨hb, r, hx, he⟩ := hp
  subst x
  have HE := hid he
  have hrr := hid (hr.out w2 hb)
  have HB := hid hb
  clear he hr hb
  go_wp2_with fail
  refine hrr.out.mono ?_
  clear hrr
  intro x w3 hp
  obtain ⟨hb3, r3, hx, he3⟩ := hp
  subst x
  have HB3 := hid hb3
  have hreq : r = r3 := HE.out.unique he3
  subst hreq
  have hn := hid (num_any r w3)
  clear he3 hb3
  go_wp2_with fail
  refine hn.out.mono ?_
  clear hn
  intro x w9 hh
  obtain ⟨hx, hw9⟩ := hh
  subst x
  subst w9
  go_wp2_with fail
  go_ret
  exact ⟨rfl, HB.out.trans (HB3.out.mono HB.out.size)⟩
theorem toldAll_small {l : List Ins} {L : Nat} (hw : Wf l L) {fs : List Fr} (hinv : SetInv l L fs) : (mapsF l fs L).length ≤ 1000 ∧ ∀ m ∈ mapsF l fs L, m.lo.length ≤ 1000 ∧ m.st.length ≤ 1000 := by
  have h1 := hw.len
  refine ⟨by simp [mapsF]; omega, fun m hm => ?_⟩
  unfold mapsF at hm
  obtain ⟨k, hk, rfl⟩ := List.getElem_of_mem hm
  simp only [List.length_zipWith] at hk
  have hfo := hinv.ok (fs[k]'(by omega)) (List.getElem_mem _)
  rw [List.getElem_zipWith]
  unfold ptF
  split
  · have h4 := hfo.lo
    have h8 := hfo.stk
    simp only [List.length_take]
    omega
  · simp
/-- What both calls of Maps leave. -/
theorem maps_meet {s : ByteArray} {w w2 w3 : World} {x y : Ending} (ha : TMapsPost s w x w2) (hb : RMapsPost s w2 y w3) :
    Below w.heap.size w w3 ∧ ∃ (r : Nat) (va vb : Value) (ms : List MP) (ba bb : Nat), x = .returned (.tuple #[va, .int .i64 r]) ∧ y = .returned (.tuple #[vb, .int .i64 r]) ∧ OwnPts w3 ba va ms ∧ OwnPts w3 bb vb ms ∧ ms.length ≤ 1000 ∧ ∀ m ∈ ms, m.lo.length ≤ 1000 ∧ m.st.length ≤ 1000 := by
  obtain ⟨hb1, ha⟩ := ha
  obtain ⟨hb2, hb⟩ := hb
  refine ⟨hb1.trans (hb2.mono hb1.size), ?_⟩
  rcases ha with ⟨r, hr, he, rfl⟩ | ⟨va, fs, rfl, he, hinv, hst, ho⟩
  · rcases hb with ⟨r', hr', he', rfl⟩ | ⟨vb, all, rfl, he', hwt, _, _⟩
    · have e := he.unique he'
      subst e
      exact ⟨r, _, _, [], 0, 0, rfl, rfl, OwnPts.nil _ _, OwnPts.nil _ _, by simp, fun m hm => by simp at hm⟩
    · exact absurd (he.unique (.inr (.inl ⟨he', hwt, rfl⟩))) hr
  · have hw := wf_of he
    have hwt := still_wt hw hinv.ok hst hinv.cov
    rcases hb with ⟨r', hr', he', rfl⟩ | ⟨vb, all, rfl, he', _, hall, ho'⟩
    · exact absurd (he'.unique (.inr (.inl ⟨he, hwt, rfl⟩))) hr'
    · obtain ⟨s1, s2⟩ := toldAll_small hw hinv
      rw [← maps_same hw hinv hst hwt hall] at ho'
      exact ⟨0, va, vb, _, _, _, rfl, rfl, ho.below hb2 (Nat.le_refl _), ho', s1, s2⟩
theorem types_any (s : ByteArray) (w : World) (hs : s.size ≤ maxLen) (hflow : FlowTab w) (htak : TakesTab w) (htyp : TypeTab w) :
    Calls Tryz.prog 17 #[.string s] w fun e w' => e = .returned (.bool true) ∧ Below w.heap.size w w' := by
  have hc := hid (tmaps_any s w hs hflow)
  have hr := hid (fun W (hb : Below w.heap.size w W) => refMaps_any s W hs (htak.below hb) (htyp.below hb))
  clear hs hflow htak htyp
  go_enter Tryz.func17, Tryz.ntmps17
  go_wp2_with fail
  refine hc.out.mono ?_
  clear hc
  intro x w2 hp
  have HP := hid hp
  have hrr := hid (hr.out w2 hp.1)
  have hx : ∃ va r, x = .returned (.tuple #[va, .int .i64 r]) := by
    obtain ⟨_, h⟩ := hp
    rcases h with ⟨r, _, _, h⟩ | ⟨va, fs, h, _⟩
    · exact ⟨_, _, h⟩
    · exact ⟨_, _, h⟩
  clear hp hr
  obtain ⟨va, r, hx⟩ := hx
  subst x
  go_wp2_with fail
  refine hrr.out.mono ?_
  clear hrr
  intro y w3 hp
  obtain ⟨hb, r2, va2, vb, ms, ba, bb, hx, hy, ho1, ho2, hl, hm⟩ := maps_meet HP.out hp
  simp only [Ending.returned.injEq, Value.tuple.injEq, Array.mk.injEq, List.cons.injEq, Value.int.injEq, true_and, and_true] at hx
  obtain ⟨hx1, hx2⟩ := hx
  subst hx1
  subst hx2
  subst y
  have hsm := hid (sameMaps_any ms va vb ba bb w3 ho1 ho2 hl hm)
  have hn := hid (fun W => num_any r2 W)
  have HB := hid hb
  clear hp HP ho1 ho2 hl hm hb
  go_wp2_with fail
  refine hsm.out.mono ?_
  clear hsm
  intro x w4 hh
  obtain ⟨hx, n, hw4⟩ := hh
  subst x
  subst w4
  go_wp2_with fail
  refine (hn.out _).mono ?_
  clear hn
  intro x w9 hh
  obtain ⟨hx, hw9⟩ := hh
  subst x
  subst w9
  go_wp2_with fail
  go_ret
  exact ⟨rfl, below_drewN HB.out _⟩
theorem step6_any {E : Env} {B q : Nat} {K : PK} {R : RK} {F G : Nat → Prop} {s : MS} {img : ByteArray} {lab : Nat → Nat} {nI nS nC nM : Nat} {w : World} (h : KN E B q K R F G s img lab nI nS nC nM w) (hft : ∀ W, Below B w W → FlowTab W) (himg : img.size ≤ maxLen) (hI : nI ≤ 999999000) (hS : nS ≤ 999999000) (hC : nC ≤ 999999000) (hM : nM ≤ 999999000) (hout : s.out.length ≤ 8796093022208) (a : Int) :
    Calls Tryz.prog 18 #[.pointer (some ⟨q, 0, none⟩), .agg #[.int .i64 6, .int .i64 a]] w fun e w' => e = .returned (.bool true) ∧ ∃ lab' n, n ≤ 120 ∧ KN E B q K R F G s img lab' (nI + 1 + 2 * n) (nS + 2) (nC + 1) (nM + 1) w' ∧ Below B w w' := by
  have hb0 : Below w.heap.size w (w.alloc (.cells #[.int .i64 6, .int .i64 a] 44)) := (Below.refl _ _).alloc (Nat.le_refl _) _
  have hA := h.below hb0
  obtain ⟨_, _, _, _, _, hBw, _, _⟩ := h.facts
  have how := hid (fun (W : World) (hb : Below (w.alloc (.cells #[.int .i64 6, .int .i64 a] 44)).heap.size (w.alloc (.cells #[.int .i64 6, .int .i64 a] 44)) W) => (owns_any (hA.below hb) (fun W' hb' => hft W' (((hb0.mono hBw).trans (hb.mono (Nat.le_trans hBw hb0.size))).trans hb')) himg hI hS hC hM hout).mono (R' := fun e w' => e = .returned (.tuple #[]) ∧ ∃ lab' n, n ≤ 120 ∧ KN E B q K R F G s img lab' (nI + 1 + 2 * n) (nS + 2) (nC + 1) (nM + 1) w' ∧ Below B w w') (fun e w' hh => by
    obtain ⟨h1, lab', n, h2, h3, h4⟩ := hh
    exact ⟨h1, lab', n, h2, h3, ((hb0.mono hBw).trans (hb.mono (Nat.le_trans hBw hb0.size))).trans h4⟩))
  obtain ⟨V, Is, Ss, Cs, Ms, hKM, _⟩ := hA
  have hag := hid (agrees_any hKM.lw hout)
  clear h hb0 hKM hft himg hI hS hC hM hout hBw
  go_enter Tryz.func18, Tryz.ntmps18
  go_wp2_with fail
  refine hag.out.mono ?_
  clear hag
  intro e w1 hp
  obtain ⟨hx, hb⟩ := hp
  subst e
  have how1 := hid (how.out w1 hb)
  clear how hb
  go_wp2_with fail
  refine how1.out.mono ?_
  clear how1
  intro e w2 hp
  obtain ⟨hx, hp⟩ := hp
  subst e
  have HP := hid hp
  clear hp
  go_wp2_with fail
  exact bodyPost_ret (v := .bool true) (by simp [results, Tryz.results18, go_sem]) rfl ⟨rfl, HP.out⟩
theorem KN.step {E : Env} {B q : Nat} {K : PK} {R : RK} {F G : Nat → Prop} {s t : MS} {img : ByteArray} {lab : Nat → Nat} {V : KV} {Is Ss Cs Ms : List (Value × Int)} {w w' : World} (h : KM E B w q lab V K R F G s Is Ss Cs Ms) (ha : V.a2 = .string img) (hn : MNext E B q V.row K R F G t w w') : ∃ F' G', KN E B q K R F' G' t img lab Is.length Ss.length Cs.length Ms.length w' := by
  obtain ⟨F', G', h1, h2, h3, h4, h5⟩ := hn
  have hz := h5.size
  have l0 : ∀ k, w.heap.size ≤ k → lab k = 0 := fun k hk => by
    by_cases h0 : lab k = 0
    · exact h0
    · have := (h.ks.hz k h0).2; omega
  have hB := h.ks.hB
  refine ⟨F', G', V, Is, Ss, Cs, Ms, ⟨h1, h.ks.keep hz (fun g hg => h4 g (h.ks.hz g hg).2 (fun e => hg (h.fl g e)) (fun e => hg (h.gl g e))), fun k hk => ?_, fun k hk => ?_, fun k hk => ?_, fun k hk => ?_, h.mark⟩, rfl, rfl, rfl, rfl, ha⟩
  · rcases h2 k hk with e | e
    · exact h.fl k e
    · exact l0 k e
  · rcases h3 k hk with e | e
    · exact h.gl k e
    · exact l0 k e
  · rcases h2 k hk with e | e
    · exact h.fB k e
    · omega
  · rcases h3 k hk with e | e
    · exact h.gB k e
    · omega
/-- What holds behind j steps of a script. -/
def KQ (E : Env) (w0 : World) (q : Nat) (K : PK) (R : RK) (img : ByteArray) (j : Nat) (W : World) : Prop :=
  ∃ F G s lab nI nS nC nM, KN E w0.heap.size q K R F G s img lab nI nS nC nM W ∧ nI ≤ 241 * j ∧ nS ≤ 2 * j ∧ nC ≤ j ∧ nM ≤ j ∧ s.out.length ≤ j ∧ Below w0.heap.size w0 W ∧ nI ≤ 252706816 ∧ nS ≤ 2097152 ∧ nC ≤ 1048576 ∧ nM ≤ 1048576
theorem script_all (E : Env) (w0 : World) (q : Nat) (img : ByteArray) (K : PK) (R : RK) (ops : List (Int × Int)) (hol : ops.length ≤ 1048576) (hz : E.zs.length ≤ 64) (hft : FlowTab w0) (himg : img.size ≤ maxLen) : Script w0.heap.size q ops true true (KQ E w0 q K R img) := by
  refine ⟨?_, ?_, ?_, ?_, ?_⟩
  · rintro j W ⟨F, G, s, lab, nI, nS, nC, nM, h0, h1, h2, h3, h4, h5, h6, b1, b2, b3, b4⟩
    exact ⟨F, G, s, lab, nI, nS, nC, nM, h0, by omega, by omega, by omega, by omega, by omega, h6, b1, b2, b3, b4⟩
  · rintro j W x hx hsk ⟨F, G, s, lab, nI, nS, nC, nM, h0, h1, h2, h3, h4, h5, h6, b1, b2, b3, b4⟩
    have hj := (List.getElem?_eq_some_iff.1 hx).1
    obtain ⟨x1, x2⟩ := x
    by_cases hk : x1 = 6
    · subst hk
      refine (step6_any h0 (fun W' hb => hft.below (h6.trans hb)) himg (by omega) (by omega) (by omega) (by omega) (by omega) x2).mono ?_
      rintro e w' ⟨he, lab', n, hn, hk, hb⟩
      exact ⟨he, ⟨F, G, s, lab', _, _, _, _, hk, by omega, by omega, by omega, by omega, by omega, h6.trans hb, by omega, by omega, by omega, by omega⟩, hb⟩
    · obtain ⟨_, _, _, _, _, hBw, _, hBq⟩ := h0.facts
      obtain ⟨V, Is, Ss, Cs, Ms, hKM, e1, e2, e3, e4, e5⟩ := h0
      refine (mstep_any hKM.lw hKM.fB hKM.gB hBq hBw x1 x2 hk hz (by omega)).mono ?_
      rintro e w' ⟨he, hn⟩
      have hb : Below w0.heap.size W w' := by
        obtain ⟨_, _, _, _, _, _, hb⟩ := hn
        exact hb
      obtain ⟨F', G', hK'⟩ := KN.step hKM e5 hn
      have ho := op_out E x1 x2 s
      exact ⟨he, ⟨F', G', _, lab, _, _, _, _, hK', by omega, by omega, by omega, by omega, by omega, h6.trans hb, by omega, by omega, by omega, by omega⟩, hb⟩
  · rintro j W ⟨F, G, s, lab, nI, nS, nC, nM, h0, h1, h2, h3, h4, h5, h6, b1, b2, b3, b4⟩
    have hK := h0
    obtain ⟨_, _, _, _, _, hBw, _, hBq⟩ := h0.facts
    obtain ⟨V, Is, Ss, Cs, Ms, hKM, e1, e2, e3, e4, e5⟩ := h0
    refine (looks_any hKM.ks (by omega) (by omega) (by omega) (by omega)).mono ?_
    rintro e w' ⟨g1, g2⟩
    exact ⟨g1, ⟨F, G, s, lab, nI, nS, nC, nM, hK.below g2, h1, h2, h3, h4, h5, h6.trans (g2.mono hBw), b1, b2, b3, b4⟩, g2.mono hBw⟩
  · rintro W ⟨F, G, s, lab, nI, nS, nC, nM, h0, h1, h2, h3, h4, h5, h6, b1, b2, b3, b4⟩
    obtain ⟨_, _, _, _, _, hBw, _, hBq⟩ := h0.facts
    obtain ⟨V, Is, Ss, Cs, Ms, hKM, e1, e2, e3, e4, e5⟩ := h0
    refine (agrees_any hKM.lw (by omega)).mono ?_
    rintro e w' ⟨g1, g2⟩
    exact ⟨g1, g2.mono hBw⟩
  · rintro j W ⟨F, G, s, lab, nI, nS, nC, nM, h0, h1, h2, h3, h4, h5, h6, b1, b2, b3, b4⟩
    exact ⟨F, G, s, lab, nI, nS, nC, nM, h0.below (Below.refl _ W).drew, h1, h2, h3, h4, h5, h6.trans ((Below.refl _ W).drew.mono h0.facts.2.2.2.2.2.1), b1, b2, b3, b4⟩
theorem KQ.start {s : ByteArray} {zs : List Int} {n : Nat} {w w' : World} {q : Nat} {K : PK} {R : RK} (h : Begun s zs n w w' q K R) (he : NewErr s zs.length (n : Int) 0) : KQ (envOf s K.fs zs n) w q K R s 0 w' := by
  obtain ⟨F, G, hL, hF, hG, hq, hB⟩ := LS.start h he
  have hqz := (Array.getElem?_eq_some_iff.1 hL.row).1
  have l0 : ∀ k, (fun g => if g = q then 10 else 0 : Nat → Nat) k ≠ 0 → k = q := fun k hk => by
    by_cases e : k = q
    · exact e
    · exact absurd (if_neg e) hk
  have nl : ∀ (a : Nat) (te t : TypeId) (pat : Int → List Value), KL w' w.heap.size (fun g => if g = q then 10 else 0) a te t pat (.slice none 0 0) (.slice none 0 0) [] := fun a te t pat => ⟨World.ownsRow_nil _ _ _ _, World.ownsRow_nil _ _ _ _, fun g hg => (by cases hg), fun g hg => (by cases hg), fun e he => (by cases he)⟩
  refine ⟨F, G, _, fun g => if g = q then 10 else 0, 0, 0, 0, 0, ⟨⟨.pointer (some ⟨K.b, 0, none⟩), .pointer (some ⟨R.b, 0, none⟩), .string s, -1000, .slice none 0 0, .slice none 0 0, .slice none 0 0, .slice none 0 0, .slice none 0 0, .slice none 0 0, .slice none 0 0, .slice none 0 0⟩, [], [], [], [], ⟨hL, ⟨hL.row, if_pos rfl, nl _ _ _ _, nl _ _ _ _, nl _ _ _ _, nl _ _ _ _, fun g hg => ?_, hB⟩, fun k hk => (by
    show (if k = q then 10 else 0) = 0
    exact if_neg (fun (e : k = q) => hL.fq (by rw [← e]; exact hk))), fun k hk => (by
    show (if k = q then 10 else 0) = 0
    exact if_neg (fun (e : k = q) => hL.gq (by rw [← e]; exact hk))), hF, hG, rfl⟩, rfl, rfl, rfl, rfl, rfl⟩, by omega, by omega, by omega, by omega, by simp [startS], h.below, by omega, by omega, by omega, by omega⟩
  rw [l0 g hg]
  exact ⟨hq, hqz⟩
theorem plays_all (s : ByteArray) (vi vo : Value) (zs : List Int) (ops : List (Int × Int)) (cells : Int) (w : World) (hs : s.size ≤ maxLen) (t1 : TakesTab w) (t2 : TypeTab w) (t3 : FlowTab w) (hv : ArgInts w vi zs) (hlen : zs.length ≤ 17592186044416) (ho : ArgOps w vo ops) (hol : ops.length ≤ 1048576) :
    Calls Tryz.prog 8 #[.string s, vi, .int .i64 cells, vo, .bool true, .bool true] w fun e w' => e = .returned (.bool true) ∧ Below w.heap.size w w' := by
  refine plays_gen s vi vo zs ops cells true true w hs t1 t2 t3 hv hlen ho (by omega) ?_
  intro n q K R w1 hc he hB
  subst hc
  exact ⟨KQ (envOf s K.fs zs n) w q K R s, KQ.start hB he, script_all _ w q s K R ops hol (newErr_zero he).2.2 t3 hs⟩
theorem ArgInts.stay {w w' : World} {v : Value} {zs : List Int} (h : ArgInts w v zs) (hb : Below w.heap.size w w') : ArgInts w' v zs := by
  rcases h with h1 | ⟨a, cap, hv, hc, hl⟩
  · exact .inl h1
  · refine .inr ⟨a, cap, hv, fun j x hj => ?_, fun hp => Nat.lt_of_lt_of_le (hl hp) hb.size⟩
    have hz : 0 < zs.length := by have := (List.getElem?_eq_some_iff.1 hj).1; omega
    exact (hb.cell (p := a.add j) (by rw [add_block]; exact hl hz)).trans (hc j x hj)
theorem ArgOps.below {w w' : World} {v : Value} {ops : List (Int × Int)} (h : ArgOps w v ops) (hb : Below w.heap.size w w') : ArgOps w' v ops := by
  rcases h with h | ⟨a, cap, hv, h1, h2⟩
  · exact .inl h
  · refine .inr ⟨a, cap, hv, fun j x hj => ?_, fun hp => Nat.lt_of_lt_of_le (h2 hp) hb.size⟩
    have hlt := h2 (by have := (List.getElem?_eq_some_iff.1 hj).1; omega)
    exact ⟨(hb.cell (p := a.add (j * 2)) (by rw [add_block]; exact hlt)).trans (h1 j x hj).1, (hb.cell (p := a.add (j * 2 + 1)) (by rw [add_block]; exact hlt)).trans (h1 j x hj).2⟩
theorem all_any (s : ByteArray) (vi vo : Value) (zs : List Int) (ops : List (Int × Int)) (cells : Int) (w : World) (hs : s.size ≤ maxLen) (t1 : TakesTab w) (t2 : TypeTab w) (t3 : FlowTab w) (hv : ArgInts w vi zs) (hlen : zs.length ≤ 17592186044416) (ho : ArgOps w vo ops) (hol : ops.length ≤ 1048576) :
    Calls Tryz.prog 7 #[.string s, vi, .int .i64 cells, vo] w fun e w' => e = .returned (.bool true) ∧ Below w.heap.size w w' := by
  have hck := hid (checks_any s w hs t3 t1 t2)
  have hty := hid (fun (W : World) (hb : Below w.heap.size w W) => types_any s W hs (t3.below hb) (t1.below hb) (t2.below hb))
  have hpl := hid (fun (W : World) (hb : Below w.heap.size w W) => plays_all s vi vo zs ops cells W hs (t1.below hb) (t2.below hb) (t3.below hb) (hv.stay hb) hlen (ho.below hb) hol)
  obtain ⟨p0, c0, e0⟩ := hv.slice
  subst e0
  obtain ⟨po, co, eo⟩ := ho.slice
  subst eo
  clear hs t1 t2 t3 hv ho
  go_enter Tryz.func7, Tryz.ntmps7
  go_wp2_with fail
  refine hck.out.mono ?_
  clear hck
  intro x w1 hp
  obtain ⟨hx, hb1⟩ := hp
  subst x
  have hty1 := hid (hty.out w1 hb1)
  have HB1 := hid hb1
  clear hty hb1
  go_wp2_with fail
  refine hty1.out.mono ?_
  clear hty1
  intro x w2 hp
  obtain ⟨hx, hb2⟩ := hp
  subst x
  have hb02 := HB1.out.trans (hb2.mono HB1.out.size)
  have hpl2 := hid (hpl.out w2 hb02)
  have HB2 := hid hb02
  clear hpl hb2 hb02 HB1
  go_wp2_with fail
  refine hpl2.out.mono ?_
  clear hpl2
  intro x w3 hp
  obtain ⟨hx, hb3⟩ := hp
  subst x
  have HB3 := hid (HB2.out.trans (hb3.mono HB2.out.size))
  clear hb3
  go_wp2_with fail
  go_ret
  exact ⟨rfl, HB3.out⟩
end Go.Proofs.YtdmdpindonghdaaGreatDoor
namespace Go.Proofs.YtdmdpindonghdaaGreatDoor
open Go.ChangeShapes Go.WideShapes Go.ChangeAt Go.ChangeMaps Go.RowKit
theorem bulk_len {H : Type} : ∀ (l : List (DataW H)), l.length ≤ Rows.uptoBulkAll l
  | [] => Nat.zero_le _
  | d :: r => by
    have h1 := bulk_len r
    have h2 : 1 ≤ Rows.uptoBulk d := by cases d <;> first | (simp [Rows.uptoBulk]; done) | (rename_i x; cases x <;> simp [Rows.uptoBulk])
    simp only [Rows.uptoBulkAll, List.length_cons]
    omega
/-- A script that is handed in, and how great it is. -/
theorem ops_argB {H : Type} {enc : TypeId × Value → H} {W : World} {v : Value} {d : DataW H} {p : List MemPlace} {base : Nat} (hok : Value.okWide Tryz.prog W .any base 25 v) (h : DataW.Trod enc Tryz.prog W 0 (fun _ => true) true 25 v d p) (hlt : ∀ x ∈ p, x.block < W.heap.size) :
    ∃ ops : List (Int × Int), ArgOps W v ops ∧ ops.length ≤ Rows.uptoBulk d := by
  obtain ⟨a0, len, cap, rfl⟩ := okWide_slice Tryz.underlying25 hok
  obtain ⟨fuel, hf⟩ := h
  rcases Go.Deep.open_slice_pairs Tryz.underlying25 Tryz.underlying44 cellsOp rfl rfl cellsInt cellsInt hf with ⟨hcs, hx⟩ | ⟨a, len', cap', m, k, V0, V1, D0, D1, P0, P1, hcs, _, hl, hm, hmm, hx, hcell⟩
  · simp [Value.cells] at hcs
    obtain ⟨rfl, rfl, rfl⟩ := hcs
    exact ⟨[], .inl ⟨rfl, rfl⟩, Nat.zero_le _⟩
  · simp [Value.cells] at hcs
    obtain ⟨rfl, rfl, rfl⟩ := hcs
    simp only [Prod.mk.injEq] at hx
    obtain ⟨rfl, rfl⟩ := hx
    simp only [if_true] at hmm
    subst hmm
    refine ⟨(List.range len).map fun i => (vint (V0 i), vint (V1 i)), .inr ⟨a, m, by simp, ?_, ?_⟩, ?_⟩
    · intro j x hj
      have hjl := (List.getElem?_eq_some_iff.1 hj).1
      simp only [List.length_map, List.length_range] at hjl
      simp only [List.getElem?_map, List.getElem?_range hjl, Option.map_some, Option.some.injEq] at hj
      subst hj
      obtain ⟨c0, c1, g0, g1⟩ := hcell j (by omega)
      obtain ⟨n0, e0, _⟩ := DataW.trod_int Tryz.underlying3 g0
      obtain ⟨n1, e1, _⟩ := DataW.trod_int Tryz.underlying3 g1
      simp only [List.cons.injEq, and_true] at e0 e1
      rw [c0, c1, e0, e1]
      exact ⟨rfl, rfl⟩
    · intro hp
      simp only [List.length_map, List.length_range] at hp
      exact hlt (.cell a.block (a.off + 0)) (List.mem_append.2 (.inl (MemPlace.mem_row.2 ⟨0, by omega, rfl⟩)))
    · simp only [List.length_map, List.length_range, Rows.uptoBulk]
      refine Nat.le_trans ?_ (Nat.le_trans (Nat.le_add_right _ _) (Nat.le_succ _))
      refine Nat.le_trans ?_ (bulk_len _)
      simp
theorem all_reads (os : Os) {H : Type} (enc : TypeId × Value → H) : ∃ places, DataW.whole enc Tryz.prog ((World.laidAll Tryz.prog os Rows.allUptoRow.laid).forCall (fun _ _ => 0) ⟨#[], #[.string ⟨#[]⟩, .slice none 0 0, .int .i64 0, .slice none 0 0], []⟩).memory Tryz.f7.params.toList Rows.allSpec.vars false #[Value.string ⟨#[]⟩, .slice none 0 0, .int .i64 0, .slice none 0 0].toList 8 = some ([.lit (.string []), .nil, .lit (.int .i64 0), .nil], [], places) :=
  ⟨[], by kernel_rfl⟩
theorem all_lifted (os : Os) (started : os.Started) (H : Type) (enc : TypeId × Value → H) (F : Stop.Interp) :
    ReturnsInHanded {} Tryz.checked os 7 .any ((Rows.OpenSpec.upto Rows.allSpec).preRow enc Tryz.prog Tryz.f7 Rows.allUptoRow.domain false Rows.allUptoRow.laid) (((Rows.OpenSpec.upto Rows.allSpec).at F).post enc Tryz.prog Tryz.f7 false true false false) := by
  obtain ⟨places, hx⟩ := all_reads os enc
  refine returnsInHanded_of_row (C := Tryz.checked) (s := Rows.OpenSpec.upto Rows.allSpec) knobs started (by kernel_rfl) Tryz.func7
    ⟨World.laidAll Tryz.prog os Rows.allUptoRow.laid, fun _ _ => 0, ⟨#[], #[.string ⟨#[]⟩, .slice none 0 0, .int .i64 0, .slice none 0 0], []⟩, World.laidAll_os _ _ _, World.shaped_of_ZipB (by kernel_rfl) (by kernel_rfl), rfl, (Input.okWide_of_okWideB (by kernel_rfl)).2,
      OpenSpec.preRow_of_cond 8 hx (by kernel_rfl) (fun k hk => by cases hk; kernel_rfl) (by kernel_rfl) (by rw [MakeChecks.laidMetH_plain _ _ _ (by kernel_rfl)]; exact laidMet_laidAll _ (by kernel_rfl) (by kernel_rfl)), by
      simp only [Assume.holds]
      exact ⟨by simp, by simp, fun _ => Modest.zero, by simp, by simp⟩⟩ ?_
  intro W base args ds gs before hval0 hW _ hcond hsz hL _ _
  have hval : ∀ (j : Nat) t v, Tryz.f7.params[j]? = some t → args[j]? = some v → Value.okWide Tryz.prog W .any base t v := hval0
  have hW' := hW
  obtain ⟨p, q, hA0, hV, rfl, _, _⟩ := hW
  have hA : DataW.TrodAll enc Tryz.prog W 0 (fun _ => true) true Tryz.f7.params.toList args.toList ds p := hA0
  obtain ⟨rfl, rfl⟩ := trodVars_none hV
  have hlt : ∀ x ∈ p, x.block < W.heap.size := fun x hx => by
    have := hW'.lt x (by simpa using hx)
    exact this
  rw [Tryz.params7] at hA hval hsz
  obtain ⟨v0, v1, v2, v3, d0, d1, d2, d3, p0, p1, p2, p3, rfl, rfl, rfl, h0, h1, h2, h3⟩ := trodAll_four hA
  obtain ⟨s, rfl, rfl, rfl, hs⟩ := open_string Tryz.underlying9 (hval 0 9 v0 rfl rfl) h0
  obtain ⟨n, rfl, rfl, rfl, hn⟩ := open_int Tryz.underlying3 (hval 2 3 v2 rfl rfl) h2
  have hw1 : (d1.weights Tryz.prog 22).all (· ≤ reachBytes) = true := by
    have := hsz
    simp only [List.append_nil, List.cons_append, List.nil_append, DataW.weightsEach, List.all_append, Bool.and_eq_true] at this
    exact this.2.1
  have hlt1 : ∀ x ∈ p1, x.block < W.heap.size := fun x hx => hlt x (by simp [hx])
  have hlt3 : ∀ x ∈ p3, x.block < W.heap.size := fun x hx => hlt x (by simp [hx])
  obtain ⟨ops, ho, hol0⟩ := ops_argB (hval 3 25 v3 rfl rfl) h3 hlt3
  have hol : ops.length ≤ 1048576 := by
    have hk := of_decide_eq_true (hcond _ rfl)
    simp only [List.append_nil, Rows.uptoBulkAll] at hk
    omega
  obtain ⟨zs, hz, hzl⟩ := ints_arg (hval 1 22 v1 rfl rfl) h1 hlt1 hw1
  obtain ⟨t1, t2, t3⟩ := tabs_of_laid hL
  refine (all_any s v1 v3 zs ops n W hs t2 t3 t1 hz hzl ho hol).mono fun e W' ⟨he, hb⟩ => ?_
  subst he
  have hr1 : DataW.Trod enc Tryz.prog W' 0 (fun b => decide (b < W.heap.size)) true 22 v1 d1 p1 := Below.trod laidOutP (by kernel_rfl) (of_decide_eq_true (by kernel_rfl)) h1 hb hlt1
  have hr3 : DataW.Trod enc Tryz.prog W' 0 (fun b => decide (b < W.heap.size)) true 25 v3 d3 p3 := Below.trod laidOutP (by kernel_rfl) (of_decide_eq_true (by kernel_rfl)) h3 hb hlt3
  exact ⟨_, rfl, _, _, _, [], _, [], hW', trodAll_mk1 (shut_bool Tryz.underlying4 _), trodAll_mk4 (shut_string Tryz.underlying9 hs) hr1 (shut_int Tryz.underlying3 hn) hr3, rfl, hb.frame _, fun h => by cases h⟩
theorem all_holds : Rows.AllUptoSaid :=
  OpenClaim.holds_of_cond 7 Tryz.f7 rfl rfl rfl rfl rfl rfl rfl ⟨rfl, rfl, rfl, rfl, rfl⟩ rfl rfl rfl rfl rfl (by kernel_rfl) Tryz.func7 (by kernel_rfl)
    (of_decide_eq_true (by kernel_rfl)) (by unfold Func.isWrapper; first | (rw [if_pos (by decide +kernel)]; kernel_rfl) | (rw [if_neg (by decide +kernel)]; exact ⟨rfl, rfl⟩))
    (fun os started H enc _ F => by rw [OpenClaim.pre_eq_preRow]; exact all_lifted os started H enc F)
theorem all_card_holds : Rows.AllUptoCardSaid :=
  Claim7.holds_tied_plain_at .later [] [.data, .data, .data, .data, .data] true Rows.allUptoCard.stood.harness false
    all_holds (fun _ h => by cases h) (by kernel_rfl) (fun _ h => by cases h) allUpto_row_tie rfl ⟨rfl, rfl⟩ (by kernel_rfl) rfl
    (fun f fn hf hfn => by
      obtain rfl : f = 7 := Option.some.inj ((show Tryz.prog.funcNamed "tint/tintlaw.All" = some 7 by kernel_rfl).symm.trans hf) |>.symm
      obtain rfl : fn = Tryz.f7 := (Option.some.inj (Tryz.func7.symm.trans hfn)).symm
      exact ⟨by kernel_rfl, fun j t ht => by
        rw [Tryz.params7] at ht
        have hm : t ∈ [9, 22, 3, 25] := by simpa using Array.mem_of_getElem? ht
        have hall : ([9, 22, 3, 25].all fun u => !Tryz.prog.wantsStandIn u) = true := by kernel_rfl
        exact (show Tryz.prog.wantsStandIn t = false by simpa using List.all_eq_true.1 hall t hm)⟩)
    (by kernel_rfl)
#print axioms all_card_holds
end Go.Proofs.YtdmdpindonghdaaGreatDoor
