/- What the proofs of these statements stand on, part 6: PmG, PmH, MchG, MchH, MchI, MchJ, MchK, MchL, MchM, MchN, MchO, TypI, MacE, RmA, LawC. -/
import Derived.Test.YtdmdpindonghdaaGreatDoorAll5
set_option maxHeartbeats 4000000
set_option maxRecDepth 100000
namespace Go.Proofs.YtdmdpindonghdaaGreatDoor
open Go.RowKit
def HNewPost (n : Nat) (w : World) (e : Ending) (w' : World) : Prop :=
  Below w.heap.size w w' ∧ ∃ v, e = .returned (.agg #[v, .int .i64 0, .int .i64 0]) ∧ w'.ownsRow w.heap.size 100 5 v n ((List.replicate n blankL).flatMap clCells)
theorem hnew_any (n : Nat) (w : World) (hn : n ≤ 32) : Calls Tryz.prog 42 #[.int .i64 n] w (HNewPost n w) := by
  obtain ⟨i0, hi0, hz0, hz1, hz2⟩ := info_parts cellInfo
  have hpc := hid (fun W => plainCell_any W)
  go_enter Tryz.func42, Tryz.ntmps42
  go_wp2_with fail
  go_loopg [4] n (fun g x w' => ∃ (k : Nat) (v : Value), k ≤ n ∧ g = n - k ∧ x = .int .i64 k ∧ w'.heap[w.heap.size + 1]? = some (.cells #[v, .int .i64 0, .int .i64 0] 72) ∧ w'.heap[w.heap.size]? = some (.cells #[.slice none 0 0, .int .i64 0, .int .i64 0] 72) ∧ Below w.heap.size w w' ∧ w'.ownsRow (w.heap.size + 2) 100 5 v k ((List.replicate k blankL).flatMap clCells))
  case atStart => exact ⟨0, .slice none 0 0, by omega, by omega, rfl, heap_two_new w _ _, heap_two_first w _ _, ((Below.refl _ _).alloc (Nat.le_refl _) _).alloc (by simp) _, World.ownsRow_nil _ _ _ _⟩
  case round =>
    obtain ⟨k, v, hk, hg, rfl, hrow, hres, hbel, hown⟩ := hrel
    obtain ⟨pv, cv, ev⟩ := (LsAt.of_owns hown).slice
    subst ev
    have hz : w.heap.size + 1 < wr.heap.size := (Array.getElem?_eq_some_iff.1 hrow).1
    have HB := hid hbel
    rcases Nat.lt_or_ge k n with hlt | hge
    · have d1 : (k : Int) < (n : Int) := by omega
      have c0 := cell_of_row wr (w.heap.size + 1) 0 _ _ _ hrow
      simp only [List.getElem?_toArray, List.getElem?_cons_zero] at c0
      have hp := hid (hpc.out wr.drew)
      have KEEP : Hid (∀ w9, Below wr.drew.heap.size wr.drew w9 → w9.cell? ⟨w.heap.size + 1, 0, none⟩ = some (.slice pv k cv) ∧ w9.frozen? ⟨w.heap.size + 1, 0, none⟩ = false ∧ w9.ownsRow (w.heap.size + 2) 100 5 (.slice pv k cv) k ((List.replicate k blankL).flatMap clCells) ∧ w.heap.size + 1 < w9.heap.size ∧ w9.heap[w.heap.size + 1]? = some (.cells #[.slice pv k cv, .int .i64 0, .int .i64 0] 72) ∧ w9.heap[w.heap.size]? = some (.cells #[.slice none 0 0, .int .i64 0, .int .i64 0] 72) ∧ Below w.heap.size w w9) := hid (fun w9 hb => by
        have r9 := (hb.block (w.heap.size + 1) (show w.heap.size + 1 < wr.heap.size from hz)).trans hrow
        refine ⟨cell_of_row w9 _ 0 _ _ _ r9, frozen_of_row w9 _ 0 _ _ r9, owns_keep hown (fun g hg => hb.block g (hown.lt g hg).2), (Array.getElem?_eq_some_iff.1 r9).1, r9, (hb.block w.heap.size (show w.heap.size < wr.heap.size by omega)).trans hres, (show Below w.heap.size w wr.drew from ⟨hbel.os, hbel.tape, hbel.output, hbel.size, hbel.block⟩).trans (hb.mono (show w.heap.size ≤ wr.heap.size by omega))⟩)
      have hfar : some (w.heap.size + 1) ≠ (Value.slice pv k cv).ownBlock := fun e => by
        have := (hown.lt _ e.symm).1
        omega
      go_wp2_with fail
      go_region_law
        ((first
          | (refine step_append_lies _ (by rfl) _ _ _ (by rfl) (w.heap.size + 2) 100 i0 _ 5 40 Tryz.underlying70 hi0 hz0 hz1 hz2 rfl (by omega) _ k ((List.replicate k blankL).flatMap clCells) (by rfl) (o9.alloc _)
              ⟨w9.heap.size, 0, none⟩ 1 1 [.int .i64 0, .bool false, .int .i64 (-1), .int .i64 (-1), .int .i64 0] (by rfl) (by rfl) (World.news_of_block (cs := #[.int .i64 0, .bool false, .int .i64 (-1), .int .i64 (-1), .int .i64 0]) (t := 100) (fr := (0, 0)) (heap_alloc_new w9 _)) (by simp [Value.oneCell'])
              (by omega) (by unfold maxLen; omega) (by omega) (by simp; omega) (w9.heap.size + 1) (by simp) ?_; intro gg gcap w6 hown6 hgrow6 hat6 hlt6; obtain ⟨c6, f6⟩ := cell6b hgrow6 (b := w.heap.size + 1) (by omega) hfar 0; rw [a9] at c6; rw [f9] at f6)
          | (go_simp; go_at_call 72; refine hp.out.mono ?_; intro x w9 hh9; obtain ⟨hx9, hB9⟩ := hh9; subst hx9; obtain ⟨a9, f9, o9, z9, r9, q9, b9⟩ := KEEP.out w9 hB9; have R9 := hid r9; have Q9 := hid q9; have B9 := hid b9; clear r9 q9 b9; dsimp only)
          | fail))
      all_goals
        have HO6 := hid hown6
        have HG6 := hid hgrow6
        have HZ9 := hid z9
        have HLO := hid (fun g hg => (hown.lt g hg).1)
        have ROW6 : Hid (w6.heap[w.heap.size + 1]? = some (.cells #[.slice pv k cv, .int .i64 0, .int .i64 0] 72)) := hid ((hgrow6.block (w.heap.size + 1) (by simp; omega) hfar).trans ((Below.heap_alloc _ _ _ z9).trans R9.out))
        have RES6 : Hid (w6.heap[w.heap.size]? = some (.cells #[.slice none 0 0, .int .i64 0, .int .i64 0] 72)) := hid ((hgrow6.block w.heap.size (by simp; omega) (fun e => by have := (hown.lt _ e.symm).1; omega)).trans ((Below.heap_alloc _ _ _ (by omega)).trans Q9.out))
        clear hown6 hgrow6 hat6 hlt6 c6 f6 a9 f9 o9 KEEP hp hbel hrow hres c0 hown
        go_wp2_with fail
        go_roundg (n - (k + 1))
        case measure => omega
        case rel =>
          refine ⟨k + 1, .slice (some ⟨gg, 0, none⟩) (k + 1) gcap, by omega, rfl, by go_num, ?_, ?_, ?_, ?_⟩
          · have := setCell_row 0 (.slice (some ⟨gg, 0, none⟩) (k + 1) gcap) ROW6.out
            simpa using this
          · rw [Below.heap_setCell _ _ _ _ (by simp)]
            exact RES6.out
          · exact (((B9.out.alloc (by have := HZ9.out; omega) _).grown HG6.out (by simp; have := HZ9.out; omega) (fun g hg => by have := HLO.out g hg; omega)).setCell (by simp only; omega) _)
          · have h6 := HO6.out
            have e : (List.replicate (k + 1) blankL).flatMap clCells = (List.replicate k blankL).flatMap clCells ++ [.int .i64 0, .bool false, .int .i64 (-1), .int .i64 (-1), .int .i64 0] := by
              rw [List.replicate_succ', List.flatMap_append]
              rfl
            rw [e]
            exact owns_set h6 (fun e => by have := (h6.lt _ e).1; simp only at this; omega) _
    · have d1 : ¬ (k : Int) < (n : Int) := by omega
      have hkn : k = n := by omega
      subst hkn
      have c0 := cell_of_row wr (w.heap.size + 1) 0 _ _ _ hrow
      have c1 := cell_of_row wr (w.heap.size + 1) 1 _ _ _ hrow
      have c2 := cell_of_row wr (w.heap.size + 1) 2 _ _ _ hrow
      have e0 := cell_of_row wr w.heap.size 0 _ _ _ hres
      have e1 := cell_of_row wr w.heap.size 1 _ _ _ hres
      have e2 := cell_of_row wr w.heap.size 2 _ _ _ hres
      have f0 := frozen_of_row wr w.heap.size 0 _ _ hres
      have f1 := frozen_of_row wr w.heap.size 1 _ _ hres
      have f2 := frozen_of_row wr w.heap.size 2 _ _ hres
      simp only [List.getElem?_toArray, List.getElem?_cons_zero, List.getElem?_cons_succ] at c0 c1 c2 e0 e1 e2
      have HO := hid hown
      clear hown hbel hrow hres
      go_wp2_with fail
      refine bodyPost_ret (v := .agg #[.slice pv k cv, .int .i64 0, .int .i64 0]) (by simp [results, Tryz.results42, go_sem, e0, e1, e2]) rfl ⟨((HB.out.setCell (Nat.le_refl _) _).setCell (Nat.le_refl _) _).setCell (Nat.le_refl _) _, _, rfl, ?_⟩
      have hne : ∀ j : Nat, (Value.slice pv k cv).ownBlock ≠ some (⟨w.heap.size, j, none⟩ : Addr).block := fun j e => by have := (HO.out.lt _ e).1; simp only at this; omega
      exact owns_mono (owns_set (owns_set (owns_set HO.out (hne 0) _) (hne 1) _) (hne 2) _) (by omega)
theorem pnew_bad (s : ByteArray) (vi : Value) (zs : List Int) (cells : Int) (w : World) (hs : s.size ≤ maxLen) (ht : FlowTab w) (hv : ZsAt w vi zs) (r : Nat) (hr : r ≠ 0) (he : NewErr s zs.length cells r) :
    Calls Tryz.prog 21 #[.string s, vi, .int .i64 cells] w fun e w' => e = .returned (.tuple #[.pointer none, .int .i64 r]) ∧ Below w.heap.size w w' := by
  obtain ⟨p0, c0, e0⟩ := hv.slice
  subst e0
  have hld := hid (tload_any s w hs ht)
  clear hs ht hv
  go_enter Tryz.func21, Tryz.ntmps21
  go_wp2_with fail
  refine hld.out.mono ?_
  clear hld
  intro x w1 hp
  obtain ⟨hb, hp⟩ := hp
  have HB := hid hb
  clear hb
  rcases hp with ⟨r1, hr1, he1, hx⟩ | ⟨g, cap, bf, fs, hx, hL⟩
  · subst x
    have e : r1 = r := by
      rcases he with ⟨_, h2⟩ | ⟨h1, _⟩ | ⟨h1, _⟩ | ⟨h1, _⟩
      · exact he1.unique h2
      · exact absurd (he1.unique h1) hr1
      · exact absurd (he1.unique h1) hr1
      · exact absurd (he1.unique h1) hr1
    subst e
    have hne : ((r1 : Int) != 0) = true := by simp; omega
    clear he he1
    go_wp2_with fail
    exact bodyPost_ret (v := .tuple #[.pointer none, .int .i64 r1]) (by simp [results, Tryz.results21, go_sem]) rfl ⟨rfl, HB.out.alloc HB.out.size _⟩
  · subst x
    have he1 : IsErr s 0 := .inr (.inl ⟨hL.err, hL.wt, rfl⟩)
    clear hL
    rcases he with ⟨_, h2⟩ | ⟨h1, h2, h3⟩ | ⟨h1, h2, h3, h4, h5⟩ | ⟨h1, h2, h3, h4, h5⟩
    · exact absurd (h2.unique he1) hr
    · subst h3
      clear he1 h1 hr
      by_cases h2' : cells < 1
      · go_wp2_with fail
        exact bodyPost_ret (v := .tuple #[.pointer none, .int .i64 6]) (by simp [results, Tryz.results21, go_sem]) rfl ⟨rfl, HB.out.alloc HB.out.size _⟩
      · have h3 : 32 < cells := by omega
        clear h2
        go_wp2_with fail
        exact bodyPost_ret (v := .tuple #[.pointer none, .int .i64 6]) (by simp [results, Tryz.results21, go_sem]) rfl ⟨rfl, HB.out.alloc HB.out.size _⟩
    · subst h5
      have h2' : ¬ cells < 1 := by omega
      have h3' : ¬ 32 < cells := by omega
      have h4' : (64 : Int) < (zs.length : Int) := by omega
      clear he1 h1 hr
      go_wp2_with fail
      exact bodyPost_ret (v := .tuple #[.pointer none, .int .i64 7]) (by simp [results, Tryz.results21, go_sem]) rfl ⟨rfl, HB.out.alloc HB.out.size _⟩
    · exact absurd h5 hr
/-- What New answers where it makes a machine. -/
structure PNew (s : ByteArray) (zs : List Int) (n : Nat) (w w' : World) (K : PK) : Prop where
  below : Below w.heap.size w w'
  A : K.A = w.heap.size
  B4 : K.B4 = w'.heap.size
  l : K.l = codeOf s
  L : K.L = byteAt s 1
  z : K.zs = zs
  err : errOf s = 0
  wt : WT (codeOf s) (byteAt s 1)
  inv : SetInv (codeOf s) (byteAt s 1) K.fs
  still : Still (codeOf s) K.fs
  m : ∃ vI, PM w' K vI (.slice none 0 0) [0, 0, 0, 0] [0, 0, 0, 0, 0, 0, 0, 0] (startS (byteAt s 1) n)
def PNewPost (s : ByteArray) (zs : List Int) (n : Nat) (w : World) (e : Ending) (w' : World) : Prop := ∃ K, e = .returned (.tuple #[.pointer (some ⟨K.b, 0, none⟩), .int .i64 0]) ∧ PNew s zs n w w' K
theorem told_blank (n : Nat) : (List.replicate n (⟨false, false, false, false, -1, -1, 0⟩ : RC)).map toldC = List.replicate n blankL := by rw [List.map_replicate]; rfl
theorem CiAt.keep {w w' : World} {g : Nat} {l : List CI} (h : CiAt w g l) (hb : Below w.heap.size w w') (hg : g < w.heap.size) : CiAt w' g l := h.same (hb.block g hg)
def newRow (L g len cap bf : Nat) (pI : Option Addr) (zl cI : Nat) (pC : Option Addr) (n cC : Nat) : Array Value := #[.int .i64 L, .slice (some ⟨g, 0, none⟩) len cap, .slice (some ⟨bf, 0, none⟩) len len, .slice pI zl cI, .slice none 0 0, .int .i64 0, .int .i64 0, .int .i64 0, .int .i64 0, .int .i64 0, .int .i64 0, .int .i64 0, .int .i64 0, .int .i64 0, .int .i64 0, .int .i64 0, .int .i64 0, .int .i64 0, .int .i64 0, .int .i64 0, .int .i64 0, .slice pC n cC, .int .i64 0, .int .i64 0]
theorem pnew_make {s : ByteArray} {zs : List Int} {n : Nat} {w w1 w2 w9 : World} {g cap bf cI cC : Nat} {fs : List Fr} {pI pC : Option Addr} {o : Obj} (hL : Loaded s w w1 g cap bf fs) (hb : Below w.heap.size w w1) (hb2 : Below (w1.alloc o).heap.size (w1.alloc o) w2) (hoI : w2.ownsRow (w1.alloc o).heap.size 3 1 (.slice pI zs.length cI) zs.length (zs.map (.int .i64)))
    (hb9 : Below w2.drew.heap.size w2.drew w9) (ho9 : w9.ownsRow w2.drew.heap.size 100 5 (.slice pC n cC) n ((List.replicate n blankL).flatMap clCells)) (hn : 1 ≤ n) :
    ∃ K : PK, K.b = w9.heap.size ∧ PNew s zs n w (w9.alloc (.cells (newRow (byteAt s 1) g (codeOf s).length cap bf pI zs.length cI pC n cC) 74)) K := by
  have hw := wf_of hL.err
  have z1 : (w1.alloc o).heap.size = w1.heap.size + 1 := alloc_size _ _
  have z2 := hb2.size
  have z9 : w2.heap.size ≤ w9.heap.size := hb9.size
  have z0 := hb.size
  have hbf : bf < w1.heap.size := (Array.getElem?_eq_some_iff.1 hL.all).1
  have hg2 := hL.g2
  have hg1 := hL.g1
  have hbf1 := hL.b1
  obtain ⟨gC, hgC, hgClt⟩ : ∃ gC, pC = some ⟨gC, 0, none⟩ ∧ w2.heap.size ≤ gC := by
    rcases ho9.2 with ⟨_, e⟩ | ⟨gC, cap', cur, hv, hg, _⟩
    · omega
    · injection hv with a1 a2 a3
      exact ⟨gC, a1, hg⟩
  subst hgC
  have hgC9 := (ho9.lt gC rfl).2
  have hB1 : Below w1.heap.size w1 (w1.alloc o) := (Below.refl _ _).alloc (Nat.le_refl _) _
  have hB12 : Below w1.heap.size w1 w2 := hB1.trans (hb2.mono (by omega))
  have hB2d : Below w1.heap.size w1 w2.drew := ⟨hB12.os, hB12.tape, hB12.output, hB12.size, hB12.block⟩
  have hB19 : Below w1.heap.size w1 w9 := hB2d.trans (hb9.mono (by show w1.heap.size ≤ w2.heap.size; omega))
  have hB1W : Below w1.heap.size w1 (w9.alloc (.cells (newRow (byteAt s 1) g (codeOf s).length cap bf pI zs.length cI (some ⟨gC, 0, none⟩) n cC) 74)) := hB19.alloc (by omega) _
  have hB9W : Below w9.heap.size w9 (w9.alloc (.cells (newRow (byteAt s 1) g (codeOf s).length cap bf pI zs.length cI (some ⟨gC, 0, none⟩) n cC) 74)) := (Below.refl _ _).alloc (Nat.le_refl _) _
  have hzW : (w9.alloc (.cells (newRow (byteAt s 1) g (codeOf s).length cap bf pI zs.length cI (some ⟨gC, 0, none⟩) n cC) 74)).heap.size = w9.heap.size + 1 := alloc_size _ _
  have hrow := heap_alloc_new w9 (.cells (newRow (byteAt s 1) g (codeOf s).length cap bf pI zs.length cI (some ⟨gC, 0, none⟩) n cC) 74)
  generalize w9.alloc (.cells (newRow (byteAt s 1) g (codeOf s).length cap bf pI zs.length cI (some ⟨gC, 0, none⟩) n cC) 74) = W at *
  have hIo : W.ownsRow (w1.alloc o).heap.size 3 1 (.slice pI zs.length cI) zs.length (zs.map (.int .i64)) := owns_keep hoI (fun g' hg' => by
    have h2 := (hoI.lt g' hg').2
    exact (hB9W.block g' (by omega)).trans (hb9.block g' h2))
  refine ⟨⟨w9.heap.size, g, cap, bf, gC, cC, w.heap.size, W.heap.size, codeOf s, byteAt s 1, fs, zs⟩, rfl, ⟨hb.trans (hB1W.mono hb.size), rfl, rfl, rfl, rfl, rfl, hL.err, hL.wt, hL.inv, hL.still, .slice pI zs.length cI, ?_⟩⟩
  refine ⟨?_, rfl, rfl, by simp [startS], ?_, by simp [startS], rfl, hw.loc, by simp only; omega, by simp only; omega, hg1, by simp only; omega, hbf1, by simp only; omega, by simp only; omega, by simp only; omega, Nat.le_refl _, by simp only; omega, by simp only; omega, by simp only; omega, by simp only; omega, by simp only; omega, ?_, ?_, hL.inv.ok, hL.inv.len, hw.len, ?_, ?_, ?_, World.ownsRow_nil _ _ _ _⟩
  · simp only [PK.row, startS, List.map_cons, List.map_nil, List.length_nil, List.cons_append, List.nil_append, List.length_replicate]
    exact hrow
  · have h4 := hw.loc
    simp only [startS, List.map_replicate]
    match byteAt s 1, h4 with
    | 0, _ => rfl
    | 1, _ => rfl
    | 2, _ => rfl
    | 3, _ => rfl
    | 4, _ => rfl
  · exact hL.ci.keep hB1W hg2
  · exact (hB1W.block bf hbf).trans hL.all
  · simp only [startS, List.length_replicate, told_blank]
    exact owns_mono (owns_keep ho9 (fun g' hg' => hB9W.block g' (ho9.lt g' hg').2)) (show w.heap.size ≤ w2.heap.size by omega)
  · simp only [startS, List.drop_zero]
    exact zs_of_owns hIo
  · intro a n' c e
    injection e with e1 e2 e3
    subst e1
    rcases hIo.2 with ⟨e, _⟩ | ⟨g', cap', cur, hv, hg', r⟩
    · cases e
    · injection hv with a1 a2 a3
      injection a1 with a1
      subst a1
      have h2 := (hoI.lt g' rfl).2
      have h3 := r.2.1
      simp only
      exact ⟨by omega, by omega, by omega, by omega, by omega, g', 0, rfl⟩
theorem pnew_ok (s : ByteArray) (vi : Value) (zs : List Int) (n : Nat) (w : World) (hs : s.size ≤ maxLen) (ht : FlowTab w) (hv : ArgInts w vi zs) (he : NewErr s zs.length (n : Int) 0) :
    Calls Tryz.prog 21 #[.string s, vi, .int .i64 n] w (PNewPost s zs n w) := by
  obtain ⟨h1, h2, h3, h4⟩ : IsErr s 0 ∧ 1 ≤ (n : Int) ∧ (n : Int) ≤ 32 ∧ zs.length ≤ 64 := by
    rcases he with ⟨h, _⟩ | ⟨_, _, h⟩ | ⟨_, _, _, _, h⟩ | ⟨h1, h2, h3, h4, _⟩
    · exact absurd rfl h
    · cases h
    · cases h
    · exact ⟨h1, h2, h3, h4⟩
  have h2' : ¬ (n : Int) < 1 := by omega
  have h3' : ¬ 32 < (n : Int) := by omega
  have h4' : ¬ (64 : Int) < (zs.length : Int) := by omega
  have hld := hid (tload_any s w hs ht)
  have hcp := hid (fun (W : World) (hb : Below w.heap.size w W) => copied_any zs vi W (hv.zs hb) (by omega))
  have hhn := hid (fun (W : World) => hnew_any n W (by omega))
  obtain ⟨p0, c0, e0⟩ := hv.slice
  subst e0
  clear hs ht hv he h2 h3
  go_enter Tryz.func21, Tryz.ntmps21
  go_wp2_with fail
  refine hld.out.mono ?_
  clear hld
  intro x w1 hp
  obtain ⟨hb, hp⟩ := hp
  rcases hp with ⟨r1, hr1, he1, hx⟩ | ⟨g, cap, bf, fs, hx, hL⟩
  · exact absurd (he1.unique h1) hr1
  subst x
  have hb1 : Below w.heap.size w (w1.alloc (.cells #[.int .i64 (byteAt s 1 : Nat), .slice (some ⟨g, 0, none⟩) (codeOf s).length cap] 64)) := hb.alloc hb.size _
  have hc1 := hid (hcp.out _ hb1)
  have hq0 := cell_of_row _ w1.heap.size 0 _ _ _ (heap_alloc_new w1 (.cells #[.int .i64 (byteAt s 1 : Nat), .slice (some ⟨g, 0, none⟩) (codeOf s).length cap] 64))
  have HL := hid hL
  have HB := hid hb
  have HB1 := hid hb1
  clear hcp hb hb1 hL
  generalize hlen : (codeOf s).length = len at *
  generalize hLL : byteAt s 1 = L at *
  have HLEN := hid hlen
  have HLL := hid hLL
  clear hlen hLL
  go_wp2_with fail
  refine hc1.out.mono ?_
  clear hc1
  intro x w2 hp
  obtain ⟨hb2, vI, hx, hoI⟩ := hp
  subst x
  have hW : Hid (∀ o : Obj, (w1.alloc o).heap.size = w1.heap.size + 1) := hid (fun o => alloc_size _ _)
  have hsz := hW.out (.cells #[.int .i64 (L : Nat), .slice (some ⟨g, 0, none⟩) len cap] 64)
  have q0 := (hb2.cell (p := ⟨w1.heap.size, 0, none⟩) (by simp only; omega)).trans hq0
  have q1 := (hb2.cell (p := ⟨w1.heap.size, 1, none⟩) (by simp only; omega)).trans (cell_of_row _ w1.heap.size 1 _ _ _ (heap_alloc_new w1 (.cells #[.int .i64 (L : Nat), .slice (some ⟨g, 0, none⟩) len cap] 64)))
  obtain ⟨pI, cI, eI⟩ := (LsAt.of_owns hoI).slice
  subst eI
  have hh := hid (hhn.out w2.drew)
  have HO := hid hoI
  have HB2 := hid hb2
  simp only [List.getElem?_toArray, List.getElem?_cons_zero, List.getElem?_cons_succ] at q0 q1
  have hw12 : w1.heap.size < w2.heap.size := by have := hb2.size; omega
  have KEEP : Hid (∀ w9, Below w2.drew.heap.size w2.drew w9 → w9.cell? ⟨w1.heap.size, 0, none⟩ = some (.int .i64 L) ∧ w9.cell? ⟨w1.heap.size, 1, none⟩ = some (.slice (some ⟨g, 0, none⟩) len cap)) := hid (fun w9 hb => ⟨(hb.cell (p := ⟨w1.heap.size, 0, none⟩) (show w1.heap.size < w2.heap.size from hw12)).trans q0, (hb.cell (p := ⟨w1.heap.size, 1, none⟩) (show w1.heap.size < w2.heap.size from hw12)).trans q1⟩)
  clear hhn hoI hb2 hq0
  go_wp2_with fail
  go_region_law ((go_simp; go_at_call 42; refine hh.out.mono ?_; intro x w9 hp; obtain ⟨hB9, vC, hx9, ho9⟩ := hp; subst hx9; obtain ⟨pC, cC, eC⟩ := (LsAt.of_owns ho9).slice; subst eC; obtain ⟨k0, k1⟩ := KEEP.out w9 hB9; dsimp only))
  all_goals
    have HO9 := hid ho9
    have HB9 := hid hB9
    clear ho9 hB9 k0 k1 q0 q1 KEEP hh
    go_wp2_with fail
    have hlen := HLEN.out
    have hLL := HLL.out
    subst hlen
    subst hLL
    obtain ⟨K, hK, hP⟩ := pnew_make HL.out HB.out HB2.out HO.out HB9.out HO9.out (by omega)
    refine bodyPost_ret (v := .tuple #[.pointer (some ⟨w9.heap.size, 0, none⟩), .int .i64 0]) (by simp [results, Tryz.results21, go_sem]) rfl ⟨K, by rw [hK], hP⟩
theorem flat_take {α : Type} (f : α → List Value) (m : Nat) (hf : ∀ x, (f x).length = m) (l : List α) (k : Nat) : (l.flatMap f).take (k * m) = (l.take k).flatMap f := by
  induction l generalizing k with
  | nil => simp
  | cons a r ih =>
    cases k with
    | zero => simp
    | succ k =>
      rw [List.flatMap_cons, List.take_succ_cons, List.flatMap_cons, List.take_append, hf a, show (k + 1) * m - m = k * m by rw [Nat.add_mul]; omega, ih, List.take_of_length_le (by rw [hf a, Nat.add_mul]; omega)]
/-- A row that is owned, cut shorter. -/
theorem owns_take {w : World} {base e size N n g cap : Nat} {xs : List Value} (h : w.ownsRow base e size (.slice (some ⟨g, 0, none⟩) N cap) N xs) (hn : n ≤ N) : w.ownsRow base e size (.slice (some ⟨g, 0, none⟩) n cap) n (xs.take (n * size)) := by
  have h1 := h.1
  have hm : n * size ≤ N * size := Nat.mul_le_mul_right _ hn
  refine ⟨by rw [List.length_take]; omega, ?_⟩
  rcases h.2 with ⟨h2, _⟩ | ⟨g', cap', cur, hv, hg, hh, r1, r2, r3, r4⟩
  · cases h2
  · cases hv
    refine .inr ⟨g, cap, cur, rfl, hg, hh, by omega, r2, r3, ?_⟩
    rw [← r4, List.take_take, Nat.min_eq_left hm]
theorem Grew.trans {b o : Nat} {v v1 v2 : Value} {w w1 w2 : World} (h : Grew b o v v1 w w1) (g : Grew b o v1 v2 w1 w2) : Grew b o v v2 w w2 where
  os := g.os.trans h.os
  tape := g.tape.trans h.tape
  output := g.output.trans h.output
  size := Nat.le_trans h.size g.size
  block k hk h1 h2 := by
    have hs := h.size
    rw [g.block k (by omega) h1 (fun e => ?_), h.block k hk h1 h2]
    rcases h.own k e.symm with e' | e'
    · exact h2 e'.symm
    · omega
  own x hx := by
    rcases g.own x hx with e | e
    · exact h.own x e
    · exact .inr (Nat.le_trans h.size e)
  home r t hr := by
    rw [g.home _ t (h.home r t hr)]
    rw [Array.setIfInBounds_setIfInBounds]
theorem drop_wds (b base k : Nat) (v : Value) (st : List (Bool × Int)) (w : World) (h : WdsAt w b 9 base v st) (hs : st.length ≤ 100) (hp : 0 < st.length) (hk : k ≤ st.length) :
    Calls Tryz.prog 82 #[.pointer (some ⟨b, 0, none⟩), .int .i64 k] w (PushPost b base v (st.take (st.length - k)) w) := by
  have hbz := World.block_lt_of_cell? w _ h.cell
  simp only at hbz
  rcases h.row.2 with ⟨_, h2⟩ | ⟨g, cap, cur, hv, hg, hh, r1, r2, r3, r4⟩
  · omega
  · subst hv
    have hne : b ≠ g := fun e => h.far (by rw [e]; rfl)
    have hr := owns_take h.row (n := st.length - k) (by omega)
    rw [flat_take wdCells 2 (fun _ => rfl)] at hr
    have hlen : (st.take (st.length - k)).length = st.length - k := by rw [List.length_take]; omega
    refine (drop_any b g k st.length cap w h.cell h.thaw hs hk r1).mono ?_
    rintro e w' ⟨rfl, rfl⟩
    refine ⟨rfl, .slice (some ⟨g, 0, none⟩) (st.length - k) cap, ⟨World.cell?_setCell_same _ _ _ h.cell, by simpa [go_sem] using h.thaw, ?_, h.far⟩, ⟨rfl, rfl, rfl, by simp [World.setCell, World.drew], ?_, fun x hx => .inl hx, ?_⟩⟩
    · rw [hlen]
      exact owns_keep hr (fun g' hg' => by
        simp only [Value.ownBlock, Option.some.injEq] at hg'
        subst hg'
        exact Below.heap_setCell _ _ _ _ (Ne.symm hne))
    · intro j hj h1 h2
      exact Below.heap_setCell _ _ _ _ h1
    · intro r t hr
      exact setCell_row 9 _ hr
attribute [local go_sem] run_fieldW
theorem WdsAt.lt {w : World} {b o base : Nat} {v : Value} {ws : List (Bool × Int)} (h : WdsAt w b o base v ws) : b < w.heap.size := by
  have := World.block_lt_of_cell? w _ h.cell
  simpa using this
theorem WdsAt.below {w w' : World} {b o base : Nat} {v : Value} {ws : List (Bool × Int)} (h : WdsAt w b o base v ws) (hb : Below w.heap.size w w') : WdsAt w' b o base v ws :=
  ⟨(hb.cell (p := ⟨b, o, none⟩) h.lt).trans h.cell, (hb.frozen (p := ⟨b, o, none⟩) h.lt).trans h.thaw, owns_keep h.row (fun g hg => hb.block g (h.row.lt g hg).2), h.far⟩
theorem WdsAt.grew {w w' : World} {b o base : Nat} {v : Value} {ws : List (Bool × Int)} (h : WdsAt w b o base v ws) (hb : Below w.heap.size w w') : Grew b o v v w w' where
  os := hb.os
  tape := hb.tape
  output := hb.output
  size := hb.size
  block k hk _ _ := hb.block k hk
  own g hg := .inl hg
  home r t hr := by
    rw [hb.block b h.lt, hr]
    have hc := h.cell
    unfold World.cell? at hc
    simp only [hr] at hc
    have : r.setIfInBounds o v = r := by
      apply Array.ext
      · simp
      · intro i h1 h2
        rw [Array.getElem_setIfInBounds]
        split
        · rename_i e
          subst e
          simp [Array.getElem?_eq_getElem h2] at hc
          exact hc.symm
        · rfl
    rw [this]
theorem WdsAt.ls {w : World} {b o base : Nat} {v : Value} {ws : List (Bool × Int)} (h : WdsAt w b o base v ws) : LsAt w (fun _ => True) v ws.length (ws.flatMap wdCells) := (LsAt.of_owns h.row).keep (fun _ _ => ⟨trivial, rfl⟩)
theorem PushPost.trans {b base : Nat} {v v1 : Value} {ws : List (Bool × Int)} {w w1 w2 : World} {e : Ending} (h : Grew b 9 v v1 w w1) (g : PushPost b base v1 ws w1 e w2) : PushPost b base v ws w e w2 := by
  obtain ⟨he, v', h1, h2⟩ := g
  exact ⟨he, v', h1, h.trans h2⟩
theorem does_1 (b base : Nat) (v : Value) (st : List (Bool × Int)) (n : Nat) (pl cell : Int) (w : World) (h : WdsAt w b 9 base v st) (hs : st.length ≤ 100) (hbase : base ≤ w.heap.size) (hn : n < 256) :
    Calls Tryz.prog 51 #[.pointer (some ⟨b, 0, none⟩), .agg #[.int .i64 1, .int .i64 n, .int .i64 pl], .int .i64 cell] w (PushPost b base v (st ++ [(false, ((n : Int) + 128) % 256 - 128)]) w) := by
  have hW : Below w.heap.size w (w.alloc (.cells #[.int .i64 1, .int .i64 n, .int .i64 pl] 113)) := (Below.refl _ _).alloc (Nat.le_refl _) _
  have hc := hid (number_any b base v st (((n : Int) + 128) % 256 - 128) _ (h.below hW) hs (Nat.le_trans hbase hW.size))
  have HG := hid (h.grew hW)
  have e1 : wrap64 ((n : Int) + 128) = (n : Int) + 128 := by unfold wrap64; omega
  have e2 : wrap64 (((n : Int) + 128) % 256) = ((n : Int) + 128) % 256 := by unfold wrap64; omega
  have e3 : wrap64 (((n : Int) + 128) % 256 - 128) = ((n : Int) + 128) % 256 - 128 := by unfold wrap64; omega
  have e4 : ((n : Int) + 128).tmod 256 = ((n : Int) + 128) % 256 := Int.tmod_eq_emod_of_nonneg (by omega)
  clear h hW
  go_enter Tryz.func51, Tryz.ntmps51
  go_wp2_with fail
  refine hc.out.mono ?_
  clear hc
  intro x w5 hh
  have HP := hid (hh.trans HG.out)
  obtain ⟨hx, _⟩ := hh
  subst x
  go_wp2_with fail
  go_end0
  exact HP.out
theorem does_12 (b base : Nat) (v : Value) (st : List (Bool × Int)) (n pl cell : Int) (w : World) (h : WdsAt w b 9 base v st) (hs : st.length ≤ 100) (hbase : base ≤ w.heap.size) :
    Calls Tryz.prog 51 #[.pointer (some ⟨b, 0, none⟩), .agg #[.int .i64 12, .int .i64 n, .int .i64 pl], .int .i64 cell] w (PushPost b base v (st ++ [(true, -1)]) w) := by
  have hW : Below w.heap.size w (w.alloc (.cells #[.int .i64 12, .int .i64 n, .int .i64 pl] 113)) := (Below.refl _ _).alloc (Nat.le_refl _) _
  have hc := hid (ref_any b base v st (-1) _ (h.below hW) hs (Nat.le_trans hbase hW.size))
  have HG := hid (h.grew hW)
  clear h hW
  go_enter Tryz.func51, Tryz.ntmps51
  go_wp2_with fail
  refine hc.out.mono ?_
  clear hc
  intro x w5 hh
  have HP := hid (hh.trans HG.out)
  obtain ⟨hx, _⟩ := hh
  subst x
  go_wp2_with fail
  go_end0
  exact HP.out
theorem does_drop (b base : Nat) (v : Value) (st : List (Bool × Int)) (op n pl cell : Int) (w : World) (hop : op = 10 ∨ op = 20) (h : WdsAt w b 9 base v st) (hs : st.length ≤ 100) (hp : 0 < st.length) :
    Calls Tryz.prog 51 #[.pointer (some ⟨b, 0, none⟩), .agg #[.int .i64 op, .int .i64 n, .int .i64 pl], .int .i64 cell] w (PushPost b base v (st.take (st.length - 1)) w) := by
  have hW : Below w.heap.size w (w.alloc (.cells #[.int .i64 op, .int .i64 n, .int .i64 pl] 113)) := (Below.refl _ _).alloc (Nat.le_refl _) _
  have hc := hid (drop_wds b base 1 v st _ (h.below hW) hs hp hp)
  have HG := hid (h.grew hW)
  clear h hW
  rcases hop with rfl | rfl <;> (
    go_enter Tryz.func51, Tryz.ntmps51
    go_wp2_with fail
    refine hc.out.mono ?_
    clear hc
    intro x w5 hh
    have HP := hid (hh.trans HG.out)
    obtain ⟨hx, _⟩ := hh
    subst x
    go_wp2_with fail
    go_end0
    exact HP.out)
end Go.Proofs.YtdmdpindonghdaaGreatDoor
namespace Go.Proofs.YtdmdpindonghdaaGreatDoor
open Go.RowKit
attribute [local go_sem] run_fieldW
theorem does_sum (b base : Nat) (v : Value) (st : List (Bool × Int)) (op n pl cell : Int) (w : World) (hop : op = 2 ∨ op = 3 ∨ op = 4 ∨ op = 5 ∨ op = 6 ∨ op = 18) (h : WdsAt w b 9 base v st) (hs : st.length ≤ 100) (hp : 1 < st.length) (hbase : base ≤ w.heap.size) (h5 : op = 5 → (lastW st 0).2 ≠ 0) :
    Calls Tryz.prog 51 #[.pointer (some ⟨b, 0, none⟩), .agg #[.int .i64 op, .int .i64 n, .int .i64 pl], .int .i64 cell] w (PushPost b base v (st.take (st.length - 2) ++ [(false, sumC op (lastW st 1).2 (lastW st 0).2)]) w) := by
  have hW : Below w.heap.size w (w.alloc (.cells #[.int .i64 op, .int .i64 n, .int .i64 pl] 113)) := (Below.refl _ _).alloc (Nat.le_refl _) _
  have hla := hid (fun (W : World) (hb : Below w.heap.size w W) (k : Nat) (hk : k < st.length) => last_any b k v st (lastW st k) (fun _ => True) W (h.below hb).cell (h.below hb).ls hs hk (lastW_at hk))
  have hl1 := hid (hla.out _ hW 1 hp)
  have hl0 := hid (fun W hb => hla.out W hb 0 (by omega))
  have hdr := hid (fun (W : World) (hb : Below w.heap.size w W) => drop_wds b base 2 v st W (h.below hb) hs (by omega) (by omega))
  have hsm := hid (fun W => sum_any op (lastW st 1).2 (lastW st 0).2 W h5)
  have hnu := hid (fun (W : World) (v1 : Value) (x : Int) (hv : WdsAt W b 9 base v1 (st.take (st.length - 2))) (hb : base ≤ W.heap.size) => number_any b base v1 _ x W hv (by rw [List.length_take]; omega) hb)
  have hcW : (w.alloc (.cells #[.int .i64 op, .int .i64 n, .int .i64 pl] 113)).heap[w.heap.size]? = some (.cells #[.int .i64 op, .int .i64 n, .int .i64 pl] 113) := heap_alloc_new _ _
  have HW := hid hW
  have HC := hid hcW
  have HWD := hid h
  have hbne : b ≠ w.heap.size := Nat.ne_of_lt h.lt
  have hvne : some w.heap.size ≠ v.ownBlock := fun e => by have := (h.row.lt _ e.symm).2; omega
  clear h hW hla h5 hcW
  generalize lastW st 1 = y at *
  generalize lastW st 0 = x at *
  obtain ⟨yr, yv⟩ := y
  obtain ⟨xr, xv⟩ := x
  generalize hsv : sumC op yv xv = sv at *
  clear hsv
  rcases hop with rfl | rfl | rfl | rfl | rfl | rfl <;> (
    go_enter Tryz.func51, Tryz.ntmps51
    go_wp2_with fail
    refine hl1.out.mono ?_
    clear hl1
    intro e1 w1 hh
    obtain ⟨hb1, he1⟩ := hh
    subst e1
    have HB1 : Hid (Below w.heap.size w w1) := hid (HW.out.trans (hb1.mono HW.out.size))
    have HC1 := hid ((hb1.block _ (by simp)).trans HC.out)
    have hl := hid (hl0.out w1 HB1.out)
    clear hb1 HC hl0
    go_wp2_with fail
    refine hl.out.mono ?_
    clear hl
    intro e1 w2 hh
    obtain ⟨hb2, he1⟩ := hh
    subst e1
    have HB2 : Hid (Below w.heap.size w w2) := hid (HB1.out.trans (hb2.mono HB1.out.size))
    have HC2 := hid ((hb2.block _ (Array.getElem?_eq_some_iff.1 HC1.out).1).trans HC1.out)
    have hd := hid (hdr.out w2 HB2.out)
    clear hb2 HC1 HB1 hdr
    go_wp2_with fail
    refine hd.out.mono ?_
    clear hd
    intro e1 w3 hh
    obtain ⟨he1, v1, hv1, hg1⟩ := hh
    subst e1
    have hsz2 := (Array.getElem?_eq_some_iff.1 HC2.out).1
    have hc3 := (hg1.block _ hsz2 (Ne.symm hbne) hvne).trans HC2.out
    have hz3 := hg1.size
    have HG : Hid (Grew b 9 v v1 w w3) := hid ((HWD.out.grew HB2.out).trans hg1)
    have hn := hid (hnu.out w3 v1 sv hv1 (Nat.le_trans hbase (Nat.le_trans HB2.out.size hz3)))
    have z0 := cell_of_row w3 w.heap.size 0 _ _ _ hc3
    simp only [List.getElem?_toArray, List.getElem?_cons_zero] at z0
    have hsw := hid (hsm.out w3)
    clear HC2 hc3 hg1 hv1 hnu hsm
    go_wp2_with fail
    refine hsw.out.mono ?_
    clear hsw
    intro e1 w4 hh
    obtain ⟨he1, hw4⟩ := hh
    subst e1
    subst w4
    go_wp2_with fail
    refine hn.out.mono ?_
    clear hn
    intro e1 w5 hh
    have HP := hid (hh.trans HG.out)
    obtain ⟨he1, _⟩ := hh
    subst e1
    go_wp2_with fail
    go_end0
    exact HP.out)
end Go.Proofs.YtdmdpindonghdaaGreatDoor
namespace Go.Proofs.YtdmdpindonghdaaGreatDoor
open Go.RowKit
attribute [local go_sem] run_fieldW
theorem cell6c {wr w6 : World} {o o2 : Obj} {b : Nat} {row : Option Nat} (hgrow : ((wr.alloc o).alloc o2).drew.grownBy w6 row) (hz : b < wr.heap.size) (hne : some b ≠ row) (j : Nat) : w6.cell? ⟨b, j, none⟩ = wr.cell? ⟨b, j, none⟩ ∧ w6.frozen? ⟨b, j, none⟩ = wr.frozen? ⟨b, j, none⟩ := by
  have h : w6.heap[b]? = wr.heap[b]? := (hgrow.block b (by simp [World.drew]; omega) hne).trans ((Below.heap_alloc _ o2 b (by simp; omega)).trans (Below.heap_alloc wr o b hz))
  exact ⟨World.cell?_of_block (a := ⟨b, j, none⟩) h, World.frozen?_of_block (a := ⟨b, j, none⟩) h⟩
theorem does_7 (b base : Nat) (v vLo : Value) (st lo : List (Bool × Int)) (n : Nat) (pl cell : Int) (P : Nat → Prop) (w : World) (h : WdsAt w b 9 base v st) (hs : st.length ≤ 100) (hbase : base ≤ w.heap.size) (hlo : w.cell? ⟨b, 8, none⟩ = some vLo) (hl : LsAt w P vLo lo.length (lo.flatMap wdCells)) (hn : n < lo.length) (hls : lo.length ≤ 100) :
    Calls Tryz.prog 51 #[.pointer (some ⟨b, 0, none⟩), .agg #[.int .i64 7, .int .i64 n, .int .i64 pl], .int .i64 cell] w (PushPost b base v (st ++ [lo[n]]) w) := by
  obtain ⟨i0, hi0, hz0, hz1, hz2⟩ := info_parts wordInfo
  have hW : Below w.heap.size w (w.alloc (.cells #[.int .i64 7, .int .i64 n, .int .i64 pl] 113)) := (Below.refl _ _).alloc (Nat.le_refl _) _
  have hWD := h.below hW
  have HG := hid (h.grew hW)
  obtain ⟨g, cap, eg, _, hc⟩ := hl.some (by omega)
  subst eg
  have y0 := hc _ _ (flat_at wdCells 2 (fun _ => rfl) lo n 0 hn (by omega))
  have y1 := hc _ _ (flat_at wdCells 2 (fun _ => rfl) lo n 1 hn (by omega))
  rw [Nat.add_zero] at y0
  have hgz := World.block_lt_of_cell? w _ y0
  simp only at hgz
  generalize lo[n] = x at *
  obtain ⟨xr, xv⟩ := x
  simp only at y0 y1
  have hm := h.cell
  have hf := h.thaw
  have hown := h.row
  have hfar := h.far
  have hbz := h.lt
  have d0 : (0 : Int) ≤ (n : Int) := by omega
  have d1 : (n : Int) < (lo.length : Int) := by omega
  have HWD := hid hWD
  have hnew : ∀ (o o2 : Obj), ((w.alloc o).alloc o2).drew.heap[w.heap.size + 1]? = some o2 := fun o o2 => by
    have := heap_alloc_new (w.alloc o) o2
    rw [alloc_size] at this
    exact this
  clear h hW hl hc hWD
  go_enter Tryz.func51, Tryz.ntmps51
  go_upto_region 16 with fail
  go_region_law ((first | (refine step_append_lies _ (by rfl) _ _ _ (by rfl) base 116 i0 _ 2 16 Tryz.underlying77 hi0 hz0 hz1 hz2 rfl (by omega) _ st.length (st.flatMap wdCells) (by rfl) ((hown.alloc _).alloc _).drew ⟨w.heap.size + 1, 0, none⟩ 1 1 [.bool xr, .int .i64 xv] (by rfl) (by rfl) (World.news_of_block (cs := #[.bool xr, .int .i64 xv]) (t := 116) (fr := (0, 0)) (hnew _ _)) (by simp [Value.oneCell']) (by omega) (by unfold maxLen; omega) (by omega) (by simp [World.drew]; omega) (w.heap.size + 2) (by simp [World.drew]) ?_; intro gg gcap w6 hown6 hgrow6 hat6 hlt6; obtain ⟨c6, f6⟩ := cell6c hgrow6 (b := b) (by omega) hfar 9; rw [hm] at c6; rw [hf] at f6) | fail))
  all_goals
    have HP : Hid (PushPost b base v (st ++ [(xr, xv)]) w (.returned (.tuple #[])) (w6.setCell ⟨b, 9, none⟩ (.slice (some ⟨gg, 0, none⟩) (st.length + 1) gcap))) := hid (by
      have h6 := grew_of (ob := .cells #[.bool xr, .int .i64 xv] 116) (w6 := w6) (gg := gg) (n := st.length + 1) (cap := gcap) (ws' := st ++ [(xr, xv)]) HWD.out (by simp) (by simpa [wdCells] using hown6) ⟨hgrow6.os, hgrow6.tape, hgrow6.output, hgrow6.size, hgrow6.block⟩ (by simpa using hat6)
      exact ⟨rfl, _, h6.1, HG.out.trans h6.2⟩)
    clear hown6 hgrow6 hat6 hlt6 c6 f6
    go_wp2_with fail
    go_end0
    exact HP.out
end Go.Proofs.YtdmdpindonghdaaGreatDoor
namespace Go.Proofs.YtdmdpindonghdaaGreatDoor
open Go.RowKit
attribute [local go_sem] run_fieldW
theorem does_9 (b base : Nat) (v : Value) (st : List (Bool × Int)) (n pl cell : Int) (w : World) (h : WdsAt w b 9 base v st) (hs : st.length ≤ 100) (hp : 0 < st.length) (hbase : base ≤ w.heap.size) :
    Calls Tryz.prog 51 #[.pointer (some ⟨b, 0, none⟩), .agg #[.int .i64 9, .int .i64 n, .int .i64 pl], .int .i64 cell] w (PushPost b base v (st ++ [lastW st 0]) w) := by
  obtain ⟨i0, hi0, hz0, hz1, hz2⟩ := info_parts wordInfo
  have hWd : Below w.heap.size w (w.alloc (.cells #[.int .i64 9, .int .i64 n, .int .i64 pl] 113)).drew := ((Below.refl _ _).alloc (Nat.le_refl _) _).drew
  have hla := hid (last_any b 0 v st (lastW st 0) (fun _ => True) _ (h.below hWd).cell (h.below hWd).ls hs hp (lastW_at hp))
  have HWD := hid h
  have hm := h.cell
  have hf := h.thaw
  have hown := h.row
  have hfar := h.far
  have hbz := h.lt
  clear h
  generalize lastW st 0 = x at *
  obtain ⟨xr, xv⟩ := x
  go_enter Tryz.func51, Tryz.ntmps51
  go_upto_region 21 with fail
  go_region_law
    ((first
      | (refine step_append_lies _ (by rfl) _ _ _ (by rfl) base 116 i0 _ 2 16 Tryz.underlying77 hi0 hz0 hz1 hz2 rfl (by omega) _ st.length (st.flatMap wdCells) (by rfl) (hown9.alloc _)
          ⟨w9.heap.size, 0, none⟩ 1 1 [.bool xr, .int .i64 xv] (by rfl) (by rfl) (World.news_of_block (cs := #[.bool xr, .int .i64 xv]) (t := 116) (fr := (0, 0)) (heap_alloc_new w9 _)) (by simp [Value.oneCell'])
          (by omega) (by unfold maxLen; omega) (by omega) (by simp; omega) (w9.heap.size + 1) (by simp) ?_; intro gg gcap w6 hown6 hgrow6 hat6 hlt6; obtain ⟨c6, f6⟩ := cell6b hgrow6 (b := b) (by omega) hfar 9; rw [a9] at c6; rw [f9] at f6)
      | (go_simp; go_at_call 48; refine hla.out.mono ?_; intro x w9 hh; obtain ⟨hb9, hx9⟩ := hh; subst hx9; have hB9 := hWd.trans (hb9.mono hWd.size); have hz9 := hB9.size; have a9 := (hB9.cell (p := ⟨b, 9, none⟩) hbz).trans hm; have f9 := (hB9.frozen (p := ⟨b, 9, none⟩) hbz).trans hf; have a9' : (w9.alloc (.cells #[.bool xr, .int .i64 xv] 116)).cell? ⟨b, 9, none⟩ = some v := (World.cell?_alloc_past _ _ _ (by omega)).trans a9; have hown9 := owns_keep (w' := w9) hown (fun g' hg' => hB9.block g' (hown.lt g' hg').2); dsimp only)))
  all_goals
    have HP : Hid (PushPost b base v (st ++ [(xr, xv)]) w (.returned (.tuple #[])) (w6.setCell ⟨b, 9, none⟩ (.slice (some ⟨gg, 0, none⟩) (st.length + 1) gcap))) := hid (by
      have h6 := grew_of (ob := .cells #[.bool xr, .int .i64 xv] 116) (w6 := w6) (gg := gg) (n := st.length + 1) (cap := gcap) (ws' := st ++ [(xr, xv)]) (HWD.out.below hB9) (by simp) (by simpa [wdCells] using hown6) ⟨hgrow6.os, hgrow6.tape, hgrow6.output, hgrow6.size, hgrow6.block⟩ (by simpa using hat6)
      exact ⟨rfl, _, h6.1, (HWD.out.grew hB9).trans h6.2⟩)
    clear hown6 hgrow6 hat6 hlt6 c6 f6 hB9 hown9 a9' a9 f9 hb9
    go_wp2_with fail
    go_end0
    exact HP.out
end Go.Proofs.YtdmdpindonghdaaGreatDoor
namespace Go.Proofs.YtdmdpindonghdaaGreatDoor
open Go.RowKit
attribute [local go_sem] run_fieldW
theorem does_11 (b base : Nat) (v : Value) (st : List (Bool × Int)) (n pl cell : Int) (w : World) (h : WdsAt w b 9 base v st) (hs : st.length ≤ 100) (hp : 1 < st.length) (hbase : base ≤ w.heap.size) :
    Calls Tryz.prog 51 #[.pointer (some ⟨b, 0, none⟩), .agg #[.int .i64 11, .int .i64 n, .int .i64 pl], .int .i64 cell] w (PushPost b base v (st.take (st.length - 2) ++ [lastW st 0, lastW st 1]) w) := by
  obtain ⟨i0, hi0, hz0, hz1, hz2⟩ := info_parts wordInfo
  have hW : Below w.heap.size w (w.alloc (.cells #[.int .i64 11, .int .i64 n, .int .i64 pl] 113)) := (Below.refl _ _).alloc (Nat.le_refl _) _
  have hla := hid (fun (W : World) (hb : Below w.heap.size w W) (k : Nat) (hk : k < st.length) => last_any b k v st (lastW st k) (fun _ => True) W (h.below hb).cell (h.below hb).ls hs hk (lastW_at hk))
  have hl1 := hid (hla.out _ hW 1 hp)
  have hl0 := hid (fun W hb => hla.out W hb 0 (by omega))
  have hdr := hid (fun (W : World) (hb : Below w.heap.size w W) => drop_wds b base 2 v st W (h.below hb) hs (by omega) (by omega))
  have HW := hid hW
  have HWD := hid h
  have hbz := h.lt
  have hvne : ∀ k, w.heap.size ≤ k → some k ≠ v.ownBlock := fun k hk e => by have := (h.row.lt _ e.symm).2; omega
  clear h hW hla
  have HLT : Hid ((st.take (st.length - 2)).length ≤ 100) := hid (by rw [List.length_take]; omega)
  generalize lastW st 1 = y at *
  generalize lastW st 0 = x at *
  generalize st.take (st.length - 2) = s2 at *
  obtain ⟨yr, yv⟩ := y
  obtain ⟨xr, xv⟩ := x
  go_enter Tryz.func51, Tryz.ntmps51
  go_wp2_with fail
  refine hl1.out.mono ?_
  clear hl1
  intro e1 w1 hh
  obtain ⟨hb1, he1⟩ := hh
  subst e1
  have HB1 : Hid (Below w.heap.size w w1) := hid (HW.out.trans (hb1.mono HW.out.size))
  have HX1 : Hid (Below w.heap.size w (w1.alloc (.cells #[.bool yr, .int .i64 yv] 116))) := hid (HB1.out.alloc HB1.out.size _)
  have hl := hid (hl0.out _ HX1.out)
  have hz1w := HB1.out.size
  clear hb1 hl0
  go_wp2_with fail
  refine hl.out.mono ?_
  clear hl
  intro e1 w2 hh
  obtain ⟨hb2, he1⟩ := hh
  subst e1
  have hz2w := hb2.size
  rw [alloc_size] at hz2w
  have HB2 : Hid (Below w.heap.size w w2) := hid (HX1.out.trans (hb2.mono HX1.out.size))
  have HX2 : Hid (Below w.heap.size w (w2.alloc (.cells #[.bool xr, .int .i64 xv] 116))) := hid (HB2.out.alloc HB2.out.size _)
  have HS8 : Hid ((w2.alloc (.cells #[.bool xr, .int .i64 xv] 116)).heap[w1.heap.size]? = some (.cells #[.bool yr, .int .i64 yv] 116)) := hid ((Below.heap_alloc _ _ _ (by omega)).trans ((hb2.block _ (by rw [alloc_size]; omega)).trans (heap_alloc_new _ _)))
  have HS9 : Hid ((w2.alloc (.cells #[.bool xr, .int .i64 xv] 116)).heap[w2.heap.size]? = some (.cells #[.bool xr, .int .i64 xv] 116)) := hid (heap_alloc_new _ _)
  have hd := hid (hdr.out _ HX2.out)
  clear hb2 hdr
  go_wp2_with fail
  refine hd.out.mono ?_
  clear hd
  intro e1 w3 hh
  obtain ⟨he1, v1, hv1, hg1⟩ := hh
  subst e1
  have hz3 := hg1.size
  rw [alloc_size] at hz3
  have q8 := (hg1.block w1.heap.size (by rw [alloc_size]; omega) (by omega) (hvne _ (by omega))).trans HS8.out
  have q9 := (hg1.block w2.heap.size (by rw [alloc_size]; omega) (by omega) (hvne _ (by omega))).trans HS9.out
  have a0 := cell_of_row w3 w1.heap.size 0 _ _ _ q8
  have a1 := cell_of_row w3 w1.heap.size 1 _ _ _ q8
  have b0 := cell_of_row w3 w2.heap.size 0 _ _ _ q9
  have b1 := cell_of_row w3 w2.heap.size 1 _ _ _ q9
  simp only [List.getElem?_toArray, List.getElem?_cons_zero, List.getElem?_cons_succ] at a0 a1 b0 b1
  have HG : Hid (Grew b 9 v v1 w w3) := hid ((HWD.out.grew HX2.out).trans hg1)
  have HV1 := hid hv1
  have hm := hv1.cell
  have hf := hv1.thaw
  have hown := hv1.row
  have hfar := hv1.far
  have hbz3 := hv1.lt
  have hbase3 : base ≤ w3.heap.size := by omega
  have hlt := HLT.out
  generalize w1.heap.size = s8 at *
  generalize w2.heap.size = s9 at *
  clear HW HX1 HB1 HB2 HX2 HS8 HS9 hg1 hv1 q8 q9 HWD hvne HLT
  go_upto_region 29 with fail
  go_region_law ((first | (refine step_append_lies _ (by rfl) _ _ _ (by rfl) base 116 i0 _ 2 16 Tryz.underlying77 hi0 hz0 hz1 hz2 rfl (by omega) _ s2.length (s2.flatMap wdCells) (by rfl) ((hown.alloc _).drew) ⟨w3.heap.size, 0, none⟩ 2 2 [.bool xr, .int .i64 xv, .bool yr, .int .i64 yv] (by rfl) (by rfl) (World.news_of_block (cs := #[.bool xr, .int .i64 xv, .bool yr, .int .i64 yv]) (t := 116) (fr := (0, 0)) (heap_alloc_new w3 _)) (by simp [Value.oneCell']) (by omega) (by unfold maxLen; omega) (by omega) (by simp [World.drew]; omega) (w3.heap.size + 1) (by simp [World.drew]) ?_; intro gg gcap w6 hown6 hgrow6 hat6 hlt6; obtain ⟨c6, f6⟩ := cell6 hgrow6 (b := b) (by omega) hfar 9; rw [hm] at c6; rw [hf] at f6) | fail))
  all_goals
    have HP : Hid (PushPost b base v (s2 ++ [(xr, xv), (yr, yv)]) w (.returned (.tuple #[])) (w6.setCell ⟨b, 9, none⟩ (.slice (some ⟨gg, 0, none⟩) (s2.length + 2) gcap))) := hid (by
      have h6 := grew_of (ob := .cells #[.bool xr, .int .i64 xv, .bool yr, .int .i64 yv] 116) (w6 := w6) (gg := gg) (n := s2.length + 2) (cap := gcap) (ws' := s2 ++ [(xr, xv), (yr, yv)]) HV1.out (by simp) (by simpa [wdCells] using hown6) ⟨hgrow6.os, hgrow6.tape, hgrow6.output, hgrow6.size, hgrow6.block⟩ (by simpa using hat6)
      exact ⟨rfl, _, h6.1, HG.out.trans h6.2⟩)
    clear hown6 hgrow6 hat6 hlt6 c6 f6
    go_wp2_with fail
    go_end0
    exact HP.out
end Go.Proofs.YtdmdpindonghdaaGreatDoor
namespace Go.Proofs.YtdmdpindonghdaaGreatDoor
open Go.RowKit
attribute [local go_sem] run_fieldW
theorem WdsAt.two {w w' : World} {b o base g : Nat} {v : Value} {ws : List (Bool × Int)} (h : WdsAt w b o base v ws) (ht : Two g g w w') (hb : b ≠ g) (hg : some g ≠ v.ownBlock) : WdsAt w' b o base v ws := by
  have e := ht.block b h.lt hb hb
  refine ⟨(World.cell?_of_block (a := ⟨b, o, none⟩) e).trans h.cell, (World.frozen?_of_block (a := ⟨b, o, none⟩) e).trans h.thaw, owns_keep h.row (fun g' hg' => ?_), h.far⟩
  have hne : g' ≠ g := fun e => hg (by rw [← e]; exact hg'.symm)
  exact ht.block g' (h.row.lt g' hg').2 hne hne
def StorePost (b base g : Nat) (v : Value) (ws lo : List (Bool × Int)) (w : World) (e : Ending) (w' : World) : Prop :=
  e = .returned (.tuple #[]) ∧ ∃ wm v', Two g g w wm ∧ wm.heap[g]? = some (.cells (lo.flatMap wdCells).toArray 116) ∧ WdsAt w' b 9 base v' ws ∧ Grew b 9 v v' wm w'
theorem word_set {w : World} {g n : Nat} {lo : List (Bool × Int)} (x : Bool × Int) (h : w.heap[g]? = some (.cells (lo.flatMap wdCells).toArray 116)) (hn : n < lo.length) :
    ((w.setCell ⟨g, n * 2, none⟩ (.bool x.1)).setCell ⟨g, n * 2 + 1, none⟩ (.int .i64 x.2)).heap[g]? = some (.cells ((lo.set n x).flatMap wdCells).toArray 116) := by
  have h1 := setCell_row (n * 2) (.bool x.1) h
  have h2 := setCell_row (n * 2 + 1) (.int .i64 x.2) h1
  rw [h2]
  have e1 := flat_set wdCells 2 (fun _ => rfl) lo n 0 (x.1, lo[n].2) (.bool x.1) hn (by omega) rfl
  have e2 := flat_set wdCells 2 (fun _ => rfl) (lo.set n (x.1, lo[n].2)) n 1 x (.int .i64 x.2) (by simpa using hn) (by omega) (by simp [wdCells])
  rw [Nat.add_zero] at e1
  simp only [List.setIfInBounds_toArray, e1, e2, List.set_set]
theorem does_8 (b base g cap : Nat) (v : Value) (st lo : List (Bool × Int)) (n : Nat) (pl cell : Int) (w : World) (h : WdsAt w b 9 base v st) (hs : st.length ≤ 100) (hp : 0 < st.length) (hlo : w.cell? ⟨b, 8, none⟩ = some (.slice (some ⟨g, 0, none⟩) lo.length cap)) (hr : w.heap[g]? = some (.cells (lo.flatMap wdCells).toArray 116)) (hn : n < lo.length) (hbg : b ≠ g) (hgv : some g ≠ v.ownBlock) :
    Calls Tryz.prog 51 #[.pointer (some ⟨b, 0, none⟩), .agg #[.int .i64 8, .int .i64 n, .int .i64 pl], .int .i64 cell] w (StorePost b base g v (st.take (st.length - 1)) (lo.set n (lastW st 0)) w) := by
  have hWd : Below w.heap.size w (w.alloc (.cells #[.int .i64 8, .int .i64 n, .int .i64 pl] 113)).drew := ((Below.refl _ _).alloc (Nat.le_refl _) _).drew
  have hla := hid (last_any b 0 v st (lastW st 0) (fun _ => True) _ (h.below hWd).cell (h.below hWd).ls hs hp (lastW_at hp))
  have hins : (w.alloc (.cells #[.int .i64 8, .int .i64 n, .int .i64 pl] 113)).drew.cell? ⟨w.heap.size, 1, none⟩ = some (.int .i64 n) := cell_of_row (w.alloc (.cells #[.int .i64 8, .int .i64 n, .int .i64 pl] 113)) w.heap.size 1 _ _ _ (heap_alloc_new _ _)
  have hinsz : w.heap.size < (w.alloc (.cells #[.int .i64 8, .int .i64 n, .int .i64 pl] 113)).drew.heap.size := by simp [World.drew]
  have HWD := hid h
  have HR := hid hr
  have hbz := h.lt
  have hgz : g < w.heap.size := (Array.getElem?_eq_some_iff.1 hr).1
  have y0 := (cell_of_row w g (n * 2) _ _ _ hr).trans ((List.getElem?_toArray).trans (flat_at wdCells 2 (fun _ => rfl) lo n 0 hn (by omega)))
  have y1 := (cell_of_row w g (n * 2 + 1) _ _ _ hr).trans ((List.getElem?_toArray).trans (flat_at wdCells 2 (fun _ => rfl) lo n 1 hn (by omega)))
  have f0 := frozen_of_row w g (n * 2) _ _ hr
  have f1 := frozen_of_row w g (n * 2 + 1) _ _ hr
  have d0 : (0 : Int) ≤ (n : Int) := by omega
  have d1 : (n : Int) < (lo.length : Int) := by omega
  simp only [wdCells, List.getElem?_cons_zero, List.getElem?_cons_succ] at y0 y1
  have hdr := hid (fun (W : World) (hW : WdsAt W b 9 base v st) => drop_wds b base 1 v st W hW hs hp hp)
  have HX := hid (fun (W : World) (h : W.heap[g]? = some (.cells (lo.flatMap wdCells).toArray 116)) => word_set (lastW st 0) h hn)
  clear h hr
  generalize lastW st 0 = x at *
  obtain ⟨xr, xv⟩ := x
  go_enter Tryz.func51, Tryz.ntmps51
  go_upto_region 18 with fail
  go_region_law
    ((first
      | (go_simp; go_at_call 48; refine hla.out.mono ?_; intro x w9 hh; obtain ⟨hb9, hx9⟩ := hh; subst hx9; have hB9 := hWd.trans (hb9.mono hWd.size); have i1 := (hb9.cell (p := ⟨w.heap.size, 1, none⟩) hinsz).trans hins; have a8 := (hB9.cell (p := ⟨b, 8, none⟩) hbz).trans hlo; have c0 := (hB9.cell (p := ⟨g, n * 2, none⟩) hgz).trans y0; have c1 := (hB9.cell (p := ⟨g, n * 2 + 1, none⟩) hgz).trans y1; have z0 := (hB9.frozen (p := ⟨g, n * 2, none⟩) hgz).trans f0; have z1 := (hB9.frozen (p := ⟨g, n * 2 + 1, none⟩) hgz).trans f1; dsimp only)
      | fail))
  all_goals
    have HT : Hid (Two g g w ((w9.setCell ⟨g, n * 2, none⟩ (.bool xr)).setCell ⟨g, n * 2 + 1, none⟩ (.int .i64 xv))) := hid (((Two.of_below hB9).setB _ _).setB _ _)
    have HRW := hid (HX.out w9 ((hB9.block g hgz).trans HR.out))
    have HD := hid (HWD.out.two HT.out hbg hgv)
    simp only at HRW
    generalize (w9.setCell ⟨g, n * 2, none⟩ (.bool xr)).setCell ⟨g, n * 2 + 1, none⟩ (.int .i64 xv) = wm at *
    have hd := hid (hdr.out wm HD.out)
    clear hb9 hB9 i1 a8 c0 c1 z0 z1 y0 y1 f0 f1 hins hinsz hWd hlo
    go_wp2_with fail
    refine hd.out.mono ?_
    clear hd hdr
    intro e1 w5 hh
    obtain ⟨he1, v', hv', hg'⟩ := hh
    subst e1
    have HP : Hid (StorePost b base g v (st.take (st.length - 1)) (lo.set n (xr, xv)) w (.returned (.tuple #[])) w5) := hid ⟨rfl, wm, v', HT.out, HRW.out, hv', hg'⟩
    clear hv' hg'
    go_wp2_with fail
    go_end0
    exact HP.out
end Go.Proofs.YtdmdpindonghdaaGreatDoor
namespace Go.Proofs.YtdmdpindonghdaaGreatDoor
open Go.RowKit
attribute [local go_sem] run_fieldW
/-- A list of numbers in field o of block b, owned from base on. -/
structure NumsAt (w : World) (b o base : Nat) (v : Value) (zs : List Int) : Prop where
  cell : w.cell? ⟨b, o, none⟩ = some v
  thaw : w.frozen? ⟨b, o, none⟩ = false
  row : w.ownsRow base 3 1 v zs.length (zs.map (.int .i64))
  far : some b ≠ v.ownBlock
theorem NumsAt.lt {w : World} {b o base : Nat} {v : Value} {zs : List Int} (h : NumsAt w b o base v zs) : b < w.heap.size := by
  have := World.block_lt_of_cell? w _ h.cell
  simpa using this
theorem NumsAt.below {w w' : World} {b o base : Nat} {v : Value} {zs : List Int} (h : NumsAt w b o base v zs) (hb : Below w.heap.size w w') : NumsAt w' b o base v zs :=
  ⟨(hb.cell (p := ⟨b, o, none⟩) h.lt).trans h.cell, (hb.frozen (p := ⟨b, o, none⟩) h.lt).trans h.thaw, owns_keep h.row (fun g hg => hb.block g (h.row.lt g hg).2), h.far⟩
theorem ngrew_of {w w6 : World} {ob : Obj} {b o base gg n cap : Nat} {v : Value} {ws ws' : List Int} (h : NumsAt w b o base v ws) (hn : n = ws'.length) (hown : w6.ownsRow base 3 1 (.slice (some ⟨gg, 0, none⟩) n cap) n (ws'.map (.int .i64))) (hg : (w.alloc ob).grownBy w6 v.ownBlock) (hat : v.ownBlock = some gg ∨ gg = (w.alloc ob).heap.size) :
    NumsAt (w6.setCell ⟨b, o, none⟩ (.slice (some ⟨gg, 0, none⟩) n cap)) b o base (.slice (some ⟨gg, 0, none⟩) n cap) ws' ∧ Grew b o v (.slice (some ⟨gg, 0, none⟩) n cap) w (w6.setCell ⟨b, o, none⟩ (.slice (some ⟨gg, 0, none⟩) n cap)) := by
  subst hn
  have hbz := h.lt
  have hz : (w.alloc ob).heap.size = w.heap.size + 1 := alloc_size _ _
  have hz6 := hg.size
  have hb6 : ∀ k, k < w.heap.size → some k ≠ v.ownBlock → w6.heap[k]? = w.heap[k]? := fun k hk hne => (hg.block k (by omega) hne).trans (Below.heap_alloc _ _ _ hk)
  have hne : b ≠ gg := by
    rcases hat with e | e
    · exact fun he => h.far (by rw [e, he])
    · omega
  have c6 : w6.cell? ⟨b, o, none⟩ = some v := (World.cell?_of_block (a := ⟨b, o, none⟩) (hb6 b hbz h.far)).trans h.cell
  have f6 : w6.frozen? ⟨b, o, none⟩ = false := (World.frozen?_of_block (a := ⟨b, o, none⟩) (hb6 b hbz h.far)).trans h.thaw
  refine ⟨⟨World.cell?_setCell_same _ _ _ c6, by simpa [go_sem] using f6, owns_keep hown (fun g hg' => Below.heap_setCell _ _ _ _ ?_), ?_⟩, ⟨hg.os, hg.tape, hg.output, by simp [World.setCell]; omega, ?_, ?_, ?_⟩⟩
  · simp only [Value.ownBlock, Option.some.injEq] at hg'
    rw [← hg']
    exact Ne.symm hne
  · simp only [Value.ownBlock, ne_eq, Option.some.injEq]
    exact hne
  · intro k hk h1 h2
    rw [Below.heap_setCell _ _ _ _ h1]
    exact hb6 k hk h2
  · intro g he
    simp only [Value.ownBlock, Option.some.injEq] at he
    subst he
    rcases hat with e | e
    · exact .inl e
    · exact .inr (by omega)
  · intro r t hr
    exact setCell_row o _ ((hb6 b hbz h.far).trans hr)
theorem NumsAt.grew {w w' : World} {b o base : Nat} {v : Value} {zs : List Int} (h : NumsAt w b o base v zs) (hb : Below w.heap.size w w') : Grew b o v v w w' where
  os := hb.os
  tape := hb.tape
  output := hb.output
  size := hb.size
  block k hk _ _ := hb.block k hk
  own g hg := .inl hg
  home r t hr := by
    rw [hb.block b h.lt, hr]
    have hc := h.cell
    unfold World.cell? at hc
    simp only [hr] at hc
    have : r.setIfInBounds o v = r := by
      apply Array.ext
      · simp
      · intro i h1 h2
        rw [Array.getElem_setIfInBounds]
        split
        · rename_i e
          subst e
          simp [Array.getElem?_eq_getElem h2] at hc
          exact hc.symm
        · rfl
    rw [this]
/-- The words of one field where another field's list has grown. -/
theorem WdsAt.grown {w w' : World} {b o o2 base : Nat} {v v2 v2' : Value} {ws : List (Bool × Int)} {r : Array Value} {t : TypeId} (h : WdsAt w b o base v ws) (hr : w.heap[b]? = some (.cells r t)) (hg : Grew b o2 v2 v2' w w') (ho : o2 ≠ o) (hv : v.ownBlock = none ∨ v.ownBlock ≠ v2.ownBlock) : WdsAt w' b o base v ws := by
  have hr' := hg.home r t hr
  have hc := h.cell
  have hf := h.thaw
  refine ⟨?_, ?_, owns_keep h.row (fun g' hg' => ?_), h.far⟩
  · unfold World.cell? at hc ⊢
    simp only [hr, hr'] at hc ⊢
    rw [Array.getElem?_setIfInBounds_ne ho]
    exact hc
  · unfold World.frozen? at hf ⊢
    simp only [hr, hr'] at hf ⊢
    exact hf
  · refine hg.block g' (h.row.lt g' hg').2 (fun e => h.far (by rw [hg', e])) (fun e => ?_)
    rcases hv with e2 | e2
    · rw [e2] at hg'; cases hg'
    · exact e2 (hg'.trans e)
def OutPost (b base : Nat) (v vO : Value) (ws : List (Bool × Int)) (zs : List Int) (w : World) (e : Ending) (w' : World) : Prop :=
  e = .returned (.tuple #[]) ∧ ∃ wm v' vO', NumsAt wm b 4 base vO' zs ∧ Grew b 4 vO vO' w wm ∧ WdsAt w' b 9 base v' ws ∧ Grew b 9 v v' wm w'
theorem does_22 (b base : Nat) (v vO : Value) (st : List (Bool × Int)) (zs : List Int) (n pl cell : Int) (r : Array Value) (w : World) (hrow : w.heap[b]? = some (.cells r 82)) (h : WdsAt w b 9 base v st) (hO : NumsAt w b 4 base vO zs) (hs : st.length ≤ 100) (hzs : zs.length ≤ 8796093022208) (hp : 0 < st.length) (hbase : base ≤ w.heap.size) (hv : v.ownBlock = none ∨ v.ownBlock ≠ vO.ownBlock) :
    Calls Tryz.prog 51 #[.pointer (some ⟨b, 0, none⟩), .agg #[.int .i64 22, .int .i64 n, .int .i64 pl], .int .i64 cell] w (OutPost b base v vO (st.take (st.length - 1)) (zs ++ [(lastW st 0).2]) w) := by
  obtain ⟨i0, hi0, hz0, hz1, hz2⟩ := info_parts intInfo
  have hWd : Below w.heap.size w (w.alloc (.cells #[.int .i64 22, .int .i64 n, .int .i64 pl] 113)).drew := ((Below.refl _ _).alloc (Nat.le_refl _) _).drew
  have hla := hid (last_any b 0 v st (lastW st 0) (fun _ => True) _ (h.below hWd).cell (h.below hWd).ls hs hp (lastW_at hp))
  have HWD := hid h
  have HOO := hid hO
  have HROW := hid hrow
  have HV := hid hv
  have hm := hO.cell
  have hf := hO.thaw
  have hown := hO.row
  have hfar := hO.far
  have hbz := hO.lt
  have hdr := hid (fun (W : World) (hW : WdsAt W b 9 base v st) => drop_wds b base 1 v st W hW hs hp hp)
  clear h hO hrow hv
  generalize lastW st 0 = x at *
  obtain ⟨xr, xv⟩ := x
  simp only
  go_enter Tryz.func51, Tryz.ntmps51
  go_upto_region 39 with fail
  go_region_law
    ((first
      | (refine step_append_lies _ (by rfl) _ _ _ (by rfl) base 3 i0 _ 1 8 Tryz.underlying22 hi0 hz0 hz1 hz2 rfl (by omega) _ zs.length (zs.map (.int .i64)) (by rfl) (hown9.alloc _)
          ⟨w9.heap.size, 0, none⟩ 1 1 [.int .i64 xv] (by rfl) (by rfl) (World.news_of_block (cs := #[.int .i64 xv]) (t := 3) (fr := (0, 0)) (heap_alloc_new w9 _)) (by simp [Value.oneCell'])
          (by omega) (by unfold maxLen; omega) (by omega) (by simp; omega) (w9.heap.size + 1) (by simp) ?_; intro gg gcap w6 hown6 hgrow6 hat6 hlt6; obtain ⟨c6, f6⟩ := cell6b hgrow6 (b := b) (by omega) hfar 4; rw [a9] at c6; rw [f9] at f6)
      | (go_simp; go_at_call 48; refine hla.out.mono ?_; intro x w9 hh; obtain ⟨hb9, hx9⟩ := hh; subst hx9; have hB9 := hWd.trans (hb9.mono hWd.size); have hz9 := hB9.size; have a9 := (hB9.cell (p := ⟨b, 4, none⟩) hbz).trans hm; have f9 := (hB9.frozen (p := ⟨b, 4, none⟩) hbz).trans hf; have a9' : (w9.alloc (.cells #[.int .i64 xv] 3)).cell? ⟨b, 4, none⟩ = some vO := (World.cell?_alloc_past _ _ _ (by omega)).trans a9; have hown9 := owns_keep (w' := w9) hown (fun g' hg' => hB9.block g' (hown.lt g' hg').2); dsimp only)))
  all_goals
    have h6 := ngrew_of (ob := .cells #[.int .i64 xv] 3) (w6 := w6) (gg := gg) (n := zs.length + 1) (cap := gcap) (ws' := zs ++ [xv]) (HOO.out.below hB9) (by simp) (by simpa using hown6) ⟨hgrow6.os, hgrow6.tape, hgrow6.output, hgrow6.size, hgrow6.block⟩ (by simpa using hat6)
    have HN := hid h6.1
    have HG : Hid (Grew b 4 vO (.slice (some ⟨gg, 0, none⟩) (zs.length + 1) gcap) w (w6.setCell ⟨b, 4, none⟩ (.slice (some ⟨gg, 0, none⟩) (zs.length + 1) gcap))) := hid ((HOO.out.grew hB9).trans h6.2)
    have HD := hid (HWD.out.grown HROW.out HG.out (by omega) HV.out)
    generalize w6.setCell ⟨b, 4, none⟩ (.slice (some ⟨gg, 0, none⟩) (zs.length + 1) gcap) = wm at *
    have hd := hid (hdr.out wm HD.out)
    clear h6 hown6 hgrow6 hat6 hlt6 c6 f6 hB9 hown9 a9' a9 f9 hb9
    go_wp2_with fail
    refine hd.out.mono ?_
    clear hd hdr
    intro e1 w5 hh
    obtain ⟨he1, v', hv', hg'⟩ := hh
    subst e1
    have HP : Hid (OutPost b base v vO (st.take (st.length - 1)) (zs ++ [xv]) w (.returned (.tuple #[])) w5) := hid ⟨rfl, wm, v', _, HN.out, HG.out, hv', hg'⟩
    clear hv' hg'
    go_wp2_with fail
    go_end0
    exact HP.out
end Go.Proofs.YtdmdpindonghdaaGreatDoor
namespace Go.Proofs.YtdmdpindonghdaaGreatDoor
open Go.RowKit
def InPost (b base : Nat) (v : Value) (ws : List (Bool × Int)) (r : Array Value) (rd : Nat) (w : World) (e : Ending) (w' : World) : Prop :=
  e = .returned (.tuple #[]) ∧ ∃ wm v', Two b b w wm ∧ wm.heap[b]? = some (.cells (r.setIfInBounds 3 (.int .i64 rd)) 82) ∧ WdsAt w' b 9 base v' ws ∧ Grew b 9 v v' wm w'
/-- No input is left. -/
theorem does_21_none (b base : Nat) (v : Value) (p : Option Addr) (c : Nat) (st : List (Bool × Int)) (rd N : Nat) (n pl cell : Int) (r : Array Value) (w : World) (hrow : w.heap[b]? = some (.cells r 82)) (h2 : r[2]? = some (.slice p N c)) (h3 : r[3]? = some (.int .i64 rd)) (h : WdsAt w b 9 base v st) (hs : st.length ≤ 100) (hbase : base ≤ w.heap.size) (hrd : N ≤ rd) :
    Calls Tryz.prog 51 #[.pointer (some ⟨b, 0, none⟩), .agg #[.int .i64 21, .int .i64 n, .int .i64 pl], .int .i64 cell] w (InPost b base v (st ++ [(false, 0)]) r rd w) := by
  have hbz := h.lt
  have m2 := (cell_of_row w b 2 _ _ _ hrow).trans h2
  have m3 := (cell_of_row w b 3 _ _ _ hrow).trans h3
  have HWD := hid h
  have HROW : Hid (w.heap[b]? = some (.cells (r.setIfInBounds 3 (.int .i64 rd)) 82)) := hid (by
    rw [hrow]
    have : r.setIfInBounds 3 (.int .i64 rd) = r := by
      apply Array.ext
      · simp
      · intro i g1 g2
        rw [Array.getElem_setIfInBounds]
        split
        · rename_i e
          subst e
          rw [Array.getElem?_eq_getElem g2] at h3
          exact (Option.some.inj h3).symm
        · rfl
    rw [this])
  have d1 : ¬ (rd : Int) < (N : Int) := by omega
  have hnu := hid (fun (W : World) (hb : Below w.heap.size w W) => number_any b base v st 0 W (h.below hb) hs (Nat.le_trans hbase hb.size))
  have HW : Hid (Below w.heap.size w (w.alloc (.cells #[.int .i64 21, .int .i64 n, .int .i64 pl] 113)).drew) := hid ((Below.refl _ _).alloc (Nat.le_refl _) _).drew
  clear h hrow h2 h3 hrd
  go_enter Tryz.func51, Tryz.ntmps51
  go_upto_region 34 with fail
  go_region
  go_wp2_with fail
  have hn := hid (hnu.out _ HW.out)
  refine hn.out.mono ?_
  clear hn hnu
  intro e1 w5 hh
  obtain ⟨he1, v', hv', hg'⟩ := hh
  subst e1
  have HP : Hid (InPost b base v (st ++ [(false, 0)]) r rd w (.returned (.tuple #[])) w5) := hid ⟨rfl, _, v', Two.of_below HW.out, (HW.out.block b hbz).trans HROW.out, hv', hg'⟩
  clear hv' hg'
  go_wp2_with fail
  go_end0
  exact HP.out
theorem WdsAt.setO {w : World} {b o o2 base : Nat} {v : Value} {ws : List (Bool × Int)} (h : WdsAt w b o base v ws) (u : Value) (ho : o2 ≠ o) : WdsAt (w.setCell ⟨b, o2, none⟩ u) b o base v ws := by
  refine ⟨(World.cell?_setCell_other _ _ _ _ (fun e => ho (by injection e))).trans h.cell, by simpa [go_sem] using h.thaw, owns_keep h.row (fun g hg => Below.heap_setCell _ _ _ _ (fun e => h.far (by rw [hg, e]))), h.far⟩
/-- An input is left. -/
theorem does_21_some (b base gI : Nat) (v : Value) (c : Nat) (st : List (Bool × Int)) (rd N : Nat) (x n pl cell : Int) (r : Array Value) (w : World) (hrow : w.heap[b]? = some (.cells r 82)) (h2 : r[2]? = some (.slice (some ⟨gI, 0, none⟩) N c)) (h3 : r[3]? = some (.int .i64 rd)) (hx : w.cell? ⟨gI, rd, none⟩ = some (.int .i64 x)) (h : WdsAt w b 9 base v st) (hs : st.length ≤ 100) (hbase : base ≤ w.heap.size) (hrd : rd < N) (hN : N ≤ 100) :
    Calls Tryz.prog 51 #[.pointer (some ⟨b, 0, none⟩), .agg #[.int .i64 21, .int .i64 n, .int .i64 pl], .int .i64 cell] w (InPost b base v (st ++ [(false, x)]) r (rd + 1) w) := by
  have hbz := h.lt
  have hgz := World.block_lt_of_cell? w _ hx
  simp only at hgz
  have m2 := (cell_of_row w b 2 _ _ _ hrow).trans h2
  have m3 := (cell_of_row w b 3 _ _ _ hrow).trans h3
  have k3 := frozen_of_row w b 3 _ _ hrow
  have HWD := hid h
  have HROW := hid hrow
  have d1 : (rd : Int) < (N : Int) := by omega
  have d0 : (0 : Int) ≤ (rd : Int) := by omega
  have e1 : wrap64 ((rd : Int) + 1) = (rd : Int) + 1 := by unfold wrap64; omega
  have hnu := hid (fun (W : World) (hb : WdsAt W b 9 base v st) (hz : w.heap.size ≤ W.heap.size) => number_any b base v st x W hb hs (Nat.le_trans hbase hz))
  have HW : Hid (Below (w.setCell ⟨b, 3, none⟩ (.int .i64 ((rd : Int) + 1))).heap.size (w.setCell ⟨b, 3, none⟩ (.int .i64 ((rd : Int) + 1))) ((w.setCell ⟨b, 3, none⟩ (.int .i64 ((rd : Int) + 1))).alloc (.cells #[.int .i64 21, .int .i64 n, .int .i64 pl] 113)).drew.drew) := hid ((Below.refl _ _).alloc (Nat.le_refl _) _).drew.drew
  clear h hrow h2 h3 hrd
  go_enter Tryz.func51, Tryz.ntmps51
  go_upto_region 34 with fail
  go_region
  go_upto_region 35 with fail
  go_region
  go_wp2_with fail
  have HM := hid ((HWD.out.setO (o2 := 3) (.int .i64 ((rd : Int) + 1)) (by omega)).below HW.out)
  have HT := hid (((Two.refl b b w).setB 3 (.int .i64 ((rd : Int) + 1))).trans (Two.of_below HW.out))
  have HR := hid ((HW.out.block b (by simpa [World.setCell] using hbz)).trans (setCell_row 3 (.int .i64 ((rd : Int) + 1)) HROW.out))
  have hn := hid (hnu.out _ HM.out HT.out.size)
  refine hn.out.mono ?_
  clear hn hnu
  intro e1 w5 hh
  obtain ⟨he1, v', hv', hg'⟩ := hh
  subst e1
  have HP : Hid (InPost b base v (st ++ [(false, x)]) r (rd + 1) w (.returned (.tuple #[])) w5) := hid ⟨rfl, _, v', HT.out, HR.out, hv', hg'⟩
  clear hv' hg'
  go_wp2_with fail
  go_end0
  exact HP.out
theorem sameInts_any (l : List Nat) (va vb : Value) (P Q : Nat → Prop) (w : World) (ha : IntsAt w P va l) (hb : IntsAt w Q vb l) (hl : l.length ≤ 1000) :
    Calls Tryz.prog 28 #[va, vb] w fun e w' => e = .returned (.bool true) ∧ ∃ n, w' = w.drewN n := by
  obtain ⟨pa, ca, ea⟩ := ha.slice
  obtain ⟨pb, cb, eb⟩ := hb.slice
  subst ea
  subst eb
  have HA := hid ha
  have HB := hid hb
  clear ha hb
  go_enter Tryz.func28, Tryz.ntmps28
  go_wp2_with fail
  go_loopg [5] l.length (fun gk x w' => ∃ k : Nat, k ≤ l.length ∧ gk = l.length - k ∧ x = .int .i64 k ∧ ∃ n, w' = w.drewN n)
  case atStart => exact ⟨0, by omega, by omega, rfl, 0, rfl⟩
  case round =>
    obtain ⟨k, hk, hgk, rfl, n, rfl⟩ := hrel
    rcases Nat.lt_or_ge k l.length with hlt | hge
    · have d0 : (0 : Int) ≤ (k : Int) := by omega
      have d1 : (k : Int) < (l.length : Int) := by omega
      have hk2 : l[k]? = some l[k] := List.getElem?_eq_getElem hlt
      rcases HA.out with ⟨_, h0⟩ | ⟨ga, c1, e1, _, hca⟩
      · rw [h0] at hlt; simp at hlt
      rcases HB.out with ⟨_, h0⟩ | ⟨gb, c2, e2, _, hcb⟩
      · rw [h0] at hlt; simp at hlt
      have x1 := hca k _ hk2
      have x2 := hcb k _ hk2
      unfold numV at x1 x2
      cases e1
      cases e2
      generalize l[k] = c at *
      have hne : ((c : Int) != (c : Int)) = false := by simp
      clear hca hcb hk2
      go_wp2_with fail
      go_quiet (fail)
      go_wp2_with fail
      go_roundg (l.length - (k + 1))
      case measure => omega
      case rel => exact ⟨k + 1, by omega, rfl, by go_num, ⟨_, rfl⟩⟩
    · have d1 : ¬ (k : Int) < (l.length : Int) := by omega
      go_wp2_with fail
      go_ret
      exact ⟨rfl, n, rfl⟩
/-- The cells of point k of a list of points. -/
theorem pts_cells {w : World} {base : Nat} {v : Value} {ms : List MP} (h : OwnPts w base v ms) {k : Nat} {m : MP} (hk : ms[k]? = some m) : ∃ g cap v1 v2, v = .slice (some ⟨g, 0, none⟩) ms.length cap ∧ w.cell? ⟨g, k * 4, none⟩ = some (.int .i64 m.place) ∧ w.cell? ⟨g, k * 4 + 1, none⟩ = some (.bool m.reached) ∧
    w.cell? ⟨g, k * 4 + 2, none⟩ = some v1 ∧ w.cell? ⟨g, k * 4 + 3, none⟩ = some v2 ∧ IntsAt w (fun g' => base ≤ g' ∧ g' < w.heap.size ∧ v.ownBlock ≠ some g') v1 m.lo ∧ IntsAt w (fun g' => base ≤ g' ∧ g' < w.heap.size ∧ v.ownBlock ≠ some g') v2 m.st := by
  obtain ⟨cs, h1, h2⟩ := h
  obtain ⟨a0, a1, v1, v2, a2, a3, i1, i2⟩ := PtsIn.at cs ms h2 k m hk
  have hlt := (List.getElem?_eq_some_iff.1 hk).1
  rcases h1.2 with ⟨_, h0⟩ | ⟨g, cap, cur, hv, _⟩
  · omega
  · subst hv
    have hc := h1.cells (g := g) rfl
    have c0 := hc _ _ a0
    have c1 := hc _ _ a1
    have c2 := hc _ _ a2
    have c3 := hc _ _ a3
    rw [addr_add] at c0 c1 c2 c3
    exact ⟨g, cap, v1, v2, rfl, c0, c1, c2, c3, i1, i2⟩
theorem pts_slice {w : World} {base : Nat} {v : Value} {ms : List MP} (h : OwnPts w base v ms) : ∃ p cap, v = .slice p ms.length cap := by
  obtain ⟨cs, h1, _⟩ := h
  exact owns_slice h1
theorem IntsAt.heap {w W : World} {P : Nat → Prop} {v : Value} {l : List Nat} (h : IntsAt w P v l) (e : W.heap = w.heap) : IntsAt W P v l := h.keep (fun _ hg => ⟨hg, by rw [e]⟩)
theorem OwnPts.heap {w W : World} {base : Nat} {v : Value} {ms : List MP} (h : OwnPts w base v ms) (e : W.heap = w.heap) : OwnPts W base v ms := by
  obtain ⟨cs, h1, h2⟩ := h
  exact ⟨cs, owns_keep h1 (fun _ _ => by rw [e]), PtsIn.keep (fun g hg => ⟨⟨hg.1, by rw [e]; exact hg.2.1, hg.2.2⟩, by rw [e]⟩) _ _ h2⟩
theorem sameMaps_any (ms : List MP) (va vb : Value) (ba bb : Nat) (w : World) (ha : OwnPts w ba va ms) (hb : OwnPts w bb vb ms) (hl : ms.length ≤ 1000) (hml : ∀ m ∈ ms, m.lo.length ≤ 1000 ∧ m.st.length ≤ 1000) :
    Calls Tryz.prog 33 #[va, vb] w fun e w' => e = .returned (.bool true) ∧ ∃ n, w' = w.drewN n := by
  obtain ⟨pa, ca, ea⟩ := pts_slice ha
  obtain ⟨pb, cb, eb⟩ := pts_slice hb
  have HA := hid ha
  have HB := hid hb
  have HML := hid hml
  subst ea
  subst eb
  clear ha hb hml
  go_enter Tryz.func33, Tryz.ntmps33
  go_wp2_with fail
  go_loopg [5] ms.length (fun gk x w' => ∃ k : Nat, k ≤ ms.length ∧ gk = ms.length - k ∧ x = .int .i64 k ∧ ∃ n, w' = w.drewN n)
  case atStart => exact ⟨0, by omega, by omega, rfl, 0, rfl⟩
  case round =>
    obtain ⟨k, hk, hgk, rfl, hwn⟩ := hrel
    have hh : wr.heap = w.heap := by
      obtain ⟨n, rfl⟩ := hwn
      rfl
    have HWN := hid hwn
    clear hwn
    rcases Nat.lt_or_ge k ms.length with hlt | hge
    · have d0 : (0 : Int) ≤ (k : Int) := by omega
      have d1 : (k : Int) < (ms.length : Int) := by omega
      obtain ⟨ga, c1, v1, v2, e1, x0, x1, x2, x3, i1, i2⟩ := pts_cells (HA.out.heap hh) (List.getElem?_eq_getElem hlt)
      obtain ⟨gb, c2, u1, u2, e2, y0, y1, y2, y3, j1, j2⟩ := pts_cells (HB.out.heap hh) (List.getElem?_eq_getElem hlt)
      obtain ⟨q1, q2⟩ := HML.out _ (List.getElem_mem hlt)
      cases e1
      cases e2
      generalize ms[k] = m at *
      have hs1 := hid (fun (W : World) (e : W.heap = wr.heap) => sameInts_any m.lo v1 u1 _ _ W (i1.heap e) (j1.heap e) q1)
      have hs2 := hid (fun (W : World) (e : W.heap = wr.heap) => sameInts_any m.st v2 u2 _ _ W (i2.heap e) (j2.heap e) q2)
      have hne : ((m.place : Int) != (m.place : Int)) = false := by simp
      have hne2 : (m.reached != m.reached) = false := by simp
      clear i1 i2 j1 j2 q1 q2 hh
      go_upto_region 6 with fail
      go_quiet ((go_at_call 28; refine Calls.quiet_of (hs1.out _ rfl)))
      have x0' : (wr.drewN nq).cell? ⟨ga, k * 4, none⟩ = some (.int .i64 m.place) := x0
      have x1' : (wr.drewN nq).cell? ⟨ga, k * 4 + 1, none⟩ = some (.bool m.reached) := x1
      have x3' : (wr.drewN nq).cell? ⟨ga, k * 4 + 3, none⟩ = some v2 := x3
      have y0' : (wr.drewN nq).cell? ⟨gb, k * 4, none⟩ = some (.int .i64 m.place) := y0
      have y1' : (wr.drewN nq).cell? ⟨gb, k * 4 + 1, none⟩ = some (.bool m.reached) := y1
      have y3' : (wr.drewN nq).cell? ⟨gb, k * 4 + 3, none⟩ = some u2 := y3
      have hs2' := hid (fun (W : World) (e : W.heap = (wr.drewN nq).heap) => hs2.out W e)
      have HWN7 : Hid (∃ n, wr.drewN nq = w.drewN n) := hid (by
        obtain ⟨n, hn⟩ := HWN.out
        exact ⟨n + nq, by rw [hn, World.drewN_drewN]⟩)
      clear x0 x1 x2 x3 y0 y1 y2 y3 hs1 hs2 HWN
      generalize wr.drewN nq = W7 at *
      go_upto_region 7 with fail
      go_quiet ((go_at_call 28; refine Calls.quiet_of (hs2'.out _ rfl)))
      go_upto_region 8 with fail
      go_quiet (fail)
      go_wp2_with fail
      go_roundg (ms.length - (k + 1))
      case measure => omega
      case rel =>
        obtain ⟨n, hn⟩ := HWN7.out
        exact ⟨k + 1, by omega, rfl, by go_num, by rw [hn]; simp only [World.drewN_drewN]; exact ⟨_, rfl⟩⟩
    · have d1 : ¬ (k : Int) < (ms.length : Int) := by omega
      clear hh
      go_wp2_with fail
      go_ret
      exact ⟨rfl, HWN.out⟩
/-- A list of points in blocks from lo on and below hi. -/
def OwnIn (w : World) (lo hi : Nat) (v : Value) (ms : List MP) : Prop :=
  ∃ cs, w.ownsRow lo 102 4 v ms.length cs ∧ (∀ g, v.ownBlock = some g → g < hi) ∧ PtsIn w (fun g => lo ≤ g ∧ g < hi ∧ v.ownBlock ≠ some g) cs ms
theorem OwnIn.of {w : World} {base : Nat} {v : Value} {ms : List MP} (h : OwnPts w base v ms) : OwnIn w base w.heap.size v ms := by
  obtain ⟨cs, h1, h2⟩ := h
  exact ⟨cs, h1, fun g hg => (h1.lt g hg).2, h2⟩
theorem OwnIn.keep {w w' : World} {lo hi : Nat} {v : Value} {ms : List MP} (h : OwnIn w lo hi v ms) (hk : ∀ g, lo ≤ g → g < hi → w'.heap[g]? = w.heap[g]?) : OwnIn w' lo hi v ms := by
  obtain ⟨cs, h1, h2, h3⟩ := h
  exact ⟨cs, owns_keep h1 (fun g hg => hk g (h1.lt g hg).1 (h2 g hg)), h2, PtsIn.keep (fun g hg => ⟨hg, hk g hg.1 hg.2.1⟩) _ _ h3⟩
/-- The reference's machine at its beginning. -/
structure RNew (s : ByteArray) (zs : List Int) (cells : Int) (w w' : World) (b : Nat) : Prop where
  below : Below w.heap.size w w'
  ex : ∃ (gL cL gLo : Nat) (vM vI vC : Value) (all : List Pt) (B1 B2 B3 : Nat),
    w'.heap[b]? = some (.cells #[.slice (some ⟨gL, 0, none⟩) (codeOf s).length cL, vM, vI, .int .i64 0, .slice none 0 0, .int .i64 0, .int .i64 0, .int .i64 0, .slice (some ⟨gLo, 0, none⟩) (byteAt s 1) (byteAt s 1), .slice none 0 0, vC, .int .i64 0, .int .i64 0] 82) ∧
    (w.heap.size ≤ gL ∧ gL < gLo ∧ gLo < b ∧ b < B1 ∧ B1 ≤ B2 ∧ B2 ≤ B3 ∧ B3 ≤ w'.heap.size) ∧ InsAt w' gL (codeOf s) ∧ errOf s = 0 ∧ WT (codeOf s) (byteAt s 1) ∧ (∀ p, Reach (codeOf s) (byteAt s 1) p ↔ p ∈ all) ∧
    OwnIn w' B1 B2 vM (toldAll (codeOf s) all) ∧ w'.ownsRow B2 3 1 vI zs.length (zs.map (.int .i64)) ∧ (∀ g, vI.ownBlock = some g → g < B3) ∧
    w'.ownsRow B3 109 7 vC cells.toNat ((List.replicate cells.toNat (⟨false, false, false, false, -1, -1, 0⟩ : RC)).flatMap rcCells) ∧
    w'.heap[gLo]? = some (.cells ((List.replicate (byteAt s 1) (false, (0 : Int))).flatMap wdCells).toArray 116)
theorem run_append_zero {P : Program} (w : World) (t ty e : TypeId) (i : TypeInfo) (ht : P.underlying t = some (.slice e)) (hi : P.info? e = some i) (p : Option Addr) (c : Nat) :
    (Builtin.append_ #[t, t] ty #[.slice none 0 0, .slice p 0 c]).run P w = .ok (.slice none 0 0) w := by
  cases p <;> simp [Builtin.append_, run_underlying ht, sizeOf, typeInfo, hi, Builtin.lenOf, Builtin.firstCells, loadCells, loadCellsFrom]
theorem wpList_append_zero {P : Program} {w : World} {ops : Array Oper} {rest : List Oper} {o : Oper} {a : Act} {Q : Exit → Act → World → Prop} (hgd : o.guard = none) (s x : Operand) (t : TypeId)
    (ho : o.op = .call { callee := .builtin .append, args := #[s, x], argTypes := #[t, t] }) (e : TypeId) (i : TypeInfo) (ht : P.underlying t = some (.slice e)) (hi : P.info? e = some i)
    (p : Option Addr) (c : Nat) (hs : a.eval s = .slice none 0 0) (hx : a.eval x = .slice p 0 c) (h : wpList P ops Q rest (a.put o.dst (.slice none 0 0)) w) : wpList P ops Q (o :: rest) a w := by
  refine wpList_plain hgd fun K hK => ?_
  have hrun := run_append_zero (P := P) w t o.type e i ht hi p c
  unfold Oper.wp
  simp [execOp, ho, resolve, invoke, builtin, hs, hx, hrun, Result.andThen]
  exact hK _ _ h
theorem InsAt.same2 {w w' : World} {g : Nat} {l : List Ins} (h : InsAt w g l) (hb : w'.heap[g]? = w.heap[g]?) : InsAt w' g l := by
  have hc : ∀ o, w'.cell? ⟨g, o, none⟩ = w.cell? ⟨g, o, none⟩ := fun o => World.cell?_of_block (a := ⟨g, o, none⟩) hb
  intro i hi
  obtain ⟨h0, h1, h2⟩ := h i hi
  exact ⟨(hc _).trans h0, (hc _).trans h1, (hc _).trans h2⟩
theorem rnew_ok (s : ByteArray) (vi : Value) (zs : List Int) (cells : Int) (w : World) (hs : s.size ≤ maxLen) (ht : TakesTab w) (htt : TypeTab w) (hv : ArgInts w vi zs) (he : NewErr s zs.length cells 0) :
    Calls Tryz.prog 22 #[.string s, vi, .int .i64 cells] w fun e w' => ∃ b, e = .returned (.tuple #[.pointer (some ⟨b, 0, none⟩), .int .i64 0]) ∧ RNew s zs cells w w' b := by
  obtain ⟨i0, hi0, hz0, hz1, hz2⟩ := info_parts rcInfo
  obtain ⟨j0, hj0, hy0, hy1, hy2⟩ := info_parts intInfo
  obtain ⟨h0, h1, h2, h3⟩ : IsErr s 0 ∧ 1 ≤ cells ∧ cells ≤ 32 ∧ zs.length ≤ 64 := by
    rcases he with ⟨h, _⟩ | ⟨_, _, h⟩ | ⟨_, _, _, _, h⟩ | ⟨h, h1, h2, h3, _⟩
    · exact absurd rfl h
    · cases h
    · cases h
    · exact ⟨h, h1, h2, h3⟩
  obtain ⟨herr, hwt⟩ : errOf s = 0 ∧ WT (codeOf s) (byteAt s 1) := by
    rcases h0 with ⟨h, h'⟩ | ⟨h, h', _⟩ | ⟨_, _, h⟩
    · exact absurd h'.symm h
    · exact ⟨h, h'⟩
    · cases h
  have hL := (wf_of herr).loc
  have hck := hid (refCheck_any s w hs ht htt)
  have hcd := hid (fun W (hb : Below w.heap.size w W) => code_any s W hs (ht.below hb))
  have hmp := hid (fun W (hb : Below w.heap.size w W) => refMaps_any s W hs (ht.below hb) (htt.below hb))
  have hmk := make_words (byteAt s 1) hL
  have HV := hid hv
  obtain ⟨p0, c0, e0⟩ := hv.slice
  subst e0
  have HERR := hid herr
  have HWT := hid hwt
  have H0 := hid h0
  have g1 : ¬ cells < 1 := by omega
  have g2 : ¬ 32 < cells := by omega
  have g3 : ¬ (64 : Int) < (zs.length : Int) := by omega
  clear hs ht htt hv he herr hwt h0
  go_enter Tryz.func22, Tryz.ntmps22
  go_wp2_with fail
  refine hck.out.mono ?_
  clear hck
  intro x w1 hp
  obtain ⟨hb1, r1, hx, he1⟩ := hp
  have e : r1 = 0 := he1.unique H0.out
  subst e
  subst x
  have HB1 := hid hb1
  have hcd1 := hid (hcd.out w1 hb1)
  clear hb1 he1 hcd
  go_wp2_with fail
  refine hcd1.out.mono ?_
  clear hcd1
  intro x w2 hp
  obtain ⟨hb2, hp⟩ := hp
  rcases hp with ⟨hne, _⟩ | ⟨_, gL, cL, hx, hgL1, hgL2, hins⟩
  · exact absurd HERR.out hne
  subst x
  have HB2 : Hid (Below w.heap.size w w2) := hid (HB1.out.trans (hb2.mono HB1.out.size))
  have HINS := hid hins
  have hgLw : w.heap.size ≤ gL := Nat.le_trans HB1.out.size hgL1
  generalize hLL : byteAt s 1 = L at *
  have HLL := hid hLL
  generalize hl : codeOf s = l at *
  have HLc := hid hl
  clear hb2 hins hLL hl
  go_wp2_with fail
  have hbW : Below w.heap.size w ((w2.alloc (.cells ((List.replicate L (false, (0 : Int))).flatMap wdCells).toArray 116)).alloc (.cells #[.slice (some ⟨gL, 0, none⟩) l.length cL, .slice none 0 0, .slice none 0 0, .int .i64 0, .slice none 0 0, .int .i64 0, .int .i64 0, .int .i64 0, .slice (some ⟨w2.heap.size, 0, none⟩) L L, .slice none 0 0, .slice none 0 0, .int .i64 0, .int .i64 0] 82)) :=
    (HB2.out.alloc HB2.out.size _).alloc (by rw [alloc_size]; have := HB2.out.size; omega) _
  refine (hmp.out _ hbW).mono ?_
  clear hmp hmk hbW
  intro x w4 hp
  obtain ⟨hb4, hp⟩ := hp
  rcases hp with ⟨r, hr, he, _⟩ | ⟨vM, all, hx, _, _, hall, hown⟩
  · exact absurd (he.unique H0.out) hr
  subst x
  rw [HLc.out, HLL.out] at hall
  rw [HLc.out] at hown
  obtain ⟨pM, cM, eM⟩ := pts_slice hown
  have hz4 := hb4.size
  rw [alloc_size, alloc_size] at hz4 hown
  have hrow : w4.heap[w2.heap.size + 1]? = some (.cells #[.slice (some ⟨gL, 0, none⟩) l.length cL, .slice none 0 0, .slice none 0 0, .int .i64 0, .slice none 0 0, .int .i64 0, .int .i64 0, .int .i64 0, .slice (some ⟨w2.heap.size, 0, none⟩) L L, .slice none 0 0, .slice none 0 0, .int .i64 0, .int .i64 0] 82) := by
    rw [hb4.block _ (by rw [alloc_size, alloc_size]; omega)]; exact heap_two_new w2 _ _
  have hwr : w4.heap[w2.heap.size]? = some (.cells ((List.replicate L (false, (0 : Int))).flatMap wdCells).toArray 116) := by
    rw [hb4.block _ (by rw [alloc_size, alloc_size]; omega)]; exact heap_two_first w2 _ _
  have hins4 : InsAt w4 gL l := (HINS.out.same2 ((Below.heap_alloc _ _ _ (by rw [alloc_size]; omega)).trans (Below.heap_alloc _ _ _ hgL2))).same2 (hb4.block gL (by rw [alloc_size, alloc_size]; omega))
  have hbw4 : Below w.heap.size w w4 := ((HB2.out.alloc HB2.out.size _).alloc (by rw [alloc_size]; have := HB2.out.size; omega) _).trans (hb4.mono (by rw [alloc_size, alloc_size]; have := HB2.out.size; omega))
  have m1 := cell_of_row w4 (w2.heap.size + 1) 1 _ _ _ hrow
  have m2 := cell_of_row w4 (w2.heap.size + 1) 2 _ _ _ hrow
  have f1 := frozen_of_row w4 (w2.heap.size + 1) 1 _ _ hrow
  have f2 := frozen_of_row w4 (w2.heap.size + 1) 2 _ _ hrow
  simp only [List.getElem?_toArray, List.getElem?_cons_zero, List.getElem?_cons_succ] at m1 m2
  have HROW := hid hrow
  have HWR := hid hwr
  have HINS4 := hid hins4
  have HB4 := hid hbw4
  have HOWN := hid hown
  have HALL := hid hall
  have h2w := HB2.out.size
  subst eM
  clear hrow hwr hins4 hbw4 hown hall hb4 HINS HB1
  have hblk1 : Hid (∀ k, k ≠ w2.heap.size + 1 → (w4.setCell ⟨w2.heap.size + 1, 1, none⟩ (.slice pM (toldAll l all).length cM)).heap[k]? = w4.heap[k]?) := hid (fun k hk => Below.heap_setCell _ _ _ _ hk)
  have hrow1 : Hid ((w4.setCell ⟨w2.heap.size + 1, 1, none⟩ (.slice pM (toldAll l all).length cM)).heap[w2.heap.size + 1]? = some (.cells #[.slice (some ⟨gL, 0, none⟩) l.length cL, .slice pM (toldAll l all).length cM, .slice none 0 0, .int .i64 0, .slice none 0 0, .int .i64 0, .int .i64 0, .int .i64 0, .slice (some ⟨w2.heap.size, 0, none⟩) L L, .slice none 0 0, .slice none 0 0, .int .i64 0, .int .i64 0] 82)) := hid (setCell_row 1 _ HROW.out)
  have hbel1 : Hid (Below w.heap.size w (w4.setCell ⟨w2.heap.size + 1, 1, none⟩ (.slice pM (toldAll l all).length cM))) := hid (HB4.out.setCell (by simp only; omega) _)
  have hsz1 : (w4.setCell ⟨w2.heap.size + 1, 1, none⟩ (.slice pM (toldAll l all).length cM)).heap.size = w4.heap.size := by simp [World.setCell]
  have HSZ1 := hid hsz1
  clear hsz1
  go_upto_region 11 with fail
  go_cut [] (fun wc => ∃ vI, wc.heap[w2.heap.size + 1]? = some (.cells #[.slice (some ⟨gL, 0, none⟩) l.length cL, .slice pM (toldAll l all).length cM, vI, .int .i64 0, .slice none 0 0, .int .i64 0, .int .i64 0, .int .i64 0, .slice (some ⟨w2.heap.size, 0, none⟩) L L, .slice none 0 0, .slice none 0 0, .int .i64 0, .int .i64 0] 82) ∧
    wc.ownsRow w4.heap.size 3 1 vI zs.length (zs.map (.int .i64)) ∧ (∀ k, k < w4.heap.size → k ≠ w2.heap.size + 1 → wc.heap[k]? = w4.heap[k]?) ∧ Below w.heap.size w wc ∧ w4.heap.size ≤ wc.heap.size)
  case first =>
    by_cases hzs : zs.length = 0
    · have hz0' : zs = [] := List.length_eq_zero_iff.1 hzs
      subst hz0'
      go_wp2_with (at_builtin; go_must (refine wpList_append_zero (by rfl) _ _ _ (by rfl) 3 j0 Tryz.underlying22 hj0 p0 c0 (by rfl) (by rfl) ?_))
      go_meet
      refine ⟨.slice none 0 0, setCell_row 2 _ hrow1.out, World.ownsRow_nil _ _ _ _, fun k _ hk => (Below.heap_setCell _ _ _ _ hk).trans (hblk1.out k hk), hbel1.out.setCell (by simp only; omega) _, by simp [World.setCell]⟩
    · obtain ⟨a, cap, ea, hcell, hab⟩ : ∃ a cap, (Value.slice p0 zs.length c0) = .slice (some a) zs.length cap ∧ (∀ (j : Nat) (x : Int), zs[j]? = some x → w.cell? (a.add j) = some (.int .i64 x)) ∧ a.block < w.heap.size := by
        rcases HV.out with ⟨_, h⟩ | ⟨a, cap, h1, h2, h3⟩
        · exact absurd (by rw [h]; rfl) hzs
        · exact ⟨a, cap, h1, h2, h3 (by omega)⟩
      cases ea
      have hnews : ∀ (j : Nat) (u : Value), (zs.map (Value.int .i64))[j]? = some u → (w4.setCell ⟨w2.heap.size + 1, 1, none⟩ (.slice pM (toldAll l all).length cM)).cell? (a.add j) = some u := fun j u hu => by
        rw [List.getElem?_map] at hu
        cases hj : zs[j]? with
        | none => rw [hj] at hu; cases hu
        | some x =>
          rw [hj] at hu
          simp only [Option.map_some, Option.some.injEq] at hu
          subst hu
          have hbl : (a.add j).block = a.block := by unfold Addr.add; split <;> rfl
          rw [hbel1.out.cell (by rw [hbl]; exact hab)]
          exact hcell j x hj
      have HNEWS := hid hnews
      clear hnews hcell
      have hsz2 := HSZ1.out
      go_wp2_with (at_builtin; go_must (refine wpList_append_lies _ (by rfl) _ _ _ (by rfl) w4.heap.size 3 j0 _ 1 8 Tryz.underlying22 hj0 hy0 hy1 hy2 rfl (by omega) _ 0 [] (by rfl) (World.ownsRow_nil _ _ _ _) a zs.length c0 (zs.map (Value.int .i64)) (by rfl) (by simp) HNEWS.out (by simp [Value.oneCell']) (by omega) (by unfold maxLen; omega) (by omega) (by simp [World.setCell]) _ rfl ?_); intro gg gcap w6 hown6 hgrow6 hat6 hlt6; have r6 := (hgrow6.block (w2.heap.size + 1) (by rw [HSZ1.out]; omega) (by simp [Value.ownBlock])).trans hrow1.out; have c6 := cell_of_row w6 _ 2 _ _ _ r6; have f6 := frozen_of_row w6 _ 2 _ _ r6; simp only [List.getElem?_toArray, List.getElem?_cons_zero, List.getElem?_cons_succ] at c6; have HR6 := hid r6; have HO6 := hid hown6; have HG6 := hid hgrow6; clear r6 hown6 hgrow6)
      go_meet
      have hz6 := HG6.out.size
      rw [HSZ1.out] at hz6
      have hgg := (HO6.out.lt gg rfl).1
      refine ⟨_, setCell_row 2 _ HR6.out, ?_, fun k hk hkb => ?_, ?_, by simp [World.setCell]; omega⟩
      · have h := owns_keep (w' := w6.setCell ⟨w2.heap.size + 1, 2, none⟩ (.slice (some ⟨gg, 0, none⟩) (0 + zs.length) gcap)) HO6.out (fun g hg => by
          have e : gg = g := by simpa [Value.ownBlock] using hg
          exact Below.heap_setCell _ _ _ _ (by simp only; omega))
        simpa using h
      · rw [Below.heap_setCell _ _ _ _ hkb, HG6.out.block k (by rw [HSZ1.out]; exact hk) (by simp [Value.ownBlock]), hblk1.out k hkb]
      · exact (hbel1.out.trans ⟨HG6.out.os, HG6.out.tape, HG6.out.output, HG6.out.size, fun k hk => HG6.out.block k (by rw [HSZ1.out]; omega) (by simp [Value.ownBlock])⟩).setCell (by simp only; omega) _
  case rest =>
    obtain ⟨vI, hrw, howI, hblk, hbl, hsz⟩ := hcut
    obtain ⟨B3, hB3⟩ : ∃ B, B = wc.heap.size := ⟨_, rfl⟩
    have HB3 := hid hB3
    have hsz3 : w4.heap.size ≤ B3 := by rw [hB3]; exact hsz
    have HRW := hid hrw
    have HOI := hid howI
    have HBK := hid hblk
    have HBL := hid hbl
    clear hB3 hrw howI hblk hbl hsz m1 m2 f1 f2
    obtain ⟨cn, hcn⟩ : ∃ cn : Nat, cells = (cn : Int) := ⟨cells.toNat, by omega⟩
    subst hcn
    go_wp2_with fail
    go_loopg [13] cn (fun gk x w' => ∃ (k : Nat) (vC : Value), k ≤ cn ∧ gk = cn - k ∧ x = .int .i64 k ∧ w'.heap[w2.heap.size + 1]? = some (.cells #[.slice (some ⟨gL, 0, none⟩) l.length cL, .slice pM (toldAll l all).length cM, vI, .int .i64 0, .slice none 0 0, .int .i64 0, .int .i64 0, .int .i64 0, .slice (some ⟨w2.heap.size, 0, none⟩) L L, .slice none 0 0, vC, .int .i64 0, .int .i64 0] 82) ∧
      w'.ownsRow B3 109 7 vC k ((List.replicate k (⟨false, false, false, false, -1, -1, 0⟩ : RC)).flatMap rcCells) ∧ (∀ j, j < B3 → j ≠ w2.heap.size + 1 → w'.heap[j]? = wc.heap[j]?) ∧ Below w.heap.size w w' ∧ B3 ≤ w'.heap.size)
    case atStart => exact ⟨0, .slice none 0 0, by omega, by omega, rfl, HRW.out, World.ownsRow_nil _ _ _ _, fun _ _ _ => rfl, HBL.out, by rw [HB3.out]; exact Nat.le_refl _⟩
    case round =>
      obtain ⟨k, vC, hk, hgk, rfl, hrw, how, hblk, hbl, hsz⟩ := hrel
      have HR := hid hrw
      have HK := hid hblk
      have HL := hid hbl
      have m10 := cell_of_row wr _ 10 _ _ _ hrw
      have f10 := frozen_of_row wr _ 10 _ _ hrw
      simp only [List.getElem?_toArray, List.getElem?_cons_zero, List.getElem?_cons_succ] at m10
      have hbz : w2.heap.size + 1 < wr.heap.size := by omega
      clear hrw hblk hbl
      rcases Nat.lt_or_ge k cn with hlt | hge
      · have d1 : (k : Int) < (cn : Int) := by omega
        go_wp2_with (at_builtin; go_must (refine wpList_append_lies _ (by rfl) _ _ _ (by rfl) B3 109 i0 _ 7 32 Tryz.underlying78 hi0 hz0 hz1 hz2 rfl (by omega) _ k ((List.replicate k (⟨false, false, false, false, -1, -1, 0⟩ : RC)).flatMap rcCells) (by rfl) (how.alloc _) ⟨_, 0, none⟩ 1 1 [.bool false, .bool false, .bool false, .bool false, .int .i64 (-1), .int .i64 (-1), .int .i64 0] (by rfl) (by rfl) (World.news_of_block (cs := #[.bool false, .bool false, .bool false, .bool false, .int .i64 (-1), .int .i64 (-1), .int .i64 0]) (t := 109) (fr := (0, 0)) (heap_alloc_new _ _)) (by simp [Value.oneCell']) (by omega) (by unfold maxLen; omega) (by omega) (by simp; omega) _ rfl ?_); intro gg gcap w6 hown6 hgrow6 hat6 hlt6; have hfar : ∀ j, j < B3 → some j ≠ vC.ownBlock := (fun j hj e => by have := (how.lt j e.symm).1; omega); have r6 := (hgrow6.block (w2.heap.size + 1) (by simp; omega) (hfar _ (by omega))).trans ((Below.heap_alloc wr _ _ hbz).trans HR.out); have c6 := cell_of_row w6 _ 10 _ _ _ r6; have f6 := frozen_of_row w6 _ 10 _ _ r6; simp only [List.getElem?_toArray, List.getElem?_cons_zero, List.getElem?_cons_succ] at c6; have HR6 := hid r6; have HO6 := hid hown6; have HG6 := hid hgrow6; have HFAR := hid hfar; clear r6 hown6 hgrow6 hfar)
        go_roundg (cn - (k + 1))
        case measure => omega
        case rel =>
          have hgg := (HO6.out.lt gg rfl).1
          have hz6 := HG6.out.size
          rw [alloc_size] at hz6
          refine ⟨k + 1, _, by omega, rfl, by go_num, setCell_row 10 _ HR6.out, ?_, fun j hj hjb => ?_, ?_, by simp [World.setCell]; omega⟩
          · rw [show List.replicate (k + 1) (⟨false, false, false, false, -1, -1, 0⟩ : RC) = List.replicate k ⟨false, false, false, false, -1, -1, 0⟩ ++ [⟨false, false, false, false, -1, -1, 0⟩] from List.replicate_succ', List.flatMap_append]
            exact owns_keep HO6.out (fun g hg => by
              have e : gg = g := by simpa [Value.ownBlock] using hg
              exact Below.heap_setCell _ _ _ _ (by simp only; omega))
          · rw [Below.heap_setCell _ _ _ _ hjb, HG6.out.block j (by rw [alloc_size]; omega) (HFAR.out j hj), Below.heap_alloc _ _ _ (by omega), HK.out j hj hjb]
          · have hb0 : Below w.heap.size w (wr.alloc (.cells #[.bool false, .bool false, .bool false, .bool false, .int .i64 (-1), .int .i64 (-1), .int .i64 0] 109)) := HL.out.alloc HL.out.size _
            exact (hb0.trans ⟨HG6.out.os, HG6.out.tape, HG6.out.output, HG6.out.size, fun j hj => HG6.out.block j (by rw [alloc_size]; omega) (HFAR.out j (by omega))⟩).setCell (by simp only; omega) _
      · have d1 : ¬ (k : Int) < (cn : Int) := by omega
        have hkc : k = cn := by omega
        subst hkc
        go_wp2_with fail
        refine bodyPost_ret (v := .tuple #[.pointer (some ⟨w2.heap.size + 1, 0, none⟩), .int .i64 0]) (by simp [results, Tryz.results22, go_sem]) rfl ⟨w2.heap.size + 1, rfl, HL.out, gL, cL, w2.heap.size, .slice pM (toldAll l all).length cM, vI, vC, all, w2.heap.size + 1 + 1, w4.heap.size, B3, ?_⟩
        rw [HLc.out, HLL.out]
        have hk4 : ∀ j, j < w4.heap.size → j ≠ w2.heap.size + 1 → wr.heap[j]? = w4.heap[j]? := fun j hj hjb => (HK.out j (by omega) hjb).trans (HBK.out j hj hjb)
        refine ⟨HR.out, ⟨hgLw, hgL2, by omega, by omega, hz4, hsz3, hsz⟩, HINS4.out.same2 (hk4 gL (by omega) (by omega)), HERR.out, HWT.out, HALL.out, (OwnIn.of HOWN.out).keep (fun g h1 h2 => hk4 g h2 (by omega)), owns_keep HOI.out (fun g hg => HK.out g (by rw [HB3.out]; exact (HOI.out.lt g hg).2) (by have := (HOI.out.lt g hg).1; omega)), fun g hg => by rw [HB3.out]; exact (HOI.out.lt g hg).2, by simpa using how, (hk4 _ (by omega) (by omega)).trans HWR.out⟩
/-- Where the reference's machine lies: what no step changes. -/
structure RK where
  b : Nat
  gL : Nat
  cL : Nat
  gLo : Nat
  vM : Value
  vI : Value
  gC : Nat
  cC : Nat
  A : Nat
  B1 : Nat
  B2 : Nat
  B3 : Nat
  B4 : Nat
  l : List Ins
  ms : List MP
  zs : List Int
def RK.row (K : RK) (vO vS : Value) (s : MS) : Array Value :=
  #[.slice (some ⟨K.gL, 0, none⟩) K.l.length K.cL, K.vM, K.vI, .int .i64 s.rd, vO, .int .i64 s.oc, .int .i64 s.va, .int .i64 s.at_, .slice (some ⟨K.gLo, 0, none⟩) s.lo.length s.lo.length, vS, .slice (some ⟨K.gC, 0, none⟩) s.hs.1.length K.cC, .int .i64 s.hs.2.1, .int .i64 s.hs.2.2]
structure RM (w : World) (K : RK) (vO vS : Value) (s : MS) : Prop where
  row : w.heap[K.b]? = some (.cells (K.row vO vS s) 82)
  o1 : K.A ≤ K.gL
  o2 : K.gL < K.gLo
  o3 : K.gLo < K.b
  o4 : K.b < K.B1
  o5 : K.B1 ≤ K.B2
  o6 : K.B2 ≤ K.B3
  o7 : K.B3 ≤ K.gC
  o8 : K.gC < K.B4
  o9 : K.B4 ≤ w.heap.size
  ins : InsAt w K.gL K.l
  maps : OwnIn w K.B1 K.B2 K.vM K.ms
  inp : w.ownsRow K.B2 3 1 K.vI K.zs.length (K.zs.map (.int .i64))
  inb : ∀ g, K.vI.ownBlock = some g → g < K.B3
  loc : w.heap[K.gLo]? = some (.cells (s.lo.flatMap wdCells).toArray 116)
  cells : w.ownsRow K.B3 109 7 (.slice (some ⟨K.gC, 0, none⟩) s.hs.1.length K.cC) s.hs.1.length (s.hs.1.flatMap rcCells)
  stk : w.ownsRow K.B4 116 2 vS s.st.length (s.st.flatMap wdCells)
  out : w.ownsRow K.B4 3 1 vO s.out.length (s.out.map (.int .i64))
  apart : ∀ g, vS.ownBlock = some g → vO.ownBlock ≠ some g
/-- The blocks of the reference's machine. -/
def RK.In (K : RK) (vO vS : Value) (k : Nat) : Prop := (K.A ≤ k ∧ k < K.B4) ∨ vS.ownBlock = some k ∨ vO.ownBlock = some k
theorem RM.keep {w w' : World} {K : RK} {vO vS : Value} {s : MS} (h : RM w K vO vS s) (hz : w.heap.size ≤ w'.heap.size) (hk : ∀ k, k < w.heap.size → K.In vO vS k → w'.heap[k]? = w.heap[k]?) : RM w' K vO vS s := by
  have o1 := h.o1
  have o2 := h.o2
  have o3 := h.o3
  have o4 := h.o4
  have o5 := h.o5
  have o6 := h.o6
  have o7 := h.o7
  have o8 := h.o8
  have o9 := h.o9
  have hin : ∀ k, K.A ≤ k → k < K.B4 → w'.heap[k]? = w.heap[k]? := fun k h1 h2 => hk k (by omega) (.inl ⟨h1, h2⟩)
  refine ⟨(hin _ (by omega) (by omega)).trans h.row, o1, o2, o3, o4, o5, o6, o7, o8, by omega, h.ins.same2 (hin _ (by omega) (by omega)), h.maps.keep (fun g h1 h2 => hin g (by omega) (by omega)), owns_keep h.inp (fun g hg => hin g (by have := (h.inp.lt g hg).1; omega) (by have := h.inb g hg; omega)), h.inb, (hin _ (by omega) (by omega)).trans h.loc, owns_keep h.cells (fun g hg => ?_), owns_keep h.stk (fun g hg => hk g (h.stk.lt g hg).2 (.inr (.inl hg))), owns_keep h.out (fun g hg => hk g (h.out.lt g hg).2 (.inr (.inr hg))), h.apart⟩
  simp only [Value.ownBlock, Option.some.injEq] at hg
  subst hg
  exact hin _ (by omega) (by omega)
theorem RM.below {w w' : World} {K : RK} {vO vS : Value} {s : MS} (h : RM w K vO vS s) (hb : Below w.heap.size w w') : RM w' K vO vS s := h.keep hb.size (fun k hk _ => hb.block k hk)
theorem RM.of_new {s : ByteArray} {zs : List Int} {cells : Int} {w w' : World} {b : Nat} (h : RNew s zs cells w w' b) (hc : 1 ≤ cells) :
    ∃ K all, K.b = b ∧ K.A = w.heap.size ∧ K.l = codeOf s ∧ K.zs = zs ∧ K.ms = toldAll (codeOf s) all ∧ (∀ p, Reach (codeOf s) (byteAt s 1) p ↔ p ∈ all) ∧ errOf s = 0 ∧ WT (codeOf s) (byteAt s 1) ∧ RM w' K (.slice none 0 0) (.slice none 0 0) (startS (byteAt s 1) cells.toNat) := by
  obtain ⟨hb, gL, cL, gLo, vM, vI, vC, all, B1, B2, B3, hrow, ⟨h1, h2, h3, h4, h5, h6, h7⟩, hins, herr, hwt, hall, hm, hi, hib, hcs, hlo⟩ := h
  have hcs' := hcs
  rcases hcs.2 with ⟨_, e⟩ | ⟨gC, cC, cur, hv, hg, r⟩
  · omega
  subst hv
  have hgz := (hcs.lt gC rfl).2
  refine ⟨⟨b, gL, cL, gLo, vM, vI, gC, cC, w.heap.size, B1, B2, B3, w'.heap.size, codeOf s, toldAll (codeOf s) all, zs⟩, all, rfl, rfl, rfl, rfl, rfl, hall, herr, hwt, ?_⟩
  exact ⟨by simpa [RK.row, startS] using hrow, h1, h2, h3, h4, h5, h6, hg, hgz, Nat.le_refl _, hins, hm, hi, hib, hlo, by simpa [startS] using hcs', World.ownsRow_nil _ _ _ _, World.ownsRow_nil _ _ _ _, fun g hg => by (cases hg)⟩
/-- New's error is one of these. -/
theorem newErr_all (s : ByteArray) (n : Nat) (cells : Int) : ∃ r : Nat, NewErr s n cells r := by
  obtain ⟨r, hr⟩ : ∃ r, IsErr s r := by
    by_cases h : errOf s = 0
    · by_cases hw : WT (codeOf s) (byteAt s 1)
      · exact ⟨0, .inr (.inl ⟨h, hw, rfl⟩)⟩
      · exact ⟨5, .inr (.inr ⟨h, hw, rfl⟩)⟩
    · exact ⟨errOf s, .inl ⟨h, rfl⟩⟩
  by_cases h0 : r = 0
  · subst h0
    by_cases h1 : cells < 1 ∨ 32 < cells
    · exact ⟨6, .inr (.inl ⟨hr, h1, rfl⟩)⟩
    · by_cases h2 : 64 < n
      · exact ⟨7, .inr (.inr (.inl ⟨hr, by omega, by omega, h2, rfl⟩))⟩
      · exact ⟨0, .inr (.inr (.inr ⟨hr, by omega, by omega, by omega, rfl⟩))⟩
  · exact ⟨r, .inl ⟨h0, hr⟩⟩
/-- The law's world at its beginning: both machines, nothing kept. -/
def lawRow (kb rb : Nat) (s : ByteArray) (mark : Int) (v4 v5 v6 v7 v8 v9 v10 v11 : Value) : Array Value := #[.pointer (some ⟨kb, 0, none⟩), .pointer (some ⟨rb, 0, none⟩), .string s, .int .i64 mark, v4, v5, v6, v7, v8, v9, v10, v11]
structure Begun (s : ByteArray) (zs : List Int) (n : Nat) (w w' : World) (q : Nat) (K : PK) (R : RK) : Prop where
  below : Below w.heap.size w w'
  lq : q < w'.heap.size
  row : w'.heap[q]? = some (.cells (lawRow K.b R.b s (-1000) (.slice none 0 0) (.slice none 0 0) (.slice none 0 0) (.slice none 0 0) (.slice none 0 0) (.slice none 0 0) (.slice none 0 0) (.slice none 0 0)) 58)
  err : errOf s = 0
  wt : WT (codeOf s) (byteAt s 1)
  inv : SetInv (codeOf s) (byteAt s 1) K.fs
  still : Still (codeOf s) K.fs
  kl : K.l = codeOf s
  kL : K.L = byteAt s 1
  kz : K.zs = zs
  rl : R.l = codeOf s
  rz : R.zs = zs
  rms : ∃ all, R.ms = toldAll (codeOf s) all ∧ ∀ p, Reach (codeOf s) (byteAt s 1) p ↔ p ∈ all
  apart : K.B4 ≤ R.A
  qa : R.B4 ≤ q
  ka : w.heap.size ≤ K.A
  pm : ∃ vI, PM w' K vI (.slice none 0 0) [0, 0, 0, 0] [0, 0, 0, 0, 0, 0, 0, 0] (startS (byteAt s 1) n)
  rm : RM w' R (.slice none 0 0) (.slice none 0 0) (startS (byteAt s 1) n)
def BeginPost (s : ByteArray) (zs : List Int) (cells : Int) (w : World) (e : Ending) (w' : World) : Prop :=
  (∃ r : Nat, r ≠ 0 ∧ NewErr s zs.length cells r ∧ e = .returned (.tuple #[.pointer none, .bool true]) ∧ Below w.heap.size w w') ∨
  (∃ n q K R, cells = ((n : Nat) : Int) ∧ NewErr s zs.length cells 0 ∧ e = .returned (.tuple #[.pointer (some ⟨q, 0, none⟩), .bool true]) ∧ Begun s zs n w w' q K R)
theorem begin_bad (s : ByteArray) (vi : Value) (zs : List Int) (cells : Int) (w : World) (hs : s.size ≤ maxLen) (t1 : TakesTab w) (t2 : TypeTab w) (t3 : FlowTab w) (hv : ArgInts w vi zs) (hlen : zs.length ≤ 17592186044416) (r : Nat) (hr : r ≠ 0) (he : NewErr s zs.length cells r) :
    Calls Tryz.prog 9 #[.string s, vi, .int .i64 cells] w (BeginPost s zs cells w) := by
  have hsp := hid (spare_any vi zs w hv hlen)
  have hpn := hid (fun (W : World) (hb : Below w.heap.size w W) (v : Value) (hv : ZsAt W v zs) => pnew_bad s v zs cells W hs (t3.below hb) hv r hr he)
  have hrn := hid (fun (W : World) (hb : Below w.heap.size w W) (v : Value) (hv : ArgInts W v zs) => rnew_bad s v zs cells W hs (t1.below hb) (t2.below hb) hv (by omega) r hr he)
  have hst := hid (fun (W : World) (v : Value) (g : Nat) (hv : ZsAt W v zs) (hr : W.heap[g]? = some (.cells (zs.map (Value.int .i64) ++ [Value.int .i64 7, Value.int .i64 7]).toArray 3)) => still_any v zs g W hv hlen hr)
  have hnm := hid (fun (r : Nat) (W : World) => num_any r W)
  have HV := hid hv
  obtain ⟨p0, c0, e0⟩ := hv.slice
  subst e0
  clear hv hs t1 t2 t3
  go_enter Tryz.func9, Tryz.ntmps9
  go_wp2_with fail
  refine hsp.out.mono ?_
  clear hsp
  intro x w1 hp
  obtain ⟨hb1, g, hg, hx, hrow⟩ := hp
  subst x
  have hgz : g < w1.heap.size := (Array.getElem?_eq_some_iff.1 hrow).1
  have hp1 := hid (hpn.out w1 hb1 _ (ZsAt.of_row (cap := zs.length + 2) hrow))
  clear hpn
  go_wp2_with fail
  refine hp1.out.mono ?_
  clear hp1
  intro x w2 hp
  obtain ⟨hx, hb2⟩ := hp
  subst x
  have hb02 : Below w.heap.size w w2 := hb1.trans (hb2.mono hb1.size)
  have hrow2 := (hb2.block g hgz).trans hrow
  have hv2 : ArgInts w2 (.slice p0 zs.length c0) zs := by
    rcases HV.out with h | ⟨a, ca, ea, hc, hl⟩
    · exact .inl h
    · refine .inr ⟨a, ca, ea, fun j x hj => ?_, fun hp => Nat.lt_of_lt_of_le (hl hp) hb02.size⟩
      have hbl : (a.add j).block = a.block := by unfold Addr.add; split <;> rfl
      have hp : 0 < zs.length := Nat.lt_of_le_of_lt (Nat.zero_le _) (List.getElem?_eq_some_iff.1 hj).1
      exact (World.cell?_of_block (a := a.add j) (by rw [hbl]; exact hb02.block _ (hl hp))).trans (hc j x hj)
  have hr1 := hid (hrn.out w2 hb02 _ hv2)
  clear hrn
  go_wp2_with fail
  refine hr1.out.mono ?_
  clear hr1
  intro x w3 hp
  obtain ⟨hx, hb3⟩ := hp
  subst x
  have hgz2 : g < w2.heap.size := (Array.getElem?_eq_some_iff.1 hrow2).1
  have hrow3 := (hb3.block g hgz2).trans hrow2
  have hs1 := hid (hst.out w3 _ g (hv2.zs hb3) hrow3)
  have hb03 : Below w.heap.size w w3 := hb02.trans (hb3.mono hb02.size)
  clear hst
  go_wp2_with fail
  refine hs1.out.mono ?_
  clear hs1
  intro x w4 hp
  obtain ⟨hx, nd, hw4⟩ := hp
  subst x
  have hb04 : Below w.heap.size w w4 := by rw [hw4]; exact ⟨hb03.os, hb03.tape, hb03.output, hb03.size, hb03.block⟩
  have hrow4 : w4.heap[g]? = some (.cells (zs.map (Value.int .i64) ++ [Value.int .i64 7, Value.int .i64 7]).toArray 3) := by rw [hw4]; exact hrow3
  have HB04 := hid hb04
  clear hw4 hb1 hb2 hb02 hb3 hb03 hrow hrow2 hrow3 hv2 hb04 HV
  go_wp2_with fail
  have hr0 : ∃ r : Array Value, w4.heap[g]? = some (.cells r 3) ∧ r.size = zs.length + 2 := ⟨_, hrow4, by simp⟩
  have HR0 := hid hr0
  clear hrow4 hr0
  go_loopg [14] zs.length (fun k x w' => ∃ j : Nat, j ≤ zs.length ∧ k = zs.length - j ∧ x = .int .i64 j ∧ Only g w4 w' ∧ ∃ r : Array Value, w'.heap[g]? = some (.cells r 3) ∧ r.size = zs.length + 2)
  case atStart => exact ⟨0, by omega, by omega, rfl, Only.refl _ _, HR0.out⟩
  case round =>
    obtain ⟨j, hj, hgk, rfl, ho, r5, hr5, hz5⟩ := hrel
    have HO := hid ho
    clear ho
    rcases Nat.lt_or_ge j zs.length with hlt | hge
    · have d0 : (0 : Int) ≤ (j : Int) := by omega
      have d1 : (j : Int) < (zs.length : Int) := by omega
      have c0 := cell_of_row wr g j _ _ _ hr5
      rw [Array.getElem?_eq_getElem (by omega)] at c0
      have f0 := frozen_of_row wr g j _ _ hr5
      have hr6 := setCell_row j (.int .i64 (-7)) hr5
      have HR6 : Hid (∃ r : Array Value, (wr.setCell ⟨g, j, none⟩ (.int .i64 (-7))).heap[g]? = some (.cells r 3) ∧ r.size = zs.length + 2) := hid ⟨_, hr6, by simpa using hz5⟩
      generalize r5[j] = z at *
      clear hr6 hr5
      go_wp2_with fail
      go_roundg (zs.length - (j + 1))
      case measure => omega
      case rel => exact ⟨j + 1, by omega, rfl, by go_num, HO.out.set _ _, HR6.out⟩
    · have d1 : ¬ (j : Int) < (zs.length : Int) := by omega
      have hn1 := hid (hnm.out r wr)
      have HBR := hid (HB04.out.trans (HO.out.below hg))
      clear hr5 hnm
      go_wp2_with fail
      refine hn1.out.mono ?_
      clear hn1
      intro x w6 hp
      obtain ⟨hx, hw⟩ := hp
      subst x
      subst w6
      go_wp2_with fail
      exact bodyPost_ret (v := .tuple #[.pointer none, .bool true]) (by simp [results, Tryz.results9, go_sem]) rfl (.inl ⟨r, hr, he, rfl, HBR.out⟩)
theorem begin_ok (s : ByteArray) (vi : Value) (zs : List Int) (cells : Int) (w : World) (hs : s.size ≤ maxLen) (t1 : TakesTab w) (t2 : TypeTab w) (t3 : FlowTab w) (hv : ArgInts w vi zs) (hlen : zs.length ≤ 17592186044416) (n : Nat) (hcn : cells = (n : Int)) (he : NewErr s zs.length cells 0) :
    Calls Tryz.prog 9 #[.string s, vi, .int .i64 cells] w (BeginPost s zs cells w) := by
  subst hcn
  have hsp := hid (spare_any vi zs w hv hlen)
  have hpn := hid (fun (W : World) (hb : Below w.heap.size w W) (v : Value) (hv : ArgInts W v zs) => pnew_ok s v zs n W hs (t3.below hb) hv he)
  have hrn := hid (fun (W : World) (hb : Below w.heap.size w W) (v : Value) (hv : ArgInts W v zs) => rnew_ok s v zs (n : Int) W hs (t1.below hb) (t2.below hb) hv he)
  have hst := hid (fun (W : World) (v : Value) (g : Nat) (hv : ZsAt W v zs) (hr : W.heap[g]? = some (.cells (zs.map (Value.int .i64) ++ [Value.int .i64 7, Value.int .i64 7]).toArray 3)) => still_any v zs g W hv hlen hr)
  have hnm := hid (fun (r : Nat) (W : World) => num_any r W)
  have HV := hid hv
  obtain ⟨p0, c0, e0⟩ := hv.slice
  subst e0
  clear hv hs t1 t2 t3
  go_enter Tryz.func9, Tryz.ntmps9
  go_wp2_with fail
  refine hsp.out.mono ?_
  clear hsp
  intro x w1 hp
  obtain ⟨hb1, g, hg, hx, hrow⟩ := hp
  subst x
  have hgz : g < w1.heap.size := (Array.getElem?_eq_some_iff.1 hrow).1
  have hp1 := hid (hpn.out w1 hb1 _ (.inr ⟨⟨g, 0, none⟩, zs.length + 2, rfl, fun j x hj => by
    rw [addr_add, cell_of_row w1 g j _ _ _ hrow, List.getElem?_toArray, List.getElem?_append_left (by simpa using (List.getElem?_eq_some_iff.1 hj).1), List.getElem?_map, hj]; rfl, fun _ => hgz⟩))
  clear hpn
  go_wp2_with fail
  refine hp1.out.mono ?_
  clear hp1
  intro x w2 hp
  obtain ⟨K, hx, hPN⟩ := hp
  subst x
  have hb2 := hPN.below
  have hb02 : Below w.heap.size w w2 := hb1.trans (hb2.mono hb1.size)
  have hrow2 := (hb2.block g hgz).trans hrow
  have hv2 : ArgInts w2 (.slice p0 zs.length c0) zs := by
    rcases HV.out with h | ⟨a, ca, ea, hc, hl⟩
    · exact .inl h
    · refine .inr ⟨a, ca, ea, fun j x hj => ?_, fun hp => Nat.lt_of_lt_of_le (hl hp) hb02.size⟩
      have hbl : (a.add j).block = a.block := by unfold Addr.add; split <;> rfl
      have hp : 0 < zs.length := Nat.lt_of_le_of_lt (Nat.zero_le _) (List.getElem?_eq_some_iff.1 hj).1
      exact (World.cell?_of_block (a := a.add j) (by rw [hbl]; exact hb02.block _ (hl hp))).trans (hc j x hj)
  have hr1 := hid (hrn.out w2 hb02 _ hv2)
  clear hrn
  go_wp2_with fail
  refine hr1.out.mono ?_
  clear hr1
  intro x w3 hp
  obtain ⟨rb, hx, hRN⟩ := hp
  subst x
  have hb3 := hRN.below
  have hgz2 : g < w2.heap.size := (Array.getElem?_eq_some_iff.1 hrow2).1
  have hrow3 := (hb3.block g hgz2).trans hrow2
  have hs1 := hid (hst.out w3 _ g (hv2.zs hb3) hrow3)
  have hb03 : Below w.heap.size w w3 := hb02.trans (hb3.mono hb02.size)
  clear hst
  go_wp2_with fail
  refine hs1.out.mono ?_
  clear hs1
  intro x w4 hp
  obtain ⟨hx, nd, hw4⟩ := hp
  subst x
  have hb04 : Below w.heap.size w w4 := by rw [hw4]; exact ⟨hb03.os, hb03.tape, hb03.output, hb03.size, hb03.block⟩
  have hrow4 : w4.heap[g]? = some (.cells (zs.map (Value.int .i64) ++ [Value.int .i64 7, Value.int .i64 7]).toArray 3) := by rw [hw4]; exact hrow3
  obtain ⟨R, all, eb, eA, el, ez, ems, hall, herr, hwt, hRM⟩ := RM.of_new hRN (by
    rcases he with ⟨h, _⟩ | ⟨_, _, h⟩ | ⟨_, _, _, _, h⟩ | ⟨_, h2, _⟩
    · exact absurd rfl h
    · cases h
    · cases h
    · exact h2)
  rw [Int.toNat_natCast] at hRM
  subst eb
  obtain ⟨vI, hPM⟩ := hPN.m
  have hh4 : ∀ k : Nat, w4.heap[k]? = w3.heap[k]? := fun k => by rw [hw4]; rfl
  have hz4 : w4.heap.size = w3.heap.size := by rw [hw4]; rfl
  have hA := hPN.A
  have hB4 := hPN.B4
  have HPM4 := hid (hPM.keep (w' := w4) (by rw [hz4]; exact hb3.size) (fun k hk _ => (hh4 k).trans (hb3.block k hk)))
  have HRM4 := hid (hRM.keep (w' := w4) (by rw [hz4]; exact Nat.le_refl _) (fun k _ _ => hh4 k))
  have HPN := hid hPN
  have HB04 := hid hb04
  have hRz := hRM.o9
  have hRA1 := hRM.o1
  have hRA2 := hRM.o2
  have hRA3 := hRM.o3
  have hRA4 := hRM.o4
  have hz23 := hb3.size
  clear hw4 hb1 hb2 hb02 hb3 hb03 hrow hrow2 hrow3 hv2 hb04 HV hRM hPM hRN hPN hh4
  go_wp2_with fail
  have hr0 : ∃ r : Array Value, w4.heap[g]? = some (.cells r 3) ∧ r.size = zs.length + 2 := ⟨_, hrow4, by simp⟩
  have HR0 := hid hr0
  clear hrow4 hr0
  go_loopg [14] zs.length (fun k x w' => ∃ j : Nat, j ≤ zs.length ∧ k = zs.length - j ∧ x = .int .i64 j ∧ Only g w4 w' ∧ ∃ r : Array Value, w'.heap[g]? = some (.cells r 3) ∧ r.size = zs.length + 2)
  case atStart => exact ⟨0, by omega, by omega, rfl, Only.refl _ _, HR0.out⟩
  case round =>
    obtain ⟨j, hj, hgk, rfl, ho, r5, hr5, hz5⟩ := hrel
    have HO := hid ho
    clear ho
    rcases Nat.lt_or_ge j zs.length with hlt | hge
    · have d0 : (0 : Int) ≤ (j : Int) := by omega
      have d1 : (j : Int) < (zs.length : Int) := by omega
      have c0 := cell_of_row wr g j _ _ _ hr5
      rw [Array.getElem?_eq_getElem (by omega)] at c0
      have f0 := frozen_of_row wr g j _ _ hr5
      have hr6 := setCell_row j (.int .i64 (-7)) hr5
      have HR6 : Hid (∃ r : Array Value, (wr.setCell ⟨g, j, none⟩ (.int .i64 (-7))).heap[g]? = some (.cells r 3) ∧ r.size = zs.length + 2) := hid ⟨_, hr6, by simpa using hz5⟩
      generalize r5[j] = z at *
      clear hr6 hr5
      go_wp2_with fail
      go_roundg (zs.length - (j + 1))
      case measure => omega
      case rel => exact ⟨j + 1, by omega, rfl, by go_num, HO.out.set _ _, HR6.out⟩
    · have d1 : ¬ (j : Int) < (zs.length : Int) := by omega
      have hn1 := hid (fun W => hnm.out 0 W)
      have HBR := hid (HB04.out.trans (HO.out.below hg))
      clear hr5 hnm
      go_wp2_with fail
      refine (hn1.out _).mono ?_
      clear hn1
      intro x w6 hp
      obtain ⟨hx, hw6⟩ := hp
      subst x
      have HW6 := hid hw6
      clear hw6
      go_wp2_with fail
      refine bodyPost_ret (v := .tuple #[.pointer (some ⟨wr.heap.size, 0, none⟩), .bool true]) (by simp [results, Tryz.results9, go_sem]) rfl (.inr ⟨n, wr.heap.size, K, R, rfl, he, rfl, ?_⟩)
      have hw6 := HW6.out
      have hzr : wr.heap.size = w4.heap.size := HO.out.size
      have hP := HPN.out
      subst hw6
      have hkeep : ∀ k : Nat, k < w4.heap.size → k ≠ g → (wr.alloc (.cells #[.pointer (some ⟨K.b, 0, none⟩), .pointer (some ⟨R.b, 0, none⟩), .string s, .int .i64 (-1000), .slice none 0 0, .slice none 0 0, .slice none 0 0, .slice none 0 0, .slice none 0 0, .slice none 0 0, .slice none 0 0, .slice none 0 0] 58)).heap[k]? = w4.heap[k]? := fun k hk hne => (Below.heap_alloc _ _ _ (by omega)).trans (HO.out.block k hne)
      have hKin : ∀ k, K.In (.slice none 0 0) k → k ≠ g := fun k hk => by
        rcases hk with ⟨h1, _⟩ | h
        · omega
        · cases h
      have hRin : ∀ k, R.In (.slice none 0 0) (.slice none 0 0) k → k ≠ g := fun k hk => by
        rcases hk with ⟨h1, _⟩ | h | h
        · omega
        · cases h
        · cases h
      refine ⟨HBR.out.alloc (by omega) _, by simp, heap_alloc_new _ _, hP.err, hP.wt, hP.inv, hP.still, hP.l, hP.L, hP.z, el, ez, ⟨all, ems, hall⟩, by omega, by omega, by omega, ⟨vI, HPM4.out.keep (by simp; omega) (fun k hk h => hkeep k hk (hKin k h))⟩, HRM4.out.keep (by simp; omega) (fun k hk h => hkeep k hk (hRin k h))⟩
theorem begin_any (s : ByteArray) (vi : Value) (zs : List Int) (cells : Int) (w : World) (hs : s.size ≤ maxLen) (t1 : TakesTab w) (t2 : TypeTab w) (t3 : FlowTab w) (hv : ArgInts w vi zs) (hlen : zs.length ≤ 17592186044416) :
    Calls Tryz.prog 9 #[.string s, vi, .int .i64 cells] w (BeginPost s zs cells w) := by
  obtain ⟨r, hr⟩ := newErr_all s zs.length cells
  by_cases h0 : r = 0
  · subst h0
    have hc : 1 ≤ cells := by
      rcases hr with ⟨h, _⟩ | ⟨_, _, h⟩ | ⟨_, _, _, _, h⟩ | ⟨_, h2, _⟩
      · exact absurd rfl h
      · cases h
      · cases h
      · exact h2
    exact begin_ok s vi zs cells w hs t1 t2 t3 hv hlen cells.toNat (by omega) hr
  · exact begin_bad s vi zs cells w hs t1 t2 t3 hv hlen r h0 hr
end Go.Proofs.YtdmdpindonghdaaGreatDoor
