/- The contracts of the program's load and Check. -/
import Derived.Test.YteocjidfbbekfaaDoorCodeD
import Derived.Test.YteocjidfbbekfaaDoorFlowP
namespace Go.Proofs.YteocjidfbbekfaaDoor
open Go.RowKit

structure Loaded (s : ByteArray) (w w' : World) (g cap bf : Nat) (fs : List Fr) : Prop where
  err : errOf s = 0
  wt : WT (codeOf s) (byteAt s 1)
  g1 : w.heap.size ≤ g
  g2 : g < w'.heap.size
  ci : CiAt w' g (aims (codeOf s))
  b1 : w.heap.size ≤ bf
  all : AllAt w' bf fs
  inv : SetInv (codeOf s) (byteAt s 1) fs
  still : Still (codeOf s) fs
def LoadPost (s : ByteArray) (w : World) (e : Ending) (w' : World) : Prop :=
  Below w.heap.size w w' ∧ ((∃ r : Nat, r ≠ 0 ∧ IsErr s r ∧ e = .returned (.tuple #[.agg #[.int .i64 0, .slice none 0 0], .slice none 0 0, .int .i64 r])) ∨
    (∃ g cap bf fs, e = .returned (.tuple #[.agg #[.int .i64 (byteAt s 1 : Nat), .slice (some ⟨g, 0, none⟩) (codeOf s).length cap], .slice (some ⟨bf, 0, none⟩) (codeOf s).length (codeOf s).length, .int .i64 0]) ∧ Loaded s w w' g cap bf fs))

set_option maxRecDepth 100000 in
set_option maxHeartbeats 1000000 in
theorem tload_any (s : ByteArray) (w : World) (hs : s.size ≤ maxLen) (htab : FlowTab w) :
    Calls Tryd.prog 11 #[.string s] w (LoadPost s w) := by
  have hrd := hid (fun W => read_any s W hs)
  have HTB := hid htab
  clear hs htab
  go_enter Tryd.func11, Tryd.ntmps11
  go_wp2_with fail
  refine (hrd.out _).mono ?_
  clear hrd
  intro x w2 hp
  obtain ⟨hb, hp⟩ := hp
  have hb1 := instr_below hb
  clear hb
  rcases hp with ⟨he, hx⟩ | ⟨he, g, cap, hx, hg1, hg2, hat⟩
  · subst x
    have hz := hb1.size
    rw [alloc_size] at hz
    have hb2 : Below (w.heap.size + 1) (w.alloc (.cells #[.int .i64 0, .slice none 0 0] 35)) (w2.alloc (.cells #[.int .i64 0, .slice none 0 0] 35)) := hb1.alloc hz _
    obtain ⟨bx, bo, hz2⟩ := box_cells hb2
    have x0 := bx 0
    have x1 := bx 1
    simp only [List.getElem?_toArray, List.getElem?_cons_zero, List.getElem?_cons_succ] at x0 x1
    have hf0 := hb2.frozen (p := ⟨w.heap.size, 0, none⟩) (by simp)
    have hf1 := hb2.frozen (p := ⟨w.heap.size, 1, none⟩) (by simp)
    have hne : ((errOf s : Int) != 0) = true := by simp; omega
    have HE : Hid (IsErr s (errOf s)) := hid (.inl ⟨he, rfl⟩)
    have HN := hid he
    clear bx bo he hb1
    go_wp2_with fail
    refine bodyPost_ret (v := .tuple #[.agg #[.int .i64 0, .slice none 0 0], .slice none 0 0, .int .i64 (errOf s : Nat)]) (by simp [results, Tryd.results11, go_sem, x0, x1]) rfl ⟨two_set hb2, .inl ⟨errOf s, HN.out, HE.out, rfl⟩⟩
  · subst x
    have hz := hb1.size
    rw [alloc_size] at hz
    have hb2 : Below (w.heap.size + 1) (w.alloc (.cells #[.int .i64 0, .slice none 0 0] 35)) (w2.alloc (.cells #[.int .i64 (byteAt s 1 : Nat), .slice (some ⟨g, 0, none⟩) (codeOf s).length cap] 35)) := hb1.alloc hz _
    have HW := hid (wf_of he)
    have HE := hid he
    have hgz : w.heap.size + 1 ≤ g := by simpa using hg1
    have hbw : Below w.heap.size w (w2.alloc (.cells #[.int .i64 (byteAt s 1 : Nat), .slice (some ⟨g, 0, none⟩) (codeOf s).length cap] 35)) := box_below (Nat.le_refl _) hb2
    have hfr := hid (frames_any HW.out g cap _ (hat.same (Below.heap_alloc w2 (.cells #[.int .i64 (byteAt s 1 : Nat), .slice (some ⟨g, 0, none⟩) (codeOf s).length cap] 35) _ hg2)) (by rw [alloc_size]; omega) (HTB.out.below hbw))
    have HAT := hid hat
    generalize hLL : byteAt s 1 = L at *
    have HLL := hid hLL
    generalize hl : codeOf s = l at *
    have HL := hid hl
    clear hat he hbw hl hg1 hLL
    go_wp2_with fail
    refine hfr.out.mono ?_
    clear hfr
    intro x w3 hp
    obtain ⟨hb3, hp⟩ := hp
    have hz3 := hb3.size
    rw [alloc_size] at hz3
    have hb4 : Below (w.heap.size + 1) (w.alloc (.cells #[.int .i64 0, .slice none 0 0] 35)) w3 := hb2.trans (hb3.mono (by rw [alloc_size]; omega))
    obtain ⟨bx, bo, hz2⟩ := box_cells hb4
    have x0 := bx 0
    have x1 := bx 1
    simp only [List.getElem?_toArray, List.getElem?_cons_zero, List.getElem?_cons_succ] at x0 x1
    have hf0 := hb4.frozen (p := ⟨w.heap.size, 0, none⟩) (by simp)
    have hf1 := hb4.frozen (p := ⟨w.heap.size, 1, none⟩) (by simp)
    have HB3 := hid hb3
    rcases hp with ⟨hn, rfl⟩ | ⟨fs, bf, rfl, hbf, hall, hinv, hst⟩
    · have HE5 : Hid (IsErr s 5) := hid (.inr (.inr ⟨HE.out, by rw [HL.out, HLL.out]; exact hn, rfl⟩))
      clear hn bx bo hb3
      go_wp2_with fail
      exact bodyPost_ret (v := .tuple #[.agg #[.int .i64 0, .slice none 0 0], .slice none 0 0, .int .i64 5]) (by simp [results, Tryd.results11, go_sem, x0, x1]) rfl ⟨two_set hb4, .inl ⟨5, by decide, HE5.out, rfl⟩⟩
    · obtain ⟨px, po, pz⟩ := box_cells (hb3.mono (by rw [alloc_size]; omega))
      have y0 := px 0
      have y1 := px 1
      simp only [List.getElem?_toArray, List.getElem?_cons_zero, List.getElem?_cons_succ] at y0 y1
      have hbf2 : w2.heap.size + 1 ≤ bf := by rw [alloc_size] at hbf; exact hbf
      have HALL := hid hall
      have HINV := hid hinv
      have HST := hid hst
      have HWT := hid (still_wt HW.out hinv.ok hst hinv.cov)
      have HCI := hid (HAT.out.same ((hb3.block g (by rw [alloc_size]; omega)).trans (Below.heap_alloc w2 _ _ hg2)))
      clear hall hinv hst hbf bx bo px po hb3 HB3 pz
      go_wp2_with fail
      refine bodyPost_ret (v := .tuple #[.agg #[.int .i64 L, .slice (some ⟨g, 0, none⟩) l.length cap], .slice (some ⟨bf, 0, none⟩) l.length l.length, .int .i64 0]) (by simp [results, Tryd.results11, go_sem, x0, x1]) rfl ⟨two_set hb4, .inr ?_⟩
      have hs0 : ∀ b u v, b ≠ w.heap.size → ((w3.setCell ⟨w.heap.size, 0, none⟩ u).setCell ⟨w.heap.size, 1, none⟩ v).heap[b]? = w3.heap[b]? := fun b u v h => by
        rw [Below.heap_setCell _ _ _ _ h, Below.heap_setCell _ _ _ _ h]
      refine ⟨g, cap, bf, fs, by rw [HL.out, HLL.out], ⟨HE.out, by rw [HL.out, HLL.out]; exact HWT.out, by omega, by simp [World.setCell]; omega, by rw [HL.out]; exact HCI.out.same (hs0 _ _ _ (by omega)), by omega, (hs0 _ _ _ (by omega)).trans HALL.out, by rw [HL.out, HLL.out]; exact HINV.out, by rw [HL.out]; exact HST.out⟩⟩

def TCheckPost (s : ByteArray) (w : World) (e : Ending) (w' : World) : Prop := Below w.heap.size w w' ∧ ∃ r : Nat, e = .returned (.int .i64 r) ∧ IsErr s r
set_option maxRecDepth 100000 in
set_option maxHeartbeats 1000000 in
theorem tcheck_any (s : ByteArray) (w : World) (hs : s.size ≤ maxLen) (htab : FlowTab w) :
    Calls Tryd.prog 5 #[.string s] w (TCheckPost s w) := by
  have hld := hid (tload_any s w hs htab)
  clear hs htab
  go_enter Tryd.func5, Tryd.ntmps5
  go_wp2_with fail
  refine hld.out.mono ?_
  clear hld
  intro x w2 hp
  obtain ⟨hb, hp⟩ := hp
  have hz := hb.size
  have HB := hid hb
  clear hb
  rcases hp with ⟨r, hr, he, rfl⟩ | ⟨g, cap, bf, fs, rfl, hL⟩
  · have HE := hid he
    clear he hr
    go_wp2_with fail
    go_ret
    exact ⟨HB.out.alloc hz _, r, rfl, HE.out⟩
  · have HE : Hid (IsErr s 0) := hid (.inr (.inl ⟨hL.err, hL.wt, rfl⟩))
    clear hL
    go_wp2_with fail
    go_ret
    exact ⟨HB.out.alloc hz _, 0, rfl, HE.out⟩

theorem num_any (r : Nat) (w : World) : Calls Tryd.prog 7 #[.int .i64 r] w fun e w' => e = .returned (.int .i64 r) ∧ w' = w := by
  go_enter Tryd.func7, Tryd.ntmps7
  go_wp2
  go_ret
  exact ⟨rfl, rfl⟩
end Go.Proofs.YteocjidfbbekfaaDoor
