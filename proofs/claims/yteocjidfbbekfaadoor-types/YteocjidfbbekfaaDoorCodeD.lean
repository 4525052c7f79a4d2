/- The contract of the program's Read. -/
import Derived.Test.YteocjidfbbekfaaDoorCodeC
namespace Go.Proofs.YteocjidfbbekfaaDoor
open Go.RowKit

def ReadPost (s : ByteArray) (w : World) (e : Ending) (w' : World) : Prop :=
  Below w.heap.size w w' ∧ ((errOf s ≠ 0 ∧ e = .returned (.tuple #[.agg #[.int .i64 0, .slice none 0 0], .int .i64 (errOf s : Nat)])) ∨
    (errOf s = 0 ∧ ∃ g cap, e = .returned (.tuple #[.agg #[.int .i64 (byteAt s 1 : Nat), .slice (some ⟨g, 0, none⟩) (codeOf s).length cap], .int .i64 0]) ∧ w.heap.size ≤ g ∧ g < w'.heap.size ∧ CiAt w' g (aims (codeOf s))))
theorem readPost_err {s : ByteArray} {w w' : World} {k : Nat} {z : Int} (hb : Below w.heap.size w w') (he : errOf s = k) (hk : k ≠ 0) (hz : z = (k : Int)) : ReadPost s w (.returned (.tuple #[.agg #[.int .i64 0, .slice none 0 0], .int .i64 z])) w' := by
  subst he; subst hz; exact ⟨hb, .inl ⟨hk, rfl⟩⟩

theorem two_set {w w2 : World} {o : Obj} {u v : Value} (hb : Below (w.heap.size + 1) (w.alloc o) w2) : Below w.heap.size w ((w2.setCell ⟨w.heap.size, 0, none⟩ u).setCell ⟨w.heap.size, 1, none⟩ v) :=
  ((box_below (Nat.le_refl _) hb).setCell (by simp) _).setCell (by simp) _

set_option maxRecDepth 100000 in
set_option maxHeartbeats 1000000 in
theorem read_any (s : ByteArray) (w : World) (hs : s.size ≤ maxLen) :
    Calls Tryd.prog 17 #[.string s] w (ReadPost s w) := by
  have hshp := hid (shaped_any s (w.alloc (.cells #[.int .i64 0, .slice none 0 0] 35)) hs)
  cases hsh : shapedP s
  · have HE : Hid (errOf s = 1) := hid (by simp [errOf, hsh])
    rw [hsh] at hshp
    clear hsh hs
    go_enter Tryd.func17, Tryd.ntmps17
    go_wp2_with fail
    refine hshp.out.mono ?_
    intro e w9 hh
    obtain ⟨he9, hw9⟩ := hh
    subst e
    subst w9
    clear hshp
    go_wp2_with fail
    exact bodyPost_ret (v := .tuple #[.agg #[.int .i64 0, .slice none 0 0], .int .i64 1]) (by simp [results, Tryd.results17, go_sem]) rfl (readPost_err ((Below.refl _ _).alloc (Nat.le_refl _) _) HE.out (by decide) rfl)
  · obtain ⟨⟨⟨h3, h4⟩, h0⟩, h1⟩ : ((3 ≤ s.size ∧ s.size ≤ 122) ∧ byteAt s 0 = 84) ∧ byteAt s 1 ≤ 4 := by simpa [shapedP] using hsh
    have hsz : (textOf s).size = s.size - 2 := by simp [textOf]
    have e1 := byteAt_eq s 1 (by omega)
    have HB : Hid (errOf s = match dec (textOf s) (byteAt s 1) 0 with
      | none => 2
      | some l => if jumpsOk l = false then 3 else if endsOk l = false then 4 else 0) := hid (by unfold errOf; rw [hsh]; rfl)
    have HC : Hid (codeOf s = (dec (textOf s) (byteAt s 1) 0).getD []) := hid rfl
    rw [hsh] at hshp
    have HT : Hid (textOf s = s.extract 2 s.size) := hid rfl
    have hins := hid (fun W => instructions_any (textOf s) (byteAt s 1) W (by omega) (by omega))
    generalize hL : byteAt s 1 = L at *
    have HL := hid hL
    have t2 : (textOf s).size ≤ 120 := by omega
    clear hsh h0 hL hs hsz
    go_enter Tryd.func17, Tryd.ntmps17
    go_wp2_with fail
    refine hshp.out.mono ?_
    intro e w9 hh
    obtain ⟨he9, hw9⟩ := hh
    subst e
    subst w9
    clear hshp
    go_wp2_with fail
    rw [← HT.out]
    refine (hins.out _).mono ?_
    clear hins
    intro e w2 hp
    obtain ⟨hb, hp⟩ := hp
    have hb1 := instr_below hb
    obtain ⟨bx, bo, hz⟩ := box_cells hb1
    have x0 := bx 0
    have x1 := bx 1
    simp only [List.getElem?_toArray, List.getElem?_cons_zero, List.getElem?_cons_succ] at x0 x1
    clear bx bo hb
    rcases hp with ⟨hd, rfl⟩ | ⟨ls, g, cap, hd, hpos, hle, rfl, hg1, hg2, hat⟩
    · have HE : Hid (errOf s = 2) := hid (by have := HB.out; rw [hd] at this; exact this)
      clear hd
      have hf0 := hb1.frozen (p := ⟨w.heap.size, 0, none⟩) (by simp)
      have hf1 := hb1.frozen (p := ⟨w.heap.size, 1, none⟩) (by simp)
      go_wp2_with fail
      exact bodyPost_ret (v := .tuple #[.agg #[.int .i64 0, .slice none 0 0], .int .i64 2]) (by simp [results, Tryd.results17, go_sem, x0, x1]) rfl (readPost_err (two_set hb1) HE.out (by decide) rfl)
    · have hws := hid (withTargets_any ls g cap w2 hpos (by omega) hat hg2)
      have hgz : w.heap.size + 1 ≤ g := by simpa using hg1
      clear hg1 hat
      have HD := hid hd
      clear hd
      go_wp2_with fail
      refine hws.out.mono ?_
      clear hws
      intro e w3 hp
      obtain ⟨hb3, hp⟩ := hp
      have hb4 : Below (w.heap.size + 1) (w.alloc (.cells #[.int .i64 0, .slice none 0 0] 35)) w3 := hb1.trans (hb3.mono hz)
      have hz3 := hb3.size
      obtain ⟨bx, bo, hz4⟩ := box_cells hb4
      have y0 := bx 0
      have y1 := bx 1
      simp only [List.getElem?_toArray, List.getElem?_cons_zero, List.getElem?_cons_succ] at y0 y1
      have hf0 := hb4.frozen (p := ⟨w.heap.size, 0, none⟩) (by simp)
      have hf1 := hb4.frozen (p := ⟨w.heap.size, 1, none⟩) (by simp)
      clear bx bo x0 x1
      rcases hp with ⟨hj, rfl⟩ | ⟨hj, g3, cap3, rfl, hg3, hg4, hat3⟩
      · have HE : Hid (errOf s = 3) := hid (by have := HB.out; rw [HD.out] at this; simpa [hj] using this)
        clear hj
        go_wp2_with fail
        exact bodyPost_ret (v := .tuple #[.agg #[.int .i64 0, .slice none 0 0], .int .i64 3]) (by simp [results, Tryd.results17, go_sem, y0, y1]) rfl (readPost_err (two_set hb4) HE.out (by decide) rfl)
      · have HJ := hid hj
        clear hj
        have hew := hid (endsWell_any ls (aims ls) g3 cap3 w3 hpos (by omega) rfl hat3)
        go_wp2_with fail
        refine hew.out.mono ?_
        clear hew
        intro e w9 hh
        obtain ⟨he9, hw9⟩ := hh
        subst e
        subst w9
        cases hen : endsOk ls
        · have HE : Hid (errOf s = 4) := hid (by have := HB.out; rw [HD.out] at this; simpa [HJ.out, hen] using this)
          clear hen
          go_wp2_with fail
          exact bodyPost_ret (v := .tuple #[.agg #[.int .i64 0, .slice none 0 0], .int .i64 4]) (by simp [results, Tryd.results17, go_sem, y0, y1]) rfl (readPost_err (two_set hb4) HE.out (by decide) rfl)
        · have HE : Hid (errOf s = 0) := hid (by have := HB.out; rw [HD.out] at this; simpa [HJ.out, hen] using this)
          have HCO : Hid (codeOf s = ls) := hid (by rw [HC.out, HD.out]; rfl)
          clear hen
          go_wp2_with fail
          refine bodyPost_ret (v := .tuple #[.agg #[.int .i64 L, .slice (some ⟨g3, 0, none⟩) ls.length cap3], .int .i64 0]) (by simp [results, Tryd.results17, go_sem, y0, y1]) rfl ⟨two_set hb4, .inr ⟨HE.out, ?_⟩⟩
          rw [HL.out, HCO.out]
          exact ⟨g3, cap3, rfl, by omega, by simp [World.setCell]; exact hg4, hat3.same (by rw [Below.heap_setCell _ _ _ _ (by simp; omega), Below.heap_setCell _ _ _ _ (by simp; omega)])⟩
end Go.Proofs.YteocjidfbbekfaaDoor
