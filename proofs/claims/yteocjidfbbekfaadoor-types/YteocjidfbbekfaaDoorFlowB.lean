/- The contracts of the program's pop, push, load and store, in the words of frames. -/
import Derived.Test.YteocjidfbbekfaaDoorSpecI
import Derived.Test.YteocjidfbbekfaaDoorFlowA
namespace Go.Proofs.YteocjidfbbekfaaDoor
open Go.RowKit

theorem pop_any (b : Nat) (f : Fr) (w : World) (h : FrAt w b f) (ok : FrOk f) :
    Calls Tryd.prog 40 #[.pointer (some ⟨b, 0, none⟩)] w fun x w' => x = .returned (.int .i64 ((popF f).2 : Nat)) ∧ FrAt w' b (popF f).1 ∧ Only b w w' := by
  obtain ⟨g0, g5, g14⟩ := fr_get ok
  have hd := ok.depth
  by_cases h0 : f.depth = 0
  · rw [h0] at g5
    refine (pop_bad b _ f.wrong w h g5 g14).mono ?_
    rintro x w' ⟨h1, h2, h3⟩
    rw [fr_set_wrong ok] at h2
    simp only [popF, if_pos h0]
    exact ⟨h1, h2, h3⟩
  · obtain ⟨e, he⟩ : ∃ e, f.depth = e + 1 := ⟨f.depth - 1, by omega⟩
    rw [he] at g5
    have hs := fr_stk ok (i := e) (by omega)
    refine (pop_ok b _ e _ w h g5 (by omega) hs).mono ?_
    rintro x w' ⟨h1, h2, h3⟩
    rw [show (Value.int .i64 (e : Int)) = numV e from rfl, fr_set_depth ok, show (Value.int .i64 0) = numV 0 from rfl, fr_set_stk (f := { f with depth := e }) ⟨ok.lo, ok.stk, by simp only; omega⟩ (by omega)] at h2
    simp only [popF, if_neg h0]
    rw [show f.depth - 1 = e by omega]
    exact ⟨h1, h2, h3⟩
theorem push_any (b : Nat) (f : Fr) (k : Nat) (w : World) (h : FrAt w b f) (ok : FrOk f) :
    Calls Tryd.prog 41 #[.pointer (some ⟨b, 0, none⟩), .int .i64 k] w fun x w' => x = .returned (.tuple #[]) ∧ FrAt w' b (pushF f k) ∧ Only b w w' := by
  obtain ⟨g0, g5, g14⟩ := fr_get ok
  have hd := ok.depth
  by_cases h0 : f.depth = 8
  · rw [h0] at g5
    refine (push_full b _ f.wrong k w h g5 g14).mono ?_
    rintro x w' ⟨h1, h2, h3⟩
    rw [fr_set_wrong ok] at h2
    simp only [pushF, if_pos h0]
    exact ⟨h1, h2, h3⟩
  · have hs := fr_stk ok (i := f.depth) (by omega)
    refine (push_ok b _ f.depth k _ w h g5 (by omega) hs).mono ?_
    rintro x w' ⟨h1, h2, h3⟩
    rw [show (Value.int .i64 (k : Int)) = numV k from rfl, fr_set_stk ok (by omega), show (Value.int .i64 ((f.depth : Int) + 1)) = numV (f.depth + 1) from rfl, fr_set_depth (f := { f with stk := f.stk.set f.depth k }) ⟨ok.lo, by simp [ok.stk], ok.depth⟩] at h2
    simp only [pushF, if_neg h0]
    exact ⟨h1, h2, h3⟩

/-- What a Load and a Store do to a frame. -/
def loadF (f : Fr) (n : Nat) : Fr := if 4 ≤ n then badF f else pushF (if f.lo.getD n 0 = 2 then badF f else f) (f.lo.getD n 0)
def storeF (f : Fr) (n : Nat) : Fr := if 4 ≤ n then badF (popF f).1 else { (popF f).1 with lo := (popF f).1.lo.set n (popF f).2 }
theorem loadF_ok {f : Fr} (h : FrOk f) (n : Nat) : FrOk (loadF f n) := by
  unfold loadF
  by_cases hn : 4 ≤ n
  · rw [if_pos hn]; exact badF_ok h
  · rw [if_neg hn]
    apply pushF_ok
    by_cases h2 : f.lo.getD n 0 = 2
    · rw [if_pos h2]; exact badF_ok h
    · rw [if_neg h2]; exact h
theorem storeF_ok {f : Fr} (h : FrOk f) (n : Nat) : FrOk (storeF f n) := by
  unfold storeF
  have h1 := popF_ok h
  by_cases hn : 4 ≤ n
  · rw [if_pos hn]; exact badF_ok h1
  · rw [if_neg hn]; exact ⟨by simp [h1.lo], h1.stk, h1.depth⟩

set_option maxHeartbeats 400000 in
theorem load_any (b : Nat) (f : Fr) (n : Nat) (w : World) (h : FrAt w b f) (ok : FrOk f) (hn : n < 4) :
    Calls Tryd.prog 38 #[.pointer (some ⟨b, 0, none⟩), .int .i64 n] w fun x w' => x = .returned (.tuple #[]) ∧ FrAt w' b (loadF f n) ∧ Only b w w' := by
  obtain ⟨g0, g5, g14⟩ := fr_get ok
  have c := (RowAt.cell h (1 + n)).trans (fr_lo ok hn)
  have c14 := (RowAt.cell h 14).trans g14
  have f14 := RowAt.frozen h 14
  have i0 : (0 : Int) ≤ (n : Int) := by omega
  have i1 : (n : Int) < 4 := by omega
  have HR := hid h
  simp only [numV] at c
  have HL : Hid (loadF f n = pushF (if f.lo.getD n 0 = 2 then badF f else f) (f.lo.getD n 0)) := hid (by unfold loadF; rw [if_neg (by omega)])
  generalize f.lo.getD n 0 = k at *
  clear g0 g5 g14 h
  by_cases h2 : k = 2
  · have h2' : ((k : Int) == 2) = true := by simp; omega
    have hrow : FrAt (w.setCell ⟨b, 14, none⟩ (.bool true)) b (badF f) := by
      have := RowAt.set HR.out 14 (.bool true)
      rw [fr_set_wrong ok] at this
      exact this
    have hp := hid (push_any b (badF f) k _ hrow (badF_ok ok))
    rw [if_pos h2] at HL
    clear h2 hrow
    go_enter Tryd.func38, Tryd.ntmps38
    go_wp2_with fail
    refine hp.out.mono ?_
    rintro x w2 ⟨rfl, h3, h4⟩
    go_wp2_with fail
    go_end0
    exact ⟨rfl, by rw [HL.out]; exact h3, ((Only.refl _ _).set _ _).trans h4⟩
  · have h2' : ((k : Int) == 2) = false := by simp; omega
    have hp := hid (push_any b f k w HR.out ok)
    rw [if_neg h2] at HL
    clear h2
    go_enter Tryd.func38, Tryd.ntmps38
    go_wp2_with fail
    refine hp.out.mono ?_
    rintro x w2 ⟨rfl, h3, h4⟩
    go_wp2_with fail
    go_end0
    exact ⟨rfl, by rw [HL.out]; exact h3, h4⟩

set_option maxHeartbeats 400000 in
theorem store_any (b : Nat) (f : Fr) (n : Nat) (w : World) (h : FrAt w b f) (ok : FrOk f) (hn : n < 4) :
    Calls Tryd.prog 39 #[.pointer (some ⟨b, 0, none⟩), .int .i64 n] w fun x w' => x = .returned (.tuple #[]) ∧ FrAt w' b (storeF f n) ∧ Only b w w' := by
  have hp := hid (pop_any b f w h ok)
  have hok := popF_ok ok
  have i0 : (0 : Int) ≤ (n : Int) := by omega
  have i1 : (n : Int) < 4 := by omega
  have HL : Hid (storeF f n = { (popF f).1 with lo := (popF f).1.lo.set n (popF f).2 }) := hid (by unfold storeF; rw [if_neg (by omega)])
  generalize popF f = P at *
  obtain ⟨f2, k⟩ := P
  simp only at hok hp HL
  clear h
  go_enter Tryd.func39, Tryd.ntmps39
  go_wp2_with fail
  refine hp.out.mono ?_
  rintro x w2 ⟨rfl, h3, h4⟩
  have c := (RowAt.cell h3 (1 + n)).trans (fr_lo hok hn)
  have fz := RowAt.frozen h3 (1 + n)
  have H3 := hid h3
  clear h3 hp
  go_wp2_with fail
  go_end0
  refine ⟨rfl, ?_, h4.set _ _⟩
  have := RowAt.set H3.out (1 + n) (numV k)
  rw [fr_set_lo hok hn] at this
  rw [HL.out]
  exact this
end Go.Proofs.YteocjidfbbekfaaDoor
