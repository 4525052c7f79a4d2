/- The law Types: both tell the same of each instruction. -/
import Derived.Test.YteocjidfbbekfaaDoorTypI
namespace Go.Proofs.YteocjidfbbekfaaDoor
open Go.RowKit

theorem toldAll_small {l : List Ins} {L : Nat} (hw : Wf l L) {fs : List Fr} (hinv : SetInv l L fs) : (mapsF l fs L).length ≤ 1000 ∧ ∀ m ∈ mapsF l fs L, m.lo.length ≤ 1000 ∧ m.st.length ≤ 1000 := by
  have h1 := hw.len
  refine ⟨by simp [mapsF]; omega, fun m hm => ?_⟩
  unfold mapsF at hm
  obtain ⟨k, hk, rfl⟩ := List.getElem_of_mem hm
  simp only [List.length_zipWith] at hk
  have hfo := hinv.ok (fs[k]'(by omega)) (List.getElem_mem _)
  rw [List.getElem_zipWith]
  unfold ptF
  split
  · have h4 := hfo.lo
    have h8 := hfo.stk
    simp only [List.length_take]
    omega
  · simp
/-- What both calls of Maps leave. -/
theorem maps_meet {s : ByteArray} {w w2 w3 : World} {x y : Ending} (ha : TMapsPost s w x w2) (hb : RMapsPost s w2 y w3) :
    Below w.heap.size w w3 ∧ ∃ (r : Nat) (va vb : Value) (ms : List MP) (ba bb : Nat), x = .returned (.tuple #[va, .int .i64 r]) ∧ y = .returned (.tuple #[vb, .int .i64 r]) ∧ OwnPts w3 ba va ms ∧ OwnPts w3 bb vb ms ∧ ms.length ≤ 1000 ∧ ∀ m ∈ ms, m.lo.length ≤ 1000 ∧ m.st.length ≤ 1000 := by
  obtain ⟨hb1, ha⟩ := ha
  obtain ⟨hb2, hb⟩ := hb
  refine ⟨hb1.trans (hb2.mono hb1.size), ?_⟩
  rcases ha with ⟨r, hr, he, rfl⟩ | ⟨va, fs, rfl, he, hinv, hst, ho⟩
  · rcases hb with ⟨r', hr', he', rfl⟩ | ⟨vb, all, rfl, he', hwt, _, _⟩
    · have e := he.unique he'
      subst e
      exact ⟨r, _, _, [], 0, 0, rfl, rfl, OwnPts.nil _ _, OwnPts.nil _ _, by simp, fun m hm => by simp at hm⟩
    · exact absurd (he.unique (.inr (.inl ⟨he', hwt, rfl⟩))) hr
  · have hw := wf_of he
    have hwt := still_wt hw hinv.ok hst hinv.cov
    rcases hb with ⟨r', hr', he', rfl⟩ | ⟨vb, all, rfl, he', _, hall, ho'⟩
    · exact absurd (he'.unique (.inr (.inl ⟨he, hwt, rfl⟩))) hr'
    · obtain ⟨s1, s2⟩ := toldAll_small hw hinv
      rw [← maps_same hw hinv hst hwt hall] at ho'
      exact ⟨0, va, vb, _, _, _, rfl, rfl, ho.below hb2 (Nat.le_refl _), ho', s1, s2⟩

set_option maxRecDepth 100000 in
set_option maxHeartbeats 1000000 in
theorem types_any (s : ByteArray) (w : World) (hs : s.size ≤ maxLen) (hflow : FlowTab w) (htak : TakesTab w) (htyp : TypeTab w) :
    Calls Tryd.prog 4 #[.string s] w fun e w' => e = .returned (.bool true) ∧ Below w.heap.size w w' := by
  have hc := hid (tmaps_any s w hs hflow)
  have hr := hid (fun W (hb : Below w.heap.size w W) => refMaps_any s W hs (htak.below hb) (htyp.below hb))
  clear hs hflow htak htyp
  go_enter Tryd.func4, Tryd.ntmps4
  go_wp2_with fail
  refine hc.out.mono ?_
  clear hc
  intro x w2 hp
  have HP := hid hp
  have hrr := hid (hr.out w2 hp.1)
  have hx : ∃ va r, x = .returned (.tuple #[va, .int .i64 r]) := by
    obtain ⟨_, h⟩ := hp
    rcases h with ⟨r, _, _, h⟩ | ⟨va, fs, h, _⟩
    · exact ⟨_, _, h⟩
    · exact ⟨_, _, h⟩
  clear hp hr
  obtain ⟨va, r, hx⟩ := hx
  subst x
  go_wp2_with fail
  refine hrr.out.mono ?_
  clear hrr
  intro y w3 hp
  obtain ⟨hb, r2, va2, vb, ms, ba, bb, hx, hy, ho1, ho2, hl, hm⟩ := maps_meet HP.out hp
  simp only [Ending.returned.injEq, Value.tuple.injEq, Array.mk.injEq, List.cons.injEq, Value.int.injEq, true_and, and_true] at hx
  obtain ⟨hx1, hx2⟩ := hx
  subst hx1
  subst hx2
  subst y
  have hsm := hid (sameMaps_any ms va vb ba bb w3 ho1 ho2 hl hm)
  have hn := hid (fun W => num_any r2 W)
  have HB := hid hb
  clear hp HP ho1 ho2 hl hm hb
  go_wp2_with fail
  refine hsm.out.mono ?_
  clear hsm
  intro x w4 hh
  obtain ⟨hx, n, hw4⟩ := hh
  subst x
  subst w4
  go_wp2_with fail
  refine (hn.out _).mono ?_
  clear hn
  intro x w9 hh
  obtain ⟨hx, hw9⟩ := hh
  subst x
  subst w9
  go_wp2_with fail
  go_ret
  exact ⟨rfl, below_drewN HB.out _⟩
end Go.Proofs.YteocjidfbbekfaaDoor
