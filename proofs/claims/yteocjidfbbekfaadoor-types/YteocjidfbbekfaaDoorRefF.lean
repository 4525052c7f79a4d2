/- The contract of the reference's Check. -/
import Derived.Test.YteocjidfbbekfaaDoorSpecE
import Derived.Test.YteocjidfbbekfaaDoorRefB
import Derived.Test.YteocjidfbbekfaaDoorRefE
namespace Go.Proofs.YteocjidfbbekfaaDoor
open Go.RowKit

def CheckPost (s : ByteArray) (w : World) (e : Ending) (w' : World) : Prop := Below w.heap.size w w' ∧ ∃ r : Nat, e = .returned (.int .i64 r) ∧ IsErr s r
theorem checkPost_mk {s : ByteArray} {w w' : World} {r : Nat} {x : Int} (hb : Below w.heap.size w w') (hx : x = (r : Int)) (h : IsErr s r) : CheckPost s w (.returned (.int .i64 x)) w' := by
  subst hx; exact ⟨hb, r, rfl, h⟩

set_option maxHeartbeats 400000 in
theorem refCheck_any (s : ByteArray) (w : World) (hs : s.size ≤ maxLen) (ht : TakesTab w) (htt : TypeTab w) :
    Calls Tryd.prog 6 #[.string s] w (CheckPost s w) := by
  have hc := hid (code_any s w hs ht)
  clear hs
  go_enter Tryd.func6, Tryd.ntmps6
  go_wp2_with fail
  refine hc.out.mono ?_
  intro e w1 hp
  obtain ⟨hb, hp⟩ := hp
  clear hc
  rcases hp with ⟨he, rfl⟩ | ⟨he, g, cap, rfl, h1, h2, h3⟩
  · have he' : (((errOf s : Nat) : Int) != 0) = true := by simp; omega
    have HE := hid he
    clear he
    go_wp2_with fail
    go_ret
    exact checkPost_mk hb rfl (.inl ⟨HE.out, rfl⟩)
  · have HE := hid he
    have htt1 := htt.below hb
    have hw := hid (wf_of he)
    clear he
    go_wp2_with fail
    refine (ways_any (codeOf s) (byteAt s 1) g cap w1 hw.out h3 h2 htt1).mono ?_
    intro e w2 hp
    obtain ⟨hb2, hp⟩ := hp
    have hbb : Below w.heap.size w w2 := hb.trans (hb2.mono hb.size)
    rcases hp with ⟨hwt, g2, cap2, all, rfl, _⟩ | ⟨hwt, rfl⟩
    · have HWT := hid hwt
      clear hwt
      go_wp2_with fail
      go_ret
      exact checkPost_mk (r := 0) hbb rfl (.inr (.inl ⟨HE.out, HWT.out, rfl⟩))
    · have HWT := hid hwt
      clear hwt
      go_wp2_with fail
      go_ret
      exact checkPost_mk (r := 5) hbb rfl (.inr (.inr ⟨HE.out, HWT.out, rfl⟩))
end Go.Proofs.YteocjidfbbekfaaDoor
