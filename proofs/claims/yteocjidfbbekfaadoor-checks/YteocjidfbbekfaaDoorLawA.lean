/- The law Checks: both answers are the image's error. -/
import Derived.Test.YteocjidfbbekfaaDoorRefF
import Derived.Test.YteocjidfbbekfaaDoorTintA
namespace Go.Proofs.YteocjidfbbekfaaDoor
open Go.RowKit

set_option maxRecDepth 100000 in
set_option maxHeartbeats 1000000 in
theorem checks_any (s : ByteArray) (w : World) (hs : s.size ≤ maxLen) (hflow : FlowTab w) (htak : TakesTab w) (htyp : TypeTab w) :
    Calls Tryd.prog 3 #[.string s] w fun e w' => e = .returned (.bool true) ∧ Below w.heap.size w w' := by
  have hc := hid (tcheck_any s w hs hflow)
  have hr := hid (fun W (hb : Below w.heap.size w W) => refCheck_any s W hs (htak.below hb) (htyp.below hb))
  clear hs hflow htak htyp
  go_enter Tryd.func3, Tryd.ntmps3
  go_wp2_with fail
  refine hc.out.mono ?_
  clear hc
  intro x w2 hp
  obtain ⟨hb, r, hx, he⟩ := hp
  subst x
  have HE := hid he
  have hrr := hid (hr.out w2 hb)
  have HB := hid hb
  clear he hr hb
  go_wp2_with fail
  refine hrr.out.mono ?_
  clear hrr
  intro x w3 hp
  obtain ⟨hb3, r3, hx, he3⟩ := hp
  subst x
  have HB3 := hid hb3
  have hreq : r = r3 := HE.out.unique he3
  subst hreq
  have hn := hid (num_any r w3)
  clear he3 hb3
  go_wp2_with fail
  refine hn.out.mono ?_
  clear hn
  intro x w9 hh
  obtain ⟨hx, hw9⟩ := hh
  subst x
  subst w9
  go_wp2_with fail
  go_ret
  exact ⟨rfl, HB.out.trans (HB3.out.mono HB.out.size)⟩
end Go.Proofs.YteocjidfbbekfaaDoor
