/- The contracts of sameInts and sameMaps, where both lists hold the same; the law Types. -/
import Derived.Test.YteocjidfbbekfaaDoorTypH
import Derived.BigQuiet
namespace Go.Proofs.YteocjidfbbekfaaDoor
open Go.RowKit

set_option maxRecDepth 100000 in
set_option maxHeartbeats 1000000 in
theorem sameInts_any (l : List Nat) (va vb : Value) (P Q : Nat → Prop) (w : World) (ha : IntsAt w P va l) (hb : IntsAt w Q vb l) (hl : l.length ≤ 1000) :
    Calls Tryd.prog 16 #[va, vb] w fun e w' => e = .returned (.bool true) ∧ ∃ n, w' = w.drewN n := by
  obtain ⟨pa, ca, ea⟩ := ha.slice
  obtain ⟨pb, cb, eb⟩ := hb.slice
  subst ea
  subst eb
  have HA := hid ha
  have HB := hid hb
  clear ha hb
  go_enter Tryd.func16, Tryd.ntmps16
  go_wp2_with fail
  go_loopg [5] l.length (fun gk x w' => ∃ k : Nat, k ≤ l.length ∧ gk = l.length - k ∧ x = .int .i64 k ∧ ∃ n, w' = w.drewN n)
  case atStart => exact ⟨0, by omega, by omega, rfl, 0, rfl⟩
  case round =>
    obtain ⟨k, hk, hgk, rfl, n, rfl⟩ := hrel
    rcases Nat.lt_or_ge k l.length with hlt | hge
    · have d0 : (0 : Int) ≤ (k : Int) := by omega
      have d1 : (k : Int) < (l.length : Int) := by omega
      have hk2 : l[k]? = some l[k] := List.getElem?_eq_getElem hlt
      rcases HA.out with ⟨_, h0⟩ | ⟨ga, c1, e1, _, hca⟩
      · rw [h0] at hlt; simp at hlt
      rcases HB.out with ⟨_, h0⟩ | ⟨gb, c2, e2, _, hcb⟩
      · rw [h0] at hlt; simp at hlt
      have x1 := hca k _ hk2
      have x2 := hcb k _ hk2
      unfold numV at x1 x2
      cases e1
      cases e2
      generalize l[k] = c at *
      have hne : ((c : Int) != (c : Int)) = false := by simp
      clear hca hcb hk2
      go_wp2_with fail
      go_quiet (fail)
      go_wp2_with fail
      go_roundg (l.length - (k + 1))
      case measure => omega
      case rel => exact ⟨k + 1, by omega, rfl, by go_num, ⟨_, rfl⟩⟩
    · have d1 : ¬ (k : Int) < (l.length : Int) := by omega
      go_wp2_with fail
      go_ret
      exact ⟨rfl, n, rfl⟩

/-- The cells of point k of a list of points. -/
theorem pts_cells {w : World} {base : Nat} {v : Value} {ms : List MP} (h : OwnPts w base v ms) {k : Nat} {m : MP} (hk : ms[k]? = some m) : ∃ g cap v1 v2, v = .slice (some ⟨g, 0, none⟩) ms.length cap ∧ w.cell? ⟨g, k * 4, none⟩ = some (.int .i64 m.place) ∧ w.cell? ⟨g, k * 4 + 1, none⟩ = some (.bool m.reached) ∧
    w.cell? ⟨g, k * 4 + 2, none⟩ = some v1 ∧ w.cell? ⟨g, k * 4 + 3, none⟩ = some v2 ∧ IntsAt w (fun g' => base ≤ g' ∧ g' < w.heap.size ∧ v.ownBlock ≠ some g') v1 m.lo ∧ IntsAt w (fun g' => base ≤ g' ∧ g' < w.heap.size ∧ v.ownBlock ≠ some g') v2 m.st := by
  obtain ⟨cs, h1, h2⟩ := h
  obtain ⟨a0, a1, v1, v2, a2, a3, i1, i2⟩ := PtsIn.at cs ms h2 k m hk
  have hlt := (List.getElem?_eq_some_iff.1 hk).1
  rcases h1.2 with ⟨_, h0⟩ | ⟨g, cap, cur, hv, _⟩
  · omega
  · subst hv
    have hc := h1.cells (g := g) rfl
    have c0 := hc _ _ a0
    have c1 := hc _ _ a1
    have c2 := hc _ _ a2
    have c3 := hc _ _ a3
    rw [addr_add] at c0 c1 c2 c3
    exact ⟨g, cap, v1, v2, rfl, c0, c1, c2, c3, i1, i2⟩
theorem pts_slice {w : World} {base : Nat} {v : Value} {ms : List MP} (h : OwnPts w base v ms) : ∃ p cap, v = .slice p ms.length cap := by
  obtain ⟨cs, h1, _⟩ := h
  exact owns_slice h1
theorem IntsAt.heap {w W : World} {P : Nat → Prop} {v : Value} {l : List Nat} (h : IntsAt w P v l) (e : W.heap = w.heap) : IntsAt W P v l := h.keep (fun _ hg => ⟨hg, by rw [e]⟩)

theorem OwnPts.heap {w W : World} {base : Nat} {v : Value} {ms : List MP} (h : OwnPts w base v ms) (e : W.heap = w.heap) : OwnPts W base v ms := by
  obtain ⟨cs, h1, h2⟩ := h
  exact ⟨cs, owns_keep h1 (fun _ _ => by rw [e]), PtsIn.keep (fun g hg => ⟨⟨hg.1, by rw [e]; exact hg.2.1, hg.2.2⟩, by rw [e]⟩) _ _ h2⟩

set_option maxRecDepth 100000 in
set_option maxHeartbeats 1000000 in
theorem sameMaps_any (ms : List MP) (va vb : Value) (ba bb : Nat) (w : World) (ha : OwnPts w ba va ms) (hb : OwnPts w bb vb ms) (hl : ms.length ≤ 1000) (hml : ∀ m ∈ ms, m.lo.length ≤ 1000 ∧ m.st.length ≤ 1000) :
    Calls Tryd.prog 10 #[va, vb] w fun e w' => e = .returned (.bool true) ∧ ∃ n, w' = w.drewN n := by
  obtain ⟨pa, ca, ea⟩ := pts_slice ha
  obtain ⟨pb, cb, eb⟩ := pts_slice hb
  have HA := hid ha
  have HB := hid hb
  have HML := hid hml
  subst ea
  subst eb
  clear ha hb hml
  go_enter Tryd.func10, Tryd.ntmps10
  go_wp2_with fail
  go_loopg [5] ms.length (fun gk x w' => ∃ k : Nat, k ≤ ms.length ∧ gk = ms.length - k ∧ x = .int .i64 k ∧ ∃ n, w' = w.drewN n)
  case atStart => exact ⟨0, by omega, by omega, rfl, 0, rfl⟩
  case round =>
    obtain ⟨k, hk, hgk, rfl, hwn⟩ := hrel
    have hh : wr.heap = w.heap := by
      obtain ⟨n, rfl⟩ := hwn
      rfl
    have HWN := hid hwn
    clear hwn
    rcases Nat.lt_or_ge k ms.length with hlt | hge
    · have d0 : (0 : Int) ≤ (k : Int) := by omega
      have d1 : (k : Int) < (ms.length : Int) := by omega
      obtain ⟨ga, c1, v1, v2, e1, x0, x1, x2, x3, i1, i2⟩ := pts_cells (HA.out.heap hh) (List.getElem?_eq_getElem hlt)
      obtain ⟨gb, c2, u1, u2, e2, y0, y1, y2, y3, j1, j2⟩ := pts_cells (HB.out.heap hh) (List.getElem?_eq_getElem hlt)
      obtain ⟨q1, q2⟩ := HML.out _ (List.getElem_mem hlt)
      cases e1
      cases e2
      generalize ms[k] = m at *
      have hs1 := hid (fun (W : World) (e : W.heap = wr.heap) => sameInts_any m.lo v1 u1 _ _ W (i1.heap e) (j1.heap e) q1)
      have hs2 := hid (fun (W : World) (e : W.heap = wr.heap) => sameInts_any m.st v2 u2 _ _ W (i2.heap e) (j2.heap e) q2)
      have hne : ((m.place : Int) != (m.place : Int)) = false := by simp
      have hne2 : (m.reached != m.reached) = false := by simp
      clear i1 i2 j1 j2 q1 q2 hh
      go_upto_region 6 with fail
      go_quiet ((go_at_call 16; refine Calls.quiet_of (hs1.out _ rfl)))
      have x0' : (wr.drewN nq).cell? ⟨ga, k * 4, none⟩ = some (.int .i64 m.place) := x0
      have x1' : (wr.drewN nq).cell? ⟨ga, k * 4 + 1, none⟩ = some (.bool m.reached) := x1
      have x3' : (wr.drewN nq).cell? ⟨ga, k * 4 + 3, none⟩ = some v2 := x3
      have y0' : (wr.drewN nq).cell? ⟨gb, k * 4, none⟩ = some (.int .i64 m.place) := y0
      have y1' : (wr.drewN nq).cell? ⟨gb, k * 4 + 1, none⟩ = some (.bool m.reached) := y1
      have y3' : (wr.drewN nq).cell? ⟨gb, k * 4 + 3, none⟩ = some u2 := y3
      have hs2' := hid (fun (W : World) (e : W.heap = (wr.drewN nq).heap) => hs2.out W e)
      have HWN7 : Hid (∃ n, wr.drewN nq = w.drewN n) := hid (by
        obtain ⟨n, hn⟩ := HWN.out
        exact ⟨n + nq, by rw [hn, World.drewN_drewN]⟩)
      clear x0 x1 x2 x3 y0 y1 y2 y3 hs1 hs2 HWN
      generalize wr.drewN nq = W7 at *
      go_upto_region 7 with fail
      go_quiet ((go_at_call 16; refine Calls.quiet_of (hs2'.out _ rfl)))
      go_upto_region 8 with fail
      go_quiet (fail)
      go_wp2_with fail
      go_roundg (ms.length - (k + 1))
      case measure => omega
      case rel =>
        obtain ⟨n, hn⟩ := HWN7.out
        exact ⟨k + 1, by omega, rfl, by go_num, by rw [hn]; simp only [World.drewN_drewN]; exact ⟨_, rfl⟩⟩
    · have d1 : ¬ (k : Int) < (ms.length : Int) := by omega
      clear hh
      go_wp2_with fail
      go_ret
      exact ⟨rfl, HWN.out⟩
end Go.Proofs.YteocjidfbbekfaaDoor
