/- tintlaw.News is true of every image, every list of inputs and every number of cells: the program's New, State, Heap and Output answer what the document's answer (tintref) is; conditions: the five listed variables hold what the program's text lays in them. -/
import Derived.Test.YtdmdpindonghdaaGreatDoorRows
import Derived.Test.YtdmdpindonghdaaGreatDoorTie
import Derived.Test.YtdmdpindonghdaaGreatDoorCards
import Derived.Test.YtdmdpindonghdaaGreatDoorOwn6
import Derived.WalkKit
import Derived.WalkSmall
import Derived.Deep.AppendLies
import Derived.Deep.DeepMust
import Derived.Deep.LoopGhost
import Derived.WalkSpells
import Derived.WalkLawsBesides
import Derived.BigRegion
import Derived.Deep.QuietTactic
import Derived.BigQuiet
import Derived.Deep.RegionHeld3
import Derived.OwnWalk
import Derived.Laws.StructEq
import Derived.Deep.RegionLaw
import Derived.Deep.DeepCutAuto
import Derived.Laws.MakeOwn
import Derived.Laws.IdiomCopy
import Derived.ProofKit
import Derived.OpenShut
import Derived.Lay
import Derived.SevenTiedAt
import Derived.Stop.Joined
import Derived.Carry
namespace Go.Proofs.YtdmdpindonghdaaGreatDoor
open Go.RowKit
structure RE (K : RK) (E : Env) : Prop where
  l : K.l = E.l
  zs : K.zs = E.zs
  ms : K.ms = E.ms
def RX (w : World) (K : RK) (F : Nat → Prop) (s : MS) : Prop := ∃ vO vS, RM w K vO vS s ∧ ∀ k, K.In vO vS k → F k
theorem RX.keep {w w' : World} {K : RK} {F : Nat → Prop} {s : MS} (h : RX w K F s) (hz : w.heap.size ≤ w'.heap.size) (hk : ∀ k, k < w.heap.size → F k → w'.heap[k]? = w.heap[k]?) : RX w' K F s := by
  obtain ⟨vO, vS, h1, h2⟩ := h
  exact ⟨vO, vS, h1.keep hz (fun k hk1 hk2 => hk k hk1 (h2 k hk2)), h2⟩
theorem RX.below {w w' : World} {K : RK} {F : Nat → Prop} {s : MS} (h : RX w K F s) (hb : Below w.heap.size w w') : RX w' K F s := h.keep hb.size (fun k hk _ => hb.block k hk)
theorem RX.mono {w : World} {K : RK} {F G : Nat → Prop} {s : MS} (h : RX w K F s) (hg : ∀ k, F k → G k) : RX w K G s := by
  obtain ⟨vO, vS, h1, h2⟩ := h
  exact ⟨vO, vS, h1, fun k hk => hg k (h2 k hk)⟩
theorem rstate_m {w : World} {K : RK} {E : Env} {vO vS : Value} {s : MS} (h : RM w K vO vS s) (hke : RE K E) (he : EnvOk E) (hi : MInv E s) {i : Ins} (hg : E.l[s.at_]? = some i) :
    Calls Tryz.prog 61 #[.pointer (some ⟨K.b, 0, none⟩)] w (RStatePost s.oc s.va i.place s.hs.2.1 s.hs.2.2 (locsS E s) (stkS E s) w) := by
  obtain ⟨m, hm⟩ := hi.tys he
  have hpl := he.place _ _ _ hg hm.get
  have hl := hi.lo he
  have hs8 := hi.st he
  have hL := he.wf.loc
  obtain ⟨cs, ho, _, hin⟩ := h.maps
  have hmk : K.ms[s.at_]? = some m := by rw [hke.ms]; exact hm.get
  have hlt := (List.getElem?_eq_some_iff.1 hmk).1
  obtain ⟨x0, x1, v1, v2, x2, x3, y1, y2⟩ := PtsIn.at cs K.ms hin s.at_ m hmk
  rcases ho.2 with ⟨_, e⟩ | ⟨g, cap, cur, hv, _⟩
  · omega
  have hc := ho.cells (g := g) (by rw [hv]; rfl)
  have z0 := hc _ _ x0
  have z1 := hc _ _ x1
  have z2 := hc _ _ x2
  have z3 := hc _ _ x3
  rw [addr_add] at z0 z1 z2 z3
  have hlo : LsAt w (fun _ => True) (.slice (some ⟨K.gLo, 0, none⟩) s.lo.length s.lo.length) s.lo.length (s.lo.flatMap wdCells) := .inr ⟨K.gLo, _, rfl, trivial, fun j u hj => by rw [cell_of_row w K.gLo j _ _ _ h.loc, List.getElem?_toArray]; exact hj⟩
  have e1 : m.place = i.place := hpl
  have hst := rstate_any K.b _ _ _ _ _ _ _ s.rd s.oc s.va s.at_ s.hs.2.1 s.hs.2.2 m.place m.reached g _ _ s.at_ v1 v2 m.lo m.st s.lo s.st _ _ _ _ w (by simpa [RK.row] using h.row) hv rfl hlt z0 z1 z2 z3 y1 y2 hlo (LsAt.of_owns h.stk) hm.lol (by rw [hm.st, List.length_map]) (by omega) (by omega)
  rw [e1] at hst
  have q1 : locsS E s = List.zipWith (fun t (x : Bool × Int) => (t, slotV t x.2)) m.lo s.lo := by unfold locsS slotsC tysAt; rw [hm.get]
  have q2 : stkS E s = List.zipWith (fun t (x : Bool × Int) => (t, slotV t x.2)) m.st s.st := by unfold stkS slotsC tysAt; rw [hm.get]
  rw [q1, q2]
  exact hst
def RHeapPost (cs : List Cl) (w : World) (e : Ending) (w' : World) : Prop := Below w.heap.size w w' ∧ ∃ v, e = .returned v ∧ LsAt w' (fun g => w.heap.size ≤ g ∧ g < w'.heap.size) v cs.length (cs.flatMap clCells)
set_option maxRecDepth 100000 in
theorem rheap_m {w : World} {K : RK} {vO vS : Value} {s : MS} (h : RM w K vO vS s) (hn : s.hs.1.length ≤ 100) :
    Calls Tryz.prog 64 #[.pointer (some ⟨K.b, 0, none⟩)] w (RHeapPost (s.hs.1.map toldC) w) := by
  have m10 := cell_of_row w K.b 10 _ _ _ h.row
  simp only [RK.row, List.getElem?_toArray, List.getElem?_cons_zero, List.getElem?_cons_succ] at m10
  have hc := hid (cellsTold_any K.b 10 s.hs.1 _ _ w m10 (LsAt.of_owns h.cells) (by omega))
  clear h
  go_enter Tryz.func64, Tryz.ntmps64
  go_wp2_with fail
  refine hc.out.mono ?_
  clear hc
  intro x w5 hh
  obtain ⟨hb, v', hx, ho⟩ := hh
  subst x
  have HB := hid hb
  have HO := hid (LsAt.of_owns ho)
  clear hb ho
  go_wp2_with fail
  go_ret
  exact ⟨HB.out, _, rfl, by rw [List.length_map]; exact HO.out⟩
end Go.Proofs.YtdmdpindonghdaaGreatDoor
namespace Go.Proofs.YtdmdpindonghdaaGreatDoor
open Go.RowKit
theorem LsAt.heap {w W : World} {P : Nat → Prop} {v : Value} {n : Nat} {cs : List Value} (h : LsAt w P v n cs) (e : ∀ g, P g → W.heap[g]? = w.heap[g]?) : LsAt W P v n cs := h.keep (fun g hg => ⟨hg, e g hg⟩)
set_option maxRecDepth 100000 in
set_option maxHeartbeats 1000000 in
theorem sameState_any (oc va pl ph hd : Int) (l1 l2 : List (Nat × Int)) (v1 v2 u1 u2 : Value) (w : World) (h1 : LsAt w (fun g => g < w.heap.size) v1 l1.length (l1.flatMap slCells)) (h2 : LsAt w (fun g => g < w.heap.size) v2 l2.length (l2.flatMap slCells))
    (k1 : LsAt w (fun g => g < w.heap.size) u1 l1.length (l1.flatMap slCells)) (k2 : LsAt w (fun g => g < w.heap.size) u2 l2.length (l2.flatMap slCells)) (hl1 : l1.length ≤ 1000) (hl2 : l2.length ≤ 1000) :
    Calls Tryz.prog 62 #[.agg #[.int .i64 oc, .int .i64 va, .int .i64 pl, .int .i64 ph, .int .i64 hd, v1, v2], .agg #[.int .i64 oc, .int .i64 va, .int .i64 pl, .int .i64 ph, .int .i64 hd, u1, u2]] w fun e w' => e = .returned (.bool true) ∧ Below w.heap.size w w' := by
  obtain ⟨a1, b1, e1⟩ := h1.slice
  obtain ⟨a2, b2, e2⟩ := h2.slice
  obtain ⟨a3, b3, e3⟩ := k1.slice
  obtain ⟨a4, b4, e4⟩ := k2.slice
  subst e1
  subst e2
  subst e3
  subst e4
  have hs1 := hid (fun (W : World) (e : ∀ g, g < w.heap.size → W.heap[g]? = w.heap[g]?) => sameSlots_any l1 _ _ _ _ W (h1.heap e) (k1.heap e) hl1)
  have hs2 := hid (fun (W : World) (e : ∀ g, g < w.heap.size → W.heap[g]? = w.heap[g]?) => sameSlots_any l2 _ _ _ _ W (h2.heap e) (k2.heap e) hl2)
  have hb0 : Below w.heap.size w ((w.alloc (.cells #[.int .i64 oc, .int .i64 va, .int .i64 pl, .int .i64 ph, .int .i64 hd, .slice a1 l1.length b1, .slice a2 l2.length b2] 134)).alloc (.cells #[.int .i64 oc, .int .i64 va, .int .i64 pl, .int .i64 ph, .int .i64 hd, .slice a3 l1.length b3, .slice a4 l2.length b4] 134)) := ((Below.refl _ _).alloc (Nat.le_refl _) _).alloc (by simp) _
  have HB0 := hid hb0
  have q1 : (oc == oc) = true := by simp
  have q2 : (va == va) = true := by simp
  have q3 : (pl == pl) = true := by simp
  have q4 : (ph == ph) = true := by simp
  have q5 : (hd == hd) = true := by simp
  clear h1 h2 k1 k2 hb0
  go_enter Tryz.func62, Tryz.ntmps62
  go_wp2_with fail
  refine (hs1.out _ HB0.out.block).mono ?_
  clear hs1
  intro x w1 hh
  obtain ⟨hx, n, hw1⟩ := hh
  subst x
  subst w1
  go_wp2_with fail
  refine (hs2.out _ (below_drewN HB0.out n).block).mono ?_
  clear hs2
  intro x w1 hh
  obtain ⟨hx, m, hw1⟩ := hh
  subst x
  subst w1
  go_wp2_with fail
  go_ret
  exact ⟨rfl, below_drewN HB0.out _⟩
end Go.Proofs.YtdmdpindonghdaaGreatDoor
namespace Go.Proofs.YtdmdpindonghdaaGreatDoor
open Go.RowKit
/-- The law's world in memory: both machines stand the same, apart from one another. -/
structure LW (E : Env) (w : World) (q : Nat) (r : Array Value) (K : PK) (R : RK) (F G : Nat → Prop) (s : MS) : Prop where
  row : w.heap[q]? = some (.cells r 58)
  r0 : r[0]? = some (.pointer (some ⟨K.b, 0, none⟩))
  r1 : r[1]? = some (.pointer (some ⟨R.b, 0, none⟩))
  pm : PX w K F s
  rm : RX w R G s
  ke : KE K E
  re : RE R E
  fg : ∀ k, F k → ¬ G k
  fq : ¬ F q
  gq : ¬ G q
  fz : ∀ k, F k → k < w.heap.size
  gz : ∀ k, G k → k < w.heap.size
  inv : MInv E s
  ok : EnvOk E
theorem LW.keep {E : Env} {w w' : World} {q : Nat} {r : Array Value} {K : PK} {R : RK} {F G : Nat → Prop} {s : MS} (h : LW E w q r K R F G s) (hb : Below w.heap.size w w') : LW E w' q r K R F G s :=
  ⟨(hb.block q (Array.getElem?_eq_some_iff.1 h.row).1).trans h.row, h.r0, h.r1, h.pm.below hb, h.rm.below hb, h.ke, h.re, h.fg, h.fq, h.gq, fun k hk => Nat.lt_of_lt_of_le (h.fz k hk) hb.size, fun k hk => Nat.lt_of_lt_of_le (h.gz k hk) hb.size, h.inv, h.ok⟩
theorem LsAt.under {w w' : World} {B : Nat} {v : Value} {n : Nat} {cs : List Value} (h : LsAt w (fun g => B ≤ g ∧ g < w.heap.size) v n cs) (hb : Below w.heap.size w w') : LsAt w' (fun g => g < w'.heap.size) v n cs := h.keep (fun g hg => ⟨Nat.lt_of_lt_of_le hg.2 hb.size, hb.block g hg.2⟩)
set_option maxRecDepth 100000 in
set_option maxHeartbeats 1000000 in
theorem lstate_any {E : Env} {w : World} {q : Nat} {r : Array Value} {K : PK} {R : RK} {F G : Nat → Prop} {s : MS} (h : LW E w q r K R F G s) :
    Calls Tryz.prog 36 #[.pointer (some ⟨q, 0, none⟩)] w fun e w' => e = .returned (.bool true) ∧ Below w.heap.size w w' := by
  obtain ⟨i, hc⟩ := h.inv.can h.ok
  have h1 := (cell_of_row w q 0 _ _ _ h.row).trans h.r0
  have h2 := (cell_of_row w q 1 _ _ _ h.row).trans h.r1
  have hqz := (Array.getElem?_eq_some_iff.1 h.row).1
  obtain ⟨vI, vO, lo4, st8, hP, _⟩ := h.pm
  have hps := hid (pstate_m hP h.ke h.ok h.inv hc.get)
  have hrs := hid (fun (W : World) (hb : Below w.heap.size w W) => by
    obtain ⟨vO', vS', hR, _⟩ := h.rm.below hb
    exact rstate_m hR h.re h.ok h.inv hc.get)
  have l1 : (locsS E s).length ≤ 1000 := by
    have := h.inv.lo h.ok
    have := h.ok.wf.loc
    unfold locsS slotsC; rw [List.length_zipWith]; omega
  have l2 : (stkS E s).length ≤ 1000 := by
    have := h.inv.st h.ok
    unfold stkS slotsC; rw [List.length_zipWith]; omega
  generalize locsS E s = Q1 at *
  generalize stkS E s = Q2 at *
  clear h hP hc
  go_enter Tryz.func36, Tryz.ntmps36
  go_wp2_with fail
  refine hps.out.mono ?_
  clear hps
  intro x w1 hp
  obtain ⟨hb1, v1, v2, hx, o1, o2, _⟩ := hp
  subst x
  have L1 := hid (LsAt.of_owns o1)
  have L2 := hid (LsAt.of_owns o2)
  obtain ⟨p1, c1, e1⟩ := L1.out.slice
  obtain ⟨p2, c2, e2⟩ := L2.out.slice
  subst e1
  subst e2
  have hbA : Below w1.heap.size w1 (w1.alloc (.cells #[.int .i64 s.oc, .int .i64 s.va, .int .i64 i.place, .int .i64 s.hs.2.1, .int .i64 s.hs.2.2, .slice p1 Q1.length c1, .slice p2 Q2.length c2] 134)) := (Below.refl _ _).alloc (Nat.le_refl _) _
  have hb2 := hb1.trans (hbA.mono hb1.size)
  have hr1 := hid (hrs.out _ hb2)
  have k2 := (hb2.cell (p := ⟨q, 1, none⟩) hqz).trans h2
  have hbox := heap_alloc_new w1 (.cells #[.int .i64 s.oc, .int .i64 s.va, .int .i64 i.place, .int .i64 s.hs.2.1, .int .i64 s.hs.2.2, .slice p1 Q1.length c1, .slice p2 Q2.length c2] 134)
  have HBX := hid hbox
  have HBA := hid hbA
  have HB2 := hid hb2
  have hz1 := hb1.size
  clear hrs o1 o2 hb1 hbox hbA hb2
  go_wp2_with fail
  refine hr1.out.mono ?_
  clear hr1 k2
  intro x w3 hp
  obtain ⟨hb3, v3, v4, hx, l3, l4⟩ := hp
  subst x
  obtain ⟨p3, c3, e3⟩ := l3.slice
  obtain ⟨p4, c4, e4⟩ := l4.slice
  subst e3
  subst e4
  have hsz : (w1.alloc (.cells #[.int .i64 s.oc, .int .i64 s.va, .int .i64 i.place, .int .i64 s.hs.2.1, .int .i64 s.hs.2.2, .slice p1 Q1.length c1, .slice p2 Q2.length c2] 134)).heap.size = w1.heap.size + 1 := alloc_size _ _
  have row3 := (hb3.block w1.heap.size (by omega)).trans HBX.out
  have hb13 : Below w1.heap.size w1 w3 := HBA.out.trans (hb3.mono (by omega))
  have hbB : Below w3.heap.size w3 (w3.alloc (.cells #[.int .i64 s.oc, .int .i64 s.va, .int .i64 i.place, .int .i64 s.hs.2.1, .int .i64 s.hs.2.2, .slice p3 Q1.length c3, .slice p4 Q2.length c4] 134)) := (Below.refl _ _).alloc (Nat.le_refl _) _
  have hz3 := hb13.size
  have hz03 := hb3.size
  have row4 := (hbB.block w1.heap.size (by omega)).trans row3
  have hb14 : Below w1.heap.size w1 _ := hb13.trans (hbB.mono hz3)
  have hss := hid (sameState_any s.oc s.va i.place s.hs.2.1 s.hs.2.2 Q1 Q2 _ _ _ _ _ (L1.out.under hb14) (L2.out.under hb14) (l3.under hbB) (l4.under hbB) l1 l2)
  have z0 := cell_of_row _ w1.heap.size 0 _ _ _ row4
  have z1 := cell_of_row _ w1.heap.size 1 _ _ _ row4
  have z2 := cell_of_row _ w1.heap.size 2 _ _ _ row4
  have z3 := cell_of_row _ w1.heap.size 3 _ _ _ row4
  have z4 := cell_of_row _ w1.heap.size 4 _ _ _ row4
  have z5 := cell_of_row _ w1.heap.size 5 _ _ _ row4
  have z6 := cell_of_row _ w1.heap.size 6 _ _ _ row4
  simp only [List.getElem?_toArray, List.getElem?_cons_zero, List.getElem?_cons_succ] at z0 z1 z2 z3 z4 z5 z6
  have HF : Hid (Below w.heap.size w (w3.alloc (.cells #[.int .i64 s.oc, .int .i64 s.va, .int .i64 i.place, .int .i64 s.hs.2.1, .int .i64 s.hs.2.2, .slice p3 Q1.length c3, .slice p4 Q2.length c4] 134))) := hid ((HB2.out.trans (hb3.mono HB2.out.size)).alloc (by omega) _)
  clear row3 row4 hb3 hb13 hb14 hbB l3 l4 L1 L2 HBX HBA HB2
  go_wp2_with fail
  refine hss.out.mono ?_
  clear hss z0 z1 z2 z3 z4 z5 z6
  intro x w5 hp
  obtain ⟨hx, hb5⟩ := hp
  subst x
  have HB5 := hid hb5
  clear hb5
  go_wp2_with fail
  go_ret
  exact ⟨rfl, HF.out.trans (HB5.out.mono HF.out.size)⟩
set_option maxRecDepth 100000 in
set_option maxHeartbeats 1000000 in
theorem lheap_any {E : Env} {w : World} {q : Nat} {r : Array Value} {K : PK} {R : RK} {F G : Nat → Prop} {s : MS} (h : LW E w q r K R F G s) :
    Calls Tryz.prog 37 #[.pointer (some ⟨q, 0, none⟩)] w fun e w' => e = .returned (.bool true) ∧ Below w.heap.size w w' := by
  have h1 := (cell_of_row w q 0 _ _ _ h.row).trans h.r0
  have h2 := (cell_of_row w q 1 _ _ _ h.row).trans h.r1
  have hqz := (Array.getElem?_eq_some_iff.1 h.row).1
  obtain ⟨vI, vO, lo4, st8, hP, _⟩ := h.pm
  have hn : s.hs.1.length ≤ 100 := by have := h.inv.hok.len; omega
  have hps := hid (pheap_any hP hn)
  have hrs := hid (fun (W : World) (hb : Below w.heap.size w W) => by
    obtain ⟨vO', vS', hR, _⟩ := h.rm.below hb
    exact rheap_m hR hn)
  have l1 : (s.hs.1.map toldC).length ≤ 1000 := by simp; omega
  generalize s.hs.1.map toldC = Q1 at *
  clear h hP
  go_enter Tryz.func37, Tryz.ntmps37
  go_wp2_with fail
  refine hps.out.mono ?_
  clear hps
  intro x w1 hp
  obtain ⟨hb1, v1, hx, o1⟩ := hp
  subst x
  have hr1 := hid (hrs.out _ hb1)
  have k2 := (hb1.cell (p := ⟨q, 1, none⟩) hqz).trans h2
  have L1 := hid (LsAt.of_owns o1)
  have HB1 := hid hb1
  clear hrs o1 hb1
  go_wp2_with fail
  refine hr1.out.mono ?_
  clear hr1 k2
  intro x w3 hp
  obtain ⟨hb3, v3, hx, l3⟩ := hp
  subst x
  have hss := hid (sameCells_any Q1 v1 v3 _ _ w3 (L1.out.under hb3) l3 l1)
  have HB3 := hid (HB1.out.trans (hb3.mono HB1.out.size))
  clear hb3 l3 L1 HB1
  go_wp2_with fail
  refine hss.out.mono ?_
  clear hss
  intro x w5 hp
  obtain ⟨hx, n, hw⟩ := hp
  subst x
  have HB5 : Hid (Below w.heap.size w w5) := hid (by rw [hw]; exact ⟨HB3.out.os, HB3.out.tape, HB3.out.output, HB3.out.size, HB3.out.block⟩)
  clear hw
  go_wp2_with fail
  go_ret
  exact ⟨rfl, HB5.out⟩
set_option maxRecDepth 100000 in
set_option maxHeartbeats 1000000 in
theorem loutput_any {E : Env} {w : World} {q : Nat} {r : Array Value} {K : PK} {R : RK} {F G : Nat → Prop} {s : MS} (h : LW E w q r K R F G s) (hlen : s.out.length ≤ 8796093022208) :
    Calls Tryz.prog 38 #[.pointer (some ⟨q, 0, none⟩)] w fun e w' => e = .returned (.bool true) ∧ Below w.heap.size w w' := by
  have h1 := (cell_of_row w q 0 _ _ _ h.row).trans h.r0
  have h2 := (cell_of_row w q 1 _ _ _ h.row).trans h.r1
  have hqz := (Array.getElem?_eq_some_iff.1 h.row).1
  obtain ⟨vI, vO, lo4, st8, hP, _⟩ := h.pm
  obtain ⟨vO', vS', hR, _⟩ := h.rm
  have hps := hid (poutput_any hP hlen)
  have m4 := cell_of_row w R.b 4 _ _ _ hR.row
  simp only [RK.row, List.getElem?_toArray, List.getElem?_cons_zero, List.getElem?_cons_succ] at m4
  have hRz : R.b < w.heap.size := (Array.getElem?_eq_some_iff.1 hR.row).1
  have hZ := zs_of_owns hR.out
  have HZ := hid (fun (W : World) (hb : Below w.heap.size w W) => hZ.same (w' := W) (fun a n c e => hb.block _ (by
    have := (hR.out.lt a.block (by rw [e]; rfl)).2
    exact this)))
  obtain ⟨p0, c0, e0⟩ := hZ.slice
  subst e0
  generalize s.out = zs at *
  clear h hP hR hZ
  go_enter Tryz.func38, Tryz.ntmps38
  go_wp2_with fail
  refine hps.out.mono ?_
  clear hps
  intro x w1 hp
  obtain ⟨hb1, v1, hx, o1⟩ := hp
  subst x
  have k2 := (hb1.cell (p := ⟨q, 1, none⟩) hqz).trans h2
  have k4 := (hb1.cell (p := ⟨R.b, 4, none⟩) hRz).trans m4
  have hss := hid (sameZs_any zs v1 _ w1 (zs_of_owns o1) (HZ.out w1 hb1) (by omega))
  have HB1 := hid hb1
  clear o1 hb1 HZ
  go_wp2_with fail
  refine hss.out.mono ?_
  clear hss
  intro x w5 hp
  obtain ⟨hx, n, hw⟩ := hp
  subst x
  have HB5 : Hid (Below w.heap.size w w5) := hid (by rw [hw]; exact ⟨HB1.out.os, HB1.out.tape, HB1.out.output, HB1.out.size, HB1.out.block⟩)
  clear hw
  go_wp2_with fail
  go_ret
  exact ⟨rfl, HB5.out⟩
set_option maxRecDepth 100000 in
set_option maxHeartbeats 1000000 in
theorem agrees_any {E : Env} {w : World} {q : Nat} {r : Array Value} {K : PK} {R : RK} {F G : Nat → Prop} {s : MS} (h : LW E w q r K R F G s) (hlen : s.out.length ≤ 8796093022208) :
    Calls Tryz.prog 20 #[.pointer (some ⟨q, 0, none⟩)] w fun e w' => e = .returned (.bool true) ∧ Below w.heap.size w w' := by
  have hs := hid (lstate_any h)
  have hh := hid (fun (W : World) (hb : Below w.heap.size w W) => lheap_any (h.keep hb))
  have ho := hid (fun (W : World) (hb : Below w.heap.size w W) => loutput_any (h.keep hb) hlen)
  clear h
  go_enter Tryz.func20, Tryz.ntmps20
  go_wp2_with fail
  refine hs.out.mono ?_
  clear hs
  intro x w1 hp
  obtain ⟨hx, hb1⟩ := hp
  subst x
  have hh1 := hid (hh.out w1 hb1)
  have HB1 := hid hb1
  clear hh hb1
  go_wp2_with fail
  refine hh1.out.mono ?_
  clear hh1
  intro x w2 hp
  obtain ⟨hx, hb2⟩ := hp
  subst x
  have hb02 := HB1.out.trans (hb2.mono HB1.out.size)
  have ho1 := hid (ho.out w2 hb02)
  have HB2 := hid hb02
  clear ho hb2 hb02
  go_wp2_with fail
  refine ho1.out.mono ?_
  clear ho1
  intro x w3 hp
  obtain ⟨hx, hb3⟩ := hp
  subst x
  have HB3 := hid (HB2.out.trans (hb3.mono HB2.out.size))
  clear hb3
  go_wp2_with fail
  go_ret
  exact ⟨rfl, HB3.out⟩
end Go.Proofs.YtdmdpindonghdaaGreatDoor
namespace Go.Proofs.YtdmdpindonghdaaGreatDoor
open Go.RowKit
def startRow (kb rb : Nat) (s : ByteArray) : Array Value := lawRow kb rb s (-1000) (.slice none 0 0) (.slice none 0 0) (.slice none 0 0) (.slice none 0 0) (.slice none 0 0) (.slice none 0 0) (.slice none 0 0) (.slice none 0 0)
theorem newErr_zero {s : ByteArray} {n : Nat} {cells : Int} (h : NewErr s n cells 0) : 1 ≤ cells ∧ cells ≤ 32 ∧ n ≤ 64 := by
  rcases h with ⟨h, _⟩ | ⟨_, _, h⟩ | ⟨_, _, _, _, h⟩ | ⟨_, h2, h3, h4, _⟩
  · exact absurd rfl h
  · cases h
  · cases h
  · exact ⟨h2, h3, h4⟩
theorem LW.start {s : ByteArray} {zs : List Int} {n : Nat} {w w' : World} {q : Nat} {K : PK} {R : RK} (h : Begun s zs n w w' q K R) (he : NewErr s zs.length (n : Int) 0) :
    LW (envOf s K.fs zs n) w' q (startRow K.b R.b s) K R (K.In (.slice none 0 0)) (R.In (.slice none 0 0) (.slice none 0 0)) (startS (byteAt s 1) n) := by
  obtain ⟨a1, a2, _⟩ := newErr_zero he
  have hok : EnvOk (envOf s K.fs zs n) := env_ok h.err h.wt h.inv h.still (by omega) (by omega)
  obtain ⟨all, hms, hall⟩ := h.rms
  obtain ⟨vI, hPM⟩ := h.pm
  have hmaps := maps_same (wf_of h.err) h.inv h.still h.wt hall
  have hap := h.apart
  have hqa := h.qa
  have hR9 := h.rm.o9
  have hlq := h.lq
  have hz := hPM.z
  have o1 := h.rm.o1
  have o2 := h.rm.o2
  have o3 := h.rm.o3
  have o4 := h.rm.o4
  have o5 := h.rm.o5
  have o6 := h.rm.o6
  have o7 := h.rm.o7
  have o8 := h.rm.o8
  have b1 := hPM.b1
  have b2 := hPM.b2
  refine ⟨h.row, rfl, rfl, ⟨vI, _, _, _, hPM, fun _ h => h⟩, ⟨_, _, h.rm, fun _ h => h⟩, ⟨h.kl, h.kL, h.kz, ?_⟩, ⟨h.rl, h.rz, ?_⟩, ?_, ?_, ?_, ?_, ?_, start_inv_m hok, hok⟩
  · rw [h.kl, h.kL]; rfl
  · rw [hms, ← hmaps]; rfl
  · intro k hk hg
    rcases hk with ⟨h1, h2⟩ | h1
    · rcases hg with ⟨g1, g2⟩ | g1 | g1
      · omega
      · cases g1
      · cases g1
    · cases h1
  · rintro (⟨h1, h2⟩ | h1)
    · omega
    · cases h1
  · rintro (⟨h1, h2⟩ | h1 | h1)
    · omega
    · cases h1
    · cases h1
  · rintro k (⟨h1, h2⟩ | h1)
    · omega
    · cases h1
  · rintro k (⟨h1, h2⟩ | h1 | h1)
    · omega
    · cases h1
    · cases h1
set_option maxRecDepth 100000 in
set_option maxHeartbeats 1000000 in
theorem plays_nil (s : ByteArray) (vi : Value) (zs : List Int) (cells : Int) (b1 b2 : Bool) (w : World) (hs : s.size ≤ maxLen) (t1 : TakesTab w) (t2 : TypeTab w) (t3 : FlowTab w) (hv : ArgInts w vi zs) (hlen : zs.length ≤ 17592186044416) :
    Calls Tryz.prog 8 #[.string s, vi, .int .i64 cells, .slice none 0 0, .bool b1, .bool b2] w fun e w' => e = .returned (.bool true) ∧ Below w.heap.size w w' := by
  have hbg := hid (begin_any s vi zs cells w hs t1 t2 t3 hv hlen)
  obtain ⟨p0, c0, e0⟩ := hv.slice
  subst e0
  clear hs t1 t2 t3 hv
  go_enter Tryz.func8, Tryz.ntmps8
  go_wp2_with fail
  refine hbg.out.mono ?_
  clear hbg
  intro x w1 hp
  rcases hp with ⟨r, hr, he, hx, hb⟩ | ⟨n, q, K, R, hc, he, hx, hB⟩
  · subst x
    have HB := hid hb
    clear hb
    go_wp2_with fail
    go_ret
    exact ⟨rfl, HB.out⟩
  · subst x
    subst hc
    have hL := LW.start hB he
    have HL := hid hL
    have HB := hid hB.below
    clear hB hL
    have hag := hid (agrees_any HL.out (by simp [startS]))
    go_wp2_with fail
    go_loopg [15, 14] 1 (fun g x y w' => x = .int .i64 0 ∧ y = .bool true ∧ w' = w1)
    case atStart => exact ⟨rfl, rfl, rfl⟩
    case round =>
      obtain ⟨rfl, rfl, hw⟩ := hrel
      subst hw
      go_wp2_with fail
      refine hag.out.mono ?_
      clear hag
      intro x w2 hp
      obtain ⟨hx, hb2⟩ := hp
      subst x
      have HB2 := hid (HB.out.trans (hb2.mono HB.out.size))
      clear hb2
      go_wp2_with fail
      go_ret
      exact ⟨rfl, HB2.out⟩
set_option maxRecDepth 100000 in
theorem news_any (s : ByteArray) (vi : Value) (zs : List Int) (cells : Int) (w : World) (hs : s.size ≤ maxLen) (t1 : TakesTab w) (t2 : TypeTab w) (t3 : FlowTab w) (hv : ArgInts w vi zs) (hlen : zs.length ≤ 17592186044416) :
    Calls Tryz.prog 3 #[.string s, vi, .int .i64 cells] w fun e w' => e = .returned (.bool true) ∧ Below w.heap.size w w' := by
  have hp := hid (plays_nil s vi zs cells false false w hs t1 t2 t3 hv hlen)
  obtain ⟨p0, c0, e0⟩ := hv.slice
  subst e0
  clear hs t1 t2 t3 hv
  go_enter Tryz.func3, Tryz.ntmps3
  go_wp2_with fail
  refine hp.out.mono ?_
  clear hp
  intro x w1 hp
  obtain ⟨hx, hb⟩ := hp
  subst x
  have HB := hid hb
  clear hb
  go_wp2_with fail
  go_ret
  exact ⟨rfl, HB.out⟩
end Go.Proofs.YtdmdpindonghdaaGreatDoor
namespace Go.Proofs.YtdmdpindonghdaaGreatDoor
open Go.ChangeShapes Go.WideShapes Go.ChangeAt Go.ChangeMaps Go.RowKit
theorem knobs : ownKnob Tryz.prog.godebug = none := by kernel_rfl
theorem arr_cell {α : Type} {cs : List α} {r : Nat} {v : α} (h : (cs.drop r).take 1 = [v]) : cs[r]? = some v := by
  have h0 : ((cs.drop r).take 1)[0]? = some v := by rw [h]; rfl
  simpa using h0
theorem arr_strings {W : World} {g : Nat} {name : String} {cs : Array Value} {fuel : Nat} {p : List MemPlace} {l : List (List UInt8)} {sp : Nat → Bool} {hd : Bool} {b : Nat} {enc : TypeId × Value → Unit}
    (hg : Tryz.prog.globalNamed name = some g) (hv : W.var? Tryz.prog name = some cs) (hl : l.length = 25)
    (h : DataW.trod enc Tryz.prog W b sp hd fuel 176 cs.toList = some (.agg (l.map fun x => .lit (.string x)), p)) (k : Nat) (hk : k < 25) : W.cell? ⟨g, k, none⟩ = some (.string ⟨(l.getD k []).toArray⟩) := by
  obtain ⟨xs, m, _, ex, _, hlx, hel⟩ := DataW.trod_array Tryz.underlying176 h
  have c9 : Tryz.prog.cellsOf 9 = 1 := by kernel_rfl
  have hE := hel k hk
  rw [c9, Nat.mul_one, List.getElem?_eq_getElem (by omega)] at hE
  obtain ⟨z, e1, e2, _⟩ := DataW.trod_string Tryz.underlying9 hE
  have e3 : (xs.map (·.1)) = l.map fun x => .lit (.string x) := (DataW.agg.inj (Prod.mk.inj ex).1).symm
  have e4 : (xs.map (·.1))[k]? = (l.map fun x => (DataW.lit (.string x) : DataW Unit))[k]? := by rw [e3]
  rw [List.getElem?_map, List.getElem?_map, List.getElem?_eq_getElem (by omega : k < xs.length), List.getElem?_eq_getElem (by omega : k < l.length), e2] at e4
  have hz : z.data.toList = l.getD k [] := by
    simp only [Option.map_some, Option.some.injEq, DataW.lit.injEq, Lit.string.injEq] at e4
    rw [e4, List.getD, List.getElem?_eq_getElem (by omega : k < l.length)]; rfl
  rw [World.var?_cell hg hv k, ← hz]
  simpa using arr_cell e1
theorem arr_bools {W : World} {g : Nat} {name : String} {cs : Array Value} {fuel : Nat} {p : List MemPlace} {l : List Bool} {sp : Nat → Bool} {hd : Bool} {b : Nat} {enc : TypeId × Value → Unit}
    (hg : Tryz.prog.globalNamed name = some g) (hv : W.var? Tryz.prog name = some cs) (hl : l.length = 25)
    (h : DataW.trod enc Tryz.prog W b sp hd fuel 174 cs.toList = some (.agg (l.map fun x => .lit (.bool x)), p)) (k : Nat) (hk : k < 25) : W.cell? ⟨g, k, none⟩ = some (.bool (l.getD k false)) := by
  obtain ⟨xs, m, _, ex, _, hlx, hel⟩ := DataW.trod_array Tryz.underlying174 h
  have c9 : Tryz.prog.cellsOf 4 = 1 := by kernel_rfl
  have hE := hel k hk
  rw [c9, Nat.mul_one, List.getElem?_eq_getElem (by omega)] at hE
  obtain ⟨z, e1, e2⟩ := DataW.trod_bool Tryz.underlying4 hE
  have e3 : (xs.map (·.1)) = l.map fun x => .lit (.bool x) := (DataW.agg.inj (Prod.mk.inj ex).1).symm
  have e4 : (xs.map (·.1))[k]? = (l.map fun x => (DataW.lit (.bool x) : DataW Unit))[k]? := by rw [e3]
  rw [List.getElem?_map, List.getElem?_map, List.getElem?_eq_getElem (by omega : k < xs.length), List.getElem?_eq_getElem (by omega : k < l.length), e2] at e4
  have hz : z = l.getD k false := by
    simp only [Option.map_some, Option.some.injEq, DataW.lit.injEq, Lit.bool.injEq] at e4
    rw [e4, List.getD, List.getElem?_eq_getElem (by omega : k < l.length)]; rfl
  rw [World.var?_cell hg hv k, ← hz]
  simpa using arr_cell e1
def popsAll : List (List UInt8) := (List.range 25).map popsL
def pushesAll : List (List UInt8) := (List.range 25).map pushesL
def takesAll : List Bool := (List.range 25).map takesB
theorem popsAll_get {k : Nat} (h : k < 25) : popsAll.getD k [] = popsL k := by simp [popsAll, List.getD_eq_getElem?_getD, h]
theorem pushesAll_get {k : Nat} (h : k < 25) : pushesAll.getD k [] = pushesL k := by simp [pushesAll, List.getD_eq_getElem?_getD, h]
theorem takesAll_get {k : Nat} (h : k < 25) : takesAll.getD k false = takesB k := by simp [takesAll, List.getD_eq_getElem?_getD, h]
theorem e1 : (Rows.laid_tint_flow_pops : DataW Unit) = .agg (popsAll.map fun x => .lit (.string x)) := by kernel_rfl
theorem e2 : (Rows.laid_tint_flow_pushes : DataW Unit) = .agg (pushesAll.map fun x => .lit (.string x)) := by kernel_rfl
theorem e3 : (Rows.laid_tint_tintref_pops : DataW Unit) = .agg (popsAll.map fun x => .lit (.string x)) := by kernel_rfl
theorem e4 : (Rows.laid_tint_tintref_pushes : DataW Unit) = .agg (pushesAll.map fun x => .lit (.string x)) := by kernel_rfl
theorem e5 : (Rows.laid_tint_tintref_takes : DataW Unit) = .agg (takesAll.map fun x => .lit (.bool x)) := by kernel_rfl
theorem tabs_of_laid {W : World} (h : laidMetH Tryz.prog [("tint/flow.pops", Rows.laid_tint_flow_pops), ("tint/flow.pushes", Rows.laid_tint_flow_pushes), ("tint/tintref.pops", Rows.laid_tint_tintref_pops), ("tint/tintref.pushes", Rows.laid_tint_tintref_pushes), ("tint/tintref.takes", Rows.laid_tint_tintref_takes)] W) : FlowTab W ∧ TakesTab W ∧ TypeTab W := by
  rw [MakeChecks.laidMetH_plain _ _ _ (by kernel_rfl)] at h
  obtain ⟨ps, ⟨g0, t0, cs0, f0, p0, q0, hg0, ht0, hv0, hd0, ⟨g1, t1, cs1, f1, p1, q1, hg1, ht1, hv1, hd1, ⟨g2, t2, cs2, f2, p2, q2, hg2, ht2, hv2, hd2, ⟨g3, t3, cs3, f3, p3, q3, hg3, ht3, hv3, hd3, ⟨g4, t4, cs4, f4, p4, q4, hg4, ht4, hv4, hd4, _, _⟩, _⟩, _⟩, _⟩, _⟩, _, _⟩ := h
  obtain rfl := Option.some.inj ((show Tryz.prog.globalNamed "tint/flow.pops" = some 3 by kernel_rfl).symm.trans hg0)
  obtain rfl := Option.some.inj ((show Tryz.prog.globalNamed "tint/flow.pushes" = some 4 by kernel_rfl).symm.trans hg1)
  obtain rfl := Option.some.inj ((show Tryz.prog.globalNamed "tint/tintref.pops" = some 1 by kernel_rfl).symm.trans hg2)
  obtain rfl := Option.some.inj ((show Tryz.prog.globalNamed "tint/tintref.pushes" = some 2 by kernel_rfl).symm.trans hg3)
  obtain rfl := Option.some.inj ((show Tryz.prog.globalNamed "tint/tintref.takes" = some 0 by kernel_rfl).symm.trans hg4)
  obtain rfl := Option.some.inj ((show (Tryz.prog.globals[3]?).map (·.type) = some 176 by kernel_rfl).symm.trans ht0)
  obtain rfl := Option.some.inj ((show (Tryz.prog.globals[4]?).map (·.type) = some 176 by kernel_rfl).symm.trans ht1)
  obtain rfl := Option.some.inj ((show (Tryz.prog.globals[1]?).map (·.type) = some 176 by kernel_rfl).symm.trans ht2)
  obtain rfl := Option.some.inj ((show (Tryz.prog.globals[2]?).map (·.type) = some 176 by kernel_rfl).symm.trans ht3)
  obtain rfl := Option.some.inj ((show (Tryz.prog.globals[0]?).map (·.type) = some 174 by kernel_rfl).symm.trans ht4)
  rw [e1] at hd0
  rw [e2] at hd1
  rw [e3] at hd2
  rw [e4] at hd3
  rw [e5] at hd4
  refine ⟨fun k hk => ⟨?_, ?_⟩, fun k hk => ?_, fun k hk => ⟨?_, ?_⟩⟩
  · rw [arr_strings hg0 hv0 rfl hd0 k hk, popsAll_get hk]; rfl
  · rw [arr_strings hg1 hv1 rfl hd1 k hk, pushesAll_get hk]; rfl
  · rw [arr_bools hg4 hv4 rfl hd4 k hk, takesAll_get hk]
  · rw [arr_strings hg2 hv2 rfl hd2 k hk, popsAll_get hk]; rfl
  · rw [arr_strings hg3 hv3 rfl hd3 k hk, pushesAll_get hk]; rfl
end Go.Proofs.YtdmdpindonghdaaGreatDoor
namespace Go.Proofs.YtdmdpindonghdaaGreatDoor
open Go.ChangeShapes Go.WideShapes Go.ChangeAt Go.ChangeMaps Go.RowKit
theorem cellsInt : Tryz.prog.cellsOf 3 = 1 := by kernel_rfl
theorem bytesInt : Tryz.prog.bytesOf 3 = 8 := by kernel_rfl
theorem laidOutP : laidOutB Tryz.prog = true := by kernel_rfl
set_option maxRecDepth 100000 in
/-- A list of numbers that is handed in. -/
theorem ints_arg {H : Type} {enc : TypeId × Value → H} {W : World} {v : Value} {d : DataW H} {p : List MemPlace} {base : Nat} (hok : Value.okWide Tryz.prog W .any base 22 v) (h : DataW.Trod enc Tryz.prog W 0 (fun _ => true) true 22 v d p) (hlt : ∀ x ∈ p, x.block < W.heap.size) (hw : (d.weights Tryz.prog 22).all (· ≤ reachBytes) = true) :
    ∃ zs : List Int, ArgInts W v zs ∧ zs.length ≤ 17592186044416 := by
  obtain ⟨a0, len, cap, rfl⟩ := okWide_slice Tryz.underlying22 hok
  obtain ⟨fuel, hf⟩ := h
  rcases open_ints Tryz.underlying22 Tryz.underlying3 cellsInt hf with ⟨hcs, hx⟩ | ⟨a, len', cap', zs, hcs, _, hl, hm, hz, hx, hcell, _⟩
  · simp [Value.cells] at hcs
    obtain ⟨rfl, rfl, rfl⟩ := hcs
    exact ⟨[], .inl ⟨rfl, rfl⟩, by simp⟩
  · simp [Value.cells] at hcs
    obtain ⟨rfl, rfl, rfl⟩ := hcs
    simp only [Prod.mk.injEq] at hx
    obtain ⟨rfl, rfl⟩ := hx
    simp only [if_true] at hz
    have hlz : (zs.take len).length = len := by rw [List.length_take]; omega
    refine ⟨zs.take len, .inr ⟨a, cap, by rw [hlz], ?_, ?_⟩, ?_⟩
    · intro j x hj
      have hjl := (List.getElem?_eq_some_iff.1 hj).1
      rw [hlz] at hjl
      rw [List.getElem?_take, if_pos hjl] at hj
      rw [hcell j (by omega), List.getD_eq_getElem?_getD, hj]
      rfl
    · intro hp
      exact hlt (.cell a.block (a.off + 0)) (MemPlace.mem_row.2 ⟨0, by omega, rfl⟩)
    · rw [hlz]
      have := hw
      simp only [DataW.weights, Tryz.underlying22, List.all_cons, Bool.and_eq_true, decide_eq_true_eq, bytesInt] at this
      have h2 := this.1
      simp only [lits, List.length_map, hlz] at h2
      have : reachBytes = 140737488351232 := rfl
      omega
set_option maxRecDepth 100000 in
theorem news_lifted (os : Os) (started : os.Started) (H : Type) (enc : TypeId × Value → H) :
    ReturnsInHanded {} Tryz.checked os 3 .any (fun w args => (Rows.newsSpec.pre enc Tryz.prog Tryz.f3 Rows.newsRow.domain false w args ∧ laidMetH Tryz.prog Rows.newsRow.laid w) ∧ sizedMet enc Tryz.prog Tryz.f3 (OpenSpec.ofChange Rows.newsSpec) false w args)
      (Rows.newsSpec.post enc Tryz.prog Tryz.f3 false true false false) := by
  refine returnsInHanded_of_change_and (C := Tryz.checked) (X := fun w _ => laidMetH Tryz.prog Rows.newsRow.laid w) (fun _ _ _ hh h => h.of_heap hh) knobs started (by kernel_rfl) Tryz.func3
    (ChangeSpec.witness_shaped (enc := enc) (C := Tryz.checked) (os := os) (X := fun w _ => laidMetH Tryz.prog Rows.newsRow.laid w) false (World.laidAll Tryz.prog os Rows.newsRow.laid) #[.string ⟨#[]⟩, .slice none 0 0, .int .i64 0] 8 (World.laidAll_os _ _ _)
      (World.shaped_of_ZipB (by kernel_rfl) (by kernel_rfl)) (by kernel_rfl) (by kernel_rfl) (by kernel_rfl)
      (by rw [MakeChecks.laidMetH_plain _ _ _ (by kernel_rfl)]; exact laidMet_laidAll _ (by kernel_rfl) (by kernel_rfl))) ?_
  intro W base args ds gs before hval0 hW _ hsz hL _
  have hval : ∀ (j : Nat) t v, Tryz.f3.params[j]? = some t → args[j]? = some v → Value.okWide Tryz.prog W .any base t v := hval0
  have hW' := hW
  obtain ⟨p, q, hA0, hV, rfl, _, _⟩ := hW
  have hA : DataW.TrodAll enc Tryz.prog W 0 (fun _ => true) true Tryz.f3.params.toList args.toList ds p := hA0
  obtain ⟨rfl, rfl⟩ := trodVars_none hV
  have hlt : ∀ x ∈ p, x.block < W.heap.size := fun x hx => by
    have := hW'.lt x (by simpa using hx)
    exact this
  rw [Tryz.params3] at hA hval hsz
  obtain ⟨v0, v1, v2, d0, d1, d2, p0, p1, p2, rfl, rfl, rfl, h0, h1, h2⟩ := trodAll_three hA
  obtain ⟨s, rfl, rfl, rfl, hs⟩ := open_string Tryz.underlying9 (hval 0 9 v0 rfl rfl) h0
  obtain ⟨n, rfl, rfl, rfl, hn⟩ := open_int Tryz.underlying3 (hval 2 3 v2 rfl rfl) h2
  have hw1 : (d1.weights Tryz.prog 22).all (· ≤ reachBytes) = true := by
    have := hsz
    simp only [List.append_nil, List.cons_append, List.nil_append, DataW.weightsEach, List.all_append, Bool.and_eq_true] at this
    exact this.2.1
  have hlt1 : ∀ x ∈ p1, x.block < W.heap.size := fun x hx => hlt x (by simp [hx])
  obtain ⟨zs, hz, hzl⟩ := ints_arg (hval 1 22 v1 rfl rfl) h1 hlt1 hw1
  obtain ⟨t1, t2, t3⟩ := tabs_of_laid hL
  refine (news_any s v1 zs n W hs t2 t3 t1 hz hzl).mono fun e W' ⟨he, hb⟩ => ?_
  subst he
  have hr1 : DataW.Trod enc Tryz.prog W' 0 (fun b => decide (b < W.heap.size)) true 22 v1 d1 p1 := Below.trod laidOutP (by kernel_rfl) (of_decide_eq_true (by kernel_rfl)) h1 hb hlt1
  exact ⟨_, rfl, _, _, _, [], _, [], hW', trodAll_mk1 (shut_bool Tryz.underlying4 _), trodAll_mk3 (shut_string Tryz.underlying9 hs) hr1 (shut_int Tryz.underlying3 hn), rfl, hb.frame _, fun h => by cases h⟩
theorem news_holds : Rows.NewsSaid :=
  OpenClaim.holds_of_wide 3 Tryz.f3 rfl rfl rfl rfl rfl rfl rfl ⟨rfl, rfl, rfl, rfl, rfl⟩ rfl rfl rfl rfl rfl (by kernel_rfl) Tryz.func3 (by kernel_rfl)
    (of_decide_eq_true (by kernel_rfl)) (by unfold Func.isWrapper; first | (rw [if_pos (by decide +kernel)]; kernel_rfl) | (rw [if_neg (by decide +kernel)]; exact ⟨rfl, rfl⟩))
    (fun os started H enc _ => news_lifted os started H enc)
theorem news_card_holds : Rows.NewsCardSaid :=
  Claim7.holds_tied_plain_at .later [] [.data, .data, .data, .data, .data] true Rows.newsCard.stood.harness false
    news_holds (fun _ h => by cases h) (by kernel_rfl) (fun _ h => by cases h) news_row_tie rfl ⟨rfl, rfl⟩ (by kernel_rfl) rfl
    (fun f fn hf hfn => by
      obtain rfl : f = 3 := Option.some.inj ((show Tryz.prog.funcNamed "tint/tintlaw.News" = some 3 by kernel_rfl).symm.trans hf) |>.symm
      obtain rfl : fn = Tryz.f3 := (Option.some.inj (Tryz.func3.symm.trans hfn)).symm
      exact ⟨by kernel_rfl, fun j t ht => by
        rw [Tryz.params3] at ht
        have hm : t ∈ [9, 22, 3] := by simpa using Array.mem_of_getElem? ht
        have hall : ([9, 22, 3].all fun u => !Tryz.prog.wantsStandIn u) = true := by kernel_rfl
        exact (show Tryz.prog.wantsStandIn t = false by simpa using List.all_eq_true.1 hall t hm)⟩)
    (by kernel_rfl)
#print axioms news_card_holds
end Go.Proofs.YtdmdpindonghdaaGreatDoor
