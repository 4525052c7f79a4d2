/- What the proofs of these statements stand on, part 8: RmB, MacI, LawD, LawE, MsF, RmC, StA, StB, RmD, RmE, RmF, RmG, RmH, RmI, RmJ, RmK, RmL, RmM, StC, PmI, PmJ, PmK, PmL. -/
import Derived.Test.YtdmdpindonghdaaGreatDoorAll7
set_option maxHeartbeats 4000000
set_option maxRecDepth 100000
namespace Go.Proofs.YtdmdpindonghdaaGreatDoor
open Go.RowKit
structure RE (K : RK) (E : Env) : Prop where
  l : K.l = E.l
  zs : K.zs = E.zs
  ms : K.ms = E.ms
def RX (w : World) (K : RK) (F : Nat → Prop) (s : MS) : Prop := ∃ vO vS, RM w K vO vS s ∧ ∀ k, K.In vO vS k → F k
theorem RX.keep {w w' : World} {K : RK} {F : Nat → Prop} {s : MS} (h : RX w K F s) (hz : w.heap.size ≤ w'.heap.size) (hk : ∀ k, k < w.heap.size → F k → w'.heap[k]? = w.heap[k]?) : RX w' K F s := by
  obtain ⟨vO, vS, h1, h2⟩ := h
  exact ⟨vO, vS, h1.keep hz (fun k hk1 hk2 => hk k hk1 (h2 k hk2)), h2⟩
theorem RX.below {w w' : World} {K : RK} {F : Nat → Prop} {s : MS} (h : RX w K F s) (hb : Below w.heap.size w w') : RX w' K F s := h.keep hb.size (fun k hk _ => hb.block k hk)
theorem RX.mono {w : World} {K : RK} {F G : Nat → Prop} {s : MS} (h : RX w K F s) (hg : ∀ k, F k → G k) : RX w K G s := by
  obtain ⟨vO, vS, h1, h2⟩ := h
  exact ⟨vO, vS, h1, fun k hk => hg k (h2 k hk)⟩
theorem rstate_m {w : World} {K : RK} {E : Env} {vO vS : Value} {s : MS} (h : RM w K vO vS s) (hke : RE K E) (he : EnvOk E) (hi : MInv E s) {i : Ins} (hg : E.l[s.at_]? = some i) :
    Calls Tryz.prog 61 #[.pointer (some ⟨K.b, 0, none⟩)] w (RStatePost s.oc s.va i.place s.hs.2.1 s.hs.2.2 (locsS E s) (stkS E s) w) := by
  obtain ⟨m, hm⟩ := hi.tys he
  have hpl := he.place _ _ _ hg hm.get
  have hl := hi.lo he
  have hs8 := hi.st he
  have hL := he.wf.loc
  obtain ⟨cs, ho, _, hin⟩ := h.maps
  have hmk : K.ms[s.at_]? = some m := by rw [hke.ms]; exact hm.get
  have hlt := (List.getElem?_eq_some_iff.1 hmk).1
  obtain ⟨x0, x1, v1, v2, x2, x3, y1, y2⟩ := PtsIn.at cs K.ms hin s.at_ m hmk
  rcases ho.2 with ⟨_, e⟩ | ⟨g, cap, cur, hv, _⟩
  · omega
  have hc := ho.cells (g := g) (by rw [hv]; rfl)
  have z0 := hc _ _ x0
  have z1 := hc _ _ x1
  have z2 := hc _ _ x2
  have z3 := hc _ _ x3
  rw [addr_add] at z0 z1 z2 z3
  have hlo : LsAt w (fun _ => True) (.slice (some ⟨K.gLo, 0, none⟩) s.lo.length s.lo.length) s.lo.length (s.lo.flatMap wdCells) := .inr ⟨K.gLo, _, rfl, trivial, fun j u hj => by rw [cell_of_row w K.gLo j _ _ _ h.loc, List.getElem?_toArray]; exact hj⟩
  have e1 : m.place = i.place := hpl
  have hst := rstate_any K.b _ _ _ _ _ _ _ s.rd s.oc s.va s.at_ s.hs.2.1 s.hs.2.2 m.place m.reached g _ _ s.at_ v1 v2 m.lo m.st s.lo s.st _ _ _ _ w (by simpa [RK.row] using h.row) hv rfl hlt z0 z1 z2 z3 y1 y2 hlo (LsAt.of_owns h.stk) hm.lol (by rw [hm.st, List.length_map]) (by omega) (by omega)
  rw [e1] at hst
  have q1 : locsS E s = List.zipWith (fun t (x : Bool × Int) => (t, slotV t x.2)) m.lo s.lo := by unfold locsS slotsC tysAt; rw [hm.get]
  have q2 : stkS E s = List.zipWith (fun t (x : Bool × Int) => (t, slotV t x.2)) m.st s.st := by unfold stkS slotsC tysAt; rw [hm.get]
  rw [q1, q2]
  exact hst
def RHeapPost (cs : List Cl) (w : World) (e : Ending) (w' : World) : Prop := Below w.heap.size w w' ∧ ∃ v, e = .returned v ∧ LsAt w' (fun g => w.heap.size ≤ g ∧ g < w'.heap.size) v cs.length (cs.flatMap clCells)
theorem rheap_m {w : World} {K : RK} {vO vS : Value} {s : MS} (h : RM w K vO vS s) (hn : s.hs.1.length ≤ 100) :
    Calls Tryz.prog 64 #[.pointer (some ⟨K.b, 0, none⟩)] w (RHeapPost (s.hs.1.map toldC) w) := by
  have m10 := cell_of_row w K.b 10 _ _ _ h.row
  simp only [RK.row, List.getElem?_toArray, List.getElem?_cons_zero, List.getElem?_cons_succ] at m10
  have hc := hid (cellsTold_any K.b 10 s.hs.1 _ _ w m10 (LsAt.of_owns h.cells) (by omega))
  clear h
  go_enter Tryz.func64, Tryz.ntmps64
  go_wp2_with fail
  refine hc.out.mono ?_
  clear hc
  intro x w5 hh
  obtain ⟨hb, v', hx, ho⟩ := hh
  subst x
  have HB := hid hb
  have HO := hid (LsAt.of_owns ho)
  clear hb ho
  go_wp2_with fail
  go_ret
  exact ⟨HB.out, _, rfl, by rw [List.length_map]; exact HO.out⟩
theorem LsAt.heap {w W : World} {P : Nat → Prop} {v : Value} {n : Nat} {cs : List Value} (h : LsAt w P v n cs) (e : ∀ g, P g → W.heap[g]? = w.heap[g]?) : LsAt W P v n cs := h.keep (fun g hg => ⟨hg, e g hg⟩)
theorem sameState_any (oc va pl ph hd : Int) (l1 l2 : List (Nat × Int)) (v1 v2 u1 u2 : Value) (w : World) (h1 : LsAt w (fun g => g < w.heap.size) v1 l1.length (l1.flatMap slCells)) (h2 : LsAt w (fun g => g < w.heap.size) v2 l2.length (l2.flatMap slCells))
    (k1 : LsAt w (fun g => g < w.heap.size) u1 l1.length (l1.flatMap slCells)) (k2 : LsAt w (fun g => g < w.heap.size) u2 l2.length (l2.flatMap slCells)) (hl1 : l1.length ≤ 1000) (hl2 : l2.length ≤ 1000) :
    Calls Tryz.prog 62 #[.agg #[.int .i64 oc, .int .i64 va, .int .i64 pl, .int .i64 ph, .int .i64 hd, v1, v2], .agg #[.int .i64 oc, .int .i64 va, .int .i64 pl, .int .i64 ph, .int .i64 hd, u1, u2]] w fun e w' => e = .returned (.bool true) ∧ Below w.heap.size w w' := by
  obtain ⟨a1, b1, e1⟩ := h1.slice
  obtain ⟨a2, b2, e2⟩ := h2.slice
  obtain ⟨a3, b3, e3⟩ := k1.slice
  obtain ⟨a4, b4, e4⟩ := k2.slice
  subst e1
  subst e2
  subst e3
  subst e4
  have hs1 := hid (fun (W : World) (e : ∀ g, g < w.heap.size → W.heap[g]? = w.heap[g]?) => sameSlots_any l1 _ _ _ _ W (h1.heap e) (k1.heap e) hl1)
  have hs2 := hid (fun (W : World) (e : ∀ g, g < w.heap.size → W.heap[g]? = w.heap[g]?) => sameSlots_any l2 _ _ _ _ W (h2.heap e) (k2.heap e) hl2)
  have hb0 : Below w.heap.size w ((w.alloc (.cells #[.int .i64 oc, .int .i64 va, .int .i64 pl, .int .i64 ph, .int .i64 hd, .slice a1 l1.length b1, .slice a2 l2.length b2] 134)).alloc (.cells #[.int .i64 oc, .int .i64 va, .int .i64 pl, .int .i64 ph, .int .i64 hd, .slice a3 l1.length b3, .slice a4 l2.length b4] 134)) := ((Below.refl _ _).alloc (Nat.le_refl _) _).alloc (by simp) _
  have HB0 := hid hb0
  have q1 : (oc == oc) = true := by simp
  have q2 : (va == va) = true := by simp
  have q3 : (pl == pl) = true := by simp
  have q4 : (ph == ph) = true := by simp
  have q5 : (hd == hd) = true := by simp
  clear h1 h2 k1 k2 hb0
  go_enter Tryz.func62, Tryz.ntmps62
  go_wp2_with fail
  refine (hs1.out _ HB0.out.block).mono ?_
  clear hs1
  intro x w1 hh
  obtain ⟨hx, n, hw1⟩ := hh
  subst x
  subst w1
  go_wp2_with fail
  refine (hs2.out _ (below_drewN HB0.out n).block).mono ?_
  clear hs2
  intro x w1 hh
  obtain ⟨hx, m, hw1⟩ := hh
  subst x
  subst w1
  go_wp2_with fail
  go_ret
  exact ⟨rfl, below_drewN HB0.out _⟩
/-- The law's world in memory: both machines stand the same, apart from one another. -/
structure LW (E : Env) (w : World) (q : Nat) (r : Array Value) (K : PK) (R : RK) (F G : Nat → Prop) (s : MS) : Prop where
  row : w.heap[q]? = some (.cells r 58)
  r0 : r[0]? = some (.pointer (some ⟨K.b, 0, none⟩))
  r1 : r[1]? = some (.pointer (some ⟨R.b, 0, none⟩))
  pm : PX w K F s
  rm : RX w R G s
  ke : KE K E
  re : RE R E
  fg : ∀ k, F k → ¬ G k
  fq : ¬ F q
  gq : ¬ G q
  fz : ∀ k, F k → k < w.heap.size
  gz : ∀ k, G k → k < w.heap.size
  inv : MInv E s
  ok : EnvOk E
theorem LW.keep {E : Env} {w w' : World} {q : Nat} {r : Array Value} {K : PK} {R : RK} {F G : Nat → Prop} {s : MS} (h : LW E w q r K R F G s) (hb : Below w.heap.size w w') : LW E w' q r K R F G s :=
  ⟨(hb.block q (Array.getElem?_eq_some_iff.1 h.row).1).trans h.row, h.r0, h.r1, h.pm.below hb, h.rm.below hb, h.ke, h.re, h.fg, h.fq, h.gq, fun k hk => Nat.lt_of_lt_of_le (h.fz k hk) hb.size, fun k hk => Nat.lt_of_lt_of_le (h.gz k hk) hb.size, h.inv, h.ok⟩
theorem LsAt.under {w w' : World} {B : Nat} {v : Value} {n : Nat} {cs : List Value} (h : LsAt w (fun g => B ≤ g ∧ g < w.heap.size) v n cs) (hb : Below w.heap.size w w') : LsAt w' (fun g => g < w'.heap.size) v n cs := h.keep (fun g hg => ⟨Nat.lt_of_lt_of_le hg.2 hb.size, hb.block g hg.2⟩)
theorem lstate_any {E : Env} {w : World} {q : Nat} {r : Array Value} {K : PK} {R : RK} {F G : Nat → Prop} {s : MS} (h : LW E w q r K R F G s) :
    Calls Tryz.prog 36 #[.pointer (some ⟨q, 0, none⟩)] w fun e w' => e = .returned (.bool true) ∧ Below w.heap.size w w' := by
  obtain ⟨i, hc⟩ := h.inv.can h.ok
  have h1 := (cell_of_row w q 0 _ _ _ h.row).trans h.r0
  have h2 := (cell_of_row w q 1 _ _ _ h.row).trans h.r1
  have hqz := (Array.getElem?_eq_some_iff.1 h.row).1
  obtain ⟨vI, vO, lo4, st8, hP, _⟩ := h.pm
  have hps := hid (pstate_m hP h.ke h.ok h.inv hc.get)
  have hrs := hid (fun (W : World) (hb : Below w.heap.size w W) => by
    obtain ⟨vO', vS', hR, _⟩ := h.rm.below hb
    exact rstate_m hR h.re h.ok h.inv hc.get)
  have l1 : (locsS E s).length ≤ 1000 := by
    have := h.inv.lo h.ok
    have := h.ok.wf.loc
    unfold locsS slotsC; rw [List.length_zipWith]; omega
  have l2 : (stkS E s).length ≤ 1000 := by
    have := h.inv.st h.ok
    unfold stkS slotsC; rw [List.length_zipWith]; omega
  generalize locsS E s = Q1 at *
  generalize stkS E s = Q2 at *
  clear h hP hc
  go_enter Tryz.func36, Tryz.ntmps36
  go_wp2_with fail
  refine hps.out.mono ?_
  clear hps
  intro x w1 hp
  obtain ⟨hb1, v1, v2, hx, o1, o2, _⟩ := hp
  subst x
  have L1 := hid (LsAt.of_owns o1)
  have L2 := hid (LsAt.of_owns o2)
  obtain ⟨p1, c1, e1⟩ := L1.out.slice
  obtain ⟨p2, c2, e2⟩ := L2.out.slice
  subst e1
  subst e2
  have hbA : Below w1.heap.size w1 (w1.alloc (.cells #[.int .i64 s.oc, .int .i64 s.va, .int .i64 i.place, .int .i64 s.hs.2.1, .int .i64 s.hs.2.2, .slice p1 Q1.length c1, .slice p2 Q2.length c2] 134)) := (Below.refl _ _).alloc (Nat.le_refl _) _
  have hb2 := hb1.trans (hbA.mono hb1.size)
  have hr1 := hid (hrs.out _ hb2)
  have k2 := (hb2.cell (p := ⟨q, 1, none⟩) hqz).trans h2
  have hbox := heap_alloc_new w1 (.cells #[.int .i64 s.oc, .int .i64 s.va, .int .i64 i.place, .int .i64 s.hs.2.1, .int .i64 s.hs.2.2, .slice p1 Q1.length c1, .slice p2 Q2.length c2] 134)
  have HBX := hid hbox
  have HBA := hid hbA
  have HB2 := hid hb2
  have hz1 := hb1.size
  clear hrs o1 o2 hb1 hbox hbA hb2
  go_wp2_with fail
  refine hr1.out.mono ?_
  clear hr1 k2
  intro x w3 hp
  obtain ⟨hb3, v3, v4, hx, l3, l4⟩ := hp
  subst x
  obtain ⟨p3, c3, e3⟩ := l3.slice
  obtain ⟨p4, c4, e4⟩ := l4.slice
  subst e3
  subst e4
  have hsz : (w1.alloc (.cells #[.int .i64 s.oc, .int .i64 s.va, .int .i64 i.place, .int .i64 s.hs.2.1, .int .i64 s.hs.2.2, .slice p1 Q1.length c1, .slice p2 Q2.length c2] 134)).heap.size = w1.heap.size + 1 := alloc_size _ _
  have row3 := (hb3.block w1.heap.size (by omega)).trans HBX.out
  have hb13 : Below w1.heap.size w1 w3 := HBA.out.trans (hb3.mono (by omega))
  have hbB : Below w3.heap.size w3 (w3.alloc (.cells #[.int .i64 s.oc, .int .i64 s.va, .int .i64 i.place, .int .i64 s.hs.2.1, .int .i64 s.hs.2.2, .slice p3 Q1.length c3, .slice p4 Q2.length c4] 134)) := (Below.refl _ _).alloc (Nat.le_refl _) _
  have hz3 := hb13.size
  have hz03 := hb3.size
  have row4 := (hbB.block w1.heap.size (by omega)).trans row3
  have hb14 : Below w1.heap.size w1 _ := hb13.trans (hbB.mono hz3)
  have hss := hid (sameState_any s.oc s.va i.place s.hs.2.1 s.hs.2.2 Q1 Q2 _ _ _ _ _ (L1.out.under hb14) (L2.out.under hb14) (l3.under hbB) (l4.under hbB) l1 l2)
  have z0 := cell_of_row _ w1.heap.size 0 _ _ _ row4
  have z1 := cell_of_row _ w1.heap.size 1 _ _ _ row4
  have z2 := cell_of_row _ w1.heap.size 2 _ _ _ row4
  have z3 := cell_of_row _ w1.heap.size 3 _ _ _ row4
  have z4 := cell_of_row _ w1.heap.size 4 _ _ _ row4
  have z5 := cell_of_row _ w1.heap.size 5 _ _ _ row4
  have z6 := cell_of_row _ w1.heap.size 6 _ _ _ row4
  simp only [List.getElem?_toArray, List.getElem?_cons_zero, List.getElem?_cons_succ] at z0 z1 z2 z3 z4 z5 z6
  have HF : Hid (Below w.heap.size w (w3.alloc (.cells #[.int .i64 s.oc, .int .i64 s.va, .int .i64 i.place, .int .i64 s.hs.2.1, .int .i64 s.hs.2.2, .slice p3 Q1.length c3, .slice p4 Q2.length c4] 134))) := hid ((HB2.out.trans (hb3.mono HB2.out.size)).alloc (by omega) _)
  clear row3 row4 hb3 hb13 hb14 hbB l3 l4 L1 L2 HBX HBA HB2
  go_wp2_with fail
  refine hss.out.mono ?_
  clear hss z0 z1 z2 z3 z4 z5 z6
  intro x w5 hp
  obtain ⟨hx, hb5⟩ := hp
  subst x
  have HB5 := hid hb5
  clear hb5
  go_wp2_with fail
  go_ret
  exact ⟨rfl, HF.out.trans (HB5.out.mono HF.out.size)⟩
theorem lheap_any {E : Env} {w : World} {q : Nat} {r : Array Value} {K : PK} {R : RK} {F G : Nat → Prop} {s : MS} (h : LW E w q r K R F G s) :
    Calls Tryz.prog 37 #[.pointer (some ⟨q, 0, none⟩)] w fun e w' => e = .returned (.bool true) ∧ Below w.heap.size w w' := by
  have h1 := (cell_of_row w q 0 _ _ _ h.row).trans h.r0
  have h2 := (cell_of_row w q 1 _ _ _ h.row).trans h.r1
  have hqz := (Array.getElem?_eq_some_iff.1 h.row).1
  obtain ⟨vI, vO, lo4, st8, hP, _⟩ := h.pm
  have hn : s.hs.1.length ≤ 100 := by have := h.inv.hok.len; omega
  have hps := hid (pheap_any hP hn)
  have hrs := hid (fun (W : World) (hb : Below w.heap.size w W) => by
    obtain ⟨vO', vS', hR, _⟩ := h.rm.below hb
    exact rheap_m hR hn)
  have l1 : (s.hs.1.map toldC).length ≤ 1000 := by simp; omega
  generalize s.hs.1.map toldC = Q1 at *
  clear h hP
  go_enter Tryz.func37, Tryz.ntmps37
  go_wp2_with fail
  refine hps.out.mono ?_
  clear hps
  intro x w1 hp
  obtain ⟨hb1, v1, hx, o1⟩ := hp
  subst x
  have hr1 := hid (hrs.out _ hb1)
  have k2 := (hb1.cell (p := ⟨q, 1, none⟩) hqz).trans h2
  have L1 := hid (LsAt.of_owns o1)
  have HB1 := hid hb1
  clear hrs o1 hb1
  go_wp2_with fail
  refine hr1.out.mono ?_
  clear hr1 k2
  intro x w3 hp
  obtain ⟨hb3, v3, hx, l3⟩ := hp
  subst x
  have hss := hid (sameCells_any Q1 v1 v3 _ _ w3 (L1.out.under hb3) l3 l1)
  have HB3 := hid (HB1.out.trans (hb3.mono HB1.out.size))
  clear hb3 l3 L1 HB1
  go_wp2_with fail
  refine hss.out.mono ?_
  clear hss
  intro x w5 hp
  obtain ⟨hx, n, hw⟩ := hp
  subst x
  have HB5 : Hid (Below w.heap.size w w5) := hid (by rw [hw]; exact ⟨HB3.out.os, HB3.out.tape, HB3.out.output, HB3.out.size, HB3.out.block⟩)
  clear hw
  go_wp2_with fail
  go_ret
  exact ⟨rfl, HB5.out⟩
theorem loutput_any {E : Env} {w : World} {q : Nat} {r : Array Value} {K : PK} {R : RK} {F G : Nat → Prop} {s : MS} (h : LW E w q r K R F G s) (hlen : s.out.length ≤ 8796093022208) :
    Calls Tryz.prog 38 #[.pointer (some ⟨q, 0, none⟩)] w fun e w' => e = .returned (.bool true) ∧ Below w.heap.size w w' := by
  have h1 := (cell_of_row w q 0 _ _ _ h.row).trans h.r0
  have h2 := (cell_of_row w q 1 _ _ _ h.row).trans h.r1
  have hqz := (Array.getElem?_eq_some_iff.1 h.row).1
  obtain ⟨vI, vO, lo4, st8, hP, _⟩ := h.pm
  obtain ⟨vO', vS', hR, _⟩ := h.rm
  have hps := hid (poutput_any hP hlen)
  have m4 := cell_of_row w R.b 4 _ _ _ hR.row
  simp only [RK.row, List.getElem?_toArray, List.getElem?_cons_zero, List.getElem?_cons_succ] at m4
  have hRz : R.b < w.heap.size := (Array.getElem?_eq_some_iff.1 hR.row).1
  have hZ := zs_of_owns hR.out
  have HZ := hid (fun (W : World) (hb : Below w.heap.size w W) => hZ.same (w' := W) (fun a n c e => hb.block _ (by
    have := (hR.out.lt a.block (by rw [e]; rfl)).2
    exact this)))
  obtain ⟨p0, c0, e0⟩ := hZ.slice
  subst e0
  generalize s.out = zs at *
  clear h hP hR hZ
  go_enter Tryz.func38, Tryz.ntmps38
  go_wp2_with fail
  refine hps.out.mono ?_
  clear hps
  intro x w1 hp
  obtain ⟨hb1, v1, hx, o1⟩ := hp
  subst x
  have k2 := (hb1.cell (p := ⟨q, 1, none⟩) hqz).trans h2
  have k4 := (hb1.cell (p := ⟨R.b, 4, none⟩) hRz).trans m4
  have hss := hid (sameZs_any zs v1 _ w1 (zs_of_owns o1) (HZ.out w1 hb1) (by omega))
  have HB1 := hid hb1
  clear o1 hb1 HZ
  go_wp2_with fail
  refine hss.out.mono ?_
  clear hss
  intro x w5 hp
  obtain ⟨hx, n, hw⟩ := hp
  subst x
  have HB5 : Hid (Below w.heap.size w w5) := hid (by rw [hw]; exact ⟨HB1.out.os, HB1.out.tape, HB1.out.output, HB1.out.size, HB1.out.block⟩)
  clear hw
  go_wp2_with fail
  go_ret
  exact ⟨rfl, HB5.out⟩
theorem agrees_any {E : Env} {w : World} {q : Nat} {r : Array Value} {K : PK} {R : RK} {F G : Nat → Prop} {s : MS} (h : LW E w q r K R F G s) (hlen : s.out.length ≤ 8796093022208) :
    Calls Tryz.prog 20 #[.pointer (some ⟨q, 0, none⟩)] w fun e w' => e = .returned (.bool true) ∧ Below w.heap.size w w' := by
  have hs := hid (lstate_any h)
  have hh := hid (fun (W : World) (hb : Below w.heap.size w W) => lheap_any (h.keep hb))
  have ho := hid (fun (W : World) (hb : Below w.heap.size w W) => loutput_any (h.keep hb) hlen)
  clear h
  go_enter Tryz.func20, Tryz.ntmps20
  go_wp2_with fail
  refine hs.out.mono ?_
  clear hs
  intro x w1 hp
  obtain ⟨hx, hb1⟩ := hp
  subst x
  have hh1 := hid (hh.out w1 hb1)
  have HB1 := hid hb1
  clear hh hb1
  go_wp2_with fail
  refine hh1.out.mono ?_
  clear hh1
  intro x w2 hp
  obtain ⟨hx, hb2⟩ := hp
  subst x
  have hb02 := HB1.out.trans (hb2.mono HB1.out.size)
  have ho1 := hid (ho.out w2 hb02)
  have HB2 := hid hb02
  clear ho hb2 hb02
  go_wp2_with fail
  refine ho1.out.mono ?_
  clear ho1
  intro x w3 hp
  obtain ⟨hx, hb3⟩ := hp
  subst x
  have HB3 := hid (HB2.out.trans (hb3.mono HB2.out.size))
  clear hb3
  go_wp2_with fail
  go_ret
  exact ⟨rfl, HB3.out⟩
def startRow (kb rb : Nat) (s : ByteArray) : Array Value := lawRow kb rb s (-1000) (.slice none 0 0) (.slice none 0 0) (.slice none 0 0) (.slice none 0 0) (.slice none 0 0) (.slice none 0 0) (.slice none 0 0) (.slice none 0 0)
theorem newErr_zero {s : ByteArray} {n : Nat} {cells : Int} (h : NewErr s n cells 0) : 1 ≤ cells ∧ cells ≤ 32 ∧ n ≤ 64 := by
  rcases h with ⟨h, _⟩ | ⟨_, _, h⟩ | ⟨_, _, _, _, h⟩ | ⟨_, h2, h3, h4, _⟩
  · exact absurd rfl h
  · cases h
  · cases h
  · exact ⟨h2, h3, h4⟩
theorem LW.start {s : ByteArray} {zs : List Int} {n : Nat} {w w' : World} {q : Nat} {K : PK} {R : RK} (h : Begun s zs n w w' q K R) (he : NewErr s zs.length (n : Int) 0) :
    LW (envOf s K.fs zs n) w' q (startRow K.b R.b s) K R (K.In (.slice none 0 0)) (R.In (.slice none 0 0) (.slice none 0 0)) (startS (byteAt s 1) n) := by
  obtain ⟨a1, a2, _⟩ := newErr_zero he
  have hok : EnvOk (envOf s K.fs zs n) := env_ok h.err h.wt h.inv h.still (by omega) (by omega)
  obtain ⟨all, hms, hall⟩ := h.rms
  obtain ⟨vI, hPM⟩ := h.pm
  have hmaps := maps_same (wf_of h.err) h.inv h.still h.wt hall
  have hap := h.apart
  have hqa := h.qa
  have hR9 := h.rm.o9
  have hlq := h.lq
  have hz := hPM.z
  have o1 := h.rm.o1
  have o2 := h.rm.o2
  have o3 := h.rm.o3
  have o4 := h.rm.o4
  have o5 := h.rm.o5
  have o6 := h.rm.o6
  have o7 := h.rm.o7
  have o8 := h.rm.o8
  have b1 := hPM.b1
  have b2 := hPM.b2
  refine ⟨h.row, rfl, rfl, ⟨vI, _, _, _, hPM, fun _ h => h⟩, ⟨_, _, h.rm, fun _ h => h⟩, ⟨h.kl, h.kL, h.kz, ?_⟩, ⟨h.rl, h.rz, ?_⟩, ?_, ?_, ?_, ?_, ?_, start_inv_m hok, hok⟩
  · rw [h.kl, h.kL]; rfl
  · rw [hms, ← hmaps]; rfl
  · intro k hk hg
    rcases hk with ⟨h1, h2⟩ | h1
    · rcases hg with ⟨g1, g2⟩ | g1 | g1
      · omega
      · cases g1
      · cases g1
    · cases h1
  · rintro (⟨h1, h2⟩ | h1)
    · omega
    · cases h1
  · rintro (⟨h1, h2⟩ | h1 | h1)
    · omega
    · cases h1
    · cases h1
  · rintro k (⟨h1, h2⟩ | h1)
    · omega
    · cases h1
  · rintro k (⟨h1, h2⟩ | h1 | h1)
    · omega
    · cases h1
    · cases h1
theorem ends_other {cs : List RC} {st : List (Bool × Int)} {op : Nat} (h0 : op ≠ 0) (h5 : op ≠ 5) (h14 : op ≠ 14) (h16 : op ≠ 16) (h24 : op ≠ 24) (h15 : op ≠ 15) (h17 : op ≠ 17) : endsC cs st op = 0 := by
  unfold endsC
  rw [if_neg (by omega), if_neg (by omega), if_neg (by omega), if_neg (by omega), if_neg (by omega)]
theorem step_go {E : Env} {i : Ins} {s : MS} (h : endsC s.hs.1 s.st i.op = 0) (h13 : i.op ≠ 13) (h23 : i.op ≠ 23) : stepI E i s = goS E i (-1) s := by
  unfold stepI
  rw [if_neg (by omega), if_neg (by omega), if_neg (by omega)]
theorem step_halt {E : Env} {i : Ins} {s : MS} (h : i.op = 0) : stepI E i s = { s with oc := 1, va := (lastW s.st 0).2 } := by
  unfold stepI
  rw [if_pos (by unfold endsC; rw [if_pos (by omega)])]
theorem step_trap {E : Env} {i : Ins} {s : MS} (h0 : endsC s.hs.1 s.st i.op ≠ 0) (h1 : endsC s.hs.1 s.st i.op ≠ 1) : stepI E i s = { s with oc := (endsC s.hs.1 s.st i.op).toNat } := by
  unfold stepI
  rw [if_neg h1, if_pos h0]
theorem step_take {E : Env} {i : Ins} {s : MS} (h : i.op = 13 ∨ i.op = 23) : stepI E i s = if (takeC (rootsS E s) s.hs).1 < 0 then { s with oc := 5, hs := (takeC (rootsS E s) s.hs).2 } else goS E i (takeC (rootsS E s) s.hs).1 { s with hs := (takeC (rootsS E s) s.hs).2 } := by
  have he : endsC s.hs.1 s.st i.op = 0 := by
    apply ends_other <;> omega
  unfold stepI
  rw [if_neg (by omega), if_neg (by omega), if_pos h]
theorem to_next {E : Env} {i : Ins} {s : MS} (h19 : i.op ≠ 19) (h20 : i.op ≠ 20) : toS E i s = s.at_ + 1 := by
  unfold toS
  rw [if_neg (by rintro (h | ⟨h, _⟩) <;> omega)]
/-- What a step has done to the machine ahead of its standing. -/
def midS (s t : MS) : MS := { s with rd := t.rd, out := t.out, hs := t.hs }
theorem wants_vals (cs : List RC) (r : Int) (b : Bool) : wantsC cs r b = 0 ∨ wantsC cs r b = 2 ∨ wantsC cs r b = 4 := by
  unfold wantsC
  split
  · exact .inr (.inl rfl)
  split
  · exact .inl rfl
  · exact .inr (.inr rfl)
theorem ends_read {cs : List RC} {st : List (Bool × Int)} {op : Nat} (h : op = 14 ∨ op = 16) : endsC cs st op = wantsC cs (lastW st 0).2 false := by
  rcases h with rfl | rfl <;> rfl
theorem ends_peek {cs : List RC} {st : List (Bool × Int)} : endsC cs st (24 : Nat) = wantsC cs (lastW st 0).2 true := rfl
theorem ends_write {cs : List RC} {st : List (Bool × Int)} {op : Nat} (h : op = 15 ∨ op = 17) : endsC cs st op = wantsC cs (lastW st 1).2 false := by
  rcases h with rfl | rfl <;> rfl
theorem does_len {E : Env} (he : EnvOk E) {s : MS} (h : MInv E s) {i : Ins} (hc : CanI E s i) (h0 : i.op ≠ 0) (cell : Int) : (doesS E i cell s).st.length ≤ 8 := by
  have := (does_flags he h hc h0 cell).2
  have h2 := congrArg ByteArray.size this
  rw [size_flag] at h2
  have := hc.le
  omega
theorem can_one {E : Env} {s : MS} {i : Ins} (h : CanI E s i) (ho : i.op = 8 ∨ i.op = 9 ∨ i.op = 10) : 0 < s.st.length := by
  have := h.ok
  unfold afterV at this
  rw [size_flag] at this
  by_cases hk : s.st.length < 1
  · rcases ho with e | e | e
    · rw [if_neg (by omega), if_pos e, if_pos hk] at this; cases this
    · rw [if_neg (by omega), if_neg (by omega), if_pos e, if_pos hk] at this; cases this
    · rw [if_neg (by omega), if_neg (by omega), if_neg (by omega), if_pos e, if_pos hk] at this; cases this
  · omega
theorem can_two {E : Env} {s : MS} {i : Ins} (h : CanI E s i) (ho : i.op = 11) : 1 < s.st.length := by
  have := h.ok
  unfold afterV at this
  rw [size_flag] at this
  by_cases hk : s.st.length < 2
  · rw [if_neg (by omega), if_neg (by omega), if_neg (by omega), if_neg (by omega), if_pos ho, if_pos hk] at this; cases this
  · omega
theorem ends_one {cs : List RC} {st : List (Bool × Int)} {op : Nat} (h : endsC cs st op = 1) : op = 0 := by
  unfold endsC at h
  by_cases h0 : (op : Int) = 0
  · omega
  rw [if_neg h0] at h
  split at h
  · split at h <;> omega
  split at h
  · have := wants_vals cs (lastW st 0).2 false; omega
  split at h
  · have := wants_vals cs (lastW st 0).2 true; omega
  split at h
  · have := wants_vals cs (lastW st 1).2 false; omega
  · omega
theorem step_shape {E : Env} {i : Ins} {s : MS} (h0 : s.oc = 0) : ((stepI E i s).oc = 0 ∧ (stepI E i s).va = s.va) ∨ (i.op = 0 ∧ stepI E i s = { s with oc := 1, va := (lastW s.st 0).2 }) ∨ ((stepI E i s).oc ≠ 0 ∧ (stepI E i s).oc ≠ 1 ∧ stepI E i s = { s with oc := (stepI E i s).oc, hs := (stepI E i s).hs }) := by
  have hr := endsC_range (cs := s.hs.1) (st := s.st) (op := i.op)
  have hgo : ∀ cell (q : MS), q.oc = 0 → q.va = s.va → (goS E i cell q).oc = 0 ∧ (goS E i cell q).va = s.va := fun cell q h1 h2 => by
    unfold goS
    simp only
    rw [(does_oc E i cell q).1, (does_oc E i cell q).2]
    exact ⟨h1, h2⟩
  unfold stepI
  by_cases e1 : endsC s.hs.1 s.st i.op = 1
  · rw [if_pos e1]
    exact .inr (.inl ⟨ends_one e1, rfl⟩)
  rw [if_neg e1]
  by_cases e0 : endsC s.hs.1 s.st i.op ≠ 0
  · rw [if_pos e0]
    exact .inr (.inr ⟨by simp only; omega, by simp only; omega, rfl⟩)
  rw [if_neg e0]
  by_cases e2 : i.op = 13 ∨ i.op = 23
  · rw [if_pos e2]
    by_cases e3 : (takeC (rootsS E s) s.hs).1 < 0
    · rw [if_pos e3]
      exact .inr (.inr ⟨by simp, by simp, rfl⟩)
    · rw [if_neg e3]
      exact .inl (hgo _ _ h0 rfl)
  · rw [if_neg e2]
    exact .inl (hgo _ _ h0 rfl)
def RK.ck (K : RK) (vO vS : Value) (s : MS) : CK := ⟨K.cC, K.row vO vS s, 82⟩
theorem rrow_hs {K : RK} {vO vS : Value} {s : MS} (h : HSt) (hl : h.1.length = s.hs.1.length) : (((K.row vO vS s).setIfInBounds 11 (.int .i64 h.2.1)).setIfInBounds 12 (.int .i64 h.2.2)) = K.row vO vS { s with hs := h } := by
  apply Array.toList_inj.1
  simp only [RK.row, Array.toList_setIfInBounds, List.set_cons_zero, List.set_cons_succ, hl]
theorem RM.hp {w : World} {K : RK} {vO vS : Value} {s : MS} (h : RM w K vO vS s) : HpAt w K.b K.gC (K.ck vO vS s) K.B3 s.hs.1 s.hs.2.1 s.hs.2.2 := by
  have c10 := cell_of_row w K.b 10 _ _ _ h.row
  have c11 := cell_of_row w K.b 11 _ _ _ h.row
  have c12 := cell_of_row w K.b 12 _ _ _ h.row
  have f11 := frozen_of_row w K.b 11 _ _ h.row
  have f12 := frozen_of_row w K.b 12 _ _ h.row
  simp only [RK.row, List.getElem?_toArray, List.getElem?_cons_zero, List.getElem?_cons_succ] at c10 c11 c12
  have o3 := h.o3
  have o4 := h.o4
  have o5 := h.o5
  have o6 := h.o6
  have o7 := h.o7
  refine ⟨c10, c11, c12, f11, f12, h.cells, by omega, ?_⟩
  rw [h.row]
  unfold RK.ck
  simp only
  rw [rrow_hs s.hs rfl]
theorem RM.of_hp {w w' : World} {K : RK} {vO vS : Value} {s : MS} (h : RM w K vO vS s) {h' : HSt} (hp : HpAt w' K.b K.gC (K.ck vO vS s) K.B3 h'.1 h'.2.1 h'.2.2) (hl : h'.1.length = s.hs.1.length) (ht : Two K.b K.gC w w') : RM w' K vO vS { s with hs := h' } := by
  have o1 := h.o1
  have o2 := h.o2
  have o3 := h.o3
  have o4 := h.o4
  have o5 := h.o5
  have o6 := h.o6
  have o7 := h.o7
  have o8 := h.o8
  have o9 := h.o9
  have hin : ∀ k, k < K.B4 → k ≠ K.b → k ≠ K.gC → w'.heap[k]? = w.heap[k]? := fun k h1 h2 h3 => ht.block k (by omega) h2 h3
  have hz := ht.size
  have hrow : w'.heap[K.b]? = some (.cells (K.row vO vS { s with hs := h' }) 82) := by
    have := hp.blk
    unfold RK.ck at this
    simp only at this
    rw [rrow_hs h' hl] at this
    exact this
  exact { h with
    row := hrow
    o9 := by omega
    ins := h.ins.same2 (hin _ (by omega) (by omega) (by omega))
    maps := h.maps.keep (fun g h1 h2 => hin g (by omega) (by omega) (by omega))
    inp := owns_keep h.inp (fun g hg => hin g (by have := h.inb g hg; omega) (by have := (h.inp.lt g hg).1; omega) (by have := h.inb g hg; omega))
    loc := (hin _ (by omega) (by omega) (by omega)).trans h.loc
    cells := hp.row
    stk := owns_keep h.stk (fun g hg => ht.block g (h.stk.lt g hg).2 (by have := (h.stk.lt g hg).1; omega) (by have := (h.stk.lt g hg).1; omega))
    out := owns_keep h.out (fun g hg => ht.block g (h.out.lt g hg).2 (by have := (h.out.lt g hg).1; omega) (by have := (h.out.lt g hg).1; omega)) }
theorem RM.wds {w : World} {K : RK} {vO vS : Value} {s : MS} (h : RM w K vO vS s) : WdsAt w K.b 9 K.B4 vS s.st := by
  have c9 := cell_of_row w K.b 9 _ _ _ h.row
  have f9 := frozen_of_row w K.b 9 _ _ h.row
  simp only [RK.row, List.getElem?_toArray, List.getElem?_cons_zero, List.getElem?_cons_succ] at c9
  refine ⟨c9, f9, h.stk, fun e => ?_⟩
  have := (h.stk.lt _ e.symm).1
  have := h.o4
  have := h.o5
  have := h.o6
  have := h.o7
  have := h.o8
  omega
theorem RM.nums {w : World} {K : RK} {vO vS : Value} {s : MS} (h : RM w K vO vS s) : NumsAt w K.b 4 K.B4 vO s.out := by
  have c9 := cell_of_row w K.b 4 _ _ _ h.row
  have f9 := frozen_of_row w K.b 4 _ _ h.row
  simp only [RK.row, List.getElem?_toArray, List.getElem?_cons_zero, List.getElem?_cons_succ] at c9
  refine ⟨c9, f9, h.out, fun e => ?_⟩
  have := (h.out.lt _ e.symm).1
  have := h.o4
  have := h.o5
  have := h.o6
  have := h.o7
  have := h.o8
  omega
theorem rrow_st {K : RK} {vO vS vS' : Value} {s : MS} (ws : List (Bool × Int)) : (K.row vO vS s).setIfInBounds 9 vS' = K.row vO vS' { s with st := ws } := by
  apply Array.toList_inj.1
  simp only [RK.row, Array.toList_setIfInBounds, List.set_cons_zero, List.set_cons_succ]
theorem rrow_out {K : RK} {vO vO' vS : Value} {s : MS} (o : List Int) : (K.row vO vS s).setIfInBounds 4 vO' = K.row vO' vS { s with out := o } := by
  apply Array.toList_inj.1
  simp only [RK.row, Array.toList_setIfInBounds, List.set_cons_zero, List.set_cons_succ]
/-- The stack has turned. -/
theorem RM.grew {w w' : World} {K : RK} {vO vS v' : Value} {s : MS} {ws : List (Bool × Int)} (h : RM w K vO vS s) (hw : WdsAt w' K.b 9 K.B4 v' ws) (hg : Grew K.b 9 vS v' w w') : RM w' K vO v' { s with st := ws } := by
  have o1 := h.o1
  have o2 := h.o2
  have o3 := h.o3
  have o4 := h.o4
  have o5 := h.o5
  have o6 := h.o6
  have o7 := h.o7
  have o8 := h.o8
  have o9 := h.o9
  have hz := hg.size
  have hne : ∀ k, k < K.B4 → some k ≠ vS.ownBlock := fun k hk e => by have := (h.stk.lt k e.symm).1; omega
  have hin : ∀ k, k < K.B4 → k ≠ K.b → w'.heap[k]? = w.heap[k]? := fun k h1 h2 => hg.block k (by omega) h2 (hne k h1)
  exact { h with
    row := by rw [← rrow_st (vS := vS)]; exact hg.home _ _ h.row
    o9 := by omega
    ins := h.ins.same2 (hin _ (by omega) (by omega))
    maps := h.maps.keep (fun g h1 h2 => hin g (by omega) (by omega))
    inp := owns_keep h.inp (fun g hg' => hin g (by have := h.inb g hg'; omega) (by have := (h.inp.lt g hg').1; omega))
    loc := (hin _ (by omega) (by omega)).trans h.loc
    cells := owns_keep h.cells (fun g hg' => by
      simp only [Value.ownBlock, Option.some.injEq] at hg'
      subst hg'
      exact hin _ (by omega) (by omega))
    stk := hw.row
    out := owns_keep h.out (fun g hg' => hg.block g (h.out.lt g hg').2 (by have := (h.out.lt g hg').1; omega) (fun e => h.apart g e.symm hg'))
    apart := fun g hg' e => by
      rcases hg.own g hg' with h1 | h1
      · exact h.apart g h1 e
      · have := (h.out.lt g e).2; omega }
/-- The output has turned. -/
theorem RM.grewO {w w' : World} {K : RK} {vO vS v' : Value} {s : MS} {o : List Int} (h : RM w K vO vS s) (hw : NumsAt w' K.b 4 K.B4 v' o) (hg : Grew K.b 4 vO v' w w') : RM w' K v' vS { s with out := o } := by
  have o1 := h.o1
  have o2 := h.o2
  have o3 := h.o3
  have o4 := h.o4
  have o5 := h.o5
  have o6 := h.o6
  have o7 := h.o7
  have o8 := h.o8
  have o9 := h.o9
  have hz := hg.size
  have hne : ∀ k, k < K.B4 → some k ≠ vO.ownBlock := fun k hk e => by have := (h.out.lt k e.symm).1; omega
  have hin : ∀ k, k < K.B4 → k ≠ K.b → w'.heap[k]? = w.heap[k]? := fun k h1 h2 => hg.block k (by omega) h2 (hne k h1)
  exact { h with
    row := by rw [← rrow_out (vO := vO)]; exact hg.home _ _ h.row
    o9 := by omega
    ins := h.ins.same2 (hin _ (by omega) (by omega))
    maps := h.maps.keep (fun g h1 h2 => hin g (by omega) (by omega))
    inp := owns_keep h.inp (fun g hg' => hin g (by have := h.inb g hg'; omega) (by have := (h.inp.lt g hg').1; omega))
    loc := (hin _ (by omega) (by omega)).trans h.loc
    cells := owns_keep h.cells (fun g hg' => by
      simp only [Value.ownBlock, Option.some.injEq] at hg'
      subst hg'
      exact hin _ (by omega) (by omega))
    out := hw.row
    stk := owns_keep h.stk (fun g hg' => hg.block g (h.stk.lt g hg').2 (by have := (h.stk.lt g hg').1; omega) (fun e => h.apart g hg' e.symm))
    apart := fun g hg' e => by
      rcases hg.own g e with h1 | h1
      · exact h.apart g hg' h1
      · have := (h.stk.lt g hg').2; omega }
/-- The reference's machine has turned to s', in its own blocks and new ones. -/
structure RQ (K : RK) (vO vS : Value) (s' : MS) (w w' : World) (vO' vS' : Value) : Prop where
  m : RM w' K vO' vS' s'
  o : ∀ g, vO'.ownBlock = some g → vO.ownBlock = some g ∨ w.heap.size ≤ g
  s : ∀ g, vS'.ownBlock = some g → vS.ownBlock = some g ∨ w.heap.size ≤ g
  t : Touch (K.In vO vS) w w'
theorem RQ.trans {K : RK} {vO vS vO1 vS1 vO2 vS2 : Value} {s1 s2 : MS} {w w1 w2 : World} (h : RQ K vO vS s1 w w1 vO1 vS1) (g : RQ K vO1 vS1 s2 w1 w2 vO2 vS2) : RQ K vO vS s2 w w2 vO2 vS2 := by
  refine ⟨g.m, fun k hk => ?_, fun k hk => ?_, h.t.trans g.t (fun k hk hi => ?_)⟩
  · rcases g.o k hk with h1 | h1
    · exact h.o k h1
    · exact .inr (Nat.le_trans h.t.size h1)
  · rcases g.s k hk with h1 | h1
    · exact h.s k h1
    · exact .inr (Nat.le_trans h.t.size h1)
  · rcases hi with hi | hi | hi
    · exact .inl hi
    · rcases h.s k hi with h1 | h1
      · exact .inr (.inl h1)
      · omega
    · rcases h.o k hi with h1 | h1
      · exact .inr (.inr h1)
      · omega
theorem RQ.below {K : RK} {vO vS : Value} {s : MS} {w w' : World} (h : RM w K vO vS s) (hb : Below w.heap.size w w') : RQ K vO vS s w w' vO vS := ⟨h.below hb, fun _ h => .inl h, fun _ h => .inl h, Touch.below hb⟩
theorem RM.bIn {w : World} {K : RK} {vO vS : Value} {s : MS} (h : RM w K vO vS s) : K.In vO vS K.b ∧ K.In vO vS K.gC ∧ K.In vO vS K.gLo := by
  have o1 := h.o1
  have o2 := h.o2
  have o3 := h.o3
  have o4 := h.o4
  have o5 := h.o5
  have o6 := h.o6
  have o7 := h.o7
  have o8 := h.o8
  exact ⟨.inl ⟨by omega, by omega⟩, .inl ⟨by omega, by omega⟩, .inl ⟨by omega, by omega⟩⟩
theorem RQ.push {K : RK} {vO vS v' : Value} {s : MS} {w w' : World} {ws : List (Bool × Int)} (h : RM w K vO vS s) (hw : WdsAt w' K.b 9 K.B4 v' ws) (hg : Grew K.b 9 vS v' w w') : RQ K vO vS { s with st := ws } w w' vO v' :=
  ⟨h.grew hw hg, fun _ h => .inl h, hg.own, ⟨hg.os, hg.tape, hg.output, hg.size, fun k hk hi => hg.block k hk (fun e => hi (e ▸ h.bIn.1)) (fun e => hi (.inr (.inl e.symm)))⟩⟩
theorem RQ.out {K : RK} {vO vS v' : Value} {s : MS} {w w' : World} {o : List Int} (h : RM w K vO vS s) (hw : NumsAt w' K.b 4 K.B4 v' o) (hg : Grew K.b 4 vO v' w w') : RQ K vO vS { s with out := o } w w' v' vS :=
  ⟨h.grewO hw hg, hg.own, fun _ h => .inl h, ⟨hg.os, hg.tape, hg.output, hg.size, fun k hk hi => hg.block k hk (fun e => hi (e ▸ h.bIn.1)) (fun e => hi (.inr (.inr e.symm)))⟩⟩
theorem RQ.heap {K : RK} {vO vS : Value} {s : MS} {w w' : World} {h' : HSt} (h : RM w K vO vS s) (hp : HpAt w' K.b K.gC (K.ck vO vS s) K.B3 h'.1 h'.2.1 h'.2.2) (hl : h'.1.length = s.hs.1.length) (ht : Two K.b K.gC w w') : RQ K vO vS { s with hs := h' } w w' vO vS :=
  ⟨h.of_hp hp hl ht, fun _ h => .inl h, fun _ h => .inl h, Touch.two ht h.bIn.1 h.bIn.2.1⟩
def sdL (nx : Int) (lo4 : List Int) (d : Nat) (st8 : List Int) : List Value := .int .i64 nx :: (lo4.map (Value.int .i64) ++ (.int .i64 d :: st8.map (Value.int .i64)))
/-- Locals and stack of a standing. -/
structure StOk (lo st : List (Bool × Int)) (lo4 st8 : List Int) : Prop where
  l4 : lo4.length = 4
  l8 : st8.length = 8
  loL : lo.length ≤ 4
  lo : lo4.take lo.length = lo.map (·.2)
  stL : st.length ≤ 8
  st : st8.take st.length = st.map (·.2)
structure SB (w : World) (a : Nat) (nx : Int) (lo st : List (Bool × Int)) (lo4 st8 : List Int) : Prop where
  row : w.heap[a]? = some (.cells (sdL nx lo4 st.length st8).toArray 69)
  ok : StOk lo st lo4 st8
theorem sdL_depth {nx : Int} {lo4 : List Int} {d : Nat} {st8 : List Int} (h4 : lo4.length = 4) (d' : Nat) : (sdL nx lo4 d st8).set 5 (.int .i64 (d' : Int)) = sdL nx lo4 d' st8 := by
  match lo4, h4 with
  | [a, b, c, e], _ => rfl
theorem sdL_stk {nx : Int} {lo4 : List Int} {d : Nat} {st8 : List Int} (h4 : lo4.length = 4) (k : Nat) (v : Int) : (sdL nx lo4 d st8).set (6 + k) (.int .i64 v) = sdL nx lo4 d (st8.set k v) := by
  match lo4, h4 with
  | [a, b, c, e], _ =>
    rw [show 6 + k = k + 6 by omega]
    simp [sdL, List.map_set]
theorem sdL_lo {nx : Int} {lo4 : List Int} {d : Nat} {st8 : List Int} (h4 : lo4.length = 4) {k : Nat} (hk : k < 4) (v : Int) : (sdL nx lo4 d st8).set (1 + k) (.int .i64 v) = sdL nx (lo4.set k v) d st8 := by
  match lo4, h4, k, hk with
  | [a, b, c, e], _, 0, _ => rfl
  | [a, b, c, e], _, 1, _ => rfl
  | [a, b, c, e], _, 2, _ => rfl
  | [a, b, c, e], _, 3, _ => rfl
theorem sdL_get5 {nx : Int} {lo4 : List Int} {d : Nat} {st8 : List Int} (h4 : lo4.length = 4) : (sdL nx lo4 d st8)[5]? = some (.int .i64 (d : Int)) := by
  match lo4, h4 with
  | [a, b, c, e], _ => rfl
theorem sdL_getS {nx : Int} {lo4 : List Int} {d : Nat} {st8 : List Int} (h4 : lo4.length = 4) (k : Nat) : (sdL nx lo4 d st8)[6 + k]? = (st8[k]?).map (Value.int .i64) := by
  match lo4, h4 with
  | [a, b, c, e], _ =>
    rw [show 6 + k = k + 6 by omega]
    simp [sdL]
theorem sdL_getL {nx : Int} {lo4 : List Int} {d : Nat} {st8 : List Int} (h4 : lo4.length = 4) {k : Nat} (hk : k < 4) : (sdL nx lo4 d st8)[1 + k]? = (lo4[k]?).map (Value.int .i64) := by
  match lo4, h4, k, hk with
  | [a, b, c, e], _, 0, _ => rfl
  | [a, b, c, e], _, 1, _ => rfl
  | [a, b, c, e], _, 2, _ => rfl
  | [a, b, c, e], _, 3, _ => rfl
theorem SB.set {w : World} {a : Nat} {nx : Int} {lo st : List (Bool × Int)} {lo4 st8 : List Int} (h : SB w a nx lo st lo4 st8) (j : Nat) (v : Value) : (w.setCell ⟨a, j, none⟩ v).heap[a]? = some (.cells ((sdL nx lo4 st.length st8).set j v).toArray 69) := by
  have := setCell_row j v h.row
  rw [List.setIfInBounds_toArray] at this
  exact this
theorem StOk.push {lo st : List (Bool × Int)} {lo4 st8 : List Int} (h : StOk lo st lo4 st8) (hs : st.length < 8) (x : Bool × Int) : StOk lo (st ++ [x]) lo4 (st8.set st.length x.2) := by
  have h8 := h.l8
  refine ⟨h.l4, by simp [h.l8], h.loL, h.lo, by simp; omega, ?_⟩
  rw [List.length_append, List.length_singleton, List.take_succ_eq_append_getElem (by simp; omega), List.take_set_of_le (Nat.le_refl _), h.st, List.getElem_set_self, List.map_append]
  rfl
theorem StOk.pop {lo st : List (Bool × Int)} {lo4 st8 : List Int} {x : Bool × Int} (h : StOk lo (st ++ [x]) lo4 st8) : StOk lo st lo4 st8 ∧ st8[st.length]? = some x.2 ∧ st.length < 8 := by
  have hl := h.stL
  have hs := h.st
  have h8 := h.l8
  rw [List.length_append, List.length_singleton] at hl hs
  rw [List.take_succ_eq_append_getElem (by omega), List.map_append] at hs
  obtain ⟨h1, h2⟩ := List.append_inj' hs rfl
  simp only [List.map_cons, List.map_nil, List.cons.injEq, and_true] at h2
  exact ⟨⟨h.l4, h.l8, h.loL, h.lo, by omega, h1⟩, by rw [List.getElem?_eq_getElem (by omega), h2], by omega⟩
theorem spush_any {w : World} {a : Nat} {nx : Int} {lo st : List (Bool × Int)} {lo4 st8 : List Int} (h : SB w a nx lo st lo4 st8) (hs : st.length < 8) (x : Bool × Int) :
    Calls Tryz.prog 96 #[.pointer (some ⟨a, 0, none⟩), .int .i64 x.2] w fun e w' => e = .returned (.tuple #[]) ∧ SB w' a nx lo (st ++ [x]) lo4 (st8.set st.length x.2) ∧ Only a w w' := by
  have h4 := h.ok.l4
  have h8 := h.ok.l8
  have c5 := cell_of_row w a 5 _ _ _ h.row
  have f5 := frozen_of_row w a 5 _ _ h.row
  have c6 := cell_of_row w a (6 + st.length) _ _ _ h.row
  have f6 := frozen_of_row w a (6 + st.length) _ _ h.row
  rw [List.getElem?_toArray, sdL_get5 h4] at c5
  rw [List.getElem?_toArray, sdL_getS h4, List.getElem?_eq_getElem (by omega)] at c6
  simp only [Option.map_some] at c6
  have r1 := h.set (6 + st.length) (.int .i64 x.2)
  have d5 := cell_of_row _ a 5 _ _ _ r1
  have g5 := frozen_of_row _ a 5 _ _ r1
  rw [sdL_stk h4, List.getElem?_toArray, sdL_get5 h4] at d5
  rw [sdL_stk h4] at r1
  have r2 := setCell_row 5 (.int .i64 ((st.length + 1 : Nat) : Int)) r1
  rw [List.setIfInBounds_toArray, sdL_depth h4] at r2
  have R2 : Hid (SB ((w.setCell ⟨a, 6 + st.length, none⟩ (.int .i64 x.2)).setCell ⟨a, 5, none⟩ (.int .i64 ((st.length + 1 : Nat) : Int))) a nx lo (st ++ [x]) lo4 (st8.set st.length x.2)) := hid ⟨by rw [List.length_append, List.length_singleton]; exact r2, h.ok.push hs x⟩
  have i0 : (0 : Int) ≤ (st.length : Int) := by omega
  have i1 : (st.length : Int) < 8 := by omega
  generalize x.2 = v at *
  generalize st8[st.length] = v6 at *
  clear h r1 r2 h4 h8
  go_enter Tryz.func96, Tryz.ntmps96
  go_wp2_with fail
  go_region
  all_goals go_wp2_with fail
  go_end0
  exact ⟨rfl, ⟨R2.out.row, R2.out.ok⟩, ((Only.refl _ _).set _ _).drew.set _ _⟩
theorem spop_any {w : World} {a : Nat} {nx : Int} {lo st : List (Bool × Int)} {x : Bool × Int} {lo4 st8 : List Int} (h : SB w a nx lo (st ++ [x]) lo4 st8) :
    Calls Tryz.prog 56 #[.pointer (some ⟨a, 0, none⟩)] w fun e w' => e = .returned (.int .i64 x.2) ∧ SB w' a nx lo st lo4 st8 ∧ Only a w w' := by
  have h4 := h.ok.l4
  have h8 := h.ok.l8
  obtain ⟨hok, hget, hlt⟩ := h.ok.pop
  have hrow := h.row
  rw [List.length_append, List.length_singleton] at hrow
  have c5 := cell_of_row w a 5 _ _ _ hrow
  have f5 := frozen_of_row w a 5 _ _ hrow
  rw [List.getElem?_toArray, sdL_get5 h4] at c5
  have r1 := setCell_row 5 (.int .i64 (st.length : Int)) hrow
  rw [List.setIfInBounds_toArray, sdL_depth h4] at r1
  have d5 := cell_of_row _ a 5 _ _ _ r1
  have d6 := cell_of_row _ a (6 + st.length) _ _ _ r1
  rw [List.getElem?_toArray, sdL_get5 h4] at d5
  rw [List.getElem?_toArray, sdL_getS h4, hget] at d6
  simp only [Option.map_some] at d6
  have R1 : Hid (SB (w.setCell ⟨a, 5, none⟩ (.int .i64 (st.length : Int))) a nx lo st lo4 st8) := hid ⟨r1, hok⟩
  have i0 : (0 : Int) ≤ (st.length : Int) := by omega
  have i1 : (st.length : Int) < 8 := by omega
  generalize x.2 = v at *
  clear h r1 h4 h8 hok hget hrow
  go_enter Tryz.func56, Tryz.ntmps56
  go_wp2_with fail
  go_quiet (fail)
  all_goals go_wp2_with fail
  go_ret
  exact ⟨rfl, ⟨R1.out.row, R1.out.ok⟩, ((Only.refl _ _).set _ _).drewN _⟩
/-- A standing in memory, its spare places whatever they hold. -/
def SX (w : World) (a : Nat) (nx : Int) (lo st : List (Bool × Int)) : Prop := ∃ lo4 st8, SB w a nx lo st lo4 st8
theorem SX.below {w w' : World} {a : Nat} {nx : Int} {lo st : List (Bool × Int)} (h : SX w a nx lo st) (hb : Below w.heap.size w w') : SX w' a nx lo st := by
  obtain ⟨lo4, st8, h1, h2⟩ := h
  exact ⟨lo4, st8, (hb.block a (Array.getElem?_eq_some_iff.1 h1).1).trans h1, h2⟩
theorem SX.keep {w w' : World} {a : Nat} {nx : Int} {lo st : List (Bool × Int)} (h : SX w a nx lo st) (hb : w'.heap[a]? = w.heap[a]?) : SX w' a nx lo st := by
  obtain ⟨lo4, st8, h1, h2⟩ := h
  exact ⟨lo4, st8, hb.trans h1, h2⟩
theorem SX.lt {w : World} {a : Nat} {nx : Int} {lo st : List (Bool × Int)} (h : SX w a nx lo st) : a < w.heap.size := by
  obtain ⟨lo4, st8, h1, h2⟩ := h
  exact (Array.getElem?_eq_some_iff.1 h1).1
def SPost (a : Nat) (nx : Int) (lo st : List (Bool × Int)) (v : Value) (w : World) (e : Ending) (w' : World) : Prop := e = .returned v ∧ SX w' a nx lo st ∧ Only a w w'
theorem xpush {w : World} {a : Nat} {nx : Int} {lo st : List (Bool × Int)} (h : SX w a nx lo st) (hs : st.length < 8) (x : Bool × Int) :
    Calls Tryz.prog 96 #[.pointer (some ⟨a, 0, none⟩), .int .i64 x.2] w (SPost a nx lo (st ++ [x]) (.tuple #[]) w) := by
  obtain ⟨lo4, st8, h⟩ := h
  refine (spush_any h hs x).mono ?_
  rintro e w' ⟨h1, h2, h3⟩
  exact ⟨h1, ⟨_, _, h2⟩, h3⟩
theorem xpop {w : World} {a : Nat} {nx : Int} {lo st : List (Bool × Int)} {x : Bool × Int} (h : SX w a nx lo (st ++ [x])) :
    Calls Tryz.prog 56 #[.pointer (some ⟨a, 0, none⟩)] w (SPost a nx lo st (.int .i64 x.2) w) := by
  obtain ⟨lo4, st8, h⟩ := h
  refine (spop_any h).mono ?_
  rintro e w' ⟨h1, h2, h3⟩
  exact ⟨h1, ⟨_, _, h2⟩, h3⟩
theorem StOk.getLo {lo st : List (Bool × Int)} {lo4 st8 : List Int} (h : StOk lo st lo4 st8) {n : Nat} (hn : n < lo.length) : lo4[n]? = some lo[n].2 := by
  have e := congrArg (fun l => l[n]?) h.lo
  simp only [List.getElem?_take, if_pos hn, List.getElem?_map, List.getElem?_eq_getElem hn, Option.map_some] at e
  exact e
theorem StOk.setLo {lo st : List (Bool × Int)} {lo4 st8 : List Int} (h : StOk lo st lo4 st8) (n : Nat) (x : Bool × Int) : StOk (lo.set n x) st (lo4.set n x.2) st8 := by
  refine ⟨by simp [h.l4], h.l8, by simpa using h.loL, ?_, h.stL, h.st⟩
  rw [List.length_set, List.take_set, h.lo, List.map_set]
theorem xload {w : World} {a : Nat} {nx : Int} {lo st : List (Bool × Int)} (h : SX w a nx lo st) (hs : st.length < 8) {n : Nat} (hn : n < lo.length) :
    Calls Tryz.prog 124 #[.pointer (some ⟨a, 0, none⟩), .int .i64 n] w (SPost a nx lo (st ++ [lo[n]]) (.tuple #[]) w) := by
  have hp := hid (xpush h hs lo[n])
  obtain ⟨lo4, st8, h⟩ := h
  have h4 := h.ok.l4
  have hl := h.ok.loL
  have c1 := cell_of_row w a (1 + n) _ _ _ h.row
  rw [List.getElem?_toArray, sdL_getL h4 (by omega), h.ok.getLo hn] at c1
  simp only [Option.map_some] at c1
  have i0 : (0 : Int) ≤ (n : Int) := by omega
  have i1 : (n : Int) < 4 := by omega
  generalize lo[n] = x at *
  obtain ⟨xf, xv⟩ := x
  simp only at c1 hp
  clear h
  go_enter Tryz.func124, Tryz.ntmps124
  go_wp2_with fail
  refine hp.out.mono ?_
  clear hp
  intro e w2 hh
  have HH := hid hh
  have hx := hh.1
  clear hh
  subst e
  go_wp2_with fail
  go_end0
  exact HH.out
theorem xstore {w : World} {a : Nat} {nx : Int} {lo st : List (Bool × Int)} {x : Bool × Int} (h : SX w a nx lo (st ++ [x])) {n : Nat} (hn : n < lo.length) :
    Calls Tryz.prog 125 #[.pointer (some ⟨a, 0, none⟩), .int .i64 n] w (SPost a nx (lo.set n x) st (.tuple #[]) w) := by
  have hp := hid (xpop h)
  have hl : lo.length ≤ 4 := by obtain ⟨_, _, h⟩ := h; exact h.ok.loL
  have i0 : (0 : Int) ≤ (n : Int) := by omega
  have i1 : (n : Int) < 4 := by omega
  have ST : Hid (∀ w2, SX w2 a nx lo st → (∃ v, w2.cell? ⟨a, 1 + n, none⟩ = some v) ∧ w2.frozen? ⟨a, 1 + n, none⟩ = false ∧ SX (w2.setCell ⟨a, 1 + n, none⟩ (.int .i64 x.2)) a nx (lo.set n x) st) := hid (by
    rintro w2 ⟨lo4, st8, h2⟩
    have h4 := h2.ok.l4
    have c1 := cell_of_row w2 a (1 + n) _ _ _ h2.row
    rw [List.getElem?_toArray, sdL_getL h4 (by omega), h2.ok.getLo hn] at c1
    have r := h2.set (1 + n) (.int .i64 x.2)
    rw [sdL_lo h4 (by omega)] at r
    exact ⟨⟨_, c1⟩, frozen_of_row w2 a (1 + n) _ _ h2.row, _, _, r, h2.ok.setLo n x⟩)
  obtain ⟨xf, xv⟩ := x
  simp only at ST hp
  clear h
  go_enter Tryz.func125, Tryz.ntmps125
  go_wp2_with fail
  refine hp.out.mono ?_
  clear hp
  intro e w2 hh
  obtain ⟨hx, hS, hO⟩ := hh
  subst e
  obtain ⟨⟨v, a1⟩, a2, a3⟩ := ST.out w2 hS
  have A3 := hid a3
  have HO := hid hO
  clear a3 hS hO ST
  go_wp2_with fail
  go_end0
  exact ⟨rfl, A3.out, HO.out.set _ _⟩
theorem signed_any (n : Nat) (hn : n < 256) (w : World) : Calls Tryz.prog 123 #[.int .i64 n] w fun e w' => e = .returned (.int .i64 (if n < 128 then (n : Int) else (n : Int) - 256)) ∧ w' = w := by
  by_cases h : n < 128
  · have h1 : (n : Int) < 128 := by omega
    rw [if_pos h]
    go_enter Tryz.func123, Tryz.ntmps123
    go_wp2_with fail
    go_ret
    exact ⟨rfl, rfl⟩
  · have h1 : ¬ (n : Int) < 128 := by omega
    have h3 : -9223372036854775808 ≤ (n : Int) - 256 := by omega
    have h4 : (n : Int) - 256 < 9223372036854775808 := by omega
    rw [if_neg h]
    go_enter Tryz.func123, Tryz.ntmps123
    go_wp2_with fail
    go_ret
    exact ⟨rfl, rfl⟩
theorem truth_any (b : Bool) (w : World) : Calls Tryz.prog 114 #[.bool b] w fun e w' => e = .returned (.int .i64 (if b = true then 1 else 0)) ∧ w' = w := by
  cases b
  · go_enter Tryz.func114, Tryz.ntmps114
    go_wp2_with fail
    go_ret
    exact ⟨rfl, rfl⟩
  · go_enter Tryz.func114, Tryz.ntmps114
    go_wp2_with fail
    go_ret
    exact ⟨rfl, rfl⟩
theorem st_one {st : List (Bool × Int)} (h : 0 < st.length) : st = st.take (st.length - 1) ++ [lastW st 0] := by
  have e := lastW_at h
  simp only [Nat.sub_zero] at e
  obtain ⟨hl, he⟩ := List.getElem?_eq_some_iff.1 e
  rw [← he, ← List.take_succ_eq_append_getElem hl, show st.length - 1 + 1 = st.length by omega, List.take_length]
theorem st_two {st : List (Bool × Int)} (h : 1 < st.length) : st = (st.take (st.length - 2) ++ [lastW st 1]) ++ [lastW st 0] := by
  have e := lastW_at h
  obtain ⟨hl, he⟩ := List.getElem?_eq_some_iff.1 e
  have h2 := st_one (st := st) (by omega)
  rw [show st.length - 2 = st.length - 1 - 1 by omega, ← he, ← List.take_succ_eq_append_getElem hl, show st.length - 1 - 1 + 1 = st.length - 1 by omega]
  exact h2
def insV (pl op n tg : Nat) : Value := .agg #[.int .i64 pl, .int .i64 op, .int .i64 n, .int .i64 tg]
def MPost (a : Nat) (nx : Int) (lo st : List (Bool × Int)) (v : Value) (w : World) (e : Ending) (w' : World) : Prop := e = .returned v ∧ SX w' a nx lo st ∧ Two a a w w'
/-- The world with an instruction in a box of its own. -/
structure BoxI (w W : World) (a : Nat) (pl op n tg : Nat) : Prop where
  c1 : W.cell? ⟨w.heap.size, 1, none⟩ = some (.int .i64 op)
  c2 : W.cell? ⟨w.heap.size, 2, none⟩ = some (.int .i64 n)
  c3 : W.cell? ⟨w.heap.size, 3, none⟩ = some (.int .i64 tg)
  two : Two a a w W
  lt : a < w.heap.size
theorem BoxI.start (w : World) {a : Nat} (pl op n tg : Nat) (h : a < w.heap.size) : BoxI w (w.alloc (.cells #[.int .i64 pl, .int .i64 op, .int .i64 n, .int .i64 tg] 128)) a pl op n tg := by
  have hr := heap_alloc_new w (.cells #[.int .i64 pl, .int .i64 op, .int .i64 n, .int .i64 tg] 128)
  exact ⟨cell_of_row _ _ 1 _ _ _ hr, cell_of_row _ _ 2 _ _ _ hr, cell_of_row _ _ 3 _ _ _ hr, (Two.refl _ _ _).alloc _, h⟩
theorem BoxI.only {w W W' : World} {a pl op n tg : Nat} (h : BoxI w W a pl op n tg) (ho : Only a W W') : BoxI w W' a pl op n tg := by
  have hne : w.heap.size ≠ a := by have := h.lt; omega
  exact ⟨(ho.cell hne).trans h.c1, (ho.cell hne).trans h.c2, (ho.cell hne).trans h.c3, h.two.trans (Two.of_only ho), h.lt⟩
theorem move_1 {w : World} {a : Nat} {nx : Int} {lo st : List (Bool × Int)} (h : SX w a nx lo st) (pl n tg : Nat) (hs : st.length < 8) (hn : n < 256) :
    Calls Tryz.prog 97 #[.pointer (some ⟨a, 0, none⟩), insV pl 1 n tg] w (MPost a nx lo (st ++ [(false, ((n : Int) + 128) % 256 - 128)]) (.tuple #[]) w) := by
  have hlt := h.lt
  have hB := BoxI.start w pl 1 n tg hlt
  have h1 := h.below ((Below.refl _ _).alloc (Nat.le_refl _) (.cells #[.int .i64 pl, .int .i64 1, .int .i64 n, .int .i64 tg] 128))
  have hsg := hid (signed_any n hn (w.alloc (.cells #[.int .i64 pl, .int .i64 1, .int .i64 n, .int .i64 tg] 128)))
  have e : (if n < 128 then (n : Int) else (n : Int) - 256) = ((n : Int) + 128) % 256 - 128 := by
    split <;> omega
  rw [e] at hsg
  have hp := hid (xpush h1 hs (false, ((n : Int) + 128) % 256 - 128))
  simp only at hp
  generalize ((n : Int) + 128) % 256 - 128 = v at *
  have HB := hid hB
  clear e h1 hB
  unfold insV
  clear h
  go_enter Tryz.func97, Tryz.ntmps97
  go_wp2_with fail
  refine hsg.out.mono ?_
  clear hsg
  rintro e w1 ⟨rfl, rfl⟩
  go_wp2_with fail
  refine hp.out.mono ?_
  clear hp
  intro e w2 hh
  obtain ⟨hx, hS, hO⟩ := hh
  subst e
  have Bw2 := HB.out.only hO
  clear hO
  have HS := hid hS
  have HT := hid Bw2.two
  clear hS Bw2
  go_wp2_with fail
  go_end0
  exact ⟨rfl, HS.out, HT.out⟩
theorem move_7 {w : World} {a : Nat} {nx : Int} {lo st : List (Bool × Int)} (h : SX w a nx lo st) (pl n tg : Nat) (hs : st.length < 8) (hn : n < lo.length) :
    Calls Tryz.prog 97 #[.pointer (some ⟨a, 0, none⟩), insV pl 7 n tg] w (MPost a nx lo (st ++ [lo[n]]) (.tuple #[]) w) := by
  have hlt := h.lt
  have hB := BoxI.start w pl 7 n tg hlt
  have h1 := h.below ((Below.refl _ _).alloc (Nat.le_refl _) (.cells #[.int .i64 pl, .int .i64 7, .int .i64 n, .int .i64 tg] 128))
  have hp := hid (xload h1 hs hn)
  have HB := hid hB
  clear h1 hB
  unfold insV
  clear h
  go_enter Tryz.func97, Tryz.ntmps97
  go_wp2_with fail
  refine hp.out.mono ?_
  clear hp
  intro e w2 hh
  obtain ⟨hx, hS, hO⟩ := hh
  subst e
  have Bw2 := HB.out.only hO
  clear hO
  have HS := hid hS
  have HT := hid Bw2.two
  clear hS Bw2
  go_wp2_with fail
  go_end0
  exact ⟨rfl, HS.out, HT.out⟩
theorem move_8 {w : World} {a : Nat} {nx : Int} {lo st : List (Bool × Int)} {x : Bool × Int} (h : SX w a nx lo (st ++ [x])) (pl n tg : Nat) (hn : n < lo.length) :
    Calls Tryz.prog 97 #[.pointer (some ⟨a, 0, none⟩), insV pl 8 n tg] w (MPost a nx (lo.set n x) st (.tuple #[]) w) := by
  have hlt := h.lt
  have hB := BoxI.start w pl 8 n tg hlt
  have h1 := h.below ((Below.refl _ _).alloc (Nat.le_refl _) (.cells #[.int .i64 pl, .int .i64 8, .int .i64 n, .int .i64 tg] 128))
  have hp := hid (xstore h1 hn)
  have HB := hid hB
  clear h1 hB
  unfold insV
  clear h
  go_enter Tryz.func97, Tryz.ntmps97
  go_wp2_with fail
  refine hp.out.mono ?_
  clear hp
  intro e w2 hh
  obtain ⟨hx, hS, hO⟩ := hh
  subst e
  have Bw2 := HB.out.only hO
  clear hO
  have HS := hid hS
  have HT := hid Bw2.two
  clear hS Bw2
  go_wp2_with fail
  go_end0
  exact ⟨rfl, HS.out, HT.out⟩
theorem move_9 {w : World} {a : Nat} {nx : Int} {lo st : List (Bool × Int)} {x : Bool × Int} (h : SX w a nx lo (st ++ [x])) (pl n tg : Nat) (hs : st.length < 7) :
    Calls Tryz.prog 97 #[.pointer (some ⟨a, 0, none⟩), insV pl 9 n tg] w (MPost a nx lo ((st ++ [x]) ++ [x]) (.tuple #[]) w) := by
  have hlt := h.lt
  have hB := BoxI.start w pl 9 n tg hlt
  have h1 := h.below ((Below.refl _ _).alloc (Nat.le_refl _) (.cells #[.int .i64 pl, .int .i64 9, .int .i64 n, .int .i64 tg] 128))
  have hp := hid (xpop h1)
  have HB := hid hB
  clear h1 hB
  unfold insV
  clear h
  go_enter Tryz.func97, Tryz.ntmps97
  go_wp2_with fail
  refine hp.out.mono ?_
  clear hp
  intro e w2 hh
  obtain ⟨hx, hS, hO⟩ := hh
  subst e
  have Bw2 := HB.out.only hO
  clear hO
  have hp := hid (xpush hS (by omega) x)
  have HB2 := hid Bw2
  clear hS Bw2
  go_wp2_with fail
  refine hp.out.mono ?_
  clear hp
  intro e w3 hh
  obtain ⟨hx, hS, hO⟩ := hh
  subst e
  have Bw3 := HB2.out.only hO
  clear hO
  have hp := hid (xpush hS (by simp; omega) x)
  have HB3 := hid Bw3
  clear hS Bw3
  go_wp2_with fail
  refine hp.out.mono ?_
  clear hp
  intro e w4 hh
  obtain ⟨hx, hS, hO⟩ := hh
  subst e
  have Bw4 := HB3.out.only hO
  clear hO
  have HS := hid hS
  have HT := hid Bw4.two
  clear hS Bw4
  go_wp2_with fail
  go_end0
  exact ⟨rfl, HS.out, HT.out⟩
theorem move_10 {w : World} {a : Nat} {nx : Int} {lo st : List (Bool × Int)} {x : Bool × Int} (h : SX w a nx lo (st ++ [x])) (pl n tg : Nat) :
    Calls Tryz.prog 97 #[.pointer (some ⟨a, 0, none⟩), insV pl 10 n tg] w (MPost a nx lo st (.tuple #[]) w) := by
  have hlt := h.lt
  have hB := BoxI.start w pl 10 n tg hlt
  have h1 := h.below ((Below.refl _ _).alloc (Nat.le_refl _) (.cells #[.int .i64 pl, .int .i64 10, .int .i64 n, .int .i64 tg] 128))
  have hp := hid (xpop h1)
  have HB := hid hB
  clear h1 hB
  unfold insV
  clear h
  go_enter Tryz.func97, Tryz.ntmps97
  go_wp2_with fail
  refine hp.out.mono ?_
  clear hp
  intro e w2 hh
  obtain ⟨hx, hS, hO⟩ := hh
  subst e
  have Bw2 := HB.out.only hO
  clear hO
  have HS := hid hS
  have HT := hid Bw2.two
  clear hS Bw2
  go_wp2_with fail
  go_end0
  exact ⟨rfl, HS.out, HT.out⟩
theorem move_11 {w : World} {a : Nat} {nx : Int} {lo st : List (Bool × Int)} {x y : Bool × Int} (h : SX w a nx lo ((st ++ [x]) ++ [y])) (pl n tg : Nat) (hs : st.length < 7) :
    Calls Tryz.prog 97 #[.pointer (some ⟨a, 0, none⟩), insV pl 11 n tg] w (MPost a nx lo ((st ++ [y]) ++ [x]) (.tuple #[]) w) := by
  have hlt := h.lt
  have hB := BoxI.start w pl 11 n tg hlt
  have h1 := h.below ((Below.refl _ _).alloc (Nat.le_refl _) (.cells #[.int .i64 pl, .int .i64 11, .int .i64 n, .int .i64 tg] 128))
  have hp := hid (xpop h1)
  have HB := hid hB
  clear h1 hB
  unfold insV
  clear h
  go_enter Tryz.func97, Tryz.ntmps97
  go_wp2_with fail
  refine hp.out.mono ?_
  clear hp
  intro e w2 hh
  obtain ⟨hx, hS, hO⟩ := hh
  subst e
  have Bw2 := HB.out.only hO
  clear hO
  have hp := hid (xpop hS)
  have HB2 := hid Bw2
  clear hS Bw2
  go_wp2_with fail
  refine hp.out.mono ?_
  clear hp
  intro e w3 hh
  obtain ⟨hx, hS, hO⟩ := hh
  subst e
  have Bw3 := HB2.out.only hO
  clear hO
  have hp := hid (xpush hS (by omega) y)
  have HB3 := hid Bw3
  clear hS Bw3
  go_wp2_with fail
  refine hp.out.mono ?_
  clear hp
  intro e w4 hh
  obtain ⟨hx, hS, hO⟩ := hh
  subst e
  have Bw4 := HB3.out.only hO
  clear hO
  have hp := hid (xpush hS (by simp; omega) x)
  have HB4 := hid Bw4
  clear hS Bw4
  go_wp2_with fail
  refine hp.out.mono ?_
  clear hp
  intro e w5 hh
  obtain ⟨hx, hS, hO⟩ := hh
  subst e
  have Bw5 := HB4.out.only hO
  clear hO
  have HS := hid hS
  have HT := hid Bw5.two
  clear hS Bw5
  go_wp2_with fail
  go_end0
  exact ⟨rfl, HS.out, HT.out⟩
theorem move_12 {w : World} {a : Nat} {nx : Int} {lo st : List (Bool × Int)} (h : SX w a nx lo st) (pl n tg : Nat) (hs : st.length < 8) :
    Calls Tryz.prog 97 #[.pointer (some ⟨a, 0, none⟩), insV pl 12 n tg] w (MPost a nx lo (st ++ [(true, -1)]) (.tuple #[]) w) := by
  have hlt := h.lt
  have hB := BoxI.start w pl 12 n tg hlt
  have h1 := h.below ((Below.refl _ _).alloc (Nat.le_refl _) (.cells #[.int .i64 pl, .int .i64 12, .int .i64 n, .int .i64 tg] 128))
  have hp := hid (xpush h1 hs (true, -1))
  simp only at hp
  have HB := hid hB
  clear h1 hB
  unfold insV
  clear h
  go_enter Tryz.func97, Tryz.ntmps97
  go_wp2_with fail
  refine hp.out.mono ?_
  clear hp
  intro e w2 hh
  obtain ⟨hx, hS, hO⟩ := hh
  subst e
  have Bw2 := HB.out.only hO
  clear hO
  have HS := hid hS
  have HT := hid Bw2.two
  clear hS Bw2
  go_wp2_with fail
  go_end0
  exact ⟨rfl, HS.out, HT.out⟩
theorem move_18 {w : World} {a : Nat} {nx : Int} {lo st : List (Bool × Int)} {x y : Bool × Int} (h : SX w a nx lo ((st ++ [x]) ++ [y])) (pl n tg : Nat) (hs : st.length < 8) :
    Calls Tryz.prog 97 #[.pointer (some ⟨a, 0, none⟩), insV pl 18 n tg] w (MPost a nx lo (st ++ [(false, sumC 18 x.2 y.2)]) (.tuple #[]) w) := by
  have hlt := h.lt
  have hB := BoxI.start w pl 18 n tg hlt
  have h1 := h.below ((Below.refl _ _).alloc (Nat.le_refl _) (.cells #[.int .i64 pl, .int .i64 18, .int .i64 n, .int .i64 tg] 128))
  obtain ⟨xf, xv⟩ := x
  obtain ⟨yf, yv⟩ := y
  have hp := hid (xpop h1)
  have HB := hid hB
  clear h1 hB
  unfold insV
  clear h
  go_enter Tryz.func97, Tryz.ntmps97
  go_wp2_with fail
  refine hp.out.mono ?_
  clear hp
  intro e w2 hh
  obtain ⟨hx, hS, hO⟩ := hh
  subst e
  have Bw2 := HB.out.only hO
  clear hO
  have hp := hid (xpop hS)
  have HB2 := hid Bw2
  clear hS Bw2
  go_wp2_with fail
  refine hp.out.mono ?_
  clear hp
  intro e w3 hh
  obtain ⟨hx, hS, hO⟩ := hh
  subst e
  have Bw3 := HB2.out.only hO
  clear hO
  have HB3 := hid Bw3
  clear Bw3
  simp only
  by_cases e : xv = yv
  · have q : (xv == yv) = true := by simpa using e
    have HE : Hid (sumC 18 xv yv = 1) := hid (by unfold sumC; simp [e])
    have hp := hid (xpush hS hs (false, 1))
    have ht := hid (truth_any true w3)
    simp only [if_true] at ht hp
    clear hS e
    go_wp2_with fail
    refine ht.out.mono ?_
    clear ht
    intro e w9 hh
    obtain ⟨hx, hw⟩ := hh
    subst e
    subst w9
    go_wp2_with fail
    refine hp.out.mono ?_
    clear hp
    intro e w4 hh
    obtain ⟨hx, hS, hO⟩ := hh
    subst e
    have HT := hid (HB3.out.only hO).two
    have HS := hid hS
    clear hS hO
    go_wp2_with fail
    go_end0
    exact ⟨rfl, by rw [HE.out]; exact HS.out, HT.out⟩
  · have q : (xv == yv) = false := by simpa using e
    have HE : Hid (sumC 18 xv yv = 0) := hid (by unfold sumC; simp [e])
    have hp := hid (xpush hS hs (false, 0))
    have ht := hid (truth_any false w3)
    simp only [Bool.false_eq_true, if_false] at ht hp
    clear hS e
    go_wp2_with fail
    refine ht.out.mono ?_
    clear ht
    intro e w9 hh
    obtain ⟨hx, hw⟩ := hh
    subst e
    subst w9
    go_wp2_with fail
    refine hp.out.mono ?_
    clear hp
    intro e w4 hh
    obtain ⟨hx, hS, hO⟩ := hh
    subst e
    have HT := hid (HB3.out.only hO).two
    have HS := hid hS
    clear hS hO
    go_wp2_with fail
    go_end0
    exact ⟨rfl, by rw [HE.out]; exact HS.out, HT.out⟩
theorem SX.next {w : World} {a : Nat} {nx : Int} {lo st : List (Bool × Int)} (h : SX w a nx lo st) (nx' : Int) : (∃ v, w.cell? ⟨a, 0, none⟩ = some v) ∧ w.frozen? ⟨a, 0, none⟩ = false ∧ SX (w.setCell ⟨a, 0, none⟩ (.int .i64 nx')) a nx' lo st := by
  obtain ⟨lo4, st8, h⟩ := h
  have c := cell_of_row w a 0 _ _ _ h.row
  exact ⟨⟨_, c⟩, frozen_of_row w a 0 _ _ h.row, lo4, st8, h.set 0 _, h.ok⟩
theorem move_19 {w : World} {a : Nat} {nx : Int} {lo st : List (Bool × Int)} (h : SX w a nx lo st) (pl n tg : Nat) :
    Calls Tryz.prog 97 #[.pointer (some ⟨a, 0, none⟩), insV pl 19 n tg] w (MPost a tg lo st (.tuple #[]) w) := by
  have hlt := h.lt
  have hB := BoxI.start w pl 19 n tg hlt
  have h1 := h.below ((Below.refl _ _).alloc (Nat.le_refl _) (.cells #[.int .i64 pl, .int .i64 19, .int .i64 n, .int .i64 tg] 128))
  obtain ⟨⟨v, a1⟩, a2, _⟩ := h1.next tg
  have A3 := hid ((h.next tg).2.2.below ((Below.refl _ _).alloc (Nat.le_refl _) (.cells #[.int .i64 pl, .int .i64 19, .int .i64 n, .int .i64 tg] 128)))
  have c3 := hB.c3
  unfold insV
  clear h h1 hB
  go_enter Tryz.func97, Tryz.ntmps97
  go_wp2_with fail
  go_end0
  exact ⟨rfl, A3.out, ((Two.refl _ _ _).set).alloc _⟩
theorem move_20 {w : World} {a : Nat} {nx : Int} {lo st : List (Bool × Int)} {x : Bool × Int} (h : SX w a nx lo (st ++ [x])) (pl n tg : Nat) :
    Calls Tryz.prog 97 #[.pointer (some ⟨a, 0, none⟩), insV pl 20 n tg] w (MPost a (if x.2 ≠ 0 then (tg : Int) else nx) lo st (.tuple #[]) w) := by
  have hlt := h.lt
  have hB := BoxI.start w pl 20 n tg hlt
  have h1 := h.below ((Below.refl _ _).alloc (Nat.le_refl _) (.cells #[.int .i64 pl, .int .i64 20, .int .i64 n, .int .i64 tg] 128))
  have hp := hid (xpop h1)
  have HB := hid hB
  obtain ⟨xf, xv⟩ := x
  simp only at hp ⊢
  unfold insV
  clear h h1 hB
  by_cases e : xv = 0
  · subst e
    rw [if_neg (by simp)]
    go_enter Tryz.func97, Tryz.ntmps97
    go_wp2_with fail
    refine hp.out.mono ?_
    clear hp
    intro e w2 hh
    obtain ⟨hx, hS, hO⟩ := hh
    subst e
    have HT := hid (HB.out.only hO).two
    have HS := hid hS
    clear hS hO
    go_wp2_with fail
    go_end0
    exact ⟨rfl, HS.out, HT.out⟩
  · have q : (xv != 0) = true := by simpa using e
    rw [if_pos e]
    clear e
    go_enter Tryz.func97, Tryz.ntmps97
    go_wp2_with fail
    refine hp.out.mono ?_
    clear hp
    intro e w2 hh
    obtain ⟨hx, hS, hO⟩ := hh
    subst e
    have hB2 := HB.out.only hO
    have c3 := hB2.c3
    have HT := hid hB2.two
    obtain ⟨⟨v, a1⟩, a2, a3⟩ := hS.next tg
    have A3 := hid a3
    clear hS hO hB2 a3
    go_wp2_with fail
    go_end0
    exact ⟨rfl, A3.out, HT.out.set⟩
def RDPost (K : RK) (vO vS : Value) (s' : MS) (w : World) (e : Ending) (w' : World) : Prop := e = .returned (.tuple #[]) ∧ ∃ vO' vS', RQ K vO vS s' w w' vO' vS'
def rinsV (i : Ins) : Value := .agg #[.int .i64 i.op, .int .i64 i.n, .int .i64 i.place]
theorem push_rd {K : RK} {vO vS : Value} {s s' : MS} {w : World} {ws : List (Bool × Int)} {e : Ending} {w' : World} (h : RM w K vO vS s) (hs : s' = { s with st := ws }) (hp : PushPost K.b K.B4 vS ws w e w') : RDPost K vO vS s' w e w' := by
  obtain ⟨h1, v', h2, h3⟩ := hp
  subst hs
  exact ⟨h1, vO, v', RQ.push h h2 h3⟩
theorem rdoes_stack {w : World} {K : RK} {E : Env} {vO vS : Value} {s : MS} {i : Ins} (h : RM w K vO vS s) (he : EnvOk E) (hi : MInv E s) (hc : CanI E s i) (ho : i.op = 1 ∨ i.op = 2 ∨ i.op = 3 ∨ i.op = 4 ∨ i.op = 6 ∨ i.op = 18 ∨ i.op = 7 ∨ i.op = 9 ∨ i.op = 10 ∨ i.op = 20 ∨ i.op = 11 ∨ i.op = 12 ∨ (i.op = 5 ∧ (lastW s.st 0).2 ≠ 0)) (cell : Int) :
    Calls Tryz.prog 51 #[.pointer (some ⟨K.b, 0, none⟩), rinsV i, .int .i64 cell] w (RDPost K vO vS (doesS E i cell s) w) := by
  have hw := h.wds
  have hs := hi.st he
  have hs100 : s.st.length ≤ 100 := by omega
  have hB := h.o9
  have hstd : (i.op ≠ 7 ∧ i.op ≠ 8 ∧ i.op ≠ 9 ∧ i.op ≠ 10 ∧ i.op ≠ 11) → Std s i.op := fun hn => hc.std hn
  obtain ⟨op, n, pl⟩ := i
  unfold rinsV
  simp only at *
  have sum : (op = 2 ∨ op = 3 ∨ op = 4 ∨ op = 5 ∨ op = 6 ∨ op = 18) → (op = 5 → (lastW s.st 0).2 ≠ 0) → Calls Tryz.prog 51 #[.pointer (some ⟨K.b, 0, none⟩), .agg #[.int .i64 op, .int .i64 n, .int .i64 pl], .int .i64 cell] w (RDPost K vO vS (doesS E ⟨op, n, pl⟩ cell s) w) := by
    intro hop h5
    have hlen : 1 < s.st.length := by
      have hst := hstd (by omega)
      have hl := hst.len
      rcases hop with e | e | e | e | e | e <;> (subst e; simp [popsL] at hl; omega)
    refine (does_sum K.b K.B4 vS s.st op n pl cell w (by omega) hw hs100 hlen hB (fun e => h5 (by omega))).mono (fun e w' hp => push_rd h ?_ hp)
    unfold doesS
    simp only
    rw [if_neg (by omega), if_pos hop]
    rfl
  rcases ho with e | e | e | e | e | e | e | e | e | e | e | e | ⟨e, e5⟩
  · subst e
    refine (does_1 K.b K.B4 vS s.st n pl cell w hw hs100 hB (he.wf.num _ hc.mem)).mono (fun e w' hp => push_rd h rfl hp)
  · exact sum (.inl e) (fun h => by omega)
  · exact sum (.inr (.inl e)) (fun h => by omega)
  · exact sum (.inr (.inr (.inl e))) (fun h => by omega)
  · exact sum (by omega) (fun h => by omega)
  · exact sum (by omega) (fun h => by omega)
  · subst e
    have hn := he.wf.arg _ hc.mem (.inl rfl)
    simp only at hn
    rw [← hi.lo he] at hn
    have m8 := cell_of_row w K.b 8 _ _ _ h.row
    simp only [RK.row, List.getElem?_toArray, List.getElem?_cons_zero, List.getElem?_cons_succ] at m8
    have hlo : LsAt w (fun _ => True) (.slice (some ⟨K.gLo, 0, none⟩) s.lo.length s.lo.length) s.lo.length (s.lo.flatMap wdCells) := .inr ⟨K.gLo, _, rfl, trivial, fun j u hj => by rw [cell_of_row w K.gLo j _ _ _ h.loc, List.getElem?_toArray]; exact hj⟩
    refine (does_7 K.b K.B4 vS _ s.st s.lo n pl cell _ w hw hs100 hB m8 hlo hn (by have := hi.lo he; have := he.wf.loc; omega)).mono (fun e w' hp => push_rd h ?_ hp)
    unfold doesS
    simp [List.getElem?_eq_getElem hn]
  · subst e
    refine (does_9 K.b K.B4 vS s.st n pl cell w hw hs100 (can_one hc (.inr (.inl rfl))) hB).mono (fun e w' hp => push_rd h rfl hp)
  · subst e
    refine (does_drop K.b K.B4 vS s.st 10 n pl cell w (.inl rfl) hw hs100 (can_one hc (.inr (.inr rfl)))).mono (fun e w' hp => push_rd h rfl hp)
  · subst e
    have hp := ((hstd (by omega)).one (c := 105) rfl).1
    refine (does_drop K.b K.B4 vS s.st 20 n pl cell w (.inr rfl) hw hs100 hp).mono (fun e w' hp => push_rd h rfl hp)
  · subst e
    refine (does_11 K.b K.B4 vS s.st n pl cell w hw hs100 (can_two hc rfl) hB).mono (fun e w' hp => push_rd h rfl hp)
  · subst e
    refine (does_12 K.b K.B4 vS s.st n pl cell w hw hs100 hB).mono (fun e w' hp => push_rd h rfl hp)
  · exact sum (by omega) (fun _ => e5)
theorem rrow_lo {K : RK} {vO vS : Value} {s : MS} {lo : List (Bool × Int)} (h : lo.length = s.lo.length) : K.row vO vS { s with lo := lo } = K.row vO vS s := by
  simp only [RK.row, h]
/-- The locals have turned. -/
theorem RM.locals {w w' : World} {K : RK} {vO vS : Value} {s : MS} {lo : List (Bool × Int)} (h : RM w K vO vS s) (ht : Two K.gLo K.gLo w w') (hr : w'.heap[K.gLo]? = some (.cells (lo.flatMap wdCells).toArray 116)) (hl : lo.length = s.lo.length) : RM w' K vO vS { s with lo := lo } := by
  have o1 := h.o1
  have o2 := h.o2
  have o3 := h.o3
  have o4 := h.o4
  have o5 := h.o5
  have o6 := h.o6
  have o7 := h.o7
  have o8 := h.o8
  have o9 := h.o9
  have hz := ht.size
  have hin : ∀ k, k < w.heap.size → k ≠ K.gLo → w'.heap[k]? = w.heap[k]? := fun k h1 h2 => ht.block k h1 h2 h2
  exact { h with
    row := by rw [rrow_lo hl]; exact (hin _ (by omega) (by omega)).trans h.row
    o9 := by omega
    ins := h.ins.same2 (hin _ (by omega) (by omega))
    maps := h.maps.keep (fun g h1 h2 => hin g (by omega) (by omega))
    inp := owns_keep h.inp (fun g hg' => hin g (by have := h.inb g hg'; omega) (by have := (h.inp.lt g hg').1; omega))
    loc := hr
    cells := owns_keep h.cells (fun g hg' => by
      simp only [Value.ownBlock, Option.some.injEq] at hg'
      subst hg'
      exact hin _ (by omega) (by omega))
    stk := owns_keep h.stk (fun g hg' => hin g (h.stk.lt g hg').2 (by have := (h.stk.lt g hg').1; omega))
    out := owns_keep h.out (fun g hg' => hin g (h.out.lt g hg').2 (by have := (h.out.lt g hg').1; omega)) }
theorem rdoes_8 {w : World} {K : RK} {E : Env} {vO vS : Value} {s : MS} {i : Ins} (h : RM w K vO vS s) (he : EnvOk E) (hi : MInv E s) (hc : CanI E s i) (ho : i.op = 8) (cell : Int) :
    Calls Tryz.prog 51 #[.pointer (some ⟨K.b, 0, none⟩), rinsV i, .int .i64 cell] w (RDPost K vO vS (doesS E i cell s) w) := by
  have hw := h.wds
  have hs := hi.st he
  have hn := he.wf.arg _ hc.mem (.inr ho)
  rw [← hi.lo he] at hn
  have hp := can_one hc (.inl ho)
  have m8 := cell_of_row w K.b 8 _ _ _ h.row
  simp only [RK.row, List.getElem?_toArray, List.getElem?_cons_zero, List.getElem?_cons_succ] at m8
  have o3 := h.o3
  have o4 := h.o4
  have o5 := h.o5
  have o6 := h.o6
  have o7 := h.o7
  have o8 := h.o8
  obtain ⟨op, n, pl⟩ := i
  simp only at ho hn
  subst ho
  refine (does_8 K.b K.B4 K.gLo s.lo.length vS s.st s.lo n pl cell w hw (by omega) hp m8 h.loc hn (by omega) (fun e => by have := (h.stk.lt _ e.symm).1; omega)).mono ?_
  rintro e w' ⟨h1, wm, v', h2, h3, h4, h5⟩
  have hl := h.locals h2 h3 (by simp)
  refine ⟨h1, vO, v', RQ.trans (s1 := { s with lo := s.lo.set n (lastW s.st 0) }) ⟨hl, fun _ h => .inl h, fun _ h => .inl h, Touch.two h2 h.bIn.2.2 h.bIn.2.2⟩ ?_⟩
  exact RQ.push hl h4 h5
theorem rdoes_22 {w : World} {K : RK} {E : Env} {vO vS : Value} {s : MS} {i : Ins} (h : RM w K vO vS s) (he : EnvOk E) (hi : MInv E s) (hc : CanI E s i) (ho : i.op = 22) (cell : Int) (hlen : s.out.length ≤ 8796093022208) :
    Calls Tryz.prog 51 #[.pointer (some ⟨K.b, 0, none⟩), rinsV i, .int .i64 cell] w (RDPost K vO vS (doesS E i cell s) w) := by
  have hs := hi.st he
  have hp := ((hc.std (by omega)).one (c := 105) (by rw [ho]; rfl)).1
  obtain ⟨op, n, pl⟩ := i
  simp only at ho
  subst ho
  refine (does_22 K.b K.B4 vS vO s.st s.out n pl cell _ w h.row h.wds h.nums (by omega) hlen hp h.o9 ?_).mono ?_
  · cases hv : vS.ownBlock with
    | none => exact .inl rfl
    | some g => exact .inr (fun e => h.apart g hv e.symm)
  · rintro e w' ⟨h1, wm, v', vO', h2, h3, h4, h5⟩
    have q1 := RQ.out h h2 h3
    exact ⟨h1, vO', v', q1.trans (RQ.push q1.m h4 h5)⟩
theorem rrow_rd {K : RK} {vO vS : Value} {s : MS} (rd : Nat) : (K.row vO vS s).setIfInBounds 3 (.int .i64 rd) = K.row vO vS { s with rd := rd } := by
  apply Array.toList_inj.1
  simp only [RK.row, Array.toList_setIfInBounds, List.set_cons_zero, List.set_cons_succ]
/-- A field of the machine's own row has turned, of which nothing else hangs. -/
theorem RM.field {w w' : World} {K : RK} {vO vS : Value} {s s' : MS} (h : RM w K vO vS s) (ht : Two K.b K.b w w') (hr : w'.heap[K.b]? = some (.cells (K.row vO vS s') 82)) (e1 : s'.lo = s.lo) (e2 : s'.hs = s.hs) (e3 : s'.st = s.st) (e4 : s'.out = s.out) : RM w' K vO vS s' := by
  have o1 := h.o1
  have o2 := h.o2
  have o3 := h.o3
  have o4 := h.o4
  have o5 := h.o5
  have o6 := h.o6
  have o7 := h.o7
  have o8 := h.o8
  have o9 := h.o9
  have hz := ht.size
  have hin : ∀ k, k < w.heap.size → k ≠ K.b → w'.heap[k]? = w.heap[k]? := fun k h1 h2 => ht.block k h1 h2 h2
  refine ⟨hr, o1, o2, o3, o4, o5, o6, o7, o8, by omega, h.ins.same2 (hin _ (by omega) (by omega)), h.maps.keep (fun g h1 h2 => hin g (by omega) (by omega)), owns_keep h.inp (fun g hg' => hin g (by have := h.inb g hg'; omega) (by have := (h.inp.lt g hg').1; omega)), h.inb, ?_, ?_, ?_, ?_, h.apart⟩
  · rw [e1]; exact (hin _ (by omega) (by omega)).trans h.loc
  · rw [e2]; exact owns_keep h.cells (fun g hg' => by
      simp only [Value.ownBlock, Option.some.injEq] at hg'
      subst hg'
      exact hin _ (by omega) (by omega))
  · rw [e3]; exact owns_keep h.stk (fun g hg' => hin g (h.stk.lt g hg').2 (by have := (h.stk.lt g hg').1; omega))
  · rw [e4]; exact owns_keep h.out (fun g hg' => hin g (h.out.lt g hg').2 (by have := (h.out.lt g hg').1; omega))
theorem rdoes_21 {w : World} {K : RK} {E : Env} {vO vS : Value} {s : MS} {i : Ins} (h : RM w K vO vS s) (hke : RE K E) (he : EnvOk E) (hi : MInv E s) (ho : i.op = 21) (cell : Int) (hz : E.zs.length ≤ 64) :
    Calls Tryz.prog 51 #[.pointer (some ⟨K.b, 0, none⟩), rinsV i, .int .i64 cell] w (RDPost K vO vS (doesS E i cell s) w) := by
  have hs := hi.st he
  have hzs := hke.zs
  have hi2 : (K.row vO vS s)[2]? = some K.vI := rfl
  have hi3 : (K.row vO vS s)[3]? = some (.int .i64 s.rd) := rfl
  obtain ⟨op, n, pl⟩ := i
  simp only at ho
  subst ho
  by_cases hr : s.rd < E.zs.length
  · have hd : doesS E ⟨21, n, pl⟩ cell s = { s with rd := s.rd + 1, st := s.st ++ [(false, E.zs.getD s.rd 0)] } := by unfold doesS; simp [hr]
    rw [hd]
    rcases h.inp.2 with ⟨_, e⟩ | ⟨gI, cI, cur, hv, hg, r⟩
    · rw [hzs] at e; omega
    rw [hv] at hi2
    have hx := h.inp.cells (g := gI) (by rw [hv]; rfl) s.rd (.int .i64 (E.zs.getD s.rd 0)) (by
      rw [List.getElem?_map, hzs, List.getD_eq_getElem?_getD, List.getElem?_eq_getElem hr]; rfl)
    rw [addr_add] at hx
    refine (does_21_some K.b K.B4 gI vS cI s.st s.rd K.zs.length (E.zs.getD s.rd 0) n pl cell _ w h.row hi2 hi3 hx h.wds (by omega) h.o9 (by rw [hzs]; exact hr) (by rw [hzs]; omega)).mono ?_
    rintro e w' ⟨h1, wm, v', h2, h3, h4, h5⟩
    have hm := h.field (s' := { s with rd := s.rd + 1 }) h2 (by rw [← rrow_rd]; exact h3) rfl rfl rfl rfl
    exact ⟨h1, vO, v', RQ.trans ⟨hm, fun _ h => .inl h, fun _ h => .inl h, Touch.two h2 h.bIn.1 h.bIn.1⟩ (RQ.push hm h4 h5)⟩
  · have hd : doesS E ⟨21, n, pl⟩ cell s = { s with st := s.st ++ [(false, 0)] } := by unfold doesS; simp [hr]
    rw [hd]
    obtain ⟨p, c, hv⟩ := (LsAt.of_owns h.inp).slice
    rw [hv] at hi2
    refine (does_21_none K.b K.B4 vS p c s.st s.rd K.zs.length n pl cell _ w h.row hi2 hi3 h.wds (by omega) h.o9 (by rw [hzs]; omega)).mono ?_
    rintro e w' ⟨h1, wm, v', h2, h3, h4, h5⟩
    have hm := h.field (s' := s) h2 (by rw [rrow_rd] at h3; exact h3) rfl rfl rfl rfl
    exact ⟨h1, vO, v', RQ.trans ⟨hm, fun _ h => .inl h, fun _ h => .inl h, Touch.two h2 h.bIn.1 h.bIn.1⟩ (RQ.push hm h4 h5)⟩
attribute [local go_sem] run_fieldW
theorem cut_a7 {w w2 : World} {nb : Obj} (c : Obj) (hb : Below (w.alloc nb).drew.heap.size (w.alloc nb).drew w2) : w.heap.size ≤ w2.heap.size ∧ (w2.alloc c).heap[w2.heap.size]? = some c ∧ Below w.heap.size w (w2.alloc c) := by
  have e : (w.alloc nb).drew.heap.size = w.heap.size + 1 := by simp
  have hs := hb.size
  rw [e] at hb hs
  have h0 : Below w.heap.size w (w.alloc nb).drew := ((Below.refl _ _).alloc (Nat.le_refl _) _).drew
  exact ⟨by omega, heap_alloc_new _ _, (h0.trans (hb.mono (by omega))).alloc (by omega) _⟩
theorem cut_b7 {w w2 : World} {nb : Obj} {z0 z1 z2 z3 z4 z5 z6 : Value} {t : TypeId} (v0 v1 v2 v3 v4 v5 v6 : Value) (hb : Below ((w.alloc nb).alloc (.cells #[z0, z1, z2, z3, z4, z5, z6] t)).drew.heap.size ((w.alloc nb).alloc (.cells #[z0, z1, z2, z3, z4, z5, z6] t)).drew w2) :
    (((((((w2.setCell ⟨w.heap.size + 1, 0, none⟩ v0).setCell ⟨w.heap.size + 1, 1, none⟩ v1).setCell ⟨w.heap.size + 1, 2, none⟩ v2).setCell ⟨w.heap.size + 1, 3, none⟩ v3).setCell ⟨w.heap.size + 1, 4, none⟩ v4).setCell ⟨w.heap.size + 1, 5, none⟩ v5).setCell ⟨w.heap.size + 1, 6, none⟩ v6).heap[w.heap.size + 1]? = some (.cells #[v0, v1, v2, v3, v4, v5, v6] t) ∧
    Below w.heap.size w (((((((w2.setCell ⟨w.heap.size + 1, 0, none⟩ v0).setCell ⟨w.heap.size + 1, 1, none⟩ v1).setCell ⟨w.heap.size + 1, 2, none⟩ v2).setCell ⟨w.heap.size + 1, 3, none⟩ v3).setCell ⟨w.heap.size + 1, 4, none⟩ v4).setCell ⟨w.heap.size + 1, 5, none⟩ v5).setCell ⟨w.heap.size + 1, 6, none⟩ v6) := by
  have e : ((w.alloc nb).alloc (.cells #[z0, z1, z2, z3, z4, z5, z6] t)).drew.heap.size = w.heap.size + 1 + 1 := by simp
  rw [e] at hb
  have h0 : w2.heap[w.heap.size + 1]? = some (.cells #[z0, z1, z2, z3, z4, z5, z6] t) := (hb.block _ (by omega)).trans (heap_two_new w _ _)
  have h1 : Below w.heap.size w ((w.alloc nb).alloc (.cells #[z0, z1, z2, z3, z4, z5, z6] t)).drew := (((Below.refl _ _).alloc (Nat.le_refl _) _).alloc (by simp) _).drew
  exact ⟨row7 h0 _ _ _ _ _ _ _, (h1.trans (hb.mono (by omega))).trans ((only7 w2 (w.heap.size + 1) v0 v1 v2 v3 v4 v5 v6).below (by omega))⟩
theorem cut_n1 {w w2 : World} {a b c : Value} {t : TypeId} (o : Obj) (hb : Below (w.alloc (.cells #[a, b, c] t)).drew.heap.size (w.alloc (.cells #[a, b, c] t)).drew w2) : (w2.alloc o).cell? ⟨w.heap.size, 1, none⟩ = some b := by
  have e : (w.alloc (.cells #[a, b, c] t)).drew.heap.size = w.heap.size + 1 := by simp
  have hs := hb.size
  rw [e] at hb hs
  have h0 : w2.heap[w.heap.size]? = some (.cells #[a, b, c] t) := (hb.block _ (by omega)).trans (heap_alloc_new w _)
  have h1 : (w2.alloc o).heap[w.heap.size]? = some (.cells #[a, b, c] t) := (Below.heap_alloc _ _ _ (by omega)).trans h0
  exact cell_of_row _ _ 1 _ _ _ h1
theorem cut_n2 {w w2 : World} {a b c z0 z1 z2 z3 z4 z5 z6 : Value} {t t2 : TypeId} (v0 v1 v2 v3 v4 v5 v6 : Value) (hb : Below ((w.alloc (.cells #[a, b, c] t)).alloc (.cells #[z0, z1, z2, z3, z4, z5, z6] t2)).drew.heap.size ((w.alloc (.cells #[a, b, c] t)).alloc (.cells #[z0, z1, z2, z3, z4, z5, z6] t2)).drew w2) : (((((((w2.setCell ⟨w.heap.size + 1, 0, none⟩ v0).setCell ⟨w.heap.size + 1, 1, none⟩ v1).setCell ⟨w.heap.size + 1, 2, none⟩ v2).setCell ⟨w.heap.size + 1, 3, none⟩ v3).setCell ⟨w.heap.size + 1, 4, none⟩ v4).setCell ⟨w.heap.size + 1, 5, none⟩ v5).setCell ⟨w.heap.size + 1, 6, none⟩ v6).cell? ⟨w.heap.size, 1, none⟩ = some b := by
  have e : ((w.alloc (.cells #[a, b, c] t)).alloc (.cells #[z0, z1, z2, z3, z4, z5, z6] t2)).drew.heap.size = w.heap.size + 1 + 1 := by simp
  rw [e] at hb
  have h0 : w2.heap[w.heap.size]? = some (.cells #[a, b, c] t) := (hb.block _ (by omega)).trans (heap_two_first w _ _)
  have h1 := ((only7 w2 (w.heap.size + 1) v0 v1 v2 v3 v4 v5 v6).block w.heap.size (by omega)).trans h0
  exact cell_of_row _ _ 1 _ _ _ h1
theorem touches_13 {w : World} {K : RK} {vO vS : Value} {s : MS} (h : RM w K vO vS s) (hs : s.st.length ≤ 8) (n pl cell : Int) :
    Calls Tryz.prog 85 #[.pointer (some ⟨K.b, 0, none⟩), .agg #[.int .i64 13, .int .i64 n, .int .i64 pl], .int .i64 cell] w (RDPost K vO vS { s with st := s.st ++ [(true, cell)] } w) := by
  have hB : Below w.heap.size w (w.alloc (.cells #[.int .i64 13, .int .i64 n, .int .i64 pl] 113)) := (Below.refl _ _).alloc (Nat.le_refl _) _
  have q1 := RQ.below h hB
  have hp := hid (ref_any K.b K.B4 vS s.st cell _ q1.m.wds (by omega) q1.m.o9)
  have FIN : Hid (∀ e w', PushPost K.b K.B4 vS (s.st ++ [(true, cell)]) (w.alloc (.cells #[.int .i64 13, .int .i64 n, .int .i64 pl] 113)) e w' → RDPost K vO vS { s with st := s.st ++ [(true, cell)] } w e w') := hid (by
    rintro e w' ⟨h1, v', h2, h3⟩
    exact ⟨h1, vO, v', q1.trans (RQ.push q1.m h2 h3)⟩)
  clear h hB q1
  go_enter Tryz.func85, Tryz.ntmps85
  go_wp2_with fail
  refine hp.out.mono ?_
  clear hp
  intro e w2 hh
  have HF := hid (FIN.out e w2 hh)
  have hx := hh.1
  clear hh FIN
  subst e
  go_wp2_with fail
  go_end0
  exact HF.out
theorem touches_19 {w : World} {K : RK} {vO vS : Value} {s : MS} (h : RM w K vO vS s) (n pl cell : Int) :
    Calls Tryz.prog 85 #[.pointer (some ⟨K.b, 0, none⟩), .agg #[.int .i64 19, .int .i64 n, .int .i64 pl], .int .i64 cell] w (RDPost K vO vS s w) := by
  have hB : Below w.heap.size w (w.alloc (.cells #[.int .i64 19, .int .i64 n, .int .i64 pl] 113)) := (Below.refl _ _).alloc (Nat.le_refl _) _
  have Q1 := hid (RQ.below h hB)
  clear h hB
  go_enter Tryz.func85, Tryz.ntmps85
  go_wp2_with fail
  go_end0
  exact ⟨rfl, _, _, Q1.out⟩
theorem touches_16 {w : World} {K : RK} {vO vS : Value} {s : MS} (h : RM w K vO vS s) (hs : s.st.length ≤ 8) (hp : 0 < s.st.length) (hr0 : 0 ≤ (lastW s.st 0).2) (hr : (lastW s.st 0).2 < (s.hs.1.length : Int)) (n pl cell : Int) :
    Calls Tryz.prog 85 #[.pointer (some ⟨K.b, 0, none⟩), .agg #[.int .i64 16, .int .i64 n, .int .i64 pl], .int .i64 cell] w (RDPost K vO vS { s with st := cutS s 1 ++ [(false, (cellAt s.hs.1 (lastW s.st 0).2).num)] } w) := by
  have hdr := hid (fun (W : World) (hb : Below w.heap.size w W) => drop_wds K.b K.B4 1 vS s.st W (h.below hb).wds (by omega) hp hp)
  have m10 := cell_of_row w K.b 10 _ _ _ h.row
  simp only [RK.row, List.getElem?_toArray, List.getElem?_cons_zero, List.getElem?_cons_succ] at m10
  have hbz : K.b < w.heap.size := (Array.getElem?_eq_some_iff.1 h.row).1
  have hgz : K.gC < w.heap.size := by have := h.o8; have := h.o9; omega
  have hb4 := h.o9
  obtain ⟨q, hq⟩ : ∃ q : Nat, (lastW s.st 0).2 = (q : Int) := ⟨(lastW s.st 0).2.toNat, by omega⟩
  have hql : q < s.hs.1.length := by omega
  have hca : cellAt s.hs.1 (lastW s.st 0).2 = s.hs.1[q] := by unfold cellAt; rw [hq, Int.toNat_natCast, List.getD_eq_getElem?_getD, List.getElem?_eq_getElem hql]; rfl
  have c0 := h.hp.cell hql (j := 0) (by omega)
  have c1 := h.hp.cell hql (j := 1) (by omega)
  have c2 := h.hp.cell hql (j := 2) (by omega)
  have c3 := h.hp.cell hql (j := 3) (by omega)
  have c4 := h.hp.cell hql (j := 4) (by omega)
  have c5 := h.hp.cell hql (j := 5) (by omega)
  have c6 := h.hp.cell hql (j := 6) (by omega)
  rw [Nat.add_zero] at c0
  simp only [rcCells, List.getElem?_cons_zero, List.getElem?_cons_succ] at c0 c1 c2 c3 c4 c5 c6
  rw [hca]
  have H := hid h
  have d0 : (0 : Int) ≤ (q : Int) := by omega
  have d1 : (q : Int) < (s.hs.1.length : Int) := by omega
  generalize s.hs.1[q] = cc at *
  obtain ⟨cu, cr, ck, cw, ca, cb, cn⟩ := cc
  simp only at c0 c1 c2 c3 c4 c5 c6 ⊢
  have fact : ∀ W, Below w.heap.size w W → W.cell? ⟨K.b, 10, none⟩ = some (.slice (some ⟨K.gC, 0, none⟩) s.hs.1.length K.cC) ∧ W.cell? ⟨K.gC, q * 7, none⟩ = some (.bool cu) ∧ W.cell? ⟨K.gC, q * 7 + 1, none⟩ = some (.bool cr) ∧ W.cell? ⟨K.gC, q * 7 + 2, none⟩ = some (.bool ck) ∧ W.cell? ⟨K.gC, q * 7 + 3, none⟩ = some (.bool cw) ∧ W.cell? ⟨K.gC, q * 7 + 4, none⟩ = some (.int .i64 ca) ∧ W.cell? ⟨K.gC, q * 7 + 5, none⟩ = some (.int .i64 cb) ∧ W.cell? ⟨K.gC, q * 7 + 6, none⟩ = some (.int .i64 cn) := fun W hb2 => ⟨(hb2.cell (p := ⟨K.b, _, none⟩) hbz).trans m10, (hb2.cell (p := ⟨K.gC, _, none⟩) hgz).trans c0, (hb2.cell (p := ⟨K.gC, _, none⟩) hgz).trans c1, (hb2.cell (p := ⟨K.gC, _, none⟩) hgz).trans c2, (hb2.cell (p := ⟨K.gC, _, none⟩) hgz).trans c3, (hb2.cell (p := ⟨K.gC, _, none⟩) hgz).trans c4, (hb2.cell (p := ⟨K.gC, _, none⟩) hgz).trans c5, (hb2.cell (p := ⟨K.gC, _, none⟩) hgz).trans c6⟩
  have hla : Hid (∀ (W : World), Below w.heap.size w W → Calls Tryz.prog 48 #[.pointer (some ⟨K.b, 0, none⟩), .int .i64 0] W (fun e w2 => (Below W.heap.size W w2 ∧ e = .returned (.agg #[.bool (lastW s.st 0).1, .int .i64 (q : Int)])) ∧ (w2.cell? ⟨K.b, 10, none⟩ = some (.slice (some ⟨K.gC, 0, none⟩) s.hs.1.length K.cC) ∧ w2.cell? ⟨K.gC, q * 7, none⟩ = some (.bool cu) ∧ w2.cell? ⟨K.gC, q * 7 + 1, none⟩ = some (.bool cr) ∧ w2.cell? ⟨K.gC, q * 7 + 2, none⟩ = some (.bool ck) ∧ w2.cell? ⟨K.gC, q * 7 + 3, none⟩ = some (.bool cw) ∧ w2.cell? ⟨K.gC, q * 7 + 4, none⟩ = some (.int .i64 ca) ∧ w2.cell? ⟨K.gC, q * 7 + 5, none⟩ = some (.int .i64 cb) ∧ w2.cell? ⟨K.gC, q * 7 + 6, none⟩ = some (.int .i64 cn)) ∧ ((w2.alloc (.cells #[.bool false, .bool false, .bool false, .bool false, .int .i64 0, .int .i64 0, .int .i64 0] 109)).cell? ⟨K.b, 10, none⟩ = some (.slice (some ⟨K.gC, 0, none⟩) s.hs.1.length K.cC) ∧ (w2.alloc (.cells #[.bool false, .bool false, .bool false, .bool false, .int .i64 0, .int .i64 0, .int .i64 0] 109)).cell? ⟨K.gC, q * 7, none⟩ = some (.bool cu) ∧ (w2.alloc (.cells #[.bool false, .bool false, .bool false, .bool false, .int .i64 0, .int .i64 0, .int .i64 0] 109)).cell? ⟨K.gC, q * 7 + 1, none⟩ = some (.bool cr) ∧ (w2.alloc (.cells #[.bool false, .bool false, .bool false, .bool false, .int .i64 0, .int .i64 0, .int .i64 0] 109)).cell? ⟨K.gC, q * 7 + 2, none⟩ = some (.bool ck) ∧ (w2.alloc (.cells #[.bool false, .bool false, .bool false, .bool false, .int .i64 0, .int .i64 0, .int .i64 0] 109)).cell? ⟨K.gC, q * 7 + 3, none⟩ = some (.bool cw) ∧ (w2.alloc (.cells #[.bool false, .bool false, .bool false, .bool false, .int .i64 0, .int .i64 0, .int .i64 0] 109)).cell? ⟨K.gC, q * 7 + 4, none⟩ = some (.int .i64 ca) ∧ (w2.alloc (.cells #[.bool false, .bool false, .bool false, .bool false, .int .i64 0, .int .i64 0, .int .i64 0] 109)).cell? ⟨K.gC, q * 7 + 5, none⟩ = some (.int .i64 cb) ∧ (w2.alloc (.cells #[.bool false, .bool false, .bool false, .bool false, .int .i64 0, .int .i64 0, .int .i64 0] 109)).cell? ⟨K.gC, q * 7 + 6, none⟩ = some (.int .i64 cn)))) := hid (fun W hb => by
    have hl := last_any K.b 0 vS s.st (lastW s.st 0) (fun _ => True) W (h.below hb).wds.cell (h.below hb).wds.ls (by omega) hp (lastW_at hp)
    refine hl.mono ?_
    rintro e w2 ⟨a1, a2⟩
    have hb2 := hb.trans (a1.mono hb.size)
    rw [hq] at a2
    exact ⟨⟨a1, a2⟩, fact w2 hb2, fact _ (hb2.alloc hb2.size _)⟩)
  clear fact
  generalize (lastW s.st 0).1 = xf at hla
  clear h hca
  go_enter Tryz.func85, Tryz.ntmps85
  go_upto_region 17 with fail
  go_cut [7] (fun x wc => ∃ B : Nat, x = .pointer (some ⟨B, 0, none⟩) ∧ w.heap.size ≤ B ∧ wc.heap[B]? = some (.cells #[.bool cu, .bool cr, .bool ck, .bool cw, .int .i64 ca, .int .i64 cb, .int .i64 cn] 109) ∧ Below w.heap.size w wc ∧ wc.cell? ⟨w.heap.size, 1, none⟩ = some (.int .i64 n))
  case first =>
    go_region_law ((go_simp; go_at_call 48; refine (hla.out _ (by repeat (first | exact Below.refl _ _ | refine Below.drew ?_ | refine Below.alloc ?_ (by simp) _))).mono ?_; intro e w2 hpost; obtain ⟨⟨hb2, he2⟩, ⟨e10, e0, e1, e2, e3, e4, e5, e6⟩, ⟨l10, l0, l1, l2, l3, l4, l5, l6⟩⟩ := hpost; subst he2; obtain ⟨hc2, hf2⟩ := bcell_r hb2; have hz2 := hb2.size; have HB2 := hid hb2; simp at hc2 hf2 hz2; dsimp only))
    all_goals (go_wp2_with fail; go_meet)
    all_goals
      first
      | exact ⟨_, rfl, (cut_a7 (.cells #[] 0) HB2.out).1, (cut_a7 _ HB2.out).2.1, (cut_a7 _ HB2.out).2.2, cut_n1 _ HB2.out⟩
      | exact ⟨_, rfl, Nat.le_succ _, (cut_b7 _ _ _ _ _ _ _ HB2.out).1, (cut_b7 _ _ _ _ _ _ _ HB2.out).2, cut_n2 _ _ _ _ _ _ _ HB2.out⟩
  case rest =>
    obtain ⟨B, rfl, hB, hrow, hbc, hnn⟩ := hcut
    have hd := hid (hdr.out wc hbc)
    have HBC := hid hbc
    have hBz : B < wc.heap.size := (Array.getElem?_eq_some_iff.1 hrow).1
    have hq0 : Hid (∀ w4 v', WdsAt w4 K.b 9 K.B4 v' (s.st.take (s.st.length - 1)) → Grew K.b 9 vS v' wc w4 → RQ K vO vS { s with st := s.st.take (s.st.length - 1) } w w4 vO v' ∧ w4.heap[B]? = wc.heap[B]? ∧ w4.heap[w.heap.size]? = wc.heap[w.heap.size]?) := hid (fun w4 v' h1 h2 => by
      have q1 := RQ.below H.out HBC.out
      have hbs : ∀ k, w.heap.size ≤ k → k < wc.heap.size → w4.heap[k]? = wc.heap[k]? := fun k hk1 hk2 => h2.block k hk2 (by omega) (fun e => by have := (H.out.stk.lt k e.symm).2; omega)
      exact ⟨q1.trans (RQ.push q1.m h1 h2), hbs B hB hBz, hbs _ (Nat.le_refl _) (by omega)⟩)
    have HROW := hid hrow
    have HNN := hid hnn
    clear hla hdr hrow hbc m10 c0 c1 c2 c3 c4 c5 c6 hnn
    go_wp2_with fail
    refine hd.out.mono ?_
    clear hd
    intro e w4 hh
    obtain ⟨hx, v', hw4, hg4⟩ := hh
    subst e
    obtain ⟨q4, hrB, hrN⟩ := hq0.out w4 v' hw4 hg4
    have row4 := hrB.trans HROW.out
    have n4 : w4.cell? ⟨w.heap.size, 1, none⟩ = some (.int .i64 n) := (World.cell?_of_block (a := ⟨w.heap.size, 1, none⟩) hrN).trans HNN.out
    have z4 := cell_of_row w4 B 4 _ _ _ row4
    have z5 := cell_of_row w4 B 5 _ _ _ row4
    have z6 := cell_of_row w4 B 6 _ _ _ row4
    simp only [List.getElem?_toArray, List.getElem?_cons_zero, List.getElem?_cons_succ] at z4 z5 z6
    have Q4 := hid q4
    clear hw4 hg4 row4 hrB hrN q4 hq0 HROW HNN
    have hpu := hid (number_any K.b K.B4 v' _ cn w4 Q4.out.m.wds (by simp; omega) Q4.out.m.o9)
    go_wp2_with fail
    refine hpu.out.mono ?_
    clear hpu
    intro e w5 hh
    obtain ⟨hx, v5, hw5, hg5⟩ := hh
    subst e
    have q5 := Q4.out.trans (RQ.push Q4.out.m hw5 hg5)
    have HF : Hid (RDPost K vO vS { s with st := cutS s 1 ++ [(false, cn)] } w (.returned (.tuple #[])) w5) := hid ⟨rfl, vO, v5, q5⟩
    clear q5
    clear hw5 hg5
    go_wp2_with fail
    go_end0
    exact HF.out
theorem touches_14 {w : World} {K : RK} {vO vS : Value} {s : MS} (h : RM w K vO vS s) (hs : s.st.length ≤ 8) (hp : 0 < s.st.length) (hr0 : 0 ≤ (lastW s.st 0).2) (hr : (lastW s.st 0).2 < (s.hs.1.length : Int)) (n : Nat) (pl cell : Int) :
    Calls Tryz.prog 85 #[.pointer (some ⟨K.b, 0, none⟩), .agg #[.int .i64 14, .int .i64 n, .int .i64 pl], .int .i64 cell] w (RDPost K vO vS { s with st := cutS s 1 ++ [(true, if n = 0 then (cellAt s.hs.1 (lastW s.st 0).2).a else (cellAt s.hs.1 (lastW s.st 0).2).b)] } w) := by
  have hdr := hid (fun (W : World) (hb : Below w.heap.size w W) => drop_wds K.b K.B4 1 vS s.st W (h.below hb).wds (by omega) hp hp)
  have m10 := cell_of_row w K.b 10 _ _ _ h.row
  simp only [RK.row, List.getElem?_toArray, List.getElem?_cons_zero, List.getElem?_cons_succ] at m10
  have hbz : K.b < w.heap.size := (Array.getElem?_eq_some_iff.1 h.row).1
  have hgz : K.gC < w.heap.size := by have := h.o8; have := h.o9; omega
  have hb4 := h.o9
  obtain ⟨q, hq⟩ : ∃ q : Nat, (lastW s.st 0).2 = (q : Int) := ⟨(lastW s.st 0).2.toNat, by omega⟩
  have hql : q < s.hs.1.length := by omega
  have hca : cellAt s.hs.1 (lastW s.st 0).2 = s.hs.1[q] := by unfold cellAt; rw [hq, Int.toNat_natCast, List.getD_eq_getElem?_getD, List.getElem?_eq_getElem hql]; rfl
  have c0 := h.hp.cell hql (j := 0) (by omega)
  have c1 := h.hp.cell hql (j := 1) (by omega)
  have c2 := h.hp.cell hql (j := 2) (by omega)
  have c3 := h.hp.cell hql (j := 3) (by omega)
  have c4 := h.hp.cell hql (j := 4) (by omega)
  have c5 := h.hp.cell hql (j := 5) (by omega)
  have c6 := h.hp.cell hql (j := 6) (by omega)
  rw [Nat.add_zero] at c0
  simp only [rcCells, List.getElem?_cons_zero, List.getElem?_cons_succ] at c0 c1 c2 c3 c4 c5 c6
  rw [hca]
  have H := hid h
  have d0 : (0 : Int) ≤ (q : Int) := by omega
  have d1 : (q : Int) < (s.hs.1.length : Int) := by omega
  generalize s.hs.1[q] = cc at *
  obtain ⟨cu, cr, ck, cw, ca, cb, cn⟩ := cc
  simp only at c0 c1 c2 c3 c4 c5 c6 ⊢
  have fact : ∀ W, Below w.heap.size w W → W.cell? ⟨K.b, 10, none⟩ = some (.slice (some ⟨K.gC, 0, none⟩) s.hs.1.length K.cC) ∧ W.cell? ⟨K.gC, q * 7, none⟩ = some (.bool cu) ∧ W.cell? ⟨K.gC, q * 7 + 1, none⟩ = some (.bool cr) ∧ W.cell? ⟨K.gC, q * 7 + 2, none⟩ = some (.bool ck) ∧ W.cell? ⟨K.gC, q * 7 + 3, none⟩ = some (.bool cw) ∧ W.cell? ⟨K.gC, q * 7 + 4, none⟩ = some (.int .i64 ca) ∧ W.cell? ⟨K.gC, q * 7 + 5, none⟩ = some (.int .i64 cb) ∧ W.cell? ⟨K.gC, q * 7 + 6, none⟩ = some (.int .i64 cn) := fun W hb2 => ⟨(hb2.cell (p := ⟨K.b, _, none⟩) hbz).trans m10, (hb2.cell (p := ⟨K.gC, _, none⟩) hgz).trans c0, (hb2.cell (p := ⟨K.gC, _, none⟩) hgz).trans c1, (hb2.cell (p := ⟨K.gC, _, none⟩) hgz).trans c2, (hb2.cell (p := ⟨K.gC, _, none⟩) hgz).trans c3, (hb2.cell (p := ⟨K.gC, _, none⟩) hgz).trans c4, (hb2.cell (p := ⟨K.gC, _, none⟩) hgz).trans c5, (hb2.cell (p := ⟨K.gC, _, none⟩) hgz).trans c6⟩
  have hla : Hid (∀ (W : World), Below w.heap.size w W → Calls Tryz.prog 48 #[.pointer (some ⟨K.b, 0, none⟩), .int .i64 0] W (fun e w2 => (Below W.heap.size W w2 ∧ e = .returned (.agg #[.bool (lastW s.st 0).1, .int .i64 (q : Int)])) ∧ (w2.cell? ⟨K.b, 10, none⟩ = some (.slice (some ⟨K.gC, 0, none⟩) s.hs.1.length K.cC) ∧ w2.cell? ⟨K.gC, q * 7, none⟩ = some (.bool cu) ∧ w2.cell? ⟨K.gC, q * 7 + 1, none⟩ = some (.bool cr) ∧ w2.cell? ⟨K.gC, q * 7 + 2, none⟩ = some (.bool ck) ∧ w2.cell? ⟨K.gC, q * 7 + 3, none⟩ = some (.bool cw) ∧ w2.cell? ⟨K.gC, q * 7 + 4, none⟩ = some (.int .i64 ca) ∧ w2.cell? ⟨K.gC, q * 7 + 5, none⟩ = some (.int .i64 cb) ∧ w2.cell? ⟨K.gC, q * 7 + 6, none⟩ = some (.int .i64 cn)) ∧ ((w2.alloc (.cells #[.bool false, .bool false, .bool false, .bool false, .int .i64 0, .int .i64 0, .int .i64 0] 109)).cell? ⟨K.b, 10, none⟩ = some (.slice (some ⟨K.gC, 0, none⟩) s.hs.1.length K.cC) ∧ (w2.alloc (.cells #[.bool false, .bool false, .bool false, .bool false, .int .i64 0, .int .i64 0, .int .i64 0] 109)).cell? ⟨K.gC, q * 7, none⟩ = some (.bool cu) ∧ (w2.alloc (.cells #[.bool false, .bool false, .bool false, .bool false, .int .i64 0, .int .i64 0, .int .i64 0] 109)).cell? ⟨K.gC, q * 7 + 1, none⟩ = some (.bool cr) ∧ (w2.alloc (.cells #[.bool false, .bool false, .bool false, .bool false, .int .i64 0, .int .i64 0, .int .i64 0] 109)).cell? ⟨K.gC, q * 7 + 2, none⟩ = some (.bool ck) ∧ (w2.alloc (.cells #[.bool false, .bool false, .bool false, .bool false, .int .i64 0, .int .i64 0, .int .i64 0] 109)).cell? ⟨K.gC, q * 7 + 3, none⟩ = some (.bool cw) ∧ (w2.alloc (.cells #[.bool false, .bool false, .bool false, .bool false, .int .i64 0, .int .i64 0, .int .i64 0] 109)).cell? ⟨K.gC, q * 7 + 4, none⟩ = some (.int .i64 ca) ∧ (w2.alloc (.cells #[.bool false, .bool false, .bool false, .bool false, .int .i64 0, .int .i64 0, .int .i64 0] 109)).cell? ⟨K.gC, q * 7 + 5, none⟩ = some (.int .i64 cb) ∧ (w2.alloc (.cells #[.bool false, .bool false, .bool false, .bool false, .int .i64 0, .int .i64 0, .int .i64 0] 109)).cell? ⟨K.gC, q * 7 + 6, none⟩ = some (.int .i64 cn)))) := hid (fun W hb => by
    have hl := last_any K.b 0 vS s.st (lastW s.st 0) (fun _ => True) W (h.below hb).wds.cell (h.below hb).wds.ls (by omega) hp (lastW_at hp)
    refine hl.mono ?_
    rintro e w2 ⟨a1, a2⟩
    have hb2 := hb.trans (a1.mono hb.size)
    rw [hq] at a2
    exact ⟨⟨a1, a2⟩, fact w2 hb2, fact _ (hb2.alloc hb2.size _)⟩)
  clear fact
  generalize (lastW s.st 0).1 = xf at hla
  clear h hca
  generalize hrv : (if n = 0 then ca else cb) = rv
  have HRV := hid hrv
  clear hrv
  go_enter Tryz.func85, Tryz.ntmps85
  go_upto_region 11 with fail
  go_cut [6] (fun x wc => ∃ B : Nat, x = .pointer (some ⟨B, 0, none⟩) ∧ w.heap.size ≤ B ∧ wc.heap[B]? = some (.cells #[.bool cu, .bool cr, .bool ck, .bool cw, .int .i64 ca, .int .i64 cb, .int .i64 cn] 109) ∧ Below w.heap.size w wc ∧ wc.cell? ⟨w.heap.size, 1, none⟩ = some (.int .i64 n))
  case first =>
    go_region_law ((go_simp; go_at_call 48; refine (hla.out _ (by repeat (first | exact Below.refl _ _ | refine Below.drew ?_ | refine Below.alloc ?_ (by simp) _))).mono ?_; intro e w2 hpost; obtain ⟨⟨hb2, he2⟩, ⟨e10, e0, e1, e2, e3, e4, e5, e6⟩, ⟨l10, l0, l1, l2, l3, l4, l5, l6⟩⟩ := hpost; subst he2; obtain ⟨hc2, hf2⟩ := bcell_r hb2; have hz2 := hb2.size; have HB2 := hid hb2; simp at hc2 hf2 hz2; dsimp only))
    all_goals (go_wp2_with fail; go_meet)
    all_goals
      first
      | exact ⟨_, rfl, (cut_a7 (.cells #[] 0) HB2.out).1, (cut_a7 _ HB2.out).2.1, (cut_a7 _ HB2.out).2.2, cut_n1 _ HB2.out⟩
      | exact ⟨_, rfl, Nat.le_succ _, (cut_b7 _ _ _ _ _ _ _ HB2.out).1, (cut_b7 _ _ _ _ _ _ _ HB2.out).2, cut_n2 _ _ _ _ _ _ _ HB2.out⟩
  case rest =>
    obtain ⟨B, rfl, hB, hrow, hbc, hnn⟩ := hcut
    have hd := hid (hdr.out wc hbc)
    have HBC := hid hbc
    have hBz : B < wc.heap.size := (Array.getElem?_eq_some_iff.1 hrow).1
    have hq0 : Hid (∀ w4 v', WdsAt w4 K.b 9 K.B4 v' (s.st.take (s.st.length - 1)) → Grew K.b 9 vS v' wc w4 → RQ K vO vS { s with st := s.st.take (s.st.length - 1) } w w4 vO v' ∧ w4.heap[B]? = wc.heap[B]? ∧ w4.heap[w.heap.size]? = wc.heap[w.heap.size]?) := hid (fun w4 v' h1 h2 => by
      have q1 := RQ.below H.out HBC.out
      have hbs : ∀ k, w.heap.size ≤ k → k < wc.heap.size → w4.heap[k]? = wc.heap[k]? := fun k hk1 hk2 => h2.block k hk2 (by omega) (fun e => by have := (H.out.stk.lt k e.symm).2; omega)
      exact ⟨q1.trans (RQ.push q1.m h1 h2), hbs B hB hBz, hbs _ (Nat.le_refl _) (by omega)⟩)
    have HROW := hid hrow
    have HNN := hid hnn
    clear hla hdr hrow hbc m10 c0 c1 c2 c3 c4 c5 c6 hnn
    go_wp2_with fail
    refine hd.out.mono ?_
    clear hd
    intro e w4 hh
    obtain ⟨hx, v', hw4, hg4⟩ := hh
    subst e
    obtain ⟨q4, hrB, hrN⟩ := hq0.out w4 v' hw4 hg4
    have row4 := hrB.trans HROW.out
    have n4 : w4.cell? ⟨w.heap.size, 1, none⟩ = some (.int .i64 n) := (World.cell?_of_block (a := ⟨w.heap.size, 1, none⟩) hrN).trans HNN.out
    have z4 := cell_of_row w4 B 4 _ _ _ row4
    have z5 := cell_of_row w4 B 5 _ _ _ row4
    have z6 := cell_of_row w4 B 6 _ _ _ row4
    simp only [List.getElem?_toArray, List.getElem?_cons_zero, List.getElem?_cons_succ] at z4 z5 z6
    have Q4 := hid q4
    clear hw4 hg4 row4 hrB hrN q4 hq0 HROW HNN
    by_cases e0 : n = 0
    · have q0 : ((n : Int) == 0) = true := by simp; omega
      have hrv : ca = rv := by rw [← HRV.out, if_pos e0]
      subst hrv
      have hpu := hid (ref_any K.b K.B4 v' _ ca w4 Q4.out.m.wds (by simp; omega) Q4.out.m.o9)
      clear e0 HRV
      go_wp2_with fail
      refine hpu.out.mono ?_
      clear hpu
      intro e w5 hh
      obtain ⟨hx, v5, hw5, hg5⟩ := hh
      subst e
      have q5 := Q4.out.trans (RQ.push Q4.out.m hw5 hg5)
      have HF : Hid (RDPost K vO vS { s with st := cutS s 1 ++ [(true, ca)] } w (.returned (.tuple #[])) w5) := hid ⟨rfl, vO, v5, q5⟩
      clear q5
      clear hw5 hg5
      go_wp2_with fail
      go_end0
      exact HF.out
    · have q0 : ((n : Int) == 0) = false := by simp; omega
      have hrv : cb = rv := by rw [← HRV.out, if_neg e0]
      subst hrv
      have hpu := hid (ref_any K.b K.B4 v' _ cb w4 Q4.out.m.wds (by simp; omega) Q4.out.m.o9)
      clear e0 HRV
      go_wp2_with fail
      refine hpu.out.mono ?_
      clear hpu
      intro e w5 hh
      obtain ⟨hx, v5, hw5, hg5⟩ := hh
      subst e
      have q5 := Q4.out.trans (RQ.push Q4.out.m hw5 hg5)
      have HF : Hid (RDPost K vO vS { s with st := cutS s 1 ++ [(true, cb)] } w (.returned (.tuple #[])) w5) := hid ⟨rfl, vO, v5, q5⟩
      clear q5
      clear hw5 hg5
      go_wp2_with fail
      go_end0
      exact HF.out
theorem touches_24 {w : World} {K : RK} {vO vS : Value} {s : MS} (h : RM w K vO vS s) (hs : s.st.length ≤ 8) (hp : 0 < s.st.length) (hr0 : 0 ≤ (lastW s.st 0).2) (hr : (lastW s.st 0).2 < (s.hs.1.length : Int)) (n : Nat) (pl cell : Int) :
    Calls Tryz.prog 85 #[.pointer (some ⟨K.b, 0, none⟩), .agg #[.int .i64 24, .int .i64 n, .int .i64 pl], .int .i64 cell] w (RDPost K vO vS { s with st := cutS s 1 ++ [(true, if n = 0 then (cellAt s.hs.1 (lastW s.st 0).2).a else (cellAt s.hs.1 (lastW s.st 0).2).b)] } w) := by
  have hdr := hid (fun (W : World) (hb : Below w.heap.size w W) => drop_wds K.b K.B4 1 vS s.st W (h.below hb).wds (by omega) hp hp)
  have m10 := cell_of_row w K.b 10 _ _ _ h.row
  simp only [RK.row, List.getElem?_toArray, List.getElem?_cons_zero, List.getElem?_cons_succ] at m10
  have hbz : K.b < w.heap.size := (Array.getElem?_eq_some_iff.1 h.row).1
  have hgz : K.gC < w.heap.size := by have := h.o8; have := h.o9; omega
  have hb4 := h.o9
  obtain ⟨q, hq⟩ : ∃ q : Nat, (lastW s.st 0).2 = (q : Int) := ⟨(lastW s.st 0).2.toNat, by omega⟩
  have hql : q < s.hs.1.length := by omega
  have hca : cellAt s.hs.1 (lastW s.st 0).2 = s.hs.1[q] := by unfold cellAt; rw [hq, Int.toNat_natCast, List.getD_eq_getElem?_getD, List.getElem?_eq_getElem hql]; rfl
  have c0 := h.hp.cell hql (j := 0) (by omega)
  have c1 := h.hp.cell hql (j := 1) (by omega)
  have c2 := h.hp.cell hql (j := 2) (by omega)
  have c3 := h.hp.cell hql (j := 3) (by omega)
  have c4 := h.hp.cell hql (j := 4) (by omega)
  have c5 := h.hp.cell hql (j := 5) (by omega)
  have c6 := h.hp.cell hql (j := 6) (by omega)
  rw [Nat.add_zero] at c0
  simp only [rcCells, List.getElem?_cons_zero, List.getElem?_cons_succ] at c0 c1 c2 c3 c4 c5 c6
  rw [hca]
  have H := hid h
  have d0 : (0 : Int) ≤ (q : Int) := by omega
  have d1 : (q : Int) < (s.hs.1.length : Int) := by omega
  generalize s.hs.1[q] = cc at *
  obtain ⟨cu, cr, ck, cw, ca, cb, cn⟩ := cc
  simp only at c0 c1 c2 c3 c4 c5 c6 ⊢
  have fact : ∀ W, Below w.heap.size w W → W.cell? ⟨K.b, 10, none⟩ = some (.slice (some ⟨K.gC, 0, none⟩) s.hs.1.length K.cC) ∧ W.cell? ⟨K.gC, q * 7, none⟩ = some (.bool cu) ∧ W.cell? ⟨K.gC, q * 7 + 1, none⟩ = some (.bool cr) ∧ W.cell? ⟨K.gC, q * 7 + 2, none⟩ = some (.bool ck) ∧ W.cell? ⟨K.gC, q * 7 + 3, none⟩ = some (.bool cw) ∧ W.cell? ⟨K.gC, q * 7 + 4, none⟩ = some (.int .i64 ca) ∧ W.cell? ⟨K.gC, q * 7 + 5, none⟩ = some (.int .i64 cb) ∧ W.cell? ⟨K.gC, q * 7 + 6, none⟩ = some (.int .i64 cn) := fun W hb2 => ⟨(hb2.cell (p := ⟨K.b, _, none⟩) hbz).trans m10, (hb2.cell (p := ⟨K.gC, _, none⟩) hgz).trans c0, (hb2.cell (p := ⟨K.gC, _, none⟩) hgz).trans c1, (hb2.cell (p := ⟨K.gC, _, none⟩) hgz).trans c2, (hb2.cell (p := ⟨K.gC, _, none⟩) hgz).trans c3, (hb2.cell (p := ⟨K.gC, _, none⟩) hgz).trans c4, (hb2.cell (p := ⟨K.gC, _, none⟩) hgz).trans c5, (hb2.cell (p := ⟨K.gC, _, none⟩) hgz).trans c6⟩
  have hla : Hid (∀ (W : World), Below w.heap.size w W → Calls Tryz.prog 48 #[.pointer (some ⟨K.b, 0, none⟩), .int .i64 0] W (fun e w2 => (Below W.heap.size W w2 ∧ e = .returned (.agg #[.bool (lastW s.st 0).1, .int .i64 (q : Int)])) ∧ (w2.cell? ⟨K.b, 10, none⟩ = some (.slice (some ⟨K.gC, 0, none⟩) s.hs.1.length K.cC) ∧ w2.cell? ⟨K.gC, q * 7, none⟩ = some (.bool cu) ∧ w2.cell? ⟨K.gC, q * 7 + 1, none⟩ = some (.bool cr) ∧ w2.cell? ⟨K.gC, q * 7 + 2, none⟩ = some (.bool ck) ∧ w2.cell? ⟨K.gC, q * 7 + 3, none⟩ = some (.bool cw) ∧ w2.cell? ⟨K.gC, q * 7 + 4, none⟩ = some (.int .i64 ca) ∧ w2.cell? ⟨K.gC, q * 7 + 5, none⟩ = some (.int .i64 cb) ∧ w2.cell? ⟨K.gC, q * 7 + 6, none⟩ = some (.int .i64 cn)) ∧ ((w2.alloc (.cells #[.bool false, .bool false, .bool false, .bool false, .int .i64 0, .int .i64 0, .int .i64 0] 109)).cell? ⟨K.b, 10, none⟩ = some (.slice (some ⟨K.gC, 0, none⟩) s.hs.1.length K.cC) ∧ (w2.alloc (.cells #[.bool false, .bool false, .bool false, .bool false, .int .i64 0, .int .i64 0, .int .i64 0] 109)).cell? ⟨K.gC, q * 7, none⟩ = some (.bool cu) ∧ (w2.alloc (.cells #[.bool false, .bool false, .bool false, .bool false, .int .i64 0, .int .i64 0, .int .i64 0] 109)).cell? ⟨K.gC, q * 7 + 1, none⟩ = some (.bool cr) ∧ (w2.alloc (.cells #[.bool false, .bool false, .bool false, .bool false, .int .i64 0, .int .i64 0, .int .i64 0] 109)).cell? ⟨K.gC, q * 7 + 2, none⟩ = some (.bool ck) ∧ (w2.alloc (.cells #[.bool false, .bool false, .bool false, .bool false, .int .i64 0, .int .i64 0, .int .i64 0] 109)).cell? ⟨K.gC, q * 7 + 3, none⟩ = some (.bool cw) ∧ (w2.alloc (.cells #[.bool false, .bool false, .bool false, .bool false, .int .i64 0, .int .i64 0, .int .i64 0] 109)).cell? ⟨K.gC, q * 7 + 4, none⟩ = some (.int .i64 ca) ∧ (w2.alloc (.cells #[.bool false, .bool false, .bool false, .bool false, .int .i64 0, .int .i64 0, .int .i64 0] 109)).cell? ⟨K.gC, q * 7 + 5, none⟩ = some (.int .i64 cb) ∧ (w2.alloc (.cells #[.bool false, .bool false, .bool false, .bool false, .int .i64 0, .int .i64 0, .int .i64 0] 109)).cell? ⟨K.gC, q * 7 + 6, none⟩ = some (.int .i64 cn)))) := hid (fun W hb => by
    have hl := last_any K.b 0 vS s.st (lastW s.st 0) (fun _ => True) W (h.below hb).wds.cell (h.below hb).wds.ls (by omega) hp (lastW_at hp)
    refine hl.mono ?_
    rintro e w2 ⟨a1, a2⟩
    have hb2 := hb.trans (a1.mono hb.size)
    rw [hq] at a2
    exact ⟨⟨a1, a2⟩, fact w2 hb2, fact _ (hb2.alloc hb2.size _)⟩)
  clear fact
  generalize (lastW s.st 0).1 = xf at hla
  clear h hca
  generalize hrv : (if n = 0 then ca else cb) = rv
  have HRV := hid hrv
  clear hrv
  go_enter Tryz.func85, Tryz.ntmps85
  go_upto_region 11 with fail
  go_cut [6] (fun x wc => ∃ B : Nat, x = .pointer (some ⟨B, 0, none⟩) ∧ w.heap.size ≤ B ∧ wc.heap[B]? = some (.cells #[.bool cu, .bool cr, .bool ck, .bool cw, .int .i64 ca, .int .i64 cb, .int .i64 cn] 109) ∧ Below w.heap.size w wc ∧ wc.cell? ⟨w.heap.size, 1, none⟩ = some (.int .i64 n))
  case first =>
    go_region_law ((go_simp; go_at_call 48; refine (hla.out _ (by repeat (first | exact Below.refl _ _ | refine Below.drew ?_ | refine Below.alloc ?_ (by simp) _))).mono ?_; intro e w2 hpost; obtain ⟨⟨hb2, he2⟩, ⟨e10, e0, e1, e2, e3, e4, e5, e6⟩, ⟨l10, l0, l1, l2, l3, l4, l5, l6⟩⟩ := hpost; subst he2; obtain ⟨hc2, hf2⟩ := bcell_r hb2; have hz2 := hb2.size; have HB2 := hid hb2; simp at hc2 hf2 hz2; dsimp only))
    all_goals (go_wp2_with fail; go_meet)
    all_goals
      first
      | exact ⟨_, rfl, (cut_a7 (.cells #[] 0) HB2.out).1, (cut_a7 _ HB2.out).2.1, (cut_a7 _ HB2.out).2.2, cut_n1 _ HB2.out⟩
      | exact ⟨_, rfl, Nat.le_succ _, (cut_b7 _ _ _ _ _ _ _ HB2.out).1, (cut_b7 _ _ _ _ _ _ _ HB2.out).2, cut_n2 _ _ _ _ _ _ _ HB2.out⟩
  case rest =>
    obtain ⟨B, rfl, hB, hrow, hbc, hnn⟩ := hcut
    have hd := hid (hdr.out wc hbc)
    have HBC := hid hbc
    have hBz : B < wc.heap.size := (Array.getElem?_eq_some_iff.1 hrow).1
    have hq0 : Hid (∀ w4 v', WdsAt w4 K.b 9 K.B4 v' (s.st.take (s.st.length - 1)) → Grew K.b 9 vS v' wc w4 → RQ K vO vS { s with st := s.st.take (s.st.length - 1) } w w4 vO v' ∧ w4.heap[B]? = wc.heap[B]? ∧ w4.heap[w.heap.size]? = wc.heap[w.heap.size]?) := hid (fun w4 v' h1 h2 => by
      have q1 := RQ.below H.out HBC.out
      have hbs : ∀ k, w.heap.size ≤ k → k < wc.heap.size → w4.heap[k]? = wc.heap[k]? := fun k hk1 hk2 => h2.block k hk2 (by omega) (fun e => by have := (H.out.stk.lt k e.symm).2; omega)
      exact ⟨q1.trans (RQ.push q1.m h1 h2), hbs B hB hBz, hbs _ (Nat.le_refl _) (by omega)⟩)
    have HROW := hid hrow
    have HNN := hid hnn
    clear hla hdr hrow hbc m10 c0 c1 c2 c3 c4 c5 c6 hnn
    go_wp2_with fail
    refine hd.out.mono ?_
    clear hd
    intro e w4 hh
    obtain ⟨hx, v', hw4, hg4⟩ := hh
    subst e
    obtain ⟨q4, hrB, hrN⟩ := hq0.out w4 v' hw4 hg4
    have row4 := hrB.trans HROW.out
    have n4 : w4.cell? ⟨w.heap.size, 1, none⟩ = some (.int .i64 n) := (World.cell?_of_block (a := ⟨w.heap.size, 1, none⟩) hrN).trans HNN.out
    have z4 := cell_of_row w4 B 4 _ _ _ row4
    have z5 := cell_of_row w4 B 5 _ _ _ row4
    have z6 := cell_of_row w4 B 6 _ _ _ row4
    simp only [List.getElem?_toArray, List.getElem?_cons_zero, List.getElem?_cons_succ] at z4 z5 z6
    have Q4 := hid q4
    clear hw4 hg4 row4 hrB hrN q4 hq0 HROW HNN
    by_cases e0 : n = 0
    · have q0 : ((n : Int) == 0) = true := by simp; omega
      have hrv : ca = rv := by rw [← HRV.out, if_pos e0]
      subst hrv
      have hpu := hid (ref_any K.b K.B4 v' _ ca w4 Q4.out.m.wds (by simp; omega) Q4.out.m.o9)
      clear e0 HRV
      go_wp2_with fail
      refine hpu.out.mono ?_
      clear hpu
      intro e w5 hh
      obtain ⟨hx, v5, hw5, hg5⟩ := hh
      subst e
      have q5 := Q4.out.trans (RQ.push Q4.out.m hw5 hg5)
      have HF : Hid (RDPost K vO vS { s with st := cutS s 1 ++ [(true, ca)] } w (.returned (.tuple #[])) w5) := hid ⟨rfl, vO, v5, q5⟩
      clear q5
      clear hw5 hg5
      go_wp2_with fail
      go_end0
      exact HF.out
    · have q0 : ((n : Int) == 0) = false := by simp; omega
      have hrv : cb = rv := by rw [← HRV.out, if_neg e0]
      subst hrv
      have hpu := hid (ref_any K.b K.B4 v' _ cb w4 Q4.out.m.wds (by simp; omega) Q4.out.m.o9)
      clear e0 HRV
      go_wp2_with fail
      refine hpu.out.mono ?_
      clear hpu
      intro e w5 hh
      obtain ⟨hx, v5, hw5, hg5⟩ := hh
      subst e
      have q5 := Q4.out.trans (RQ.push Q4.out.m hw5 hg5)
      have HF : Hid (RDPost K vO vS { s with st := cutS s 1 ++ [(true, cb)] } w (.returned (.tuple #[])) w5) := hid ⟨rfl, vO, v5, q5⟩
      clear q5
      clear hw5 hg5
      go_wp2_with fail
      go_end0
      exact HF.out
end Go.Proofs.YtdmdpindonghdaaGreatDoor
namespace Go.Proofs.YtdmdpindonghdaaGreatDoor
open Go.RowKit
attribute [local go_sem] run_fieldW
theorem touches_17 {w : World} {K : RK} {vO vS : Value} {s : MS} (h : RM w K vO vS s) (hs : s.st.length ≤ 8) (hp : 1 < s.st.length) (hr0 : 0 ≤ (lastW s.st 1).2) (hr : (lastW s.st 1).2 < (s.hs.1.length : Int)) (n pl cell : Int) :
    Calls Tryz.prog 85 #[.pointer (some ⟨K.b, 0, none⟩), .agg #[.int .i64 17, .int .i64 n, .int .i64 pl], .int .i64 cell] w (RDPost K vO vS { s with hs := (s.hs.1.modify (lastW s.st 1).2.toNat (noteS (lastW s.st 0).2), s.hs.2), st := cutS s 2 } w) := by
  have m10 := cell_of_row w K.b 10 _ _ _ h.row
  simp only [RK.row, List.getElem?_toArray, List.getElem?_cons_zero, List.getElem?_cons_succ] at m10
  have hbz : K.b < w.heap.size := (Array.getElem?_eq_some_iff.1 h.row).1
  have hgz : K.gC < w.heap.size := by have := h.o8; have := h.o9; omega
  obtain ⟨q, hq⟩ : ∃ q : Nat, (lastW s.st 1).2 = (q : Int) := ⟨(lastW s.st 1).2.toNat, by omega⟩
  have hql : q < s.hs.1.length := by omega
  have c6 := h.hp.cell hql (j := 6) (by omega)
  have f6 := h.hp.frozen (q * 7 + 6)
  simp only [rcCells, List.getElem?_cons_zero, List.getElem?_cons_succ] at c6
  have H := hid h
  have d0 : (0 : Int) ≤ (q : Int) := by omega
  have d1 : (q : Int) < (s.hs.1.length : Int) := by omega
  have fact : ∀ W, Below w.heap.size w W → W.cell? ⟨K.b, 10, none⟩ = some (.slice (some ⟨K.gC, 0, none⟩) s.hs.1.length K.cC) ∧ W.cell? ⟨K.gC, q * 7 + 6, none⟩ = some (.int .i64 s.hs.1[q].num) ∧ W.frozen? ⟨K.gC, q * 7 + 6, none⟩ = false := fun W hb2 => ⟨(hb2.cell (p := ⟨K.b, _, none⟩) hbz).trans m10, (hb2.cell (p := ⟨K.gC, _, none⟩) hgz).trans c6, (hb2.frozen (p := ⟨K.gC, _, none⟩) hgz).trans f6⟩
  have hla : ∀ (k : Nat) (hk : k < s.st.length) (W : World), Below w.heap.size w W → Calls Tryz.prog 48 #[.pointer (some ⟨K.b, 0, none⟩), .int .i64 k] W (fun e w2 => Below w.heap.size w w2 ∧ e = .returned (.agg #[.bool (lastW s.st k).1, .int .i64 (lastW s.st k).2]) ∧ w2.cell? ⟨K.b, 10, none⟩ = some (.slice (some ⟨K.gC, 0, none⟩) s.hs.1.length K.cC) ∧ w2.cell? ⟨K.gC, q * 7 + 6, none⟩ = some (.int .i64 s.hs.1[q].num) ∧ w2.frozen? ⟨K.gC, q * 7 + 6, none⟩ = false) := fun k hk W hb => by
    have hl := last_any K.b k vS s.st (lastW s.st k) (fun _ => True) W (h.below hb).wds.cell (h.below hb).wds.ls (by omega) hk (lastW_at hk)
    refine hl.mono ?_
    rintro e w2 ⟨a1, a2⟩
    have hb2 := hb.trans (a1.mono hb.size)
    exact ⟨hb2, a2, fact w2 hb2⟩
  have hl0 : Hid (∀ (W : World), Below w.heap.size w W → Calls Tryz.prog 48 #[.pointer (some ⟨K.b, 0, none⟩), .int .i64 0] W (fun e w2 => Below w.heap.size w w2 ∧ e = .returned (.agg #[.bool (lastW s.st 0).1, .int .i64 (lastW s.st 0).2]) ∧ w2.cell? ⟨K.b, 10, none⟩ = some (.slice (some ⟨K.gC, 0, none⟩) s.hs.1.length K.cC) ∧ w2.cell? ⟨K.gC, q * 7 + 6, none⟩ = some (.int .i64 s.hs.1[q].num) ∧ w2.frozen? ⟨K.gC, q * 7 + 6, none⟩ = false)) := hid (hla 0 (by omega))
  have hl1 : Hid (∀ (W : World), Below w.heap.size w W → Calls Tryz.prog 48 #[.pointer (some ⟨K.b, 0, none⟩), .int .i64 1] W (fun e w2 => Below w.heap.size w w2 ∧ e = .returned (.agg #[.bool (lastW s.st 1).1, .int .i64 (lastW s.st 1).2]) ∧ w2.cell? ⟨K.b, 10, none⟩ = some (.slice (some ⟨K.gC, 0, none⟩) s.hs.1.length K.cC) ∧ w2.cell? ⟨K.gC, q * 7 + 6, none⟩ = some (.int .i64 s.hs.1[q].num) ∧ w2.frozen? ⟨K.gC, q * 7 + 6, none⟩ = false)) := hid (hla 1 (by omega))
  rw [hq] at hl1 ⊢
  rw [Int.toNat_natCast]
  have hdr := hid (fun (W : World) (hm : RM W K vO vS { s with hs := (s.hs.1.modify q (noteS (lastW s.st 0).2), s.hs.2) }) => drop_wds K.b K.B4 2 vS s.st W hm.wds (by omega) (by omega) (by omega))
  have HUP : Hid (∀ w9, Below w.heap.size w w9 → RQ K vO vS { s with hs := (s.hs.1.modify q (noteS (lastW s.st 0).2), s.hs.2) } w (w9.setCell ⟨K.gC, q * 7 + 6, none⟩ (.int .i64 (lastW s.st 0).2)) vO vS) := hid (fun w9 hb => by
    have q1 := RQ.below H.out hb
    have hu := q1.m.hp.upd (k := q) (j := 6) (c := noteS (lastW s.st 0).2 s.hs.1[q]) (v := .int .i64 (lastW s.st 0).2) hql (by omega) rfl
    rw [← modify_set hql] at hu
    exact q1.trans (RQ.heap (h' := (s.hs.1.modify q (noteS (lastW s.st 0).2), s.hs.2)) q1.m hu (by simp) ((Two.refl _ _ _).setB _ _)))
  generalize s.hs.1[q].num = nn at *
  generalize hx0 : lastW s.st 0 = x at *
  obtain ⟨xf, xv⟩ := x
  simp only at hl0 HUP hdr ⊢
  generalize (lastW s.st 1).1 = yf at *
  have hbA : Below w.heap.size w (w.alloc (.cells #[.int .i64 17, .int .i64 n, .int .i64 pl] 113)).drew := ((Below.refl _ _).alloc (Nat.le_refl _) _).drew
  clear h fact hla hx0
  go_enter Tryz.func85, Tryz.ntmps85
  go_wp2_with fail
  go_region_law ((go_simp; go_at_call 48; (first | (refine (hl1.out _ (by assumption)).mono ?_; intro e w8 hp8; obtain ⟨hb8, he8, k10, k6, j6⟩ := hp8; subst he8; clear hl1; dsimp only) | (refine (hl0.out _ (by assumption)).mono ?_; intro e w9 hp9; obtain ⟨hb9, he9, e10, e6, g6⟩ := hp9; subst he9; clear hl0; dsimp only))))
  all_goals
    have q9 := HUP.out w9 hb9
    have hd := hid (hdr.out _ q9.m)
    have Q9 := hid q9
    clear q9 hdr HUP m10 c6 f6 k10 k6 j6 e10 e6 g6 hb8 hb9
    generalize w9.setCell ⟨K.gC, q * 7 + 6, none⟩ (.int .i64 xv) = W9 at *
    go_wp2_with fail
    refine hd.out.mono ?_
    clear hd
    intro e w5 hh
    obtain ⟨hx, v5, hw5, hg5⟩ := hh
    subst e
    have q5 := Q9.out.trans (RQ.push Q9.out.m hw5 hg5)
    have HF : Hid (RDPost K vO vS { s with hs := (s.hs.1.modify q (noteS xv), s.hs.2), st := cutS s 2 } w (.returned (.tuple #[])) w5) := hid ⟨rfl, vO, v5, q5⟩
    clear hw5 hg5 q5
    go_wp2_with fail
    go_end0
    exact HF.out
end Go.Proofs.YtdmdpindonghdaaGreatDoor
namespace Go.Proofs.YtdmdpindonghdaaGreatDoor
open Go.RowKit
attribute [local go_sem] run_fieldW
theorem storeC_len (cs : List RC) (ph r n : Nat) (v : Int) : (storeC cs ph r n v).length = cs.length := by
  unfold storeC
  split
  · rw [reachC_len]; simp
  · simp
theorem touches_15 {w : World} {K : RK} {vO vS : Value} {s : MS} (h : RM w K vO vS s) (hs : s.st.length ≤ 8) (hp : 1 < s.st.length) (hr0 : 0 ≤ (lastW s.st 1).2) (hr : (lastW s.st 1).2 < (s.hs.1.length : Int)) (hv : (lastW s.st 0).2 < (s.hs.1.length : Int)) (n : Nat) (pl cell : Int) :
    Calls Tryz.prog 85 #[.pointer (some ⟨K.b, 0, none⟩), .agg #[.int .i64 15, .int .i64 n, .int .i64 pl], .int .i64 cell] w (RDPost K vO vS { s with hs := (storeC s.hs.1 s.hs.2.1 (lastW s.st 1).2.toNat n (lastW s.st 0).2, s.hs.2), st := cutS s 2 } w) := by
  have hbz : K.b < w.heap.size := (Array.getElem?_eq_some_iff.1 h.row).1
  obtain ⟨q, hq⟩ : ∃ q : Nat, (lastW s.st 1).2 = (q : Int) := ⟨(lastW s.st 1).2.toNat, by omega⟩
  have hql : q < s.hs.1.length := by omega
  have H := hid h
  have hbA : Below w.heap.size w (w.alloc (.cells #[.int .i64 15, .int .i64 n, .int .i64 pl] 113)).drew := ((Below.refl _ _).alloc (Nat.le_refl _) _).drew
  have hbox : (w.alloc (.cells #[.int .i64 15, .int .i64 n, .int .i64 pl] 113)).drew.heap[w.heap.size]? = some (.cells #[.int .i64 15, .int .i64 n, .int .i64 pl] 113) := heap_alloc_new _ _
  have hla : ∀ (k : Nat) (hk : k < s.st.length) (W : World), (Below w.heap.size w W ∧ W.heap[w.heap.size]? = some (.cells #[.int .i64 15, .int .i64 n, .int .i64 pl] 113)) → Calls Tryz.prog 48 #[.pointer (some ⟨K.b, 0, none⟩), .int .i64 k] W (fun e w2 => (Below w.heap.size w w2 ∧ w2.heap[w.heap.size]? = some (.cells #[.int .i64 15, .int .i64 n, .int .i64 pl] 113)) ∧ e = .returned (.agg #[.bool (lastW s.st k).1, .int .i64 (lastW s.st k).2]) ∧ w2.cell? ⟨w.heap.size, 1, none⟩ = some (.int .i64 n)) := fun k hk W ⟨hb, hx⟩ => by
    have hl := last_any K.b k vS s.st (lastW s.st k) (fun _ => True) W (h.below hb).wds.cell (h.below hb).wds.ls (by omega) hk (lastW_at hk)
    refine hl.mono ?_
    rintro e w2 ⟨a1, a2⟩
    have hb2 := hb.trans (a1.mono hb.size)
    have hx2 := (a1.block w.heap.size (Array.getElem?_eq_some_iff.1 hx).1).trans hx
    exact ⟨⟨hb2, hx2⟩, a2, cell_of_row w2 _ 1 _ _ _ hx2⟩
  have hl0 : Hid (∀ (W : World), (Below w.heap.size w W ∧ W.heap[w.heap.size]? = some (.cells #[.int .i64 15, .int .i64 n, .int .i64 pl] 113)) → Calls Tryz.prog 48 #[.pointer (some ⟨K.b, 0, none⟩), .int .i64 0] W (fun e w2 => (Below w.heap.size w w2 ∧ w2.heap[w.heap.size]? = some (.cells #[.int .i64 15, .int .i64 n, .int .i64 pl] 113)) ∧ e = .returned (.agg #[.bool (lastW s.st 0).1, .int .i64 (lastW s.st 0).2]) ∧ w2.cell? ⟨w.heap.size, 1, none⟩ = some (.int .i64 n))) := hid (hla 0 (by omega))
  have hl1 : Hid (∀ (W : World), (Below w.heap.size w W ∧ W.heap[w.heap.size]? = some (.cells #[.int .i64 15, .int .i64 n, .int .i64 pl] 113)) → Calls Tryz.prog 48 #[.pointer (some ⟨K.b, 0, none⟩), .int .i64 1] W (fun e w2 => (Below w.heap.size w w2 ∧ w2.heap[w.heap.size]? = some (.cells #[.int .i64 15, .int .i64 n, .int .i64 pl] 113)) ∧ e = .returned (.agg #[.bool (lastW s.st 1).1, .int .i64 (lastW s.st 1).2]) ∧ w2.cell? ⟨w.heap.size, 1, none⟩ = some (.int .i64 n))) := hid (hla 1 (by omega))
  rw [hq] at hl1 ⊢
  rw [Int.toNat_natCast]
  have hst : Hid (∀ (W : World), Below w.heap.size w W → Calls Tryz.prog 113 #[.pointer (some ⟨K.b, 10, none⟩), .int .i64 q, .int .i64 n, .int .i64 (lastW s.st 0).2] W (fun e w' => e = .returned (.tuple #[]) ∧ RQ K vO vS { s with hs := (storeC s.hs.1 s.hs.2.1 q n (lastW s.st 0).2, s.hs.2) } w w' vO vS)) := hid (fun W hb => by
    have q1 := RQ.below h hb
    refine (hstore_any K.b K.gC _ K.B3 s.hs.2.1 s.hs.2.2 q n (lastW s.st 0).2 s.hs.1 W q1.m.hp hql hv).mono ?_
    rintro e w' ⟨a1, a2, a3⟩
    exact ⟨a1, q1.trans (RQ.heap (h' := (storeC s.hs.1 s.hs.2.1 q n (lastW s.st 0).2, s.hs.2)) q1.m a2 (storeC_len _ _ _ _ _) a3.widen)⟩)
  have hdr := hid (fun (W : World) (hm : RM W K vO vS { s with hs := (storeC s.hs.1 s.hs.2.1 q n (lastW s.st 0).2, s.hs.2) }) => drop_wds K.b K.B4 2 vS s.st W hm.wds (by omega) (by omega) (by omega))
  generalize storeC s.hs.1 s.hs.2.1 q n (lastW s.st 0).2 = SC at *
  generalize hx0 : lastW s.st 0 = x at *
  obtain ⟨xf, xv⟩ := x
  simp only at hl0 hst hdr ⊢
  generalize (lastW s.st 1).1 = yf at *
  clear h hla hx0
  have hAB : (Below w.heap.size w (w.alloc (.cells #[.int .i64 15, .int .i64 n, .int .i64 pl] 113)).drew ∧ (w.alloc (.cells #[.int .i64 15, .int .i64 n, .int .i64 pl] 113)).drew.heap[w.heap.size]? = some (.cells #[.int .i64 15, .int .i64 n, .int .i64 pl] 113)) := ⟨hbA, hbox⟩
  clear hbA hbox
  go_enter Tryz.func85, Tryz.ntmps85
  go_wp2_with fail
  go_region_law ((go_simp; (first | (go_at_call 48; (first | (refine (hl1.out _ (by assumption)).mono ?_; intro e w8 hp8; obtain ⟨hb8, he8, k10⟩ := hp8; subst he8; clear hl1; dsimp only) | (refine (hl0.out _ (by assumption)).mono ?_; intro e w9 hp9; obtain ⟨hb9, he9, e10⟩ := hp9; subst he9; clear hl0; dsimp only))) | (go_at_call 113; refine (hst.out _ hb9.1).mono ?_; intro e w7 hp7; obtain ⟨he7, q7⟩ := hp7; subst he7; clear hst; dsimp only))))
  all_goals
    have hd := hid (hdr.out _ q7.m)
    have Q9 := hid q7
    clear q7 hdr hAB hb8 hb9 k10 e10
    go_wp2_with fail
    refine hd.out.mono ?_
    clear hd
    intro e w5 hh
    obtain ⟨hx, v5, hw5, hg5⟩ := hh
    subst e
    have q5 := Q9.out.trans (RQ.push Q9.out.m hw5 hg5)
    have HF : Hid (RDPost K vO vS { s with hs := (SC, s.hs.2), st := cutS s 2 } w (.returned (.tuple #[])) w5) := hid ⟨rfl, vO, v5, q5⟩
    clear hw5 hg5 q5
    go_wp2_with fail
    go_end0
    exact HF.out
end Go.Proofs.YtdmdpindonghdaaGreatDoor
namespace Go.Proofs.YtdmdpindonghdaaGreatDoor
open Go.RowKit
attribute [local go_sem] run_fieldW
def weakH (c : RC) : RC := { c with weak := true }
theorem touches_23 {w : World} {K : RK} {vO vS : Value} {s : MS} (h : RM w K vO vS s) (hs : s.st.length ≤ 8) (hp : 0 < s.st.length) (q : Nat) (hql : q < s.hs.1.length) (n pl : Int) :
    Calls Tryz.prog 85 #[.pointer (some ⟨K.b, 0, none⟩), .agg #[.int .i64 23, .int .i64 n, .int .i64 pl], .int .i64 q] w (RDPost K vO vS { s with hs := (s.hs.1.modify q (weakS (lastW s.st 0).2), s.hs.2), st := cutS s 1 ++ [(true, (q : Int))] } w) := by
  have hbA : Below w.heap.size w (w.alloc (.cells #[.int .i64 23, .int .i64 n, .int .i64 pl] 113)).drew := ((Below.refl _ _).alloc (Nat.le_refl _) _).drew
  have hbA' : Below w.heap.size w (w.alloc (.cells #[.int .i64 23, .int .i64 n, .int .i64 pl] 113)) := ((Below.refl _ _).alloc (Nat.le_refl _) _)
  have d0 : (0 : Int) ≤ (q : Int) := by omega
  have d1 : (q : Int) < (s.hs.1.length : Int) := by omega
  have fact : ∀ (W : World) (u : MS), RM W K vO vS u → u.hs.1.length = s.hs.1.length → ∃ x3 x4, W.cell? ⟨K.b, 10, none⟩ = some (.slice (some ⟨K.gC, 0, none⟩) s.hs.1.length K.cC) ∧ W.cell? ⟨K.gC, q * 7 + 3, none⟩ = some (.bool x3) ∧ W.frozen? ⟨K.gC, q * 7 + 3, none⟩ = false ∧ W.cell? ⟨K.gC, q * 7 + 4, none⟩ = some (.int .i64 x4) ∧ W.frozen? ⟨K.gC, q * 7 + 4, none⟩ = false := fun W u hm hl => by
    have m10 := cell_of_row W K.b 10 _ _ _ hm.row
    simp only [RK.row, List.getElem?_toArray, List.getElem?_cons_zero, List.getElem?_cons_succ, hl] at m10
    have c3 := hm.hp.cell (k := q) (by omega) (j := 3) (by omega)
    have c4 := hm.hp.cell (k := q) (by omega) (j := 4) (by omega)
    simp only [rcCells, List.getElem?_cons_zero, List.getElem?_cons_succ] at c3 c4
    exact ⟨_, _, m10, c3, hm.hp.frozen _, c4, hm.hp.frozen _⟩
  obtain ⟨x3, x4, m10, c3, f3, c4, f4⟩ := fact _ _ (h.below hbA) rfl
  obtain ⟨x3', x4', m10', c3', f3', c4', f4'⟩ := fact _ _ (h.below hbA') rfl
  let s1 : MS := { s with hs := (s.hs.1.modify q weakH, s.hs.2) }
  have q1 : RQ K vO vS s1 w ((w.alloc (.cells #[.int .i64 23, .int .i64 n, .int .i64 pl] 113)).setCell ⟨K.gC, q * 7 + 3, none⟩ (.bool true)) vO vS := by
    have q1 := RQ.below h hbA'
    have hu := q1.m.hp.upd (k := q) (j := 3) (c := weakH s.hs.1[q]) (v := .bool true) hql (by omega) rfl
    rw [← modify_set hql] at hu
    exact q1.trans (RQ.heap (h' := (s.hs.1.modify q weakH, s.hs.2)) q1.m hu (by simp) ((Two.refl _ _ _).setB _ _))
  have hl0 : Hid (∀ (W : World), RQ K vO vS s1 w W vO vS → Calls Tryz.prog 48 #[.pointer (some ⟨K.b, 0, none⟩), .int .i64 0] W (fun e w2 => RQ K vO vS s1 w w2 vO vS ∧ e = .returned (.agg #[.bool (lastW s.st 0).1, .int .i64 (lastW s.st 0).2]) ∧ ∃ y3 y4, w2.cell? ⟨K.b, 10, none⟩ = some (.slice (some ⟨K.gC, 0, none⟩) s.hs.1.length K.cC) ∧ w2.cell? ⟨K.gC, q * 7 + 3, none⟩ = some (.bool y3) ∧ w2.frozen? ⟨K.gC, q * 7 + 3, none⟩ = false ∧ w2.cell? ⟨K.gC, q * 7 + 4, none⟩ = some (.int .i64 y4) ∧ w2.frozen? ⟨K.gC, q * 7 + 4, none⟩ = false)) := hid (fun W hq => by
    have hl := last_any K.b 0 vS s.st (lastW s.st 0) (fun _ => True) W hq.m.wds.cell hq.m.wds.ls (by omega) hp (lastW_at hp)
    refine hl.mono ?_
    rintro e w2 ⟨a1, a2⟩
    have hb2 := hq.trans (RQ.below hq.m a1)
    exact ⟨hb2, a2, fact w2 s1 hb2.m (by simp [s1])⟩)
  have HUP : Hid (∀ w9, RQ K vO vS s1 w w9 vO vS → RQ K vO vS { s with hs := (s.hs.1.modify q (weakS (lastW s.st 0).2), s.hs.2) } w (w9.setCell ⟨K.gC, q * 7 + 4, none⟩ (.int .i64 (lastW s.st 0).2)) vO vS) := hid (fun w9 hq => by
    have hql1 : q < (s.hs.1.modify q weakH).length := by simpa using hql
    have hu := hq.m.hp.upd (k := q) (j := 4) (c := weakS (lastW s.st 0).2 s.hs.1[q]) (v := .int .i64 (lastW s.st 0).2) hql1 (by omega) (by simp [s1, weakH, weakS, rcCells])
    have e : (s.hs.1.modify q weakH).set q (weakS (lastW s.st 0).2 s.hs.1[q]) = s.hs.1.modify q (weakS (lastW s.st 0).2) := by
      rw [modify_set hql, modify_set hql, List.set_set]
    have e2 : s1.hs.1 = s.hs.1.modify q weakH := rfl
    rw [e2, e] at hu
    exact hq.trans (RQ.heap (s := s1) (h' := (s.hs.1.modify q (weakS (lastW s.st 0).2), s.hs.2)) hq.m hu (by simp [s1]) ((Two.refl _ _ _).setB _ _)))
  have hdr := hid (fun (W : World) (hm : RM W K vO vS { s with hs := (s.hs.1.modify q (weakS (lastW s.st 0).2), s.hs.2) }) => drop_wds K.b K.B4 1 vS s.st W hm.wds (by omega) (by omega) (by omega))
  have hpu := hid (fun (W : World) (v5 : Value) (hm : RM W K vO v5 { s with hs := (s.hs.1.modify q (weakS (lastW s.st 0).2), s.hs.2), st := cutS s 1 }) => ref_any K.b K.B4 v5 (cutS s 1) q W hm.wds (by unfold cutS; simp; omega) hm.o9)
  generalize s.hs.1.modify q (weakS (lastW s.st 0).2) = SC at *
  generalize hx0 : lastW s.st 0 = x at *
  obtain ⟨xf, xv⟩ := x
  simp only at hl0 HUP hdr ⊢
  obtain ⟨y3, y4, n10, n3, g3, n4, g4⟩ := fact _ s1 q1.m (by simp [s1])
  clear h hx0 fact hbA hbA'
  generalize s1 = S1 at *
  go_enter Tryz.func85, Tryz.ntmps85
  go_wp2_with fail
  generalize (w.alloc (.cells #[.int .i64 23, .int .i64 n, .int .i64 pl] 113)).setCell ⟨K.gC, q * 7 + 3, none⟩ (.bool true) = W1 at *
  clear m10 c3 f3 c4 f4 m10' c3' f3' c4' f4'
  have q1 := q1.trans (RQ.below q1.m (Below.refl _ W1).drew)
  go_region_law ((go_simp; go_at_call 48; refine (hl0.out _ q1).mono ?_; intro e w9 hp9; obtain ⟨hb9, he9, z3, z4, e10, e3, k3, e4, k4⟩ := hp9; subst he9; clear hl0; dsimp only))
  all_goals
    have q9 := HUP.out w9 hb9
    have hd := hid (hdr.out _ q9.m)
    have Q9 := hid q9
    clear q9 hdr HUP e10 e3 k3 e4 k4 hb9 n10 n3 g3 n4 g4 q1
    generalize w9.setCell ⟨K.gC, q * 7 + 4, none⟩ (.int .i64 xv) = W9 at *
    go_wp2_with fail
    refine hd.out.mono ?_
    clear hd
    intro e w5 hh
    obtain ⟨hx, v5, hw5, hg5⟩ := hh
    subst e
    have q5 := Q9.out.trans (RQ.push Q9.out.m hw5 hg5)
    have hp5 := hid (hpu.out w5 v5 q5.m)
    have Q5 := hid q5
    clear hw5 hg5 q5 hpu Q9
    go_wp2_with fail
    refine hp5.out.mono ?_
    clear hp5
    intro e w6 hh
    obtain ⟨hx, v6, hw6, hg6⟩ := hh
    subst e
    have q6 := Q5.out.trans (RQ.push Q5.out.m hw6 hg6)
    have HF : Hid (RDPost K vO vS { s with hs := (SC, s.hs.2), st := cutS s 1 ++ [(true, (q : Int))] } w (.returned (.tuple #[])) w6) := hid ⟨rfl, vO, v6, q6⟩
    clear hw6 hg6 q6 Q5
    go_wp2_with fail
    go_end0
    exact HF.out
end Go.Proofs.YtdmdpindonghdaaGreatDoor
namespace Go.Proofs.YtdmdpindonghdaaGreatDoor
open Go.RowKit
attribute [local go_sem] run_fieldW
theorem RDPost.after {K : RK} {vO vS : Value} {s s' : MS} {w w1 : World} {e : Ending} {w' : World} (q : RQ K vO vS s w w1 vO vS) (h : RDPost K vO vS s' w1 e w') : RDPost K vO vS s' w e w' := by
  obtain ⟨h1, vO', vS', h2⟩ := h
  exact ⟨h1, vO', vS', q.trans h2⟩
theorem does_other {w : World} {K : RK} {vO vS : Value} {s s' : MS} (h : RM w K vO vS s) (op : Nat) (n pl cell : Int) (ho : op = 13 ∨ op = 14 ∨ op = 15 ∨ op = 16 ∨ op = 17 ∨ op = 19 ∨ op = 23 ∨ op = 24)
    (ht : ∀ W, RM W K vO vS s → Calls Tryz.prog 85 #[.pointer (some ⟨K.b, 0, none⟩), .agg #[.int .i64 op, .int .i64 n, .int .i64 pl], .int .i64 cell] W (RDPost K vO vS s' W)) :
    Calls Tryz.prog 51 #[.pointer (some ⟨K.b, 0, none⟩), .agg #[.int .i64 op, .int .i64 n, .int .i64 pl], .int .i64 cell] w (RDPost K vO vS s' w) := by
  have hB : Below w.heap.size w (w.alloc (.cells #[.int .i64 op, .int .i64 n, .int .i64 pl] 113)) := (Below.refl _ _).alloc (Nat.le_refl _) _
  have Q1 := hid (RQ.below h hB)
  have hc := hid (ht _ Q1.out.m)
  have FIN : Hid (∀ e w', RDPost K vO vS s' (w.alloc (.cells #[.int .i64 op, .int .i64 n, .int .i64 pl] 113)) e w' → RDPost K vO vS s' w e w') := hid (fun e w' hh => hh.after Q1.out)
  clear h hB ht Q1
  rcases ho with e | e | e | e | e | e | e | e <;> subst e
  all_goals
    go_enter Tryz.func51, Tryz.ntmps51
    go_wp2_with fail
    refine hc.out.mono ?_
    clear hc
    intro e w2 hh
    have HF := hid (FIN.out e w2 hh)
    have hx := hh.1
    clear hh FIN
    subst e
    go_wp2_with fail
    go_end0
    exact HF.out
end Go.Proofs.YtdmdpindonghdaaGreatDoor
namespace Go.Proofs.YtdmdpindonghdaaGreatDoor
open Go.RowKit
theorem rdoes_any {w : World} {K : RK} {E : Env} {vO vS : Value} {s : MS} {i : Ins} (h : RM w K vO vS s) (hke : RE K E) (he : EnvOk E) (hi : MInv E s) (hc : CanI E s i) (h0 : i.op ≠ 0) (hends : endsC s.hs.1 s.st i.op = 0) (cell : Int) (hcell : i.op = 13 ∨ i.op = 23 → 0 ≤ cell ∧ cell < (E.n : Int)) (hz : E.zs.length ≤ 64) (hlen : s.out.length ≤ 8796093022208) :
    Calls Tryz.prog 51 #[.pointer (some ⟨K.b, 0, none⟩), rinsV i, .int .i64 cell] w (RDPost K vO vS (doesS E i cell s) w) := by
  have hs := hi.st he
  have hn := hi.n
  have hop := he.wf.op i hc.mem
  have hstd : (i.op ≠ 7 ∧ i.op ≠ 8 ∧ i.op ≠ 9 ∧ i.op ≠ 10 ∧ i.op ≠ 11) → Std s i.op := fun hn => hc.std hn
  have hcases : (i.op = 1 ∨ i.op = 2 ∨ i.op = 3 ∨ i.op = 4 ∨ i.op = 6 ∨ i.op = 18 ∨ i.op = 7 ∨ i.op = 9 ∨ i.op = 10 ∨ i.op = 20 ∨ i.op = 11 ∨ i.op = 12 ∨ i.op = 5) ∨ i.op = 8 ∨ i.op = 22 ∨ i.op = 21 ∨ i.op = 13 ∨ i.op = 14 ∨ i.op = 15 ∨ i.op = 16 ∨ i.op = 17 ∨ i.op = 19 ∨ i.op = 23 ∨ i.op = 24 := by omega
  rcases hcases with e | e | e | e | e | e | e | e | e | e | e | e
  · refine rdoes_stack h he hi hc ?_ cell
    by_cases h5 : i.op = 5
    · rw [h5] at hends
      have : (lastW s.st 0).2 ≠ 0 := fun e => by
        unfold endsC at hends
        simp [e] at hends
      omega
    · omega
  · exact rdoes_8 h he hi hc e cell
  · exact rdoes_22 h he hi hc e cell hlen
  · exact rdoes_21 h hke he hi e cell hz
  · obtain ⟨op, n, pl⟩ := i
    simp only at e
    subst e
    exact does_other h 13 n pl cell (by omega) (fun W hW => touches_13 hW hs n pl cell)
  · have h1 := (hstd (by omega)).one (c := 114) (by rw [e]; rfl)
    have h2 := hi.ref h1.1 (letB_r h1.2)
    rw [ends_read (.inl e)] at hends
    have h3 := wantsC_zero hends (by rw [hn]; exact h2.2)
    obtain ⟨op, n, pl⟩ := i
    simp only at e
    subst e
    exact does_other h 14 n pl cell (by omega) (fun W hW => touches_14 hW hs h1.1 h3.1 (by rw [hn]; exact h2.2) n pl cell)
  · have h1 := (hstd (by omega)).two (c := 114) (d := 114) (by rw [e]; rfl)
    have h2 := hi.ref h1.1 (letB_r h1.2.1)
    have h4 := hi.ref (Nat.lt_of_succ_lt h1.1) (letB_r h1.2.2)
    rw [ends_write (.inl e)] at hends
    have h3 := wantsC_zero hends (by rw [hn]; exact h2.2)
    obtain ⟨op, n, pl⟩ := i
    simp only at e
    subst e
    exact does_other h 15 n pl cell (by omega) (fun W hW => touches_15 hW hs h1.1 h3.1 (by rw [hn]; exact h2.2) (by rw [hn]; exact h4.2) n pl cell)
  · have h1 := (hstd (by omega)).one (c := 114) (by rw [e]; rfl)
    have h2 := hi.ref h1.1 (letB_r h1.2)
    rw [ends_read (.inr e)] at hends
    have h3 := wantsC_zero hends (by rw [hn]; exact h2.2)
    obtain ⟨op, n, pl⟩ := i
    simp only at e
    subst e
    exact does_other h 16 n pl cell (by omega) (fun W hW => touches_16 hW hs h1.1 h3.1 (by rw [hn]; exact h2.2) n pl cell)
  · have h1 := (hstd (by omega)).two (c := 114) (d := 105) (by rw [e]; rfl)
    have h2 := hi.ref h1.1 (letB_r h1.2.1)
    rw [ends_write (.inr e)] at hends
    have h3 := wantsC_zero hends (by rw [hn]; exact h2.2)
    obtain ⟨op, n, pl⟩ := i
    simp only at e
    subst e
    exact does_other h 17 n pl cell (by omega) (fun W hW => touches_17 hW hs h1.1 h3.1 (by rw [hn]; exact h2.2) n pl cell)
  · obtain ⟨op, n, pl⟩ := i
    simp only at e
    subst e
    exact does_other h 19 n pl cell (by omega) (fun W hW => touches_19 hW n pl cell)
  · have h1 := (hstd (by omega)).one (c := 114) (by rw [e]; rfl)
    obtain ⟨c0, c1⟩ := hcell (.inr e)
    obtain ⟨q, rfl⟩ := Int.eq_ofNat_of_zero_le c0
    obtain ⟨op, n, pl⟩ := i
    simp only at e
    subst e
    exact does_other h 23 n pl q (by omega) (fun W hW => touches_23 hW hs h1.1 q (by omega) n pl)
  · have h1 := (hstd (by omega)).one (c := 114) (by rw [e]; rfl)
    have h2 := hi.ref h1.1 (letB_r h1.2)
    rw [e, ends_peek] at hends
    have h3 := wantsC_zero hends (by rw [hn]; exact h2.2)
    obtain ⟨op, n, pl⟩ := i
    simp only at e
    subst e
    exact does_other h 24 n pl cell (by omega) (fun W hW => touches_24 hW hs h1.1 h3.1 (by rw [hn]; exact h2.2) n pl cell)
theorem locs_len {E : Env} {s : MS} : (locsS E s).length ≤ s.lo.length := by
  unfold locsS slotsC
  rw [List.length_zipWith]
  omega
theorem stks_len {E : Env} {s : MS} : (stkS E s).length ≤ s.st.length := by
  unfold stkS slotsC
  rw [List.length_zipWith]
  omega
theorem rroots_m {w : World} {K : RK} {E : Env} {vO vS : Value} {s : MS} (h : RM w K vO vS s) (hke : RE K E) (he : EnvOk E) (hi : MInv E s) :
    Calls Tryz.prog 45 #[.pointer (some ⟨K.b, 0, none⟩)] w (RootsPost (rootsS E s) w) := by
  obtain ⟨i, hc⟩ := hi.can he
  have h1 := locs_len (E := E) (s := s)
  have h2 := stks_len (E := E) (s := s)
  have h3 := hi.lo he
  have h4 := hi.st he
  have h5 := he.wf.loc
  exact roots_any K.b s.oc s.va i.place s.hs.2.1 s.hs.2.2 (locsS E s) (stkS E s) w (by omega) (by omega) (rstate_m h hke he hi hc.get)
def RTakePost (K : RK) (vO vS : Value) (rs : List Int) (s : MS) (w : World) (e : Ending) (w' : World) : Prop :=
  e = .returned (.int .i64 (takeC rs s.hs).1) ∧ RQ K vO vS { s with hs := (takeC rs s.hs).2 } w w' vO vS
theorem takeC_len {n : Nat} {h : HSt} (k : HOk n h) (rs : List Int) : (takeC rs h).2.1.length = h.1.length := by
  rw [(k.take rs).1.len, k.len]
theorem rtake_m {w W : World} {K : RK} {E : Env} {vO vS v : Value} {s : MS} (h : RM w K vO vS s) (he : EnvOk E) (hi : MInv E s) (hb : Below w.heap.size w W) (hv : W.ownsRow w.heap.size 3 1 v (rootsS E s).length ((rootsS E s).map (.int .i64))) :
    Calls Tryz.prog 49 #[.pointer (some ⟨K.b, 10, none⟩), v] W (RTakePost K vO vS (rootsS E s) s W) := by
  have hm := h.below hb
  have hgz : K.gC < w.heap.size := by have := h.o8; have := h.o9; omega
  have hbz : K.b < w.heap.size := (Array.getElem?_eq_some_iff.1 h.row).1
  obtain ⟨r1, r2⟩ := refs_of hv hgz
  refine (take_any K.b K.gC _ K.B3 s.hs (rootsS E s) v W hm.hp hi.hok (hi.rootsLen he) (fun r hr => by rw [hi.n]; exact (hi.roots he r hr).2) r1 (fun a n c e => by have := r2 a n c e; omega)).mono ?_
  rintro e w2 ⟨h1, h2, h3⟩
  exact ⟨h1, RQ.heap hm h2 (takeC_len hi.hh _) h3⟩
theorem ends_ok_m {E : Env} {s : MS} {i : Ins} (hi : MInv E s) (hc : CanI E s i) : EndsOk s.hs.1 s.st i.op := by
  have hstd : (i.op ≠ 7 ∧ i.op ≠ 8 ∧ i.op ≠ 9 ∧ i.op ≠ 10 ∧ i.op ≠ 11) → Std s i.op := fun hn => hc.std hn
  refine ⟨fun h => ?_, fun h => ?_, fun h => ?_, fun h => ?_⟩
  · have hl := (hstd (by omega)).len
    rcases h with e | e | e | e | e <;> (have e' : i.op = _ := Int.ofNat.inj e; rw [e'] at hl; simp [popsL] at hl; omega)
  · have hl := (hstd (by omega)).len
    rcases h with e | e <;> (have e' : i.op = _ := Int.ofNat.inj e; rw [e'] at hl; simp [popsL] at hl; omega)
  · rw [hi.n]
    have hone := (hstd (by omega)).one (c := 114) (by rcases h with e | e | e <;> (have e' : i.op = _ := Int.ofNat.inj e; rw [e']; rfl))
    exact (hi.ref hone.1 (letB_r hone.2)).2
  · rw [hi.n]
    rcases h with e | e
    · have e' : i.op = 15 := Int.ofNat.inj e
      have htwo := (hstd (by omega)).two (c := 114) (d := 114) (by rw [e']; rfl)
      exact (hi.ref htwo.1 (letB_r htwo.2.1)).2
    · have e' : i.op = 17 := Int.ofNat.inj e
      have htwo := (hstd (by omega)).two (c := 114) (d := 105) (by rw [e']; rfl)
      exact (hi.ref htwo.1 (letB_r htwo.2.1)).2
theorem rends_m {w : World} {K : RK} {E : Env} {vO vS : Value} {s : MS} {i : Ins} (h : RM w K vO vS s) (he : EnvOk E) (hi : MInv E s) (hc : CanI E s i) :
    Calls Tryz.prog 47 #[.pointer (some ⟨K.b, 0, none⟩), .agg #[.int .i64 i.op, .int .i64 i.n, .int .i64 i.place]] w (EndsPost (endsC s.hs.1 s.st i.op) w) := by
  have hs := hi.st he
  exact ends_any K.b K.gC _ K.B3 s.hs.2.1 s.hs.2.2 s.hs.1 vS s.st i.op i.n i.place w h.hp h.wds.cell ((LsAt.of_owns h.stk).keep (fun g hg => ⟨by have := hg; omega, rfl⟩)) (by omega) (ends_ok_m hi hc)
def RCollPost (K : RK) (G : Nat → Prop) (s' : MS) (w : World) (e : Ending) (w' : World) : Prop :=
  e = .returned (.tuple #[.int .i64 s'.hs.2.1, .int .i64 0]) ∧ RX w' K G s' ∧ Touch G w w'
theorem RX.after {K : RK} {vO vS vO' vS' : Value} {s' : MS} {G : Nat → Prop} {w w' : World} (q : RQ K vO vS s' w w' vO' vS') (hG : ∀ k, K.In vO vS k → G k) : RX w' K (Grown G w w') s' ∧ Touch G w w' := by
  refine ⟨⟨vO', vS', q.m, fun k hk => ?_⟩, q.t.mono (fun k _ hk => hG k hk)⟩
  rcases hk with hk | hk | hk
  · exact .inl (hG k (.inl hk))
  · rcases q.s k hk with h | h
    · exact .inl (hG k (.inr (.inl h)))
    · exact .inr ⟨h, (q.m.stk.lt k hk).2⟩
  · rcases q.o k hk with h | h
    · exact .inl (hG k (.inr (.inr h)))
    · exact .inr ⟨h, (q.m.out.lt k hk).2⟩
theorem rcollect_x {w : World} {K : RK} {E : Env} {G : Nat → Prop} {s : MS} (h : RX w K G s) (hke : RE K E) (he : EnvOk E) (hi : MInv E s) (n : Nat) (hn : n ≤ 1000) :
    Calls Tryz.prog 26 #[.pointer (some ⟨K.b, 0, none⟩), .int .i64 n] w (RCollPost K G (collS E n s) w) := by
  obtain ⟨vO, vS, hm, hG⟩ := h
  refine (rcollect_ok K.b K.gC _ K.B3 s.hs (rootsS E s) n w hn hm.hp hi.hok (hi.rootsLen he) (fun r hr => by rw [hi.n]; exact (hi.roots he r hr).2) (rroots_m hm hke he hi)).mono ?_
  rintro e w' ⟨h1, h2, h3⟩
  have q := RQ.heap (h' := unitsC (rootsS E s) n s.hs) hm h2 (unitsC_len _ _ _) h3
  exact ⟨h1, ⟨vO, vS, q.m, hG⟩, q.t.mono (fun k _ hk => hG k hk)⟩
attribute [local go_sem] run_fieldW
theorem rstep_done {w : World} {K : RK} {G : Nat → Prop} {s : MS} (h : RX w K G s) (ho : s.oc ≠ 0) :
    Calls Tryz.prog 27 #[.pointer (some ⟨K.b, 0, none⟩)] w fun e w' => e = .returned (.tuple #[.int .i64 0, .int .i64 9]) ∧ w' = w := by
  obtain ⟨vO, vS, hm, _⟩ := h
  have m5 := cell_of_row w K.b 5 _ _ _ hm.row
  simp only [RK.row, List.getElem?_toArray, List.getElem?_cons_zero, List.getElem?_cons_succ] at m5
  have q : ((s.oc : Int) != 0) = true := by simp; omega
  clear hm ho
  go_enter Tryz.func27, Tryz.ntmps27
  go_wp2_with fail
  exact bodyPost_ret (v := .tuple #[.int .i64 0, .int .i64 9]) (by simp [results, Tryz.results27, go_sem]) rfl ⟨rfl, rfl⟩
theorem rrow_oc {K : RK} {vO vS : Value} {s : MS} (n : Nat) : (K.row vO vS s).setIfInBounds 5 (.int .i64 n) = K.row vO vS { s with oc := n } := by
  apply Array.toList_inj.1
  simp only [RK.row, Array.toList_setIfInBounds, List.set_cons_zero, List.set_cons_succ]
theorem rrow_va {K : RK} {vO vS : Value} {s : MS} (n : Int) : (K.row vO vS s).setIfInBounds 6 (.int .i64 n) = K.row vO vS { s with va := n } := by
  apply Array.toList_inj.1
  simp only [RK.row, Array.toList_setIfInBounds, List.set_cons_zero, List.set_cons_succ]
theorem rrow_at {K : RK} {vO vS : Value} {s : MS} (n : Nat) : (K.row vO vS s).setIfInBounds 7 (.int .i64 n) = K.row vO vS { s with at_ := n } := by
  apply Array.toList_inj.1
  simp only [RK.row, Array.toList_setIfInBounds, List.set_cons_zero, List.set_cons_succ]
theorem RQ.oc {w : World} {K : RK} {vO vS : Value} {s : MS} (h : RM w K vO vS s) (n : Nat) : RQ K vO vS { s with oc := n } w (w.setCell ⟨K.b, 5, none⟩ (.int .i64 n)) vO vS := by
  have ht : Two K.b K.b w (w.setCell ⟨K.b, 5, none⟩ (.int .i64 n)) := (Two.refl _ _ _).setB _ _
  exact ⟨h.field ht (by rw [← rrow_oc]; exact setCell_row 5 _ h.row) rfl rfl rfl rfl, fun _ h => .inl h, fun _ h => .inl h, Touch.two ht h.bIn.1 h.bIn.1⟩
theorem RQ.va {w : World} {K : RK} {vO vS : Value} {s : MS} (h : RM w K vO vS s) (n : Int) : RQ K vO vS { s with va := n } w (w.setCell ⟨K.b, 6, none⟩ (.int .i64 n)) vO vS := by
  have ht : Two K.b K.b w (w.setCell ⟨K.b, 6, none⟩ (.int .i64 n)) := (Two.refl _ _ _).setB _ _
  exact ⟨h.field ht (by rw [← rrow_va]; exact setCell_row 6 _ h.row) rfl rfl rfl rfl, fun _ h => .inl h, fun _ h => .inl h, Touch.two ht h.bIn.1 h.bIn.1⟩
theorem RQ.at_ {w : World} {K : RK} {vO vS : Value} {s : MS} (h : RM w K vO vS s) (n : Nat) : RQ K vO vS { s with at_ := n } w (w.setCell ⟨K.b, 7, none⟩ (.int .i64 n)) vO vS := by
  have ht : Two K.b K.b w (w.setCell ⟨K.b, 7, none⟩ (.int .i64 n)) := (Two.refl _ _ _).setB _ _
  exact ⟨h.field ht (by rw [← rrow_at]; exact setCell_row 7 _ h.row) rfl rfl rfl rfl, fun _ h => .inl h, fun _ h => .inl h, Touch.two ht h.bIn.1 h.bIn.1⟩
def RStepPost (K : RK) (vO vS : Value) (t : MS) (w : World) (e : Ending) (w' : World) : Prop :=
  e = .returned (.tuple #[.int .i64 t.oc, .int .i64 0]) ∧ ∃ vO' vS', RQ K vO vS t w w' vO' vS'
theorem RM.cells3 {w : World} {K : RK} {vO vS : Value} {s : MS} (h : RM w K vO vS s) : w.cell? ⟨K.b, 5, none⟩ = some (.int .i64 s.oc) ∧ w.frozen? ⟨K.b, 5, none⟩ = false ∧ w.cell? ⟨K.b, 6, none⟩ = some (.int .i64 s.va) ∧ w.frozen? ⟨K.b, 6, none⟩ = false ∧ w.cell? ⟨K.b, 7, none⟩ = some (.int .i64 s.at_) ∧ w.frozen? ⟨K.b, 7, none⟩ = false ∧ w.cell? ⟨K.b, 0, none⟩ = some (.slice (some ⟨K.gL, 0, none⟩) K.l.length K.cL) := by
  have m0 := cell_of_row w K.b 0 _ _ _ h.row
  have m5 := cell_of_row w K.b 5 _ _ _ h.row
  have m6 := cell_of_row w K.b 6 _ _ _ h.row
  have m7 := cell_of_row w K.b 7 _ _ _ h.row
  simp only [RK.row, List.getElem?_toArray, List.getElem?_cons_zero, List.getElem?_cons_succ] at m0 m5 m6 m7
  exact ⟨m5, frozen_of_row w K.b 5 _ _ h.row, m6, frozen_of_row w K.b 6 _ _ h.row, m7, frozen_of_row w K.b 7 _ _ h.row, m0⟩
theorem rstep_any {w : World} {K : RK} {E : Env} {vO vS : Value} {s : MS} {i : Ins} (h : RM w K vO vS s) (hke : RE K E) (he : EnvOk E) (hi : MInv E s) (hc : CanI E s i) (ho : s.oc = 0) (hz : E.zs.length ≤ 64) (hlen : s.out.length ≤ 8796093022208) :
    Calls Tryz.prog 27 #[.pointer (some ⟨K.b, 0, none⟩)] w (RStepPost K vO vS (stepI E i s) w) := by
  obtain ⟨m5, _, _, _, m7, _, m0⟩ := h.cells3
  rw [ho] at m5
  have hgi : K.l[s.at_]? = some i := by rw [hke.l]; exact hc.get
  obtain ⟨p0, p1, p2⟩ := h.ins.get hgi
  have hlt := (List.getElem?_eq_some_iff.1 hgi).1
  have d0 : (0 : Int) ≤ (s.at_ : Int) := by omega
  have d1 : (s.at_ : Int) < (K.l.length : Int) := by omega
  have H := hid h
  have hbz : K.b < w.heap.size := (Array.getElem?_eq_some_iff.1 h.row).1
  have hgz : K.gL < w.heap.size := by have := h.o2; have := h.o3; omega
  obtain ⟨op, n, pl⟩ := i
  simp only at p0 p1 p2
  have hop0 : endsC s.hs.1 s.st op = 1 → op = 0 := ends_one
  have hrng := endsC_range (cs := s.hs.1) (st := s.st) (op := op)
  obtain ⟨r, hr⟩ : ∃ r : Nat, endsC s.hs.1 s.st op = (r : Int) := ⟨(endsC s.hs.1 s.st op).toNat, by omega⟩
  clear h
  go_enter Tryz.func27, Tryz.ntmps27
  go_upto_region 3 with fail
  go_cut [4] (fun x wc => x = .pointer (some ⟨w.heap.size, 0, none⟩) ∧ wc.heap[w.heap.size]? = some (.cells #[.int .i64 op, .int .i64 n, .int .i64 pl] 113) ∧ Below w.heap.size w wc)
  case first =>
    go_region
    go_wp2_with fail
    go_meet
    have hbl : Below w.heap.size w (w.alloc (.cells #[.int .i64 op, .int .i64 n, .int .i64 pl] 113)) := (Below.refl _ _).alloc (Nat.le_refl _) _
    exact ⟨rfl, heap_alloc_new w _, hbl.drew⟩
  case rest =>
    obtain ⟨rfl, hrow, hB⟩ := hcut
    have q1 := RQ.below H.out hB
    have hen := hid (fun (W : World) (hm : RM W K vO vS s) => rends_m (i := ⟨op, n, pl⟩) hm he hi hc)
    have hcon := hid (hen.out wc q1.m)
    have hcon2 := hid (hen.out _ (q1.m.below (Below.refl _ wc).drew))
    rw [hr] at hcon hcon2
    have c0 := cell_of_row wc w.heap.size 0 _ _ _ hrow
    have c1 := cell_of_row wc w.heap.size 1 _ _ _ hrow
    have c2 := cell_of_row wc w.heap.size 2 _ _ _ hrow
    simp only [List.getElem?_toArray, List.getElem?_cons_zero, List.getElem?_cons_succ] at c0 c1 c2
    obtain ⟨n5, g5, _⟩ := q1.m.cells3
    have HROW := hid hrow
    have hwz : w.heap.size < wc.heap.size := (Array.getElem?_eq_some_iff.1 hrow).1
    have hbc : K.b < wc.heap.size := by omega
    clear m5 m7 m0 p0 p1 p2 hrow
    go_wp2_with fail
    refine hcon.out.mono ?_
    clear hcon hcon2 hen
    intro e w2 hh
    obtain ⟨hb2, hx⟩ := hh
    subst e
    have q2 := q1.trans (RQ.below q1.m hb2)
    have hrow2 := (hb2.block w.heap.size hwz).trans HROW.out
    have b0 := cell_of_row w2 w.heap.size 0 _ _ _ hrow2
    have b1 := cell_of_row w2 w.heap.size 1 _ _ _ hrow2
    have b2 := cell_of_row w2 w.heap.size 2 _ _ _ hrow2
    simp only [List.getElem?_toArray, List.getElem?_cons_zero, List.getElem?_cons_succ] at b0 b1 b2
    obtain ⟨e5, f5, e6, f6, e7, f7, e0⟩ := q2.m.cells3
    have q3 := q2.trans (RQ.oc q2.m r)
    have hrow3 : (w2.setCell ⟨K.b, 5, none⟩ (.int .i64 r)).heap[w.heap.size]? = some (.cells #[.int .i64 op, .int .i64 n, .int .i64 pl] 113) := (Below.heap_setCell _ _ _ _ (by simp only; omega)).trans hrow2
    have hbs : K.b ≠ w.heap.size := by omega
    have hw2 : w.heap.size < w2.heap.size := by have := hb2.size; omega
    have HROW3 := hid hrow3
    have Q3 := hid q3
    clear hrow2 hrow3 HROW q2 q3 q1 c0 c1 c2 n5 g5 hB
    rcases Decidable.em (r = 1) with h1 | h1
    · subst h1
      have hop := hop0 (by rw [hr]; rfl)
      subst hop
      have hst : 0 < s.st.length := ((hc.std ⟨by simp, by simp, by simp, by simp, by simp⟩).one (c := 105) rfl).1
      have hs8 := hi.st he
      have hla := hid (last_any K.b 0 vS s.st (lastW s.st 0) (fun _ => True) (w2.setCell ⟨K.b, 5, none⟩ (.int .i64 (1 : Nat))) Q3.out.m.wds.cell Q3.out.m.wds.ls (by omega) hst (lastW_at hst))
      have hfin : stepI E ⟨0, n, pl⟩ s = { s with oc := 1, va := (lastW s.st 0).2 } := step_halt rfl
      have HFN := hid hfin
      have HFIN : Hid (∀ w4, Below (w2.setCell ⟨K.b, 5, none⟩ (.int .i64 (1 : Nat))).heap.size (w2.setCell ⟨K.b, 5, none⟩ (.int .i64 (1 : Nat))) w4 → RQ K vO vS { s with oc := 1, va := (lastW s.st 0).2 } w (w4.setCell ⟨K.b, 6, none⟩ (.int .i64 (lastW s.st 0).2)) vO vS ∧ w4.cell? ⟨K.b, 5, none⟩ = some (.int .i64 1) ∧ w4.cell? ⟨K.b, 6, none⟩ = some (.int .i64 s.va) ∧ w4.frozen? ⟨K.b, 6, none⟩ = false) := hid (fun w4 hb4 => by
        have q4 := Q3.out.trans (RQ.below Q3.out.m hb4)
        obtain ⟨e5, f5, e6, f6, e7, f7, e0⟩ := q4.m.cells3
        exact ⟨q4.trans (RQ.va q4.m _), e5, e6, f6⟩)
      generalize lastW s.st 0 = x at *
      obtain ⟨xf, xv⟩ := x
      clear hfin hi hc hke he hgi hr
      go_wp2_with fail
      refine hla.out.mono ?_
      clear hla
      intro e w4 hh
      obtain ⟨hb4, hx⟩ := hh
      subst e
      obtain ⟨k, k5, k6, j6⟩ := HFIN.out w4 hb4
      have HK := hid k
      clear k hb4 HFIN e5 e6 e7 e0 f5 f6 f7 b0 b1 b2
      go_wp2_with fail
      exact bodyPost_ret (v := .tuple #[.int .i64 1, .int .i64 0]) (by simp [results, Tryz.results27, go_sem]) rfl (by rw [HFN.out]; exact ⟨rfl, _, _, HK.out⟩)
    rcases Decidable.em (r = 0) with h0 | h0
    case inr =>
      have hfin : stepI E ⟨op, n, pl⟩ s = { s with oc := r } := by
        rw [step_trap (i := ⟨op, n, pl⟩) (by simp only [hr]; omega) (by simp only [hr]; omega)]
        simp only [hr, Int.toNat_natCast]
      have HFN := hid hfin
      have z1 : ((r : Int) == 1) = false := by simp; omega
      have z2 : ((r : Int) != 0) = true := by simp; omega
      clear hfin hi hc hke he hgi hr hop0
      go_wp2_with fail
      exact bodyPost_ret (v := .tuple #[.int .i64 r, .int .i64 0]) (by simp [results, Tryz.results27, go_sem]) rfl (by rw [HFN.out]; exact ⟨rfl, _, _, Q3.out⟩)
    subst h0
    have hs0 : ({ s with oc := 0 } : MS) = s := by rw [← ho]
    have q3 := Q3.out
    rw [hs0] at q3
    have Q3' := hid q3
    have hopne : op ≠ 0 := fun e => by subst e; simp [endsC] at hr
    have hs8 := hi.st he
    have hmem := hc.mem
    have hl120 := he.wf.len
    rw [← hke.l] at hl120
    have hdo : Hid (∀ (W : World) (s1 : MS) (cell : Int), RM W K vO vS s1 → MInv E s1 → CanI E s1 ⟨op, n, pl⟩ → endsC s1.hs.1 s1.st op = 0 → s1.out = s.out → (op = 13 ∨ op = 23 → 0 ≤ cell ∧ cell < (E.n : Int)) → Calls Tryz.prog 51 #[.pointer (some ⟨K.b, 0, none⟩), .agg #[.int .i64 op, .int .i64 n, .int .i64 pl], .int .i64 cell] W (RDPost K vO vS (doesS E ⟨op, n, pl⟩ cell s1) W)) := hid (fun W s1 cell h1 h2 h3 h4 h5 h6 => rdoes_any h1 hke he h2 h3 hopne h4 cell h6 hz (by rw [h5]; exact hlen))
    have FIN : Hid (∀ (W W6 : World) (vO6 vS6 : Value) (s1 : MS) (cell : Int), RQ K vO vS s1 w W vO vS → RQ K vO vS (doesS E ⟨op, n, pl⟩ cell s1) W W6 vO6 vS6 → RQ K vO vS (goS E ⟨op, n, pl⟩ cell s1) w (W6.setCell ⟨K.b, 7, none⟩ (.int .i64 (toS E ⟨op, n, pl⟩ s1))) vO6 vS6 ∧ W6.cell? ⟨K.b, 7, none⟩ = some (.int .i64 (doesS E ⟨op, n, pl⟩ cell s1).at_) ∧ W6.frozen? ⟨K.b, 7, none⟩ = false) := hid (fun W W6 vO6 vS6 s1 cell h1 h2 => by
      obtain ⟨_, _, _, _, e7, f7, _⟩ := h2.m.cells3
      have q := h1.trans h2
      exact ⟨q.trans (RQ.at_ q.m _), e7, f7⟩)
    have hoc1 : ∀ (cell : Int) (s1 : MS), s1.oc = 0 → (goS E ⟨op, n, pl⟩ cell s1).oc = 0 := fun cell s1 h1 => by
      show (doesS E ⟨op, n, pl⟩ cell s1).oc = 0
      rw [(does_oc E ⟨op, n, pl⟩ cell s1).1, h1]
    have z1 : ((0 : Nat) : Int) = 0 := rfl
    have z5 := World.cell?_setCell_same w2 ⟨K.b, 5, none⟩ (.int .i64 (0 : Nat)) e5
    rcases Decidable.em (op = 13 ∨ op = 23) with h13 | h13
    · have htk := hi.hh.take (rootsS E s)
      have hfr := take_fresh (h := s.hs) (rootsS E s)
      have HFN := hid (step_take (E := E) (i := ⟨op, n, pl⟩) (s := s) h13)
      have hro := hid (rroots_m Q3'.out.m hke he hi)
      have hta := hid (fun (W : World) (v : Value) => rtake_m (v := v) (W := W) Q3'.out.m he hi)
      have hinv : MInv E { s with hs := (takeC (rootsS E s) s.hs).2 } := { hi with hok := htk.1.ok, hx := htk.1.x, n := htk.1.len }
      have hends : endsC (takeC (rootsS E s) s.hs).2.1 s.st op = 0 := by rw [endsC_take (cs' := s.hs.1) h13]; exact hr
      have hdd := hid (fun (W : World) (hm : RM W K vO vS { s with hs := (takeC (rootsS E s) s.hs).2 }) (hp : 0 ≤ (takeC (rootsS E s) s.hs).1) => hdo.out W { s with hs := (takeC (rootsS E s) s.hs).2 } (takeC (rootsS E s) s.hs).1 hm hinv ⟨hc.get, hc.ok, hc.le⟩ hends rfl (fun _ => ⟨hp, htk.2.1⟩))
      have hgc : K.gC < w.heap.size := by have := H.out.o8; have := H.out.o9; omega
      unfold RTakePost at hta
      generalize takeC (rootsS E s) s.hs = tk at *
      obtain ⟨c, hs'⟩ := tk
      simp only at HFN hta hdd htk
      have hto : toS E ⟨op, n, pl⟩ { s with hs := hs' } = s.at_ + 1 := to_next (by simp only; omega) (by simp only; omega)
      have HOC := hid (hoc1 c { s with hs := hs' } ho)
      clear hi hc hke he hgi hr hop0 hdo Q3 q3 hs0 hoc1 hinv hends hfr
      rcases h13 with h13 | h13 <;> subst h13
      all_goals
        go_wp2_with fail
        refine hro.out.mono ?_
        clear hro
        intro e w4 hh
        obtain ⟨hb4, v, hx, hv⟩ := hh
        subst e
        have ht4 := hid (hta.out w4 v hb4 hv)
        have q4 := Q3'.out.trans (RQ.below Q3'.out.m hb4)
        have hrow4 := (hb4.block w.heap.size (by simpa using hw2)).trans HROW3.out
        have hz4 := hb4.size
        have Q4 := hid q4
        clear hv hb4 hta q4 e5 e6 e7 e0 f5 f6 f7 b0 b1 b2
        go_wp2_with fail
        refine ht4.out.mono ?_
        clear ht4
        intro e w5 hh
        obtain ⟨hx, q5⟩ := hh
        subst e
        have hnin : ¬ K.In vO vS w.heap.size := by
          have hB4 := H.out.o9
          rintro (⟨_, h9⟩ | h9 | h9)
          · omega
          · have := (H.out.stk.lt _ h9).2; omega
          · have := (H.out.out.lt _ h9).2; omega
        have hrow5 := (q5.t.block w.heap.size (by have := (Array.getElem?_eq_some_iff.1 hrow4).1; omega) hnin).trans hrow4
        have b0' := cell_of_row w5 w.heap.size 0 _ _ _ hrow5
        have b1' := cell_of_row w5 w.heap.size 1 _ _ _ hrow5
        have b2' := cell_of_row w5 w.heap.size 2 _ _ _ hrow5
        simp only [List.getElem?_toArray, List.getElem?_cons_zero, List.getElem?_cons_succ] at b0' b1' b2'
        obtain ⟨e5', f5', _, _, e7', f7', e0'⟩ := q5.m.cells3
        simp only at e5' e7' e0'
        have q6 := Q4.out.trans q5
        have Q5 := hid q6
        by_cases hc0 : c < 0
        · have q7 := hid (q6.trans (RQ.oc q6.m 5))
          have HF2 := hid (HFN.out.trans (if_pos hc0))
          have hc1 : decide (c < 0) = true := by simp [hc0]
          clear q5 q6 hrow4 hrow5 HFN hdd FIN HROW3 hnin
          go_wp2_with fail
          exact bodyPost_ret (v := .tuple #[.int .i64 5, .int .i64 0]) (by simp [results, Tryz.results27, go_sem]) rfl (by rw [HF2.out]; exact ⟨rfl, _, _, q7.out⟩)
        · have HF2 := hid (HFN.out.trans (if_neg hc0))
          have hc1 : decide (c < 0) = false := by simp [hc0]
          have hd := hid (hdd.out w5 q5.m (by omega))
          have FI := hid (fun W6 vO6 vS6 => FIN.out w5 W6 vO6 vS6 _ c q6)
          rw [hto] at FI
          clear q5 q6 hrow4 hrow5 HFN hdd FIN HROW3 hnin
          go_wp2_with fail
          refine hd.out.mono ?_
          clear hd
          intro e w6 hh
          obtain ⟨hx, vO6, vS6, q6⟩ := hh
          subst e
          obtain ⟨k, k7, j7⟩ := FI.out w6 vO6 vS6 q6
          have HK := hid k
          clear k q6 FI
          go_wp2_with fail
          exact bodyPost_ret (v := .tuple #[.int .i64 0, .int .i64 0]) (by simp [results, Tryz.results27, go_sem]) rfl (by rw [HF2.out]; exact ⟨by rw [HOC.out]; rfl, _, _, HK.out⟩)
    have hfin : stepI E ⟨op, n, pl⟩ s = goS E ⟨op, n, pl⟩ (-1) s := step_go hr (fun e => h13 (.inl e)) (fun e => h13 (.inr e))
    have HFN := hid hfin
    have hd := hid (hdo.out _ s (-1) Q3'.out.m hi hc hr rfl (fun e => absurd e h13))
    have FI := hid (fun W6 vO6 vS6 => FIN.out _ W6 vO6 vS6 s (-1) Q3'.out)
    have HOC := hid (hoc1 (-1) s ho)
    have y13 : ((op : Int) == 13) = false := by simp; omega
    have y23 : ((op : Int) == 23) = false := by simp; omega
    clear hoc1
    rcases Decidable.em (op = 19) with h19 | h19
    · subst h19
      have hj := he.wf.jump _ hmem rfl
      have hfi := hid (fun (W : World) (hm : RM W K vO vS s) => find_any K.l K.gL K.cL n W (by omega) hm.ins)
      have hto : toS E ⟨19, n, pl⟩ s = (findP n E.l 0).toNat := rfl
      have hnat : ((findP n E.l 0).toNat : Int) = findP n E.l 0 := Int.toNat_of_nonneg hj
      clear hd FI
      have q4 := Q3'.out.trans (RQ.below Q3'.out.m (Below.refl _ _).drew)
      have hd := hid (hdo.out _ s (-1) q4.m hi hc hr rfl (fun e => absurd e h13))
      have FI := hid (fun W6 vO6 vS6 => FIN.out _ W6 vO6 vS6 s (-1) q4)
      have hfi4 := hid (hfi.out _ q4.m)
      rw [hto, hnat, ← hke.l] at FI
      clear hfin hi hc hke he hgi hr hop0 hdo Q3 q3 hs0 hfi FIN q4
      go_wp2_with fail
      go_region_law ((go_simp; go_at_call 50; refine hfi4.out.mono ?_; intro e w4 hh; obtain ⟨hx, hw⟩ := hh; subst hx; subst hw; clear hfi4; dsimp only))
      all_goals
        go_wp2_with fail
        refine hd.out.mono ?_
        clear hd
        intro e w6 hh
        obtain ⟨hx, vO6, vS6, q6⟩ := hh
        subst e
        obtain ⟨k, k7, j7⟩ := FI.out w6 vO6 vS6 q6
        have HK := hid k
        clear k q6 FI
        go_wp2_with fail
        exact bodyPost_ret (v := .tuple #[.int .i64 0, .int .i64 0]) (by simp [results, Tryz.results27, go_sem]) rfl (by rw [HFN.out]; exact ⟨by rw [HOC.out]; rfl, _, _, HK.out⟩)
    rcases Decidable.em (op = 20) with h20 | h20
    · subst h20
      have hst : 0 < s.st.length := ((hc.std ⟨by simp, by simp, by simp, by simp, by simp⟩).one (c := 105) rfl).1
      have hla := hid (last_any K.b 0 vS s.st (lastW s.st 0) (fun _ => True) (w2.setCell ⟨K.b, 5, none⟩ (.int .i64 (0 : Nat))) Q3'.out.m.wds.cell Q3'.out.m.wds.ls (by omega) hst (lastW_at hst))
      have hfi := hid (fun (W : World) (hm : RM W K vO vS s) => find_any K.l K.gL K.cL n W (by omega) hm.ins)
      have hj := he.wf.jump _ hmem rfl
      have hnat : ((findP n E.l 0).toNat : Int) = findP n E.l 0 := Int.toNat_of_nonneg hj
      have HTO : Hid (((lastW s.st 0).2 ≠ 0 → (toS E ⟨20, n, pl⟩ s : Int) = findP n K.l 0) ∧ ((lastW s.st 0).2 = 0 → (toS E ⟨20, n, pl⟩ s : Int) = (s.at_ : Int) + 1)) := hid ⟨fun h => by
          unfold toS
          rw [if_pos (.inr ⟨rfl, h⟩), hke.l]
          exact hnat, fun h => by
          unfold toS
          rw [if_neg (by rintro (h' | h'); · cases h'
                         · exact h'.2 h)]
          rfl⟩
      have hdd := hid (fun (w4 : World) (q4 : RQ K vO vS s w w4 vO vS) => hdo.out w4 s (-1) q4.m hi hc hr rfl (fun e => absurd e h13))
      clear hd FI
      generalize lastW s.st 0 = x at *
      obtain ⟨xf, xv⟩ := x
      clear hfin hi hc hke he hgi hr hop0 hdo Q3 q3 hs0
      go_wp2_with fail
      refine hla.out.mono ?_
      clear hla
      intro e w4 hh
      obtain ⟨hb4, hx⟩ := hh
      subst e
      have q4 := Q3'.out.trans (RQ.below Q3'.out.m hb4)
      have hrow4 := (hb4.block w.heap.size (by simpa using hw2)).trans HROW3.out
      have b0' := cell_of_row w4 w.heap.size 0 _ _ _ hrow4
      have b1' := cell_of_row w4 w.heap.size 1 _ _ _ hrow4
      have b2' := cell_of_row w4 w.heap.size 2 _ _ _ hrow4
      simp only [List.getElem?_toArray, List.getElem?_cons_zero, List.getElem?_cons_succ] at b0' b1' b2'
      obtain ⟨_, _, _, _, e7', _, e0'⟩ := q4.m.cells3
      have hd := hid (hdd.out w4 q4)
      have FI := hid (fun W6 vO6 vS6 => FIN.out w4 W6 vO6 vS6 s (-1) q4)
      have Q4 := hid q4
      clear b0 b1 b2 e5 e6 e7 e0 f5 f6 f7 q4 hb4 hrow4
      by_cases hv : xv = 0
      · rw [HTO.out.2 hv] at FI
        have hv2 : (xv != 0) = false := by simp [hv]
        clear hfi HTO FIN hdd
        go_wp2_with fail
        refine hd.out.mono ?_
        clear hd
        intro e w6 hh
        obtain ⟨hx, vO6, vS6, q6⟩ := hh
        subst e
        obtain ⟨k, k7, j7⟩ := FI.out w6 vO6 vS6 q6
        have HK := hid k
        clear k q6 FI
        go_wp2_with fail
        exact bodyPost_ret (v := .tuple #[.int .i64 0, .int .i64 0]) (by simp [results, Tryz.results27, go_sem]) rfl (by rw [HFN.out]; exact ⟨by rw [HOC.out]; rfl, _, _, HK.out⟩)
      · clear hd FI
        have q5 := Q4.out.trans (RQ.below Q4.out.m (Below.refl _ _).drew)
        have hd := hid (hdd.out _ q5)
        have FI := hid (fun W6 vO6 vS6 => FIN.out _ W6 vO6 vS6 s (-1) q5)
        have hfi4 := hid (hfi.out _ q5.m)
        rw [HTO.out.1 hv] at FI
        have hv2 : (xv != 0) = true := by simp [hv]
        clear HTO hfi FIN q5 hdd
        go_wp2_with fail
        go_region_law ((go_simp; go_at_call 50; refine hfi4.out.mono ?_; intro e w5 hh; obtain ⟨hx, hw⟩ := hh; subst hx; subst hw; clear hfi4; dsimp only))
        all_goals
          go_wp2_with fail
          refine hd.out.mono ?_
          clear hd
          intro e w6 hh
          obtain ⟨hx, vO6, vS6, q6⟩ := hh
          subst e
          obtain ⟨k, k7, j7⟩ := FI.out w6 vO6 vS6 q6
          have HK := hid k
          clear k q6 FI
          go_wp2_with fail
          exact bodyPost_ret (v := .tuple #[.int .i64 0, .int .i64 0]) (by simp [results, Tryz.results27, go_sem]) rfl (by rw [HFN.out]; exact ⟨by rw [HOC.out]; rfl, _, _, HK.out⟩)
    have hto : toS E ⟨op, n, pl⟩ s = s.at_ + 1 := to_next h19 h20
    rw [hto] at FI
    have y19 : ((op : Int) == 19) = false := by simp; omega
    have y20 : ((op : Int) == 20) = false := by simp; omega
    clear hfin hi hc hke he hgi hr hop0 hdo Q3 q3 hs0
    go_wp2_with fail
    refine hd.out.mono ?_
    clear hd
    intro e w6 hh
    obtain ⟨hx, vO6, vS6, q6⟩ := hh
    subst e
    obtain ⟨k, k7, j7⟩ := FI.out w6 vO6 vS6 q6
    have HK := hid k
    clear k q6 FI
    go_wp2_with fail
    exact bodyPost_ret (v := .tuple #[.int .i64 0, .int .i64 0]) (by simp [results, Tryz.results27, go_sem]) rfl (by rw [HFN.out]; exact ⟨by rw [HOC.out]; rfl, _, _, HK.out⟩)
end Go.Proofs.YtdmdpindonghdaaGreatDoor
namespace Go.Proofs.YtdmdpindonghdaaGreatDoor
open Go.RowKit
def RStepX (K : RK) (G : Nat → Prop) (t : MS) (w : World) (e : Ending) (w' : World) : Prop :=
  e = .returned (.tuple #[.int .i64 t.oc, .int .i64 0]) ∧ RX w' K (Grown G w w') t ∧ Touch G w w'
theorem rstep_x {w : World} {K : RK} {E : Env} {G : Nat → Prop} {s : MS} (h : RX w K G s) (hke : RE K E) (he : EnvOk E) (hi : MInv E s) (hoc : s.oc = 0) (hz : E.zs.length ≤ 64) (hlen : s.out.length ≤ 8796093022208) :
    Calls Tryz.prog 27 #[.pointer (some ⟨K.b, 0, none⟩)] w (RStepX K G (stepS E s) w) := by
  obtain ⟨i, hcan⟩ := hi.can he
  have hst : stepS E s = stepI E i s := by unfold stepS; rw [hcan.get]
  rw [hst]
  obtain ⟨vO, vS, hm, hG⟩ := h
  refine (rstep_any hm hke he hi hcan hoc hz hlen).mono ?_
  rintro e w' ⟨h1, vO', vS', q⟩
  exact ⟨h1, RX.after q hG⟩
def RkPost (a : Nat) (nx : Int) (lo st : List (Bool × Int)) (v : Int) (w : World) (e : Ending) (w' : World) : Prop := e = .returned (.int .i64 0) ∧ SX w' a nx lo (st ++ [(false, v)]) ∧ Only a w w'
theorem reckon_2 {w : World} {a : Nat} {nx : Int} {lo st : List (Bool × Int)} {x y : Bool × Int} (h : SX w a nx lo ((st ++ [x]) ++ [y])) (hs : st.length < 8) :
    Calls Tryz.prog 91 #[.pointer (some ⟨a, 0, none⟩), .int .i64 2] w (RkPost a nx lo st (sumC 2 x.2 y.2) w) := by
  have hp := hid (xpop h)
  obtain ⟨xf, xv⟩ := x
  obtain ⟨yf, yv⟩ := y
  simp only at hp ⊢
  clear h
  go_enter Tryz.func91, Tryz.ntmps91
  go_wp2_with fail
  refine hp.out.mono ?_
  clear hp
  intro e w2 hh
  obtain ⟨hx, hS, hO⟩ := hh
  subst e
  have hp := hid (xpop hS)
  have HO1 := hid hO
  simp only at hp
  clear hS hO
  go_wp2_with fail
  refine hp.out.mono ?_
  clear hp
  intro e w3 hh
  obtain ⟨hx, hS, hO⟩ := hh
  subst e
  have HO2 := hid hO
  have hp := hid (xpush hS hs (false, sumC 2 xv yv))
  have HE : Hid (sumC 2 xv yv = wrap64 (xv + yv)) := hid rfl
  simp only [HE.out] at hp
  clear hS hO
  go_wp2_with fail
  refine hp.out.mono ?_
  clear hp
  intro e w4 hh
  obtain ⟨hx, hS, hO⟩ := hh
  subst e
  have HS := hid hS
  have HO3 := hid hO
  clear hS hO
  go_wp2_with fail
  go_ret
  exact ⟨rfl, by rw [HE.out]; exact HS.out, (HO1.out.trans HO2.out).trans HO3.out⟩
theorem reckon_3 {w : World} {a : Nat} {nx : Int} {lo st : List (Bool × Int)} {x y : Bool × Int} (h : SX w a nx lo ((st ++ [x]) ++ [y])) (hs : st.length < 8) :
    Calls Tryz.prog 91 #[.pointer (some ⟨a, 0, none⟩), .int .i64 3] w (RkPost a nx lo st (sumC 3 x.2 y.2) w) := by
  have hp := hid (xpop h)
  obtain ⟨xf, xv⟩ := x
  obtain ⟨yf, yv⟩ := y
  simp only at hp ⊢
  clear h
  go_enter Tryz.func91, Tryz.ntmps91
  go_wp2_with fail
  refine hp.out.mono ?_
  clear hp
  intro e w2 hh
  obtain ⟨hx, hS, hO⟩ := hh
  subst e
  have hp := hid (xpop hS)
  have HO1 := hid hO
  simp only at hp
  clear hS hO
  go_wp2_with fail
  refine hp.out.mono ?_
  clear hp
  intro e w3 hh
  obtain ⟨hx, hS, hO⟩ := hh
  subst e
  have HO2 := hid hO
  have hp := hid (xpush hS hs (false, sumC 3 xv yv))
  have HE : Hid (sumC 3 xv yv = wrap64 (xv - yv)) := hid rfl
  simp only [HE.out] at hp
  clear hS hO
  go_wp2_with fail
  refine hp.out.mono ?_
  clear hp
  intro e w4 hh
  obtain ⟨hx, hS, hO⟩ := hh
  subst e
  have HS := hid hS
  have HO3 := hid hO
  clear hS hO
  go_wp2_with fail
  go_ret
  exact ⟨rfl, by rw [HE.out]; exact HS.out, (HO1.out.trans HO2.out).trans HO3.out⟩
theorem reckon_4 {w : World} {a : Nat} {nx : Int} {lo st : List (Bool × Int)} {x y : Bool × Int} (h : SX w a nx lo ((st ++ [x]) ++ [y])) (hs : st.length < 8) :
    Calls Tryz.prog 91 #[.pointer (some ⟨a, 0, none⟩), .int .i64 4] w (RkPost a nx lo st (sumC 4 x.2 y.2) w) := by
  have hp := hid (xpop h)
  obtain ⟨xf, xv⟩ := x
  obtain ⟨yf, yv⟩ := y
  simp only at hp ⊢
  clear h
  go_enter Tryz.func91, Tryz.ntmps91
  go_wp2_with fail
  refine hp.out.mono ?_
  clear hp
  intro e w2 hh
  obtain ⟨hx, hS, hO⟩ := hh
  subst e
  have hp := hid (xpop hS)
  have HO1 := hid hO
  simp only at hp
  clear hS hO
  go_wp2_with fail
  refine hp.out.mono ?_
  clear hp
  intro e w3 hh
  obtain ⟨hx, hS, hO⟩ := hh
  subst e
  have HO2 := hid hO
  have hp := hid (xpush hS hs (false, sumC 4 xv yv))
  have HE : Hid (sumC 4 xv yv = wrap64 (xv * yv)) := hid rfl
  simp only [HE.out] at hp
  clear hS hO
  go_wp2_with fail
  refine hp.out.mono ?_
  clear hp
  intro e w4 hh
  obtain ⟨hx, hS, hO⟩ := hh
  subst e
  have HS := hid hS
  have HO3 := hid hO
  clear hS hO
  go_wp2_with fail
  go_ret
  exact ⟨rfl, by rw [HE.out]; exact HS.out, (HO1.out.trans HO2.out).trans HO3.out⟩
theorem reckon_5 {w : World} {a : Nat} {nx : Int} {lo st : List (Bool × Int)} {x y : Bool × Int} (h : SX w a nx lo ((st ++ [x]) ++ [y])) (hs : st.length < 8) (h0 : y.2 ≠ 0) :
    Calls Tryz.prog 91 #[.pointer (some ⟨a, 0, none⟩), .int .i64 5] w (RkPost a nx lo st (sumC 5 x.2 y.2) w) := by
  have hp := hid (xpop h)
  obtain ⟨xf, xv⟩ := x
  obtain ⟨yf, yv⟩ := y
  simp only at hp h0 ⊢
  clear h
  go_enter Tryz.func91, Tryz.ntmps91
  go_wp2_with fail
  refine hp.out.mono ?_
  clear hp
  intro e w2 hh
  obtain ⟨hx, hS, hO⟩ := hh
  subst e
  have hp := hid (xpop hS)
  have HO1 := hid hO
  simp only at hp
  clear hS hO
  go_wp2_with fail
  refine hp.out.mono ?_
  clear hp
  intro e w3 hh
  obtain ⟨hx, hS, hO⟩ := hh
  subst e
  have HO2 := hid hO
  have hp := hid (xpush hS hs (false, sumC 5 xv yv))
  have HE : Hid (sumC 5 xv yv = wrap64 (xv.tdiv yv)) := hid rfl
  have q : (yv == 0) = false := by simpa using h0
  simp only [HE.out] at hp
  clear hS hO
  go_wp2_with fail
  refine hp.out.mono ?_
  clear hp
  intro e w4 hh
  obtain ⟨hx, hS, hO⟩ := hh
  subst e
  have HS := hid hS
  have HO3 := hid hO
  clear hS hO
  go_wp2_with fail
  go_ret
  exact ⟨rfl, by rw [HE.out]; exact HS.out, (HO1.out.trans HO2.out).trans HO3.out⟩
theorem reckon_50 {w : World} {a : Nat} {nx : Int} {lo st : List (Bool × Int)} {x y : Bool × Int} (h : SX w a nx lo ((st ++ [x]) ++ [y])) (h0 : y.2 = 0) :
    Calls Tryz.prog 91 #[.pointer (some ⟨a, 0, none⟩), .int .i64 5] w fun e w' => e = .returned (.int .i64 3) ∧ SX w' a nx lo st ∧ Only a w w' := by
  have hp := hid (xpop h)
  obtain ⟨xf, xv⟩ := x
  obtain ⟨yf, yv⟩ := y
  simp only at hp h0 ⊢
  subst h0
  clear h
  go_enter Tryz.func91, Tryz.ntmps91
  go_wp2_with fail
  refine hp.out.mono ?_
  clear hp
  intro e w2 hh
  obtain ⟨hx, hS, hO⟩ := hh
  subst e
  have hp := hid (xpop hS)
  have HO1 := hid hO
  simp only at hp
  clear hS hO
  go_wp2_with fail
  refine hp.out.mono ?_
  clear hp
  intro e w3 hh
  obtain ⟨hx, hS, hO⟩ := hh
  subst e
  have HO2 := hid hO
  have HS := hid hS
  clear hS hO
  go_wp2_with fail
  go_ret
  exact ⟨rfl, HS.out, HO1.out.trans HO2.out⟩
theorem reckon_6 {w : World} {a : Nat} {nx : Int} {lo st : List (Bool × Int)} {x y : Bool × Int} (h : SX w a nx lo ((st ++ [x]) ++ [y])) (hs : st.length < 8) :
    Calls Tryz.prog 91 #[.pointer (some ⟨a, 0, none⟩), .int .i64 6] w (RkPost a nx lo st (sumC 6 x.2 y.2) w) := by
  have hp := hid (xpop h)
  obtain ⟨xf, xv⟩ := x
  obtain ⟨yf, yv⟩ := y
  simp only at hp ⊢
  clear h
  go_enter Tryz.func91, Tryz.ntmps91
  go_wp2_with fail
  refine hp.out.mono ?_
  clear hp
  intro e w2 hh
  obtain ⟨hx, hS, hO⟩ := hh
  subst e
  have hp := hid (xpop hS)
  have HO1 := hid hO
  simp only at hp
  clear hS hO
  go_wp2_with fail
  refine hp.out.mono ?_
  clear hp
  intro e w3 hh
  obtain ⟨hx, hS, hO⟩ := hh
  subst e
  have HO2 := hid hO
  by_cases hlt : xv < yv
  · have HE : Hid (sumC 6 xv yv = 1) := hid (by unfold sumC; simp; omega)
    have hp := hid (xpush hS hs (false, 1))
    have ht := hid (truth_any true w3)
    simp only [if_true] at ht hp
    clear hS hO
    go_wp2_with fail
    refine ht.out.mono ?_
    clear ht
    intro e w9 hh
    obtain ⟨hx, hw⟩ := hh
    subst e
    subst w9
    go_wp2_with fail
    refine hp.out.mono ?_
    clear hp
    intro e w4 hh
    obtain ⟨hx, hS, hO⟩ := hh
    subst e
    have HS := hid hS
    have HO3 := hid hO
    clear hS hO
    go_wp2_with fail
    go_ret
    exact ⟨rfl, by rw [HE.out]; exact HS.out, (HO1.out.trans HO2.out).trans HO3.out⟩
  · have HE : Hid (sumC 6 xv yv = 0) := hid (by unfold sumC; simp; omega)
    have hp := hid (xpush hS hs (false, 0))
    have ht := hid (truth_any (decide (xv < yv)) w3)
    rw [show (if decide (xv < yv) = true then (1 : Int) else 0) = 0 by simp [hlt]] at ht
    simp only at hp
    clear hS hO
    go_wp2_with fail
    refine ht.out.mono ?_
    clear ht
    intro e w9 hh
    obtain ⟨hx, hw⟩ := hh
    subst e
    subst w9
    go_wp2_with fail
    refine hp.out.mono ?_
    clear hp
    intro e w4 hh
    obtain ⟨hx, hS, hO⟩ := hh
    subst e
    have HS := hid hS
    have HO3 := hid hO
    clear hS hO
    go_wp2_with fail
    go_ret
    exact ⟨rfl, by rw [HE.out]; exact HS.out, (HO1.out.trans HO2.out).trans HO3.out⟩
/-- Nothing but the machine's own row has turned. -/
theorem PM.turn {w w' : World} {K : PK} {vI vI' vO : Value} {lo4 st8 lo4' st8' : List Int} {s s' : MS} (h : PM w K vI vO lo4 st8 s) (ho : Only K.b w w') (hrow : w'.heap[K.b]? = some (.cells (K.row vI' vO lo4' st8' s').toArray 74))
    (hst : StOk s'.lo s'.st lo4' st8') (hlol : s'.lo.length = K.L) (hout : s'.out = s.out) (hhs : s'.hs = s.hs) (hinp : ZsAt w' vI' (K.zs.drop s'.rd)) (hinb : ∀ a n c, vI' = .slice (some a) n c → K.A ≤ a.block ∧ a.block < K.B4 ∧ a.block ≠ K.b ∧ a.block ≠ K.gC ∧ n ≤ c ∧ ∃ g o, a = ⟨g, o, none⟩) : PM w' K vI' vO lo4' st8' s' := by
  have z := h.z
  have hin : ∀ k, k ≠ K.b → w'.heap[k]? = w.heap[k]? := fun k hk => ho.block k hk
  have hlo := hst.lo
  rw [hlol] at hlo
  exact { row := hrow, l4 := hst.l4, l8 := hst.l8, lol := hlol, lo := hlo, stl := hst.stL, st := hst.st, L4 := h.L4, b1 := h.b1, b2 := h.b2, g1 := h.g1, g2 := h.g2, f1 := h.f1, f2 := h.f2, c1 := h.c1, c2 := h.c2
          z := by rw [ho.size]; exact z
          ne1 := h.ne1, ne2 := h.ne2, ne3 := h.ne3, ne4 := h.ne4, ne5 := h.ne5
          code := h.code.same (hin _ (fun e => h.ne1 e.symm))
          frames := (hin _ (fun e => h.ne2 e.symm)).trans h.frames
          fok := h.fok, flen := h.flen, llen := h.llen
          cells := by rw [hhs]; exact owns_keep h.cells (fun g hg => by
            simp only [Value.ownBlock, Option.some.injEq] at hg
            subst hg
            exact hin _ (fun e => h.ne3 e.symm))
          inp := hinp, inb := hinb
          out := by rw [hout]; exact owns_keep h.out (fun g hg => hin g (by have := (h.out.lt g hg).1; have := h.b2; omega)) }
theorem PM.stok {w : World} {K : PK} {vI vO : Value} {lo4 st8 : List Int} {s : MS} (h : PM w K vI vO lo4 st8 s) : StOk s.lo s.st lo4 st8 := ⟨h.l4, h.l8, by rw [h.lol]; exact h.L4, by rw [h.lol]; exact h.lo, h.stl, h.st⟩
theorem row_inputs {K : PK} {vI vI' vO : Value} {lo4 st8 : List Int} {s : MS} (rd : Nat) : ((K.row vI vO lo4 st8 s).toArray.setIfInBounds 3 vI') = (K.row vI' vO lo4 st8 { s with rd := rd }).toArray := by
  rw [List.setIfInBounds_toArray]
  rfl
def InpPost (K : PK) (vO : Value) (lo4 st8 : List Int) (s : MS) (v : Int) (rd : Nat) (w : World) (e : Ending) (w' : World) : Prop := e = .returned (.int .i64 v) ∧ Only K.b w w' ∧ ∃ vI', PM w' K vI' vO lo4 st8 { s with rd := rd }
theorem input_none {w : World} {K : PK} {vI vO : Value} {lo4 st8 : List Int} {s : MS} (h : PM w K vI vO lo4 st8 s) (hr : K.zs.length ≤ s.rd) :
    Calls Tryz.prog 95 #[.pointer (some ⟨K.b, 0, none⟩)] w (InpPost K vO lo4 st8 s 0 s.rd w) := by
  have m3 := h.get 3
  simp only [PK.row, List.cons_append, List.nil_append, List.getElem?_cons_zero, List.getElem?_cons_succ] at m3
  obtain ⟨p, c, e⟩ := h.inp.slice
  rw [List.drop_of_length_le hr] at e
  subst e
  have H := hid h
  clear h
  go_enter Tryz.func95, Tryz.ntmps95
  go_wp2_with fail
  go_ret
  exact ⟨rfl, Only.refl _ _, _, H.out⟩
theorem input_some {w : World} {K : PK} {vI vO : Value} {lo4 st8 : List Int} {s : MS} (h : PM w K vI vO lo4 st8 s) (hr : s.rd < K.zs.length) (hz : K.zs.length ≤ 64) :
    Calls Tryz.prog 95 #[.pointer (some ⟨K.b, 0, none⟩)] w (InpPost K vO lo4 st8 s (K.zs.getD s.rd 0) (s.rd + 1) w) := by
  have m3 := h.get 3
  have f3 := frozen_of_row w K.b 3 _ _ h.row
  simp only [PK.row, List.cons_append, List.nil_append, List.getElem?_cons_zero, List.getElem?_cons_succ] at m3
  have hin := h.inp
  have hdr : K.zs.drop s.rd = K.zs.getD s.rd 0 :: K.zs.drop (s.rd + 1) := by
    rw [List.drop_eq_getElem_cons hr, List.getD_eq_getElem?_getD, List.getElem?_eq_getElem hr]; rfl
  have H := hid h
  rcases hin with ⟨_, e⟩ | ⟨a, ca, e, hc⟩
  · rw [hdr] at e; cases e
  obtain ⟨b1, b2, b3, b4, b5, g, o, rfl⟩ := h.inb _ _ _ e
  rw [hdr] at e hc b5
  have hlen : (K.zs.drop (s.rd + 1)).length ≤ 64 := by rw [List.length_drop]; omega
  rw [List.length_cons] at e b5
  have x0 := hc 0 _ rfl
  rw [show (⟨g, o, none⟩ : Addr).add 0 = ⟨g, o, none⟩ by unfold Addr.add; split <;> simp_all] at x0
  have HC : Hid (∀ (j : Nat) (x : Int), (K.zs.drop (s.rd + 1))[j]? = some x → w.cell? ⟨g, o + 1 + j, none⟩ = some (.int .i64 x)) := hid (fun j x hj => by
    have := hc (j + 1) x (by simpa using hj)
    rw [show (⟨g, o, none⟩ : Addr).add (j + 1) = ⟨g, o + 1 + j, none⟩ by unfold Addr.add; split <;> simp_all; omega] at this
    exact this)
  generalize K.zs.getD s.rd 0 = x at *
  generalize hD : K.zs.drop (s.rd + 1) = D at *
  have HD := hid hD
  simp only at b1 b2 b3 b4
  subst e
  clear h hc hdr hD
  go_enter Tryz.func95, Tryz.ntmps95
  go_wp2_with fail
  · go_ret
    refine ⟨rfl, (Only.refl _ _).set _ _, .slice (some ⟨g, o, none⟩) D.length 0, ?_⟩
    refine H.out.turn ((Only.refl _ _).set _ _) (by rw [← row_inputs (vI := .slice (some ⟨g, o, none⟩) (D.length + 1) ca)]; exact setCell_row 3 _ H.out.row) H.out.stok H.out.lol rfl rfl ?_ ?_
    · refine .inr ⟨⟨g, o, none⟩, 0, by rw [HD.out], fun j y hj => ?_⟩
      have hj := hj
      rw [HD.out] at hj
      have := (List.getElem?_eq_some_iff.1 hj).1
      omega
    · intro a n c e
      injection e with e1 e2 e3
      injection e1 with e1
      subst e1
      exact ⟨b1, b2, b3, b4, by omega, g, o, rfl⟩
  · go_ret
    refine ⟨rfl, (Only.refl _ _).set _ _, .slice (some ⟨g, o + 1, none⟩) D.length (ca - 1), ?_⟩
    refine H.out.turn ((Only.refl _ _).set _ _) (by rw [← row_inputs (vI := .slice (some ⟨g, o, none⟩) (D.length + 1) ca)]; exact setCell_row 3 _ H.out.row) H.out.stok H.out.lol rfl rfl ?_ ?_
    · refine .inr ⟨⟨g, o + 1, none⟩, ca - 1, by rw [HD.out], fun j y hj => ?_⟩
      have hj := hj
      rw [HD.out] at hj
      rw [show (⟨g, o + 1, none⟩ : Addr).add j = ⟨g, o + 1 + j, none⟩ by unfold Addr.add; split <;> simp_all]
      exact (((Only.refl K.b w).set 3 _).cell b3).trans (HC.out j y hj)
    · intro a n c e
      injection e with e1 e2 e3
      injection e1 with e1
      subst e1
      exact ⟨b1, b2, b3, b4, by omega, g, o + 1, rfl⟩
/-- What an instruction that reads a cell finds there. -/
def readV (cs : List RC) (op n : Nat) (r : Int) : Int := if op = 16 then (cellAt cs r).num else if n = 0 then (cellAt cs r).a else (cellAt cs r).b
def CellPost (a : Nat) (nx : Int) (lo st : List (Bool × Int)) (q v : Int) (f : Bool) (w : World) (e : Ending) (w' : World) : Prop := e = .returned (.int .i64 q) ∧ SX w' a nx lo (st ++ [(f, v)]) ∧ Two a a w w'
theorem PM.two {w w' : World} {K : PK} {vI vO : Value} {lo4 st8 : List Int} {s : MS} {a : Nat} (h : PM w K vI vO lo4 st8 s) (ht : Two a a w w') (ha : ¬ K.In vO a) : PM w' K vI vO lo4 st8 s :=
  h.keep ht.size (fun k hk hi => ht.block k hk (fun e => ha (e ▸ hi)) (fun e => ha (e ▸ hi)))
theorem read_14 {w : World} {K : PK} {vI vO : Value} {lo4 st8 : List Int} {s : MS} {a : Nat} {nx : Int} {lo st : List (Bool × Int)} {x : Bool × Int} (h : PM w K vI vO lo4 st8 s) (hs : SX w a nx lo (st ++ [x])) (hst : st.length < 8) (ha : ¬ K.In vO a) (hx : x.2 < (s.hs.1.length : Int)) (f : Bool) (pl n tg : Nat) :
    Calls Tryz.prog 93 #[.pointer (some ⟨K.b, 0, none⟩), insV pl 14 n tg, .pointer (some ⟨a, 0, none⟩)] w (CellPost a nx lo st (wantsC s.hs.1 x.2 false) (if wantsC s.hs.1 x.2 false = 0 then readV s.hs.1 14 n x.2 else 0) f w) := by
  have hlt := hs.lt
  have hB := BoxI.start w pl 14 n tg hlt
  have h1 := hs.below ((Below.refl _ _).alloc (Nat.le_refl _) (.cells #[.int .i64 pl, .int .i64 14, .int .i64 n, .int .i64 tg] 128))
  have hp := hid (xpop h1)
  have HB := hid hB
  have hget := hid (fun (W : World) (hT : Two a a w W) => pget_any K.b K.gC _ K.A s.hs x.2 n W (h.two hT ha).phr hx)
  have e : readV s.hs.1 14 n x.2 = (if n = 0 then (cellAt s.hs.1 x.2).a else (cellAt s.hs.1 x.2).b) := rfl
  rw [← e] at hget
  generalize (if wantsC s.hs.1 x.2 false = 0 then readV s.hs.1 14 n x.2 else 0) = v at *
  generalize wantsC s.hs.1 x.2 false = q at *
  obtain ⟨xf, xv⟩ := x
  simp only at hp hget ⊢
  unfold insV
  clear h hs h1 hB ha e
  go_enter Tryz.func93, Tryz.ntmps93
  go_wp2_with fail
  refine hp.out.mono ?_
  clear hp
  intro e w2 hh
  obtain ⟨hx, hS, hO⟩ := hh
  subst e
  have hB2 := HB.out.only hO
  have hg := hid (hget.out w2.drew hB2.two.drew)
  have c1 := hB2.c1
  have c2 := hB2.c2
  have HP := hid (fun (W : World) (hb : Below w2.heap.size w2 W) => xpush (hS.below hb) hst (f, v))
  have HT := hid hB2.two
  clear hS hO hB2 hget HB
  go_wp2_with fail
  go_region_law ((go_simp; go_at_call 118; refine hg.out.mono ?_; intro e w3 hh; obtain ⟨hx, hw⟩ := hh; subst e; subst w3; dsimp only))
  clear hg
  go_wp2_with fail
  refine (HP.out w2.drew ⟨rfl, rfl, rfl, Nat.le_refl _, fun _ _ => rfl⟩).mono ?_
  clear HP
  intro e w3 hh
  obtain ⟨hx, hS, hO⟩ := hh
  subst e
  have HS := hid hS
  have HO := hid hO
  clear hS hO
  go_wp2_with fail
  go_ret
  exact ⟨rfl, HS.out, HT.out.drew.trans (Two.of_only HO.out)⟩
theorem read_16 {w : World} {K : PK} {vI vO : Value} {lo4 st8 : List Int} {s : MS} {a : Nat} {nx : Int} {lo st : List (Bool × Int)} {x : Bool × Int} (h : PM w K vI vO lo4 st8 s) (hs : SX w a nx lo (st ++ [x])) (hst : st.length < 8) (ha : ¬ K.In vO a) (hx : x.2 < (s.hs.1.length : Int)) (f : Bool) (pl n tg : Nat) :
    Calls Tryz.prog 93 #[.pointer (some ⟨K.b, 0, none⟩), insV pl 16 n tg, .pointer (some ⟨a, 0, none⟩)] w (CellPost a nx lo st (wantsC s.hs.1 x.2 false) (if wantsC s.hs.1 x.2 false = 0 then readV s.hs.1 16 n x.2 else 0) f w) := by
  have hlt := hs.lt
  have hB := BoxI.start w pl 16 n tg hlt
  have h1 := hs.below ((Below.refl _ _).alloc (Nat.le_refl _) (.cells #[.int .i64 pl, .int .i64 16, .int .i64 n, .int .i64 tg] 128))
  have hp := hid (xpop h1)
  have HB := hid hB
  have hget := hid (fun (W : World) (hT : Two a a w W) => pnumber_any K.b K.gC _ K.A s.hs x.2 W (h.two hT ha).phr hx)
  have e : readV s.hs.1 16 n x.2 = (cellAt s.hs.1 x.2).num := rfl
  rw [← e] at hget
  generalize (if wantsC s.hs.1 x.2 false = 0 then readV s.hs.1 16 n x.2 else 0) = v at *
  generalize wantsC s.hs.1 x.2 false = q at *
  obtain ⟨xf, xv⟩ := x
  simp only at hp hget ⊢
  unfold insV
  clear h hs h1 hB ha e
  go_enter Tryz.func93, Tryz.ntmps93
  go_wp2_with fail
  refine hp.out.mono ?_
  clear hp
  intro e w2 hh
  obtain ⟨hx, hS, hO⟩ := hh
  subst e
  have hB2 := HB.out.only hO
  have hg := hid (hget.out w2 hB2.two)
  have c1 := hB2.c1
  have c2 := hB2.c2
  have HP := hid (xpush hS hst (f, v))
  have HT := hid hB2.two
  clear hS hO hB2 hget HB
  go_wp2_with fail
  refine hg.out.mono ?_
  clear hg
  intro e w3 hh
  obtain ⟨hx, hw⟩ := hh
  subst e
  subst w3
  go_wp2_with fail
  refine HP.out.mono ?_
  clear HP
  intro e w3 hh
  obtain ⟨hx, hS, hO⟩ := hh
  subst e
  have HS := hid hS
  have HO := hid hO
  clear hS hO
  go_wp2_with fail
  go_ret
  exact ⟨rfl, HS.out, HT.out.trans (Two.of_only HO.out)⟩
theorem read_24 {w : World} {K : PK} {vI vO : Value} {lo4 st8 : List Int} {s : MS} {a : Nat} {nx : Int} {lo st : List (Bool × Int)} {x : Bool × Int} (h : PM w K vI vO lo4 st8 s) (hs : SX w a nx lo (st ++ [x])) (hst : st.length < 8) (ha : ¬ K.In vO a) (hx : x.2 < (s.hs.1.length : Int)) (f : Bool) (pl tg : Nat) :
    Calls Tryz.prog 93 #[.pointer (some ⟨K.b, 0, none⟩), insV pl 24 0 tg, .pointer (some ⟨a, 0, none⟩)] w (CellPost a nx lo st (wantsC s.hs.1 x.2 true) (if wantsC s.hs.1 x.2 true = 0 then readV s.hs.1 24 0 x.2 else 0) f w) := by
  have hlt := hs.lt
  have hB := BoxI.start w pl 24 0 tg hlt
  have h1 := hs.below ((Below.refl _ _).alloc (Nat.le_refl _) (.cells #[.int .i64 pl, .int .i64 24, .int .i64 (0 : Nat), .int .i64 tg] 128))
  have hp := hid (xpop h1)
  have HB := hid hB
  have hget := hid (fun (W : World) (hT : Two a a w W) => ppeek_any K.b K.gC _ K.A s.hs x.2 W (h.two hT ha).phr hx)
  have e : readV s.hs.1 24 0 x.2 = (cellAt s.hs.1 x.2).a := rfl
  rw [← e] at hget
  generalize (if wantsC s.hs.1 x.2 true = 0 then readV s.hs.1 24 0 x.2 else 0) = v at *
  generalize wantsC s.hs.1 x.2 true = q at *
  obtain ⟨xf, xv⟩ := x
  simp only at hp hget ⊢
  unfold insV
  clear h hs h1 hB ha e
  go_enter Tryz.func93, Tryz.ntmps93
  go_wp2_with fail
  refine hp.out.mono ?_
  clear hp
  intro e w2 hh
  obtain ⟨hx, hS, hO⟩ := hh
  subst e
  have hB2 := HB.out.only hO
  have hg := hid (hget.out w2 hB2.two)
  have c1 := hB2.c1
  have c2 := hB2.c2
  have HP := hid (xpush hS hst (f, v))
  have HT := hid hB2.two
  clear hS hO hB2 hget HB
  go_wp2_with fail
  refine hg.out.mono ?_
  clear hg
  intro e w3 hh
  obtain ⟨hx, hw⟩ := hh
  subst e
  subst w3
  go_wp2_with fail
  refine HP.out.mono ?_
  clear HP
  intro e w3 hh
  obtain ⟨hx, hS, hO⟩ := hh
  subst e
  have HS := hid hS
  have HO := hid hO
  clear hS hO
  go_wp2_with fail
  go_ret
  exact ⟨rfl, HS.out, HT.out.trans (Two.of_only HO.out)⟩
def WritePost (K : PK) (vI vO : Value) (lo4 st8 : List Int) (a : Nat) (nx : Int) (lo st : List (Bool × Int)) (q : Int) (s' : MS) (w : World) (e : Ending) (w' : World) : Prop :=
  e = .returned (.int .i64 q) ∧ SX w' a nx lo st ∧ PM w' K vI vO lo4 st8 s' ∧ Two a K.gC w w'
theorem PM.only {w w' : World} {K : PK} {vI vO : Value} {lo4 st8 : List Int} {s : MS} (h : PM w K vI vO lo4 st8 s) {h' : HSt} (hp : PHR w' K.b K.gC (K.ck vI vO lo4 st8 s) K.A h') (hl : h'.1.length = s.hs.1.length) (ho : Only K.gC w w') : PM w' K vI vO lo4 st8 { s with hs := h' } := h.of_phr hp hl ⟨ho.os, ho.tape, ho.output, by rw [ho.size]; exact Nat.le_refl _, fun k _ _ h2 => ho.block k h2⟩
theorem setPost_len (hs : HSt) (r : Int) (n : Nat) (v : Int) : (setPost hs r n v).1.length = hs.1.length := by
  unfold setPost storeC
  split
  · simp only
    split
    · rw [reachC_len]; simp
    · simp
  · rfl
theorem notePost_len (hs : HSt) (r : Int) (v : Int) : (notePost hs r v).1.length = hs.1.length := by
  unfold notePost
  split
  · simp
  · rfl
theorem write_15 {w : World} {K : PK} {vI vO : Value} {lo4 st8 : List Int} {s : MS} {a : Nat} {nx : Int} {lo st : List (Bool × Int)} {x y : Bool × Int} (h : PM w K vI vO lo4 st8 s) (hs : SX w a nx lo ((st ++ [x]) ++ [y])) (ha : ¬ K.In vO a) (hx : x.2 < (s.hs.1.length : Int)) (pl n tg : Nat) :
    Calls Tryz.prog 94 #[.pointer (some ⟨K.b, 0, none⟩), insV pl 15 n tg, .pointer (some ⟨a, 0, none⟩)] w (WritePost K vI vO lo4 st8 a nx lo st (wantsC s.hs.1 x.2 false) { s with hs := setPost s.hs x.2 n y.2 } w) := by
  have hlt := hs.lt
  have hB := BoxI.start w pl 15 n tg hlt
  have h1 := hs.below ((Below.refl _ _).alloc (Nat.le_refl _) (.cells #[.int .i64 pl, .int .i64 15, .int .i64 n, .int .i64 tg] 128))
  have hag : a ≠ K.gC := fun e => ha (.inl ⟨e ▸ h.c1, e ▸ h.c2⟩)
  have hp := hid (xpop h1)
  have HB := hid hB
  have hset : Hid (∀ (W : World), Two a a w W → Calls Tryz.prog 121 #[.pointer (some ⟨K.b, 21, none⟩), .int .i64 x.2, .int .i64 n, .int .i64 y.2] W fun e w' => e = .returned (.int .i64 (wantsC s.hs.1 x.2 false)) ∧ PM w' K vI vO lo4 st8 { s with hs := setPost s.hs x.2 n y.2 } ∧ Only K.gC W w') := hid (fun W hT => by
    have hm := h.two hT ha
    refine (pset_any K.b K.gC _ K.A s.hs x.2 n y.2 W hm.phr hx).mono ?_
    rintro e w' ⟨a1, a2, a3⟩
    exact ⟨a1, hm.only a2 (setPost_len _ _ _ _) a3, a3⟩)
  generalize setPost s.hs x.2 n y.2 = hs' at *
  generalize wantsC s.hs.1 x.2 false = q at *
  obtain ⟨xf, xv⟩ := x
  obtain ⟨yf, yv⟩ := y
  simp only at hp hset ⊢
  unfold insV
  clear h hs h1 hB ha
  go_enter Tryz.func94, Tryz.ntmps94
  go_wp2_with fail
  refine hp.out.mono ?_
  clear hp
  intro e w2 hh
  obtain ⟨hx, hS, hO⟩ := hh
  subst e
  have hB2 := HB.out.only hO
  have hp := hid (xpop hS)
  have HB2 := hid hB2
  clear hS hO hB2 HB
  go_wp2_with fail
  refine hp.out.mono ?_
  clear hp
  intro e w3 hh
  obtain ⟨hx, hS, hO⟩ := hh
  subst e
  have hB3 := HB2.out.only hO
  have c1 := hB3.c1
  have c2 := hB3.c2
  have hg := hid (hset.out w3.drew hB3.two.drew)
  have HT := hid hB3.two
  have HS := hid hS
  clear hS hO hB3 hset HB2
  go_wp2_with fail
  go_region_law ((go_simp; go_at_call 121; refine hg.out.mono ?_; intro e w4 hh; obtain ⟨hx, hM, hO⟩ := hh; subst e; have HM := hid hM; have HO := hid hO; clear hM hO; dsimp only))
  clear hg
  go_wp2_with fail
  go_ret
  exact ⟨rfl, HS.out.keep (HO.out.block _ hag), HM.out, ⟨(HO.out.os).trans HT.out.os, HO.out.tape.trans HT.out.tape, HO.out.output.trans HT.out.output, by rw [HO.out.size]; exact HT.out.size, fun k hk k1 k2 => (HO.out.block k k2).trans (HT.out.block k hk k1 k1)⟩⟩
theorem write_17 {w : World} {K : PK} {vI vO : Value} {lo4 st8 : List Int} {s : MS} {a : Nat} {nx : Int} {lo st : List (Bool × Int)} {x y : Bool × Int} (h : PM w K vI vO lo4 st8 s) (hs : SX w a nx lo ((st ++ [x]) ++ [y])) (ha : ¬ K.In vO a) (hx : x.2 < (s.hs.1.length : Int)) (pl n tg : Nat) :
    Calls Tryz.prog 94 #[.pointer (some ⟨K.b, 0, none⟩), insV pl 17 n tg, .pointer (some ⟨a, 0, none⟩)] w (WritePost K vI vO lo4 st8 a nx lo st (wantsC s.hs.1 x.2 false) { s with hs := notePost s.hs x.2 y.2 } w) := by
  have hlt := hs.lt
  have hB := BoxI.start w pl 17 n tg hlt
  have h1 := hs.below ((Below.refl _ _).alloc (Nat.le_refl _) (.cells #[.int .i64 pl, .int .i64 17, .int .i64 n, .int .i64 tg] 128))
  have hag : a ≠ K.gC := fun e => ha (.inl ⟨e ▸ h.c1, e ▸ h.c2⟩)
  have hp := hid (xpop h1)
  have HB := hid hB
  have hset : Hid (∀ (W : World), Two a a w W → Calls Tryz.prog 122 #[.pointer (some ⟨K.b, 21, none⟩), .int .i64 x.2, .int .i64 y.2] W fun e w' => e = .returned (.int .i64 (wantsC s.hs.1 x.2 false)) ∧ PM w' K vI vO lo4 st8 { s with hs := notePost s.hs x.2 y.2 } ∧ Only K.gC W w') := hid (fun W hT => by
    have hm := h.two hT ha
    refine (pnote_any K.b K.gC _ K.A s.hs x.2 y.2 W hm.phr hx).mono ?_
    rintro e w' ⟨a1, a2, a3⟩
    exact ⟨a1, hm.only a2 (notePost_len _ _ _) a3, a3⟩)
  generalize notePost s.hs x.2 y.2 = hs' at *
  generalize wantsC s.hs.1 x.2 false = q at *
  obtain ⟨xf, xv⟩ := x
  obtain ⟨yf, yv⟩ := y
  simp only at hp hset ⊢
  unfold insV
  clear h hs h1 hB ha
  go_enter Tryz.func94, Tryz.ntmps94
  go_wp2_with fail
  refine hp.out.mono ?_
  clear hp
  intro e w2 hh
  obtain ⟨hx, hS, hO⟩ := hh
  subst e
  have hB2 := HB.out.only hO
  have hp := hid (xpop hS)
  have HB2 := hid hB2
  clear hS hO hB2 HB
  go_wp2_with fail
  refine hp.out.mono ?_
  clear hp
  intro e w3 hh
  obtain ⟨hx, hS, hO⟩ := hh
  subst e
  have hB3 := HB2.out.only hO
  have c1 := hB3.c1
  have c2 := hB3.c2
  have hg := hid (hset.out w3 hB3.two)
  have HT := hid hB3.two
  have HS := hid hS
  clear hS hO hB3 hset HB2
  go_wp2_with fail
  refine hg.out.mono ?_
  clear hg
  intro e w4 hh
  obtain ⟨hx, hM, hO⟩ := hh
  subst e
  have HM := hid hM
  have HO := hid hO
  clear hM hO
  go_wp2_with fail
  go_ret
  exact ⟨rfl, HS.out.keep (HO.out.block _ hag), HM.out, ⟨(HO.out.os).trans HT.out.os, HO.out.tape.trans HT.out.tape, HO.out.output.trans HT.out.output, by rw [HO.out.size]; exact HT.out.size, fun k hk k1 k2 => (HO.out.block k k2).trans (HT.out.block k hk k1 k1)⟩⟩
def Tri (K : PK) (a : Nat) (k : Nat) : Prop := k = K.b ∨ k = K.gC ∨ k = a
/-- What New and Weak leave: the heap is full, or a cell is taken. -/
def TkPost (K : PK) (vI vO : Value) (lo4 st8 : List Int) (a : Nat) (nx : Int) (lo st : List (Bool × Int)) (s : MS) (t : Int × HSt) (f : RC → RC) (w : World) (e : Ending) (w' : World) : Prop :=
  Touch (Tri K a) w w' ∧ ((t.1 < 0 ∧ e = .returned (.int .i64 5) ∧ PM w' K vI vO lo4 st8 { s with hs := t.2 }) ∨
    (0 ≤ t.1 ∧ e = .returned (.int .i64 0) ∧ PM w' K vI vO lo4 st8 { s with hs := (t.2.1.modify t.1.toNat f, t.2.2) } ∧ SX w' a nx lo (st ++ [(true, t.1)])))
theorem PM.hs_len {w : World} {K : PK} {vI vO : Value} {lo4 st8 : List Int} {s : MS} {h1 h2 : HSt} (h : PM w K vI vO lo4 st8 { s with hs := h1 }) {w' : World} (hp : PHR w' K.b K.gC (K.ck vI vO lo4 st8 { s with hs := h1 }) K.A h2) (hl : h2.1.length = h1.1.length) (ht : Two K.b K.gC w w') : PM w' K vI vO lo4 st8 { s with hs := h2 } := h.of_phr hp hl ht
theorem beginC_len (h : HSt) : (beginC h).2.1.length = h.1.length := by
  show (h.1.set _ _).length = _
  simp
theorem take_13 {w : World} {K : PK} {E : Env} {vI vO : Value} {lo4 st8 : List Int} {s : MS} {a : Nat} {nx : Int} {lo st : List (Bool × Int)} (h : PM w K vI vO lo4 st8 s) (hke : KE K E) (he : EnvOk E) (hi : MInv E s) (hs : SX w a nx lo st) (hst : st.length < 8) (ha : ¬ K.In vO a) :
    Calls Tryz.prog 92 #[.pointer (some ⟨K.b, 0, none⟩), .int .i64 13, .pointer (some ⟨a, 0, none⟩)] w (TkPost K vI vO lo4 st8 a nx lo st s (takeC (rootsS E s) s.hs) id w) := by
  have hrt := hid (proots_m h hke he hi)
  have hk := hi.hh
  have hrl := hi.rootsLen he
  have hgz : K.gC < w.heap.size := by have := h.c2; have := h.z; omega
  have hbz : K.b < w.heap.size := by have := h.b2; have := h.z; omega
  have hab : a ≠ K.b := fun e => ha (.inl ⟨e ▸ h.b1, e ▸ h.b2⟩)
  have hag : a ≠ K.gC := fun e => ha (.inl ⟨e ▸ h.c1, e ▸ h.c2⟩)
  have HE := hid (takeC_room (rootsS E s) s.hs)
  generalize rootsS E s = rs at *
  have hkr := hk.room rs
  have hlr : (roomC rs s.hs).1.length = s.hs.1.length := by rw [hkr.len, hk.len]
  have hmr := hid (fun (W : World) (hb : Below w.heap.size w W) (v : Value) (hv : RefsAt W K.gC v rs) (hvb : ∀ a n c, v = .slice (some a) n c → a.block ≠ K.b) => by
    have hm := h.below hb
    have := (makeRoom_any K.b K.gC _ K.A E.n s.hs rs v W hm.phr hk hrl hv hvb).mono (R' := fun e w' => e = .returned (.tuple #[]) ∧ PM w' K vI vO lo4 st8 { s with hs := roomC rs s.hs } ∧ Two K.b K.gC W w') (by
      rintro e w' ⟨a1, a2, a3⟩
      exact ⟨a1, hm.of_phr a2 hlr a3, a3⟩)
    exact this)
  have htk := hid (fun (W : World) (hW : PM W K vI vO lo4 st8 { s with hs := roomC rs s.hs }) => by
    have := (takePlain_any K.b K.gC _ K.A E.n (roomC rs s.hs) W hW.phr hkr).mono (R' := fun e w' => (lowC (roomC rs s.hs) < 0 ∧ e = .returned (.tuple #[.int .i64 0, .bool false]) ∧ PM w' K vI vO lo4 st8 { s with hs := roomC rs s.hs } ∧ Two K.b K.gC W w') ∨ (0 ≤ lowC (roomC rs s.hs) ∧ e = .returned (.tuple #[.int .i64 (lowC (roomC rs s.hs)), .bool true]) ∧ PM w' K vI vO lo4 st8 { s with hs := ((beginC (roomC rs s.hs)).2.1.modify (lowC (roomC rs s.hs)).toNat id, (roomC rs s.hs).2) } ∧ Two K.b K.gC W w')) (by
      rintro e w' (⟨a1, a2, a3, a4⟩ | ⟨a1, a2, a3, a4⟩)
      · exact .inl ⟨a1, a2, hW.hs_len a3 rfl a4, a4⟩
      · exact .inr ⟨a1, a2, hW.hs_len a3 (by simp [beginC_len]) a4, a4⟩)
    exact this)
  have HS := hid hs
  have FIN : Hid (∀ (e : Ending) (w' : World), Touch (Tri K a) w w' → ((lowC (roomC rs s.hs) < 0 ∧ e = .returned (.int .i64 5) ∧ PM w' K vI vO lo4 st8 { s with hs := roomC rs s.hs }) ∨ (0 ≤ lowC (roomC rs s.hs) ∧ e = .returned (.int .i64 0) ∧ PM w' K vI vO lo4 st8 { s with hs := ((beginC (roomC rs s.hs)).2.1.modify (lowC (roomC rs s.hs)).toNat id, (roomC rs s.hs).2) } ∧ SX w' a nx lo (st ++ [(true, lowC (roomC rs s.hs))]))) → TkPost K vI vO lo4 st8 a nx lo st s (takeC rs s.hs) id w e w') := hid (by
    intro e w' ht hc
    refine ⟨ht, ?_⟩
    rw [HE.out]
    rcases hc with ⟨c1, c2, c3⟩ | ⟨c1, c2, c3, c4⟩
    · rw [if_neg (by omega)]
      exact .inl ⟨by simp, c2, c3⟩
    · rw [if_pos c1]
      exact .inr ⟨c1, c2, c3, c4⟩)
  generalize takeC rs s.hs = tk at *
  clear h hs hke he hi hk hkr hlr HE
  go_enter Tryz.func92, Tryz.ntmps92
  go_wp2_with fail
  refine hrt.out.mono ?_
  clear hrt
  intro x w1 hh
  obtain ⟨hb1, v, hx, ho⟩ := hh
  subst x
  have hrf := refs_of ho hgz
  obtain ⟨p0, c0, e0⟩ := hrf.1.slice
  have hm1 := hid (hmr.out w1 hb1 v hrf.1 (fun a n c e => by have := hrf.2 a n c e; omega))
  have hs1 := HS.out.below hb1
  have HS1 := hid hs1
  have haz := HS.out.lt
  have HB1 := hid hb1
  subst e0
  clear hmr ho hrf hb1 hs1 HS
  go_wp2_with fail
  refine hm1.out.mono ?_
  clear hm1
  intro x w2 hh
  obtain ⟨hx, hM, hT⟩ := hh
  subst x
  have hs2 := HS1.out.keep (hT.block a (by have := HB1.out.size; omega) hab hag)
  have ht3 := hid (htk.out w2 hM)
  have HS3 := hid hs2
  have HT := hid hT
  clear hs2 hM hT HS1 htk
  go_wp2_with fail
  refine ht3.out.mono ?_
  clear ht3
  intro x w4 hh
  have T02 : Touch (Tri K a) w w2 := (Touch.below HB1.out).trans (Touch.two HT.out (F := Tri K a) (.inl rfl) (.inr (.inl rfl))) (fun _ _ h => h)
  have haz3 : a < w2.heap.size := HS3.out.lt
  rcases hh with ⟨d1, hx, hM4, hT4⟩ | ⟨d1, hx, hM4, hT4⟩
  · subst x
    have HT4 := hid (T02.trans (Touch.two hT4 (F := Tri K a) (.inl rfl) (.inr (.inl rfl))) (fun _ _ h => h))
    have HM4 := hid hM4
    clear hM4 hT4 T02
    go_wp2_with fail
    go_ret
    exact FIN.out _ _ HT4.out (.inl ⟨d1, rfl, HM4.out⟩)
  · subst x
    have hs4 := HS3.out.keep (hT4.block a haz3 hab hag)
    have hp := hid (xpush hs4 hst (true, lowC (roomC rs s.hs)))
    have HT4 := hid (T02.trans (Touch.two hT4 (F := Tri K a) (.inl rfl) (.inr (.inl rfl))) (fun _ _ h => h))
    have HM4 := hid hM4
    simp only at hp
    clear hM4 hT4 hs4 T02
    generalize lowC (roomC rs s.hs) = cl at *
    go_wp2_with fail
    refine hp.out.mono ?_
    clear hp
    intro x w5 hh
    obtain ⟨hx, hS5, hO5⟩ := hh
    subst x
    have HS5 := hid hS5
    have HM5 := hid (HM4.out.two (Two.of_only hO5) ha)
    have HT5 := hid (HT4.out.trans (Touch.two (Two.of_only hO5) (F := Tri K a) (.inr (.inr rfl)) (.inr (.inr rfl))) (fun _ _ h => h))
    clear hS5 hO5
    go_wp2_with fail
    go_ret
    exact FIN.out _ _ HT5.out (.inr ⟨d1, rfl, HM5.out, HS5.out⟩)
theorem take_23 {w : World} {K : PK} {E : Env} {vI vO : Value} {lo4 st8 : List Int} {s : MS} {a : Nat} {nx : Int} {lo st : List (Bool × Int)} {x : Bool × Int} (h : PM w K vI vO lo4 st8 s) (hke : KE K E) (he : EnvOk E) (hi : MInv E s) (hs : SX w a nx lo (st ++ [x])) (hst : st.length < 8) (ha : ¬ K.In vO a) :
    Calls Tryz.prog 92 #[.pointer (some ⟨K.b, 0, none⟩), .int .i64 23, .pointer (some ⟨a, 0, none⟩)] w (TkPost K vI vO lo4 st8 a nx lo st s (takeC (rootsS E s) s.hs) (weakS x.2) w) := by
  have hrt := hid (proots_m h hke he hi)
  have hk := hi.hh
  have hrl := hi.rootsLen he
  have hgz : K.gC < w.heap.size := by have := h.c2; have := h.z; omega
  have hbz : K.b < w.heap.size := by have := h.b2; have := h.z; omega
  have hab : a ≠ K.b := fun e => ha (.inl ⟨e ▸ h.b1, e ▸ h.b2⟩)
  have hag : a ≠ K.gC := fun e => ha (.inl ⟨e ▸ h.c1, e ▸ h.c2⟩)
  have HE := hid (takeC_room (rootsS E s) s.hs)
  generalize rootsS E s = rs at *
  have hkr := hk.room rs
  have hlr : (roomC rs s.hs).1.length = s.hs.1.length := by rw [hkr.len, hk.len]
  have hmr := hid (fun (W : World) (hb : Below w.heap.size w W) (v : Value) (hv : RefsAt W K.gC v rs) (hvb : ∀ a n c, v = .slice (some a) n c → a.block ≠ K.b) => by
    have hm := h.below hb
    have := (makeRoom_any K.b K.gC _ K.A E.n s.hs rs v W hm.phr hk hrl hv hvb).mono (R' := fun e w' => e = .returned (.tuple #[]) ∧ PM w' K vI vO lo4 st8 { s with hs := roomC rs s.hs } ∧ Two K.b K.gC W w') (by
      rintro e w' ⟨a1, a2, a3⟩
      exact ⟨a1, hm.of_phr a2 hlr a3, a3⟩)
    exact this)
  have htk := hid (fun (W : World) (hW : PM W K vI vO lo4 st8 { s with hs := roomC rs s.hs }) (r : Int) => by
    have := (takeWeak_any K.b K.gC _ K.A E.n (roomC rs s.hs) r W hW.phr hkr).mono (R' := fun e w' => (lowC (roomC rs s.hs) < 0 ∧ e = .returned (.tuple #[.int .i64 0, .bool false]) ∧ PM w' K vI vO lo4 st8 { s with hs := roomC rs s.hs } ∧ Two K.b K.gC W w') ∨ (0 ≤ lowC (roomC rs s.hs) ∧ e = .returned (.tuple #[.int .i64 (lowC (roomC rs s.hs)), .bool true]) ∧ PM w' K vI vO lo4 st8 { s with hs := ((beginC (roomC rs s.hs)).2.1.modify (lowC (roomC rs s.hs)).toNat (weakS r), (roomC rs s.hs).2) } ∧ Two K.b K.gC W w')) (by
      rintro e w' (⟨a1, a2, a3, a4⟩ | ⟨a1, a2, a3, a4⟩)
      · exact .inl ⟨a1, a2, hW.hs_len a3 rfl a4, a4⟩
      · exact .inr ⟨a1, a2, hW.hs_len a3 (by simp [beginC_len]) a4, a4⟩)
    exact this)
  have HS := hid hs
  have FIN : Hid (∀ (e : Ending) (w' : World), Touch (Tri K a) w w' → ((lowC (roomC rs s.hs) < 0 ∧ e = .returned (.int .i64 5) ∧ PM w' K vI vO lo4 st8 { s with hs := roomC rs s.hs }) ∨ (0 ≤ lowC (roomC rs s.hs) ∧ e = .returned (.int .i64 0) ∧ PM w' K vI vO lo4 st8 { s with hs := ((beginC (roomC rs s.hs)).2.1.modify (lowC (roomC rs s.hs)).toNat (weakS x.2), (roomC rs s.hs).2) } ∧ SX w' a nx lo (st ++ [(true, lowC (roomC rs s.hs))]))) → TkPost K vI vO lo4 st8 a nx lo st s (takeC rs s.hs) (weakS x.2) w e w') := hid (by
    intro e w' ht hc
    refine ⟨ht, ?_⟩
    rw [HE.out]
    rcases hc with ⟨c1, c2, c3⟩ | ⟨c1, c2, c3, c4⟩
    · rw [if_neg (by omega)]
      exact .inl ⟨by simp, c2, c3⟩
    · rw [if_pos c1]
      exact .inr ⟨c1, c2, c3, c4⟩)
  obtain ⟨xf, xv⟩ := x
  simp only at FIN ⊢
  generalize takeC rs s.hs = tk at *
  clear h hs hke he hi hk hkr hlr HE
  go_enter Tryz.func92, Tryz.ntmps92
  go_wp2_with fail
  refine hrt.out.mono ?_
  clear hrt
  intro x w1 hh
  obtain ⟨hb1, v, hx, ho⟩ := hh
  subst x
  have hrf := refs_of ho hgz
  obtain ⟨p0, c0, e0⟩ := hrf.1.slice
  have hm1 := hid (hmr.out w1 hb1 v hrf.1 (fun a n c e => by have := hrf.2 a n c e; omega))
  have hs1 := HS.out.below hb1
  have HS1 := hid hs1
  have haz := HS.out.lt
  have HB1 := hid hb1
  subst e0
  clear hmr ho hrf hb1 hs1 HS
  go_wp2_with fail
  refine hm1.out.mono ?_
  clear hm1
  intro x w2 hh
  obtain ⟨hx, hM, hT⟩ := hh
  subst x
  have hs2 := HS1.out.keep (hT.block a (by have := HB1.out.size; omega) hab hag)
  have hp := hid (xpop hs2)
  have HM := hid hM
  have HT := hid hT
  clear hs2 hM hT HS1
  go_wp2_with fail
  refine hp.out.mono ?_
  clear hp
  intro x w3 hh
  obtain ⟨hx, hS, hO⟩ := hh
  subst x
  have hm3 := HM.out.two (Two.of_only hO) ha
  have ht3 := hid (htk.out w3 hm3 xv)
  have HS3 := hid hS
  have HO3 := hid hO
  clear hm3 hS hO htk HM
  go_wp2_with fail
  refine ht3.out.mono ?_
  clear ht3
  intro x w4 hh
  have T02 : Touch (Tri K a) w w3 := (Touch.below HB1.out).trans ((Touch.two HT.out (F := Tri K a) (.inl rfl) (.inr (.inl rfl))).trans (Touch.two (Two.of_only HO3.out) (F := Tri K a) (.inr (.inr rfl)) (.inr (.inr rfl))) (fun _ _ h => h)) (fun _ _ h => h)
  have haz3 : a < w3.heap.size := HS3.out.lt
  rcases hh with ⟨d1, hx, hM4, hT4⟩ | ⟨d1, hx, hM4, hT4⟩
  · subst x
    have HT4 := hid (T02.trans (Touch.two hT4 (F := Tri K a) (.inl rfl) (.inr (.inl rfl))) (fun _ _ h => h))
    have HM4 := hid hM4
    clear hM4 hT4 T02
    go_wp2_with fail
    go_ret
    exact FIN.out _ _ HT4.out (.inl ⟨d1, rfl, HM4.out⟩)
  · subst x
    have hs4 := HS3.out.keep (hT4.block a haz3 hab hag)
    have hp := hid (xpush hs4 hst (true, lowC (roomC rs s.hs)))
    have HT4 := hid (T02.trans (Touch.two hT4 (F := Tri K a) (.inl rfl) (.inr (.inl rfl))) (fun _ _ h => h))
    have HM4 := hid hM4
    simp only at hp
    clear hM4 hT4 hs4 T02
    generalize lowC (roomC rs s.hs) = cl at *
    go_wp2_with fail
    refine hp.out.mono ?_
    clear hp
    intro x w5 hh
    obtain ⟨hx, hS5, hO5⟩ := hh
    subst x
    have HS5 := hid hS5
    have HM5 := hid (HM4.out.two (Two.of_only hO5) ha)
    have HT5 := hid (HT4.out.trans (Touch.two (Two.of_only hO5) (F := Tri K a) (.inr (.inr rfl)) (.inr (.inr rfl))) (fun _ _ h => h))
    clear hS5 hO5
    go_wp2_with fail
    go_ret
    exact FIN.out _ _ HT5.out (.inr ⟨d1, rfl, HM5.out, HS5.out⟩)
def DoF (K : PK) (vO : Value) (a : Nat) (k : Nat) : Prop := K.In vO k ∨ k = a
/-- What do answers and leaves, where the step makes t of s. -/
structure DoPost (K : PK) (vO : Value) (lo4 st8 : List Int) (a : Nat) (nx : Int) (s t : MS) (w : World) (e : Ending) (w' : World) : Prop where
  e : e = .returned (.int .i64 t.oc)
  m : ∃ vI' vO', PM w' K vI' vO' lo4 st8 (midS s t) ∧ ∀ g, vO'.ownBlock = some g → vO.ownBlock = some g ∨ w.heap.size ≤ g
  touch : Touch (DoF K vO a) w w'
  on : t.oc = 0 → SX w' a t.at_ t.lo t.st
  halt : t.oc = 1 → SX w' a nx s.lo s.st
theorem two_touch {K : PK} {vO : Value} {a : Nat} {w w' : World} (h : Two a a w w') : Touch (DoF K vO a) w w' := Touch.two h (.inr rfl) (.inr rfl)
/-- The standing of the machine ahead of a step, for do. -/
structure DoPre (K : PK) (E : Env) (vI vO : Value) (lo4 st8 : List Int) (a : Nat) (s : MS) (i : Ins) (w : World) : Prop where
  m : PM w K vI vO lo4 st8 s
  ke : KE K E
  ok : EnvOk E
  inv : MInv E s
  oc : s.oc = 0
  can : CanI E s i
  sx : SX w a ((s.at_ + 1 : Nat) : Int) s.lo s.st
  out : ¬ K.In vO a
def doV (E : Env) (i : Ins) : Value := insV i.place i.op i.n (aimOf E.l i)
theorem do_0 {w : World} {K : PK} {E : Env} {vI vO : Value} {lo4 st8 : List Int} {s : MS} {a : Nat} {i : Ins} (h : DoPre K E vI vO lo4 st8 a s i w) (ho : i.op = 0) :
    Calls Tryz.prog 55 #[.pointer (some ⟨K.b, 0, none⟩), doV E i, .pointer (some ⟨a, 0, none⟩)] w (DoPost K vO lo4 st8 a ((s.at_ + 1 : Nat) : Int) s (stepI E i s) w) := by
  have HE := hid (step_halt (E := E) (s := s) ho)
  have hB := BoxI.start w i.place i.op i.n (aimOf E.l i) h.sx.lt
  have HT := hid hB.two
  have h1 := hid (h.sx.below ((Below.refl _ _).alloc (Nat.le_refl _) (.cells #[.int .i64 i.place, .int .i64 i.op, .int .i64 i.n, .int .i64 (aimOf E.l i)] 128)))
  have hm := hid (h.m.two hB.two h.out)
  obtain ⟨op, n, pl⟩ := i
  simp only at ho
  subst ho
  unfold doV insV
  generalize aimOf E.l ⟨0, n, pl⟩ = tg at *
  simp only at hm h1 HT
  clear h hB
  go_enter Tryz.func55, Tryz.ntmps55
  go_wp2_with fail
  go_ret
  rw [HE.out]
  exact ⟨rfl, ⟨vI, vO, hm.out, fun g hg => .inl hg⟩, two_touch HT.out, fun e => by (cases e), fun _ => h1.out⟩
/-- The end of an instruction on locals and stack alone. -/
theorem do_fin {w w' : World} {K : PK} {E : Env} {vI vO : Value} {lo4 st8 : List Int} {s : MS} {a : Nat} {i : Ins} {e : Ending} {nx : Int} {lo st : List (Bool × Int)} (hst : stepI E i s = goS E i (-1) s) (hoc : s.oc = 0) (hd : doesS E i (-1) s = { s with lo := lo, st := st }) (hto : nx = (toS E i s : Int)) (he : e = .returned (.int .i64 0)) (hm : PM w' K vI vO lo4 st8 s) (ht : Two a a w w') (hs : SX w' a nx lo st) :
    DoPost K vO lo4 st8 a ((s.at_ + 1 : Nat) : Int) s (stepI E i s) w e w' := by
  rw [hst]
  unfold goS
  rw [hd]
  subst hto
  refine ⟨by rw [he]; simp only [hoc]; rfl, ⟨vI, vO, hm, fun g hg => .inl hg⟩, two_touch ht, fun _ => hs, fun e1 => ?_⟩
  simp only [hoc] at e1
  cases e1
theorem do_1 {w : World} {K : PK} {E : Env} {vI vO : Value} {lo4 st8 : List Int} {s : MS} {a : Nat} {i : Ins} (h : DoPre K E vI vO lo4 st8 a s i w) (ho : i.op = 1) :
    Calls Tryz.prog 55 #[.pointer (some ⟨K.b, 0, none⟩), doV E i, .pointer (some ⟨a, 0, none⟩)] w (DoPost K vO lo4 st8 a ((s.at_ + 1 : Nat) : Int) s (stepI E i s) w) := by
  have HE : Hid (stepI E i s = goS E i (-1) s) := hid (step_go (by rw [ho]; exact ends_other (by decide) (by decide) (by decide) (by decide) (by decide) (by decide) (by decide)) (by omega) (by omega))
  have hB := BoxI.start w i.place i.op i.n (aimOf E.l i) h.sx.lt
  have h1 := h.sx.below ((Below.refl _ _).alloc (Nat.le_refl _) (.cells #[.int .i64 i.place, .int .i64 i.op, .int .i64 i.n, .int .i64 (aimOf E.l i)] 128))
  have hm := hid (h.m.two hB.two h.out)
  have hoc := h.oc
  have hn := h.ok.wf.num i h.can.mem
  have hlen := does_len h.ok h.inv h.can (by omega) (-1)
  have hl8 : s.st.length < 8 := by
    rw [show (doesS E i (-1) s).st = s.st ++ [(false, ((i.n : Int) + 128) % 256 - 128)] by unfold doesS; simp [ho]] at hlen
    simp at hlen
    omega
  have PO := h.out
  obtain ⟨op, n, pl⟩ := i
  simp only at ho
  subst ho
  have hc := hid (move_1 h1 pl n (aimOf E.l ⟨1, n, pl⟩) hl8 hn)
  have HT := hid hB.two
  have HOC := hid hoc
  unfold doV
  simp only at HT hm hc ⊢
  unfold insV at hc ⊢
  generalize hag : aimOf E.l ⟨1, n, pl⟩ = tg at *
  have HAG := hid hag
  clear h hB h1 hoc hag
  go_enter Tryz.func55, Tryz.ntmps55
  go_wp2_with fail
  refine hc.out.mono ?_
  clear hc
  intro e w2 hh
  obtain ⟨hx, hS, hT2⟩ := hh
  subst e
  have HS := hid hS
  have HM2 := hid (hm.out.two hT2 PO)
  have HT2 := hid (HT.out.trans hT2)
  clear hS hT2 hm HT
  go_wp2_with fail
  go_ret
  exact do_fin HE.out HOC.out rfl (by rw [to_next (by simp) (by simp)]) rfl HM2.out HT2.out HS.out
theorem do_7 {w : World} {K : PK} {E : Env} {vI vO : Value} {lo4 st8 : List Int} {s : MS} {a : Nat} {i : Ins} (h : DoPre K E vI vO lo4 st8 a s i w) (ho : i.op = 7) :
    Calls Tryz.prog 55 #[.pointer (some ⟨K.b, 0, none⟩), doV E i, .pointer (some ⟨a, 0, none⟩)] w (DoPost K vO lo4 st8 a ((s.at_ + 1 : Nat) : Int) s (stepI E i s) w) := by
  have HE : Hid (stepI E i s = goS E i (-1) s) := hid (step_go (by rw [ho]; exact ends_other (by decide) (by decide) (by decide) (by decide) (by decide) (by decide) (by decide)) (by omega) (by omega))
  have hB := BoxI.start w i.place i.op i.n (aimOf E.l i) h.sx.lt
  have h1 := h.sx.below ((Below.refl _ _).alloc (Nat.le_refl _) (.cells #[.int .i64 i.place, .int .i64 i.op, .int .i64 i.n, .int .i64 (aimOf E.l i)] 128))
  have hm := hid (h.m.two hB.two h.out)
  have hoc := h.oc
  have hn := h.ok.wf.arg i h.can.mem (.inl ho)
  rw [← h.inv.lo h.ok] at hn
  have hlen := does_len h.ok h.inv h.can (by omega) (-1)
  have hl8 : s.st.length < 8 := by
    rw [show (doesS E i (-1) s).st = s.st ++ [s.lo.getD i.n (false, 0)] by unfold doesS; simp [ho]] at hlen
    simp at hlen
    omega
  have PO := h.out
  obtain ⟨op, n, pl⟩ := i
  simp only at ho
  subst ho
  have hc := hid (move_7 h1 pl n (aimOf E.l ⟨7, n, pl⟩) hl8 hn)
  have HT := hid hB.two
  have HOC := hid hoc
  unfold doV
  simp only at HT hm hc ⊢
  unfold insV at hc ⊢
  generalize hag : aimOf E.l ⟨7, n, pl⟩ = tg at *
  have HAG := hid hag
  clear h hB h1 hoc hag
  go_enter Tryz.func55, Tryz.ntmps55
  go_wp2_with fail
  refine hc.out.mono ?_
  clear hc
  intro e w2 hh
  obtain ⟨hx, hS, hT2⟩ := hh
  subst e
  have HS := hid hS
  have HM2 := hid (hm.out.two hT2 PO)
  have HT2 := hid (HT.out.trans hT2)
  clear hS hT2 hm HT
  go_wp2_with fail
  go_ret
  exact do_fin HE.out HOC.out rfl (by rw [to_next (by simp) (by simp)]) rfl HM2.out HT2.out (by have h9 := HS.out; rw [← show s.lo.getD n (false, 0) = s.lo[n] by simp [List.getElem?_eq_getElem hn]] at h9; exact h9)
theorem do_8 {w : World} {K : PK} {E : Env} {vI vO : Value} {lo4 st8 : List Int} {s : MS} {a : Nat} {i : Ins} (h : DoPre K E vI vO lo4 st8 a s i w) (ho : i.op = 8) :
    Calls Tryz.prog 55 #[.pointer (some ⟨K.b, 0, none⟩), doV E i, .pointer (some ⟨a, 0, none⟩)] w (DoPost K vO lo4 st8 a ((s.at_ + 1 : Nat) : Int) s (stepI E i s) w) := by
  have HE : Hid (stepI E i s = goS E i (-1) s) := hid (step_go (by rw [ho]; exact ends_other (by decide) (by decide) (by decide) (by decide) (by decide) (by decide) (by decide)) (by omega) (by omega))
  have hB := BoxI.start w i.place i.op i.n (aimOf E.l i) h.sx.lt
  have h1 := h.sx.below ((Below.refl _ _).alloc (Nat.le_refl _) (.cells #[.int .i64 i.place, .int .i64 i.op, .int .i64 i.n, .int .i64 (aimOf E.l i)] 128))
  have hm := hid (h.m.two hB.two h.out)
  have hoc := h.oc
  have hn := h.ok.wf.arg i h.can.mem (.inr ho)
  rw [← h.inv.lo h.ok] at hn
  rw [st_one (can_one h.can (.inl ho))] at h1
  have PO := h.out
  obtain ⟨op, n, pl⟩ := i
  simp only at ho
  subst ho
  have hc := hid (move_8 h1 pl n (aimOf E.l ⟨8, n, pl⟩) hn)
  have HT := hid hB.two
  have HOC := hid hoc
  unfold doV
  simp only at HT hm hc ⊢
  unfold insV at hc ⊢
  generalize hag : aimOf E.l ⟨8, n, pl⟩ = tg at *
  have HAG := hid hag
  clear h hB h1 hoc hag
  go_enter Tryz.func55, Tryz.ntmps55
  go_wp2_with fail
  refine hc.out.mono ?_
  clear hc
  intro e w2 hh
  obtain ⟨hx, hS, hT2⟩ := hh
  subst e
  have HS := hid hS
  have HM2 := hid (hm.out.two hT2 PO)
  have HT2 := hid (HT.out.trans hT2)
  clear hS hT2 hm HT
  go_wp2_with fail
  go_ret
  exact do_fin HE.out HOC.out rfl (by rw [to_next (by simp) (by simp)]) rfl HM2.out HT2.out HS.out
theorem do_9 {w : World} {K : PK} {E : Env} {vI vO : Value} {lo4 st8 : List Int} {s : MS} {a : Nat} {i : Ins} (h : DoPre K E vI vO lo4 st8 a s i w) (ho : i.op = 9) :
    Calls Tryz.prog 55 #[.pointer (some ⟨K.b, 0, none⟩), doV E i, .pointer (some ⟨a, 0, none⟩)] w (DoPost K vO lo4 st8 a ((s.at_ + 1 : Nat) : Int) s (stepI E i s) w) := by
  have HE : Hid (stepI E i s = goS E i (-1) s) := hid (step_go (by rw [ho]; exact ends_other (by decide) (by decide) (by decide) (by decide) (by decide) (by decide) (by decide)) (by omega) (by omega))
  have hB := BoxI.start w i.place i.op i.n (aimOf E.l i) h.sx.lt
  have h1 := h.sx.below ((Below.refl _ _).alloc (Nat.le_refl _) (.cells #[.int .i64 i.place, .int .i64 i.op, .int .i64 i.n, .int .i64 (aimOf E.l i)] 128))
  have hm := hid (h.m.two hB.two h.out)
  have hoc := h.oc
  have hp := can_one h.can (.inr (.inl ho))
  have hlen := does_len h.ok h.inv h.can (by omega) (-1)
  have hl8 : s.st.length < 8 := by
    rw [show (doesS E i (-1) s).st = s.st ++ [lastW s.st 0] by unfold doesS; simp [ho]] at hlen
    simp at hlen
    omega
  rw [st_one hp] at h1
  have hl7 : (s.st.take (s.st.length - 1)).length < 7 := by rw [List.length_take]; omega
  have PO := h.out
  obtain ⟨op, n, pl⟩ := i
  simp only at ho
  subst ho
  have hc := hid (move_9 h1 pl n (aimOf E.l ⟨9, n, pl⟩) hl7)
  have HT := hid hB.two
  have HOC := hid hoc
  unfold doV
  simp only at HT hm hc ⊢
  unfold insV at hc ⊢
  generalize hag : aimOf E.l ⟨9, n, pl⟩ = tg at *
  have HAG := hid hag
  clear h hB h1 hoc hag
  go_enter Tryz.func55, Tryz.ntmps55
  go_wp2_with fail
  refine hc.out.mono ?_
  clear hc
  intro e w2 hh
  obtain ⟨hx, hS, hT2⟩ := hh
  subst e
  have HS := hid hS
  have HM2 := hid (hm.out.two hT2 PO)
  have HT2 := hid (HT.out.trans hT2)
  clear hS hT2 hm HT
  go_wp2_with fail
  go_ret
  exact do_fin HE.out HOC.out rfl (by rw [to_next (by simp) (by simp)]) rfl HM2.out HT2.out (by have h9 := HS.out; rw [← st_one hp] at h9; exact h9)
theorem do_10 {w : World} {K : PK} {E : Env} {vI vO : Value} {lo4 st8 : List Int} {s : MS} {a : Nat} {i : Ins} (h : DoPre K E vI vO lo4 st8 a s i w) (ho : i.op = 10) :
    Calls Tryz.prog 55 #[.pointer (some ⟨K.b, 0, none⟩), doV E i, .pointer (some ⟨a, 0, none⟩)] w (DoPost K vO lo4 st8 a ((s.at_ + 1 : Nat) : Int) s (stepI E i s) w) := by
  have HE : Hid (stepI E i s = goS E i (-1) s) := hid (step_go (by rw [ho]; exact ends_other (by decide) (by decide) (by decide) (by decide) (by decide) (by decide) (by decide)) (by omega) (by omega))
  have hB := BoxI.start w i.place i.op i.n (aimOf E.l i) h.sx.lt
  have h1 := h.sx.below ((Below.refl _ _).alloc (Nat.le_refl _) (.cells #[.int .i64 i.place, .int .i64 i.op, .int .i64 i.n, .int .i64 (aimOf E.l i)] 128))
  have hm := hid (h.m.two hB.two h.out)
  have hoc := h.oc
  rw [st_one (can_one h.can (.inr (.inr ho)))] at h1
  have PO := h.out
  obtain ⟨op, n, pl⟩ := i
  simp only at ho
  subst ho
  have hc := hid (move_10 h1 pl n (aimOf E.l ⟨10, n, pl⟩))
  have HT := hid hB.two
  have HOC := hid hoc
  unfold doV
  simp only at HT hm hc ⊢
  unfold insV at hc ⊢
  generalize hag : aimOf E.l ⟨10, n, pl⟩ = tg at *
  have HAG := hid hag
  clear h hB h1 hoc hag
  go_enter Tryz.func55, Tryz.ntmps55
  go_wp2_with fail
  refine hc.out.mono ?_
  clear hc
  intro e w2 hh
  obtain ⟨hx, hS, hT2⟩ := hh
  subst e
  have HS := hid hS
  have HM2 := hid (hm.out.two hT2 PO)
  have HT2 := hid (HT.out.trans hT2)
  clear hS hT2 hm HT
  go_wp2_with fail
  go_ret
  exact do_fin HE.out HOC.out rfl (by rw [to_next (by simp) (by simp)]) rfl HM2.out HT2.out HS.out
theorem do_11 {w : World} {K : PK} {E : Env} {vI vO : Value} {lo4 st8 : List Int} {s : MS} {a : Nat} {i : Ins} (h : DoPre K E vI vO lo4 st8 a s i w) (ho : i.op = 11) :
    Calls Tryz.prog 55 #[.pointer (some ⟨K.b, 0, none⟩), doV E i, .pointer (some ⟨a, 0, none⟩)] w (DoPost K vO lo4 st8 a ((s.at_ + 1 : Nat) : Int) s (stepI E i s) w) := by
  have HE : Hid (stepI E i s = goS E i (-1) s) := hid (step_go (by rw [ho]; exact ends_other (by decide) (by decide) (by decide) (by decide) (by decide) (by decide) (by decide)) (by omega) (by omega))
  have hB := BoxI.start w i.place i.op i.n (aimOf E.l i) h.sx.lt
  have h1 := h.sx.below ((Below.refl _ _).alloc (Nat.le_refl _) (.cells #[.int .i64 i.place, .int .i64 i.op, .int .i64 i.n, .int .i64 (aimOf E.l i)] 128))
  have hm := hid (h.m.two hB.two h.out)
  have hoc := h.oc
  have hl7 : (s.st.take (s.st.length - 2)).length < 7 := by have := h.inv.st h.ok; have := can_two h.can ho; rw [List.length_take]; omega
  rw [st_two (can_two h.can ho)] at h1
  have PO := h.out
  obtain ⟨op, n, pl⟩ := i
  simp only at ho
  subst ho
  have hc := hid (move_11 h1 pl n (aimOf E.l ⟨11, n, pl⟩) hl7)
  have HT := hid hB.two
  have HOC := hid hoc
  unfold doV
  simp only at HT hm hc ⊢
  unfold insV at hc ⊢
  generalize hag : aimOf E.l ⟨11, n, pl⟩ = tg at *
  have HAG := hid hag
  clear h hB h1 hoc hag
  go_enter Tryz.func55, Tryz.ntmps55
  go_wp2_with fail
  refine hc.out.mono ?_
  clear hc
  intro e w2 hh
  obtain ⟨hx, hS, hT2⟩ := hh
  subst e
  have HS := hid hS
  have HM2 := hid (hm.out.two hT2 PO)
  have HT2 := hid (HT.out.trans hT2)
  clear hS hT2 hm HT
  go_wp2_with fail
  go_ret
  exact do_fin HE.out HOC.out rfl (by rw [to_next (by simp) (by simp)]) rfl HM2.out HT2.out (by have h9 := HS.out; rw [List.append_assoc] at h9; exact h9)
theorem do_12 {w : World} {K : PK} {E : Env} {vI vO : Value} {lo4 st8 : List Int} {s : MS} {a : Nat} {i : Ins} (h : DoPre K E vI vO lo4 st8 a s i w) (ho : i.op = 12) :
    Calls Tryz.prog 55 #[.pointer (some ⟨K.b, 0, none⟩), doV E i, .pointer (some ⟨a, 0, none⟩)] w (DoPost K vO lo4 st8 a ((s.at_ + 1 : Nat) : Int) s (stepI E i s) w) := by
  have HE : Hid (stepI E i s = goS E i (-1) s) := hid (step_go (by rw [ho]; exact ends_other (by decide) (by decide) (by decide) (by decide) (by decide) (by decide) (by decide)) (by omega) (by omega))
  have hB := BoxI.start w i.place i.op i.n (aimOf E.l i) h.sx.lt
  have h1 := h.sx.below ((Below.refl _ _).alloc (Nat.le_refl _) (.cells #[.int .i64 i.place, .int .i64 i.op, .int .i64 i.n, .int .i64 (aimOf E.l i)] 128))
  have hm := hid (h.m.two hB.two h.out)
  have hoc := h.oc
  have hlen := does_len h.ok h.inv h.can (by omega) (-1)
  have hl8 : s.st.length < 8 := by
    rw [show (doesS E i (-1) s).st = s.st ++ [(true, -1)] by unfold doesS; simp [ho]] at hlen
    simp at hlen
    omega
  have PO := h.out
  obtain ⟨op, n, pl⟩ := i
  simp only at ho
  subst ho
  have hc := hid (move_12 h1 pl n (aimOf E.l ⟨12, n, pl⟩) hl8)
  have HT := hid hB.two
  have HOC := hid hoc
  unfold doV
  simp only at HT hm hc ⊢
  unfold insV at hc ⊢
  generalize hag : aimOf E.l ⟨12, n, pl⟩ = tg at *
  have HAG := hid hag
  clear h hB h1 hoc hag
  go_enter Tryz.func55, Tryz.ntmps55
  go_wp2_with fail
  refine hc.out.mono ?_
  clear hc
  intro e w2 hh
  obtain ⟨hx, hS, hT2⟩ := hh
  subst e
  have HS := hid hS
  have HM2 := hid (hm.out.two hT2 PO)
  have HT2 := hid (HT.out.trans hT2)
  clear hS hT2 hm HT
  go_wp2_with fail
  go_ret
  exact do_fin HE.out HOC.out rfl (by rw [to_next (by simp) (by simp)]) rfl HM2.out HT2.out HS.out
theorem do_18 {w : World} {K : PK} {E : Env} {vI vO : Value} {lo4 st8 : List Int} {s : MS} {a : Nat} {i : Ins} (h : DoPre K E vI vO lo4 st8 a s i w) (ho : i.op = 18) :
    Calls Tryz.prog 55 #[.pointer (some ⟨K.b, 0, none⟩), doV E i, .pointer (some ⟨a, 0, none⟩)] w (DoPost K vO lo4 st8 a ((s.at_ + 1 : Nat) : Int) s (stepI E i s) w) := by
  have HE : Hid (stepI E i s = goS E i (-1) s) := hid (step_go (by rw [ho]; exact ends_other (by decide) (by decide) (by decide) (by decide) (by decide) (by decide) (by decide)) (by omega) (by omega))
  have hB := BoxI.start w i.place i.op i.n (aimOf E.l i) h.sx.lt
  have h1 := h.sx.below ((Below.refl _ _).alloc (Nat.le_refl _) (.cells #[.int .i64 i.place, .int .i64 i.op, .int .i64 i.n, .int .i64 (aimOf E.l i)] 128))
  have hm := hid (h.m.two hB.two h.out)
  have hoc := h.oc
  have hstd := h.can.std ⟨by omega, by omega, by omega, by omega, by omega⟩
  obtain ⟨hp, _⟩ := hstd.two (c := 114) (d := 114) (by rw [ho]; rfl)
  have hl8 : (s.st.take (s.st.length - 2)).length < 8 := by have := h.inv.st h.ok; rw [List.length_take]; omega
  rw [st_two hp] at h1
  have PO := h.out
  obtain ⟨op, n, pl⟩ := i
  simp only at ho
  subst ho
  have hc := hid (move_18 h1 pl n (aimOf E.l ⟨18, n, pl⟩) hl8)
  have HT := hid hB.two
  have HOC := hid hoc
  unfold doV
  simp only at HT hm hc ⊢
  unfold insV at hc ⊢
  generalize hag : aimOf E.l ⟨18, n, pl⟩ = tg at *
  have HAG := hid hag
  clear h hB h1 hoc hag
  go_enter Tryz.func55, Tryz.ntmps55
  go_wp2_with fail
  refine hc.out.mono ?_
  clear hc
  intro e w2 hh
  obtain ⟨hx, hS, hT2⟩ := hh
  subst e
  have HS := hid hS
  have HM2 := hid (hm.out.two hT2 PO)
  have HT2 := hid (HT.out.trans hT2)
  clear hS hT2 hm HT
  go_wp2_with fail
  go_ret
  exact do_fin HE.out HOC.out rfl (by rw [to_next (by simp) (by simp)]) rfl HM2.out HT2.out HS.out
theorem do_19 {w : World} {K : PK} {E : Env} {vI vO : Value} {lo4 st8 : List Int} {s : MS} {a : Nat} {i : Ins} (h : DoPre K E vI vO lo4 st8 a s i w) (ho : i.op = 19) :
    Calls Tryz.prog 55 #[.pointer (some ⟨K.b, 0, none⟩), doV E i, .pointer (some ⟨a, 0, none⟩)] w (DoPost K vO lo4 st8 a ((s.at_ + 1 : Nat) : Int) s (stepI E i s) w) := by
  have HE : Hid (stepI E i s = goS E i (-1) s) := hid (step_go (by rw [ho]; exact ends_other (by decide) (by decide) (by decide) (by decide) (by decide) (by decide) (by decide)) (by omega) (by omega))
  have hB := BoxI.start w i.place i.op i.n (aimOf E.l i) h.sx.lt
  have h1 := h.sx.below ((Below.refl _ _).alloc (Nat.le_refl _) (.cells #[.int .i64 i.place, .int .i64 i.op, .int .i64 i.n, .int .i64 (aimOf E.l i)] 128))
  have hm := hid (h.m.two hB.two h.out)
  have hoc := h.oc
  have PO := h.out
  obtain ⟨op, n, pl⟩ := i
  simp only at ho
  subst ho
  have hc := hid (move_19 h1 pl n (aimOf E.l ⟨19, n, pl⟩))
  have HT := hid hB.two
  have HOC := hid hoc
  unfold doV
  simp only at HT hm hc ⊢
  unfold insV at hc ⊢
  generalize hag : aimOf E.l ⟨19, n, pl⟩ = tg at *
  have HAG := hid hag
  clear h hB h1 hoc hag
  go_enter Tryz.func55, Tryz.ntmps55
  go_wp2_with fail
  refine hc.out.mono ?_
  clear hc
  intro e w2 hh
  obtain ⟨hx, hS, hT2⟩ := hh
  subst e
  have HS := hid hS
  have HM2 := hid (hm.out.two hT2 PO)
  have HT2 := hid (HT.out.trans hT2)
  clear hS hT2 hm HT
  go_wp2_with fail
  go_ret
  exact do_fin HE.out HOC.out rfl (by rw [← HAG.out]; rfl) rfl HM2.out HT2.out HS.out
theorem do_20 {w : World} {K : PK} {E : Env} {vI vO : Value} {lo4 st8 : List Int} {s : MS} {a : Nat} {i : Ins} (h : DoPre K E vI vO lo4 st8 a s i w) (ho : i.op = 20) :
    Calls Tryz.prog 55 #[.pointer (some ⟨K.b, 0, none⟩), doV E i, .pointer (some ⟨a, 0, none⟩)] w (DoPost K vO lo4 st8 a ((s.at_ + 1 : Nat) : Int) s (stepI E i s) w) := by
  have HE : Hid (stepI E i s = goS E i (-1) s) := hid (step_go (by rw [ho]; exact ends_other (by decide) (by decide) (by decide) (by decide) (by decide) (by decide) (by decide)) (by omega) (by omega))
  have hB := BoxI.start w i.place i.op i.n (aimOf E.l i) h.sx.lt
  have h1 := h.sx.below ((Below.refl _ _).alloc (Nat.le_refl _) (.cells #[.int .i64 i.place, .int .i64 i.op, .int .i64 i.n, .int .i64 (aimOf E.l i)] 128))
  have hm := hid (h.m.two hB.two h.out)
  have hoc := h.oc
  have hstd := h.can.std ⟨by omega, by omega, by omega, by omega, by omega⟩
  obtain ⟨hp, _⟩ := hstd.one (c := 105) (by rw [ho]; rfl)
  rw [st_one hp] at h1
  have PO := h.out
  obtain ⟨op, n, pl⟩ := i
  simp only at ho
  subst ho
  have hc := hid (move_20 h1 pl n (aimOf E.l ⟨20, n, pl⟩))
  have HT := hid hB.two
  have HOC := hid hoc
  unfold doV
  simp only at HT hm hc ⊢
  unfold insV at hc ⊢
  generalize hag : aimOf E.l ⟨20, n, pl⟩ = tg at *
  have HAG := hid hag
  clear h hB h1 hoc hag
  go_enter Tryz.func55, Tryz.ntmps55
  go_wp2_with fail
  refine hc.out.mono ?_
  clear hc
  intro e w2 hh
  obtain ⟨hx, hS, hT2⟩ := hh
  subst e
  have HS := hid hS
  have HM2 := hid (hm.out.two hT2 PO)
  have HT2 := hid (HT.out.trans hT2)
  clear hS hT2 hm HT
  go_wp2_with fail
  go_ret
  exact do_fin HE.out HOC.out rfl (by unfold toS; by_cases hz : (lastW s.st 0).2 = 0 <;> simp [hz, ← HAG.out, aimOf, isJump]) rfl HM2.out HT2.out HS.out
end Go.Proofs.YtdmdpindonghdaaGreatDoor
