/- What the proofs of these statements stand on, part 5: PmD, PmE, PmF, StA, StB, StC, PmI, PmJ, PmK, PmL, PmM, PmN, PmO, PmP, PmG, PmH, PmQ. -/
import Derived.Test.YtdmdpindonghdabDoorRows
import Derived.Test.YtdmdpindonghdabDoorOwn4
import Derived.WalkKit
import Derived.WalkSmall
import Derived.Deep.AppendLies
import Derived.Deep.DeepMust
import Derived.Deep.LoopGhost
import Derived.WalkSpells
import Derived.WalkLawsBesides
import Derived.BigRegion
import Derived.Deep.QuietTactic
import Derived.BigQuiet
import Derived.Deep.RegionHeld3
import Derived.OwnWalk
import Derived.Laws.StructEq
import Derived.Deep.RegionLaw
import Derived.Deep.DeepCutAuto
import Derived.Laws.MakeOwn
import Derived.Laws.IdiomCopy
import Derived.Laws.BytesArg
namespace Go.Proofs.YtdmdpindonghdabDoor
open Go.RowKit
/-- The surroundings of the program's machine. -/
structure KE (K : PK) (E : Env) : Prop where
  l : K.l = E.l
  L : K.L = E.L
  zs : K.zs = E.zs
  ms : mapsF K.l K.fs K.L = E.ms
/-- Nothing but the blocks of F, and new ones, has turned. -/
structure Touch (F : Nat → Prop) (w w' : World) : Prop where
  os : w'.os = w.os
  tape : w'.tape = w.tape
  output : w'.output = w.output
  size : w.heap.size ≤ w'.heap.size
  block : ∀ k, k < w.heap.size → ¬ F k → w'.heap[k]? = w.heap[k]?
theorem Touch.refl (F : Nat → Prop) (w : World) : Touch F w w := ⟨rfl, rfl, rfl, Nat.le_refl _, fun _ _ _ => rfl⟩
theorem Touch.trans {F G : Nat → Prop} {w1 w2 w3 : World} (h : Touch F w1 w2) (g : Touch G w2 w3) (hg : ∀ k, k < w1.heap.size → G k → F k) : Touch F w1 w3 :=
  ⟨g.os.trans h.os, g.tape.trans h.tape, g.output.trans h.output, Nat.le_trans h.size g.size, fun k hk hf => (g.block k (Nat.lt_of_lt_of_le hk h.size) (fun e => hf (hg k hk e))).trans (h.block k hk hf)⟩
theorem Touch.below {F : Nat → Prop} {w w' : World} (h : Below w.heap.size w w') : Touch F w w' := ⟨h.os, h.tape, h.output, h.size, fun k hk _ => h.block k hk⟩
theorem Touch.two {F : Nat → Prop} {a b : Nat} {w w' : World} (h : Two a b w w') (ha : F a) (hb : F b) : Touch F w w' := ⟨h.os, h.tape, h.output, h.size, fun k hk hf => h.block k hk (fun e => hf (e ▸ ha)) (fun e => hf (e ▸ hb))⟩
theorem Touch.mono {F G : Nat → Prop} {w w' : World} (h : Touch F w w') (hg : ∀ k, k < w.heap.size → F k → G k) : Touch G w w' := ⟨h.os, h.tape, h.output, h.size, fun k hk hf => h.block k hk (fun e => hf (hg k hk e))⟩
/-- F and what was new behind it. -/
def Grown (F : Nat → Prop) (w w' : World) (k : Nat) : Prop := F k ∨ (w.heap.size ≤ k ∧ k < w'.heap.size)
/-- The program's machine in memory; its blocks are among F's. -/
def PX (w : World) (K : PK) (F : Nat → Prop) (s : MS) : Prop := ∃ vI vO lo4 st8, PM w K vI vO lo4 st8 s ∧ ∀ k, K.In vO k → F k
theorem PX.keep {w w' : World} {K : PK} {F : Nat → Prop} {s : MS} (h : PX w K F s) (hz : w.heap.size ≤ w'.heap.size) (hk : ∀ k, k < w.heap.size → F k → w'.heap[k]? = w.heap[k]?) : PX w' K F s := by
  obtain ⟨vI, vO, lo4, st8, h1, h2⟩ := h
  exact ⟨vI, vO, lo4, st8, h1.keep hz (fun k hk1 hk2 => hk k hk1 (h2 k hk2)), h2⟩
theorem PX.below {w w' : World} {K : PK} {F : Nat → Prop} {s : MS} (h : PX w K F s) (hb : Below w.heap.size w w') : PX w' K F s := h.keep hb.size (fun k hk _ => hb.block k hk)
theorem PX.mono {w : World} {K : PK} {F G : Nat → Prop} {s : MS} (h : PX w K F s) (hg : ∀ k, F k → G k) : PX w K G s := by
  obtain ⟨vI, vO, lo4, st8, h1, h2⟩ := h
  exact ⟨vI, vO, lo4, st8, h1, fun k hk => hg k (h2 k hk)⟩
theorem slotsF_eq {tys : List Nat} {held : List Int} {ws : List (Bool × Int)} (hl : tys.length = ws.length) (hh : held.take ws.length = ws.map (·.2)) (hle : ws.length ≤ held.length) : slotsF tys held = slotsC tys ws := by
  apply List.ext_getElem
  · simp [slotsF, slotsC]; omega
  · intro k h1 h2
    have hk : k < tys.length := by simpa [slotsF] using h1
    have hkw : k < ws.length := by omega
    have hg : held.getD k 0 = ws[k].2 := by
      have e := congrArg (fun l => l[k]?) hh
      simp only [List.getElem?_take, if_pos hkw, List.getElem?_map, List.getElem?_eq_getElem hkw, Option.map_some] at e
      rw [List.getD_eq_getElem?_getD, e]
      rfl
    simp only [slotsF, slotsC, List.getElem_mapIdx, List.getElem_zipWith]
    unfold slotAt slotV
    rw [hg]
    by_cases e2 : tys[k] = 2
    · rw [if_pos e2, if_neg (by simp [e2])]
    · rw [if_neg e2, if_pos ⟨e2, by omega⟩]
theorem ptF_of {l : List Ins} {fs : List Fr} {L k : Nat} {m : MP} (h : (mapsF l fs L)[k]? = some m) (hr : m.reached = true) : ∃ i f, l[k]? = some i ∧ fs[k]? = some f ∧ m.place = i.place ∧ m.lo = f.lo.take L ∧ m.st = f.stk.take f.depth := by
  unfold mapsF at h
  rw [List.getElem?_zipWith] at h
  cases hi : l[k]? with
  | none => rw [hi] at h; simp at h
  | some i =>
    cases hf : fs[k]? with
    | none => rw [hi, hf] at h; simp at h
    | some f =>
      rw [hi, hf] at h
      simp only [Option.some.injEq] at h
      subst h
      by_cases e : f.reached = true
      · unfold ptF
        rw [if_pos e]
        exact ⟨i, f, rfl, rfl, rfl, rfl, rfl⟩
      · unfold ptF at hr
        rw [if_neg e] at hr
        cases hr
theorem pstate_m {w : World} {K : PK} {E : Env} {vI vO : Value} {lo4 st8 : List Int} {s : MS} (h : PM w K vI vO lo4 st8 s) (hke : KE K E) (he : EnvOk E) (hi : MInv E s) {i : Ins} (hg : E.l[s.at_]? = some i) :
    Calls Tryd.prog 17 #[.pointer (some ⟨K.b, 0, none⟩)] w (PStatePost s.oc s.va i.place s.hs.2.1 s.hs.2.2 (locsS E s) (stkS E s) w) := by
  obtain ⟨m, hm⟩ := hi.tys he
  have hm' := hm.get
  rw [← hke.ms] at hm'
  obtain ⟨i', f, e1, e2, e3, e4, e5⟩ := ptF_of hm' hm.reached
  rw [hke.l, hg] at e1
  cases e1
  have hfo := h.fok f (List.mem_of_getElem? e2)
  have hst := pstate_any h (i := i) (f := f) (by rw [hke.l]; exact hg) e2
  have q1 : slotsF (f.lo.take K.L) lo4 = locsS E s := by
    unfold locsS tysAt
    rw [hm.get]
    simp only
    rw [← e4]
    refine slotsF_eq hm.lol ?_ ?_
    · rw [h.lol]; exact h.lo
    · rw [h.lol, h.l4]; exact h.L4
  have q2 : slotsF (f.stk.take f.depth) st8 = stkS E s := by
    unfold stkS tysAt
    rw [hm.get]
    simp only
    rw [← e5]
    refine slotsF_eq ?_ h.st ?_
    · rw [hm.st, List.length_map]
    · rw [h.l8]; exact h.stl
  rw [q1, q2] at hst
  exact hst
end Go.Proofs.YtdmdpindonghdabDoor
namespace Go.Proofs.YtdmdpindonghdabDoor
open Go.RowKit
set_option maxRecDepth 100000 in
set_option maxHeartbeats 4000000 in
theorem proots_any (b : Nat) (oc va : Int) (pl : Nat) (ph hd : Int) (Q1 Q2 : List (Nat × Int)) (w : World) (h1 : Q1.length ≤ 100) (h2 : Q2.length ≤ 100)
    (hS : Calls Tryd.prog 17 #[.pointer (some ⟨b, 0, none⟩)] w (PStatePost oc va pl ph hd Q1 Q2 w)) :
    Calls Tryd.prog 45 #[.pointer (some ⟨b, 0, none⟩)] w (RootsPost (rootsC (Q1 ++ Q2)) w) := by
  obtain ⟨i0, hi0, hz0, hz1, hz2⟩ := info_parts intInfo
  have HS := hid hS
  clear hS
  go_enter Tryd.func45, Tryd.ntmps45
  go_wp2_with fail
  refine HS.out.mono ?_
  clear HS
  intro x w1 hp
  obtain ⟨hb1, v1, v2, hx, ho1, ho2, _⟩ := hp
  subst x
  have hl1 := LsAt.of_owns ho1
  have hl2 := LsAt.of_owns ho2
  obtain ⟨p1, c1, e1⟩ := hl1.slice
  obtain ⟨p2, c2, e2⟩ := hl2.slice
  subst e1
  subst e2
  have hz1w := hb1.size
  have hst := heap_alloc_new w1 (.cells #[.int .i64 oc, .int .i64 va, .int .i64 pl, .int .i64 ph, .int .i64 hd, .slice p1 Q1.length c1, .slice p2 Q2.length c2] 47)
  have hbW := hb1.alloc hz1w (.cells #[.int .i64 oc, .int .i64 va, .int .i64 pl, .int .i64 ph, .int .i64 hd, .slice p1 Q1.length c1, .slice p2 Q2.length c2] 47)
  have hL1 : LsAt (w1.alloc (.cells #[.int .i64 oc, .int .i64 va, .int .i64 pl, .int .i64 ph, .int .i64 hd, .slice p1 Q1.length c1, .slice p2 Q2.length c2] 47)) (fun g => g < w1.heap.size) (.slice p1 Q1.length c1) Q1.length (Q1.flatMap slCells) := hl1.keep (fun g hg => ⟨hg.2, Below.heap_alloc _ _ _ hg.2⟩)
  have hL2 : LsAt (w1.alloc (.cells #[.int .i64 oc, .int .i64 va, .int .i64 pl, .int .i64 ph, .int .i64 hd, .slice p1 Q1.length c1, .slice p2 Q2.length c2] 47)) (fun g => g < w1.heap.size) (.slice p2 Q2.length c2) Q2.length (Q2.flatMap slCells) := hl2.keep (fun g hg => ⟨hg.2, Below.heap_alloc _ _ _ hg.2⟩)
  clear hb1 hl1 hl2 ho1 ho2
  go_wp2_with fail
  generalize hW : w1.alloc (.cells #[.int .i64 oc, .int .i64 va, .int .i64 pl, .int .i64 ph, .int .i64 hd, .slice p1 Q1.length c1, .slice p2 Q2.length c2] 47) = W at *
  have hzW : W.heap.size = w1.heap.size + 1 := by rw [← hW]; exact alloc_size _ _
  clear hW
  have t5 := cell_of_row W w1.heap.size 5 _ _ _ hst
  have t6 := cell_of_row W w1.heap.size 6 _ _ _ hst
  simp only [List.getElem?_toArray, List.getElem?_cons_zero, List.getElem?_cons_succ] at t5 t6
  generalize hsb : w1.heap.size = sb at *
  have hsbW : sb < W.heap.size := by omega
  have HBW := hid hbW
  have HL1 := hid hL1
  have HL2 := hid hL2
  clear hsb hst hbW hL1 hL2
  go_loopg [4, 14] Q1.length (fun g l x w' => ∃ k : Nat, k ≤ Q1.length ∧ g = Q1.length - k ∧ x = .int .i64 k ∧ w'.ownsRow W.heap.size 3 1 l (rootsC (Q1.take k)).length ((rootsC (Q1.take k)).map (.int .i64)) ∧ Below W.heap.size W w')
  case atStart => exact ⟨0, by omega, by omega, rfl, World.ownsRow_nil _ _ _ _, Below.refl _ _⟩
  case round =>
    obtain ⟨k, hk, hg, rfl, hown, hbel⟩ := hrel
    have hz := hbel.size
    have HB := hid hbel
    rcases Nat.lt_or_ge k Q1.length with hlt | hge
    · have d1 : (k : Int) < (Q1.length : Int) := by omega
      have d0 : (0 : Int) ≤ (k : Int) := by omega
      obtain ⟨g, cap, eg, hgs, hc⟩ := HL1.out.some (by omega)
      cases eg
      have y0 := hc _ _ (flat_at slCells 2 (fun _ => rfl) Q1 k 0 hlt (by omega))
      have y1 := hc _ _ (flat_at slCells 2 (fun _ => rfl) Q1 k 1 hlt (by omega))
      rw [Nat.add_zero] at y0
      rw [← hbel.cell (p := ⟨g, k * 2, none⟩) (Nat.lt_trans hgs hsbW)] at y0
      rw [← hbel.cell (p := ⟨g, k * 2 + 1, none⟩) (Nat.lt_trans hgs hsbW)] at y1
      have HNX := hid (rootsC_next hlt)
      have HLN : Hid ((rootsC (Q1.take k)).length ≤ 100) := hid (by have := rootsC_len (Q1.take k); rw [List.length_take] at this; omega)
      generalize Q1[k] = q at *
      obtain ⟨qt, qv⟩ := q
      simp only at y0 y1
      generalize rootsC (Q1.take k) = R at *
      have hR := HLN.out
      clear hc hbel HLN
      by_cases hq : qt = 1
      · subst hq
        go_wp2_with (at_builtin; go_must (refine wpList_append_lies _ (by rfl) _ _ _ (by rfl) W.heap.size 3 i0 _ 1 8 Tryd.underlying22 hi0 hz0 hz1 hz2 rfl (by omega) _ R.length (R.map (.int .i64)) (by rfl) ((hown.alloc _).alloc _) ⟨wr.heap.size + 1, 0, none⟩ 1 1 [.int .i64 qv] (by rfl) (by rfl) (World.news_of_block (cs := #[.int .i64 qv]) (t := 3) (fr := (0, 0)) (heap_two_new wr _ _)) (by simp [Value.oneCell']) (by omega) (by unfold maxLen; omega) (by omega) (by simp; omega) _ rfl ?_); intro gg gcap w6 hown6 hgrow6 hat6 hlt6)
        go_roundg (Q1.length - (k + 1))
        case measure => omega
        case rel =>
          refine ⟨k + 1, by omega, rfl, by go_num, ?_, ?_⟩
          · rw [HNX.out]
            simpa using hown6
          · exact ((HB.out.alloc hz _).alloc (by simp; omega) _).grown hgrow6 (by simp; omega) (fun j hj => (hown.lt j hj).1)
      · have hq1 : ((qt : Int) == 1) = false := by simp; omega
        go_wp2_with fail
        go_roundg (Q1.length - (k + 1))
        case measure => omega
        case rel =>
          refine ⟨k + 1, by omega, rfl, by go_num, ?_, HB.out.alloc hz _⟩
          rw [HNX.out, if_neg hq, List.append_nil]
          exact hown.alloc _
    · have d1 : ¬ (k : Int) < (Q1.length : Int) := by omega
      rw [List.take_of_length_le hge] at hown
      have HO := hid hown
      clear hown
      have t6' := (hbel.cell (p := ⟨sb, 6, none⟩) hsbW).trans t6
      clear hbel t5 HL1 t6
      go_wp2_with fail
      go_loopg [4, 30] Q2.length (fun g l x w' => ∃ k : Nat, k ≤ Q2.length ∧ g = Q2.length - k ∧ x = .int .i64 k ∧ w'.ownsRow W.heap.size 3 1 l (rootsC Q1 ++ rootsC (Q2.take k)).length ((rootsC Q1 ++ rootsC (Q2.take k)).map (.int .i64)) ∧ Below W.heap.size W w')
      case atStart => exact ⟨0, by omega, by omega, rfl, by simpa [rootsC] using HO.out, HB.out⟩
      case round =>
        clear hk hg HB HO hge d1 hz t6'
        obtain ⟨k, hk, hg, rfl, hown, hbel⟩ := hrel
        have hz := hbel.size
        have HB := hid hbel
        rcases Nat.lt_or_ge k Q2.length with hlt | hge
        · have d1 : (k : Int) < (Q2.length : Int) := by omega
          have d0 : (0 : Int) ≤ (k : Int) := by omega
          obtain ⟨g, cap, eg, hgs, hc⟩ := HL2.out.some (by omega)
          cases eg
          have y0 := hc _ _ (flat_at slCells 2 (fun _ => rfl) Q2 k 0 hlt (by omega))
          have y1 := hc _ _ (flat_at slCells 2 (fun _ => rfl) Q2 k 1 hlt (by omega))
          rw [Nat.add_zero] at y0
          rw [← hbel.cell (p := ⟨g, k * 2, none⟩) (Nat.lt_trans hgs hsbW)] at y0
          rw [← hbel.cell (p := ⟨g, k * 2 + 1, none⟩) (Nat.lt_trans hgs hsbW)] at y1
          have HNX : Hid (rootsC Q1 ++ rootsC (Q2.take (k + 1)) = (rootsC Q1 ++ rootsC (Q2.take k)) ++ (if Q2[k].1 = 1 then [Q2[k].2] else [])) := hid (by rw [rootsC_next hlt, List.append_assoc])
          have HLN : Hid ((rootsC Q1 ++ rootsC (Q2.take k)).length ≤ 200) := hid (by have := rootsC_len (Q2.take k); have := rootsC_len Q1; rw [List.length_take] at *; rw [List.length_append]; omega)
          generalize Q2[k] = q at *
          obtain ⟨qt, qv⟩ := q
          simp only at y0 y1
          generalize rootsC Q1 ++ rootsC (Q2.take k) = R at *
          have hR := HLN.out
          clear hc hbel HLN
          by_cases hq : qt = 1
          · subst hq
            go_wp2_with (at_builtin; go_must (refine wpList_append_lies _ (by rfl) _ _ _ (by rfl) W.heap.size 3 i0 _ 1 8 Tryd.underlying22 hi0 hz0 hz1 hz2 rfl (by omega) _ R.length (R.map (.int .i64)) (by rfl) ((hown.alloc _).alloc _) ⟨wr.heap.size + 1, 0, none⟩ 1 1 [.int .i64 qv] (by rfl) (by rfl) (World.news_of_block (cs := #[.int .i64 qv]) (t := 3) (fr := (0, 0)) (heap_two_new wr _ _)) (by simp [Value.oneCell']) (by omega) (by unfold maxLen; omega) (by omega) (by simp; omega) _ rfl ?_); intro gg gcap w6 hown6 hgrow6 hat6 hlt6)
            go_roundg (Q2.length - (k + 1))
            case measure => omega
            case rel =>
              refine ⟨k + 1, by omega, rfl, by go_num, ?_, ?_⟩
              · rw [HNX.out]
                simpa using hown6
              · exact ((HB.out.alloc hz _).alloc (by simp; omega) _).grown hgrow6 (by simp; omega) (fun j hj => (hown.lt j hj).1)
          · have hq1 : ((qt : Int) == 1) = false := by simp; omega
            go_wp2_with fail
            go_roundg (Q2.length - (k + 1))
            case measure => omega
            case rel =>
              refine ⟨k + 1, by omega, rfl, by go_num, ?_, HB.out.alloc hz _⟩
              rw [HNX.out, if_neg hq, List.append_nil]
              exact hown.alloc _
        · have d1 : ¬ (k : Int) < (Q2.length : Int) := by omega
          rw [List.take_of_length_le hge] at hown
          have HO := hid hown
          clear hown hbel
          go_wp2_with fail
          go_ret
          refine ⟨HBW.out.trans (HB.out.mono HBW.out.size), _, rfl, ?_⟩
          rw [rootsC_append]
          exact owns_mono HO.out HBW.out.size
theorem proots_m {w : World} {K : PK} {E : Env} {vI vO : Value} {lo4 st8 : List Int} {s : MS} (h : PM w K vI vO lo4 st8 s) (hke : KE K E) (he : EnvOk E) (hi : MInv E s) :
    Calls Tryd.prog 45 #[.pointer (some ⟨K.b, 0, none⟩)] w (RootsPost (rootsS E s) w) := by
  obtain ⟨i, hc⟩ := hi.can he
  have h2 := hi.lo he
  have h3 := hi.st he
  have h4 := he.wf.loc
  have h5 : (locsS E s).length ≤ s.lo.length := by unfold locsS slotsC; rw [List.length_zipWith]; omega
  have h6 : (stkS E s).length ≤ s.st.length := by unfold stkS slotsC; rw [List.length_zipWith]; omega
  exact proots_any K.b _ _ _ _ _ _ _ w (by omega) (by omega) (pstate_m h hke he hi hc.get)
end Go.Proofs.YtdmdpindonghdabDoor
namespace Go.Proofs.YtdmdpindonghdabDoor
open Go.RowKit
def PK.ck (K : PK) (vI vO : Value) (lo4 st8 : List Int) (s : MS) : CK := ⟨K.cC, (K.row vI vO lo4 st8 s).toArray, 84⟩
theorem row_hs {K : PK} {vI vO : Value} {lo4 st8 : List Int} {s : MS} (h4 : lo4.length = 4) (h8 : st8.length = 8) (h : HSt) (hl : h.1.length = s.hs.1.length) : (((K.row vI vO lo4 st8 s).toArray.setIfInBounds 22 (.int .i64 h.2.1)).setIfInBounds 23 (.int .i64 h.2.2)) = (K.row vI vO lo4 st8 { s with hs := h }).toArray := by
  obtain ⟨x0, x1, x2, x3, rfl⟩ := fourZ h4
  obtain ⟨t0, t1, t2, t3, t4, t5, t6, t7, rfl⟩ := eightZ h8
  simp only [PK.row, List.map_cons, List.map_nil, List.cons_append, List.nil_append, List.setIfInBounds_toArray, List.set_cons_zero, List.set_cons_succ, hl]
theorem PM.phr {w : World} {K : PK} {vI vO : Value} {lo4 st8 : List Int} {s : MS} (h : PM w K vI vO lo4 st8 s) : PHR w K.b K.gC (K.ck vI vO lo4 st8 s) K.A s.hs := by
  have m21 := h.get 21
  have m22 := h.get 22
  have m23 := h.get 23
  have e := row_hs (K := K) (vI := vI) (vO := vO) h.l4 h.l8 (s := s) s.hs rfl
  have f22 := frozen_of_row w K.b 22 _ _ h.row
  have f23 := frozen_of_row w K.b 23 _ _ h.row
  have hrow := h.row
  have hc := h.cells
  have hne := h.ne3
  obtain ⟨x0, x1, x2, x3, rfl⟩ := fourZ h.l4
  obtain ⟨t0, t1, t2, t3, t4, t5, t6, t7, rfl⟩ := eightZ h.l8
  simp only [PK.row, List.map_cons, List.map_nil, List.cons_append, List.nil_append, List.getElem?_cons_zero, List.getElem?_cons_succ] at m21 m22 m23
  refine ⟨?_, m22, m23, f22, f23, ?_, hne, ?_⟩
  · rw [List.length_map]; exact m21
  · rw [List.length_map]; exact hc
  · show w.heap[K.b]? = _
    rw [hrow]
    unfold PK.ck
    simp only
    rw [e]
theorem PM.of_phr {w w' : World} {K : PK} {vI vO : Value} {lo4 st8 : List Int} {s : MS} (h : PM w K vI vO lo4 st8 s) {h' : HSt} (hp : PHR w' K.b K.gC (K.ck vI vO lo4 st8 s) K.A h') (hl : h'.1.length = s.hs.1.length) (ht : Two K.b K.gC w w') : PM w' K vI vO lo4 st8 { s with hs := h' } := by
  have z := h.z
  have b1 := h.b1
  have b2 := h.b2
  have c1 := h.c1
  have c2 := h.c2
  have hin : ∀ k, k < K.B4 → k ≠ K.b → k ≠ K.gC → w'.heap[k]? = w.heap[k]? := fun k hk h1 h2 => ht.block k (by omega) h1 h2
  have hrow : w'.heap[K.b]? = some (.cells (K.row vI vO lo4 st8 { s with hs := h' }).toArray 84) := by
    have := hp.blk
    unfold PK.ck at this
    simp only at this
    rw [row_hs h.l4 h.l8 h' hl] at this
    exact this
  have hcells := hp.row
  rw [List.length_map] at hcells
  exact { h with
    row := hrow
    z := by have := ht.size; omega
    code := h.code.same (hin _ h.g2 (fun e => h.ne1 e.symm) (fun e => h.ne4 e.symm))
    frames := (hin _ h.f2 (fun e => h.ne2 e.symm) (fun e => h.ne5 e.symm)).trans h.frames
    cells := hcells
    inp := h.inp.same (fun a n c e => hin _ (h.inb a n c e).2.1 (h.inb a n c e).2.2.1 (h.inb a n c e).2.2.2.1)
    out := owns_keep h.out (fun g hg => ht.block g (h.out.lt g hg).2 (by have := (h.out.lt g hg).1; omega) (by have := (h.out.lt g hg).1; omega)) }
/-- What Collect answers. -/
def PCollPost (K : PK) (F : Nat → Prop) (s' : MS) (w : World) (e : Ending) (w' : World) : Prop :=
  e = .returned (.tuple #[.int .i64 s'.hs.2.1, .int .i64 0]) ∧ PX w' K F s' ∧ Touch F w w'
set_option maxRecDepth 100000 in
theorem unitsFit_any (u : Int) (w : World) : Calls Tryd.prog 44 #[.int .i64 u] w fun e w' => e = .returned (.bool (decide (0 ≤ u) && decide (u ≤ 1000))) ∧ w' = w := by
  by_cases h0 : 0 ≤ u
  · by_cases h1 : u ≤ 1000
    · rw [decide_eq_true h0, decide_eq_true h1]
      go_enter Tryd.func44, Tryd.ntmps44
      go_wp2_with fail
      go_ret
      exact ⟨rfl, rfl⟩
    · rw [decide_eq_true h0, decide_eq_false h1]
      go_enter Tryd.func44, Tryd.ntmps44
      go_wp2_with fail
      go_ret
      exact ⟨rfl, rfl⟩
  · rw [decide_eq_false h0]
    go_enter Tryd.func44, Tryd.ntmps44
    go_wp2_with fail
    go_ret
    exact ⟨rfl, rfl⟩
set_option maxRecDepth 100000 in
set_option maxHeartbeats 1000000 in
theorem pcollect_bad (b : Nat) (u : Int) (w : World) (hu : u < 0 ∨ 1000 < u) : Calls Tryd.prog 24 #[.pointer (some ⟨b, 0, none⟩), .int .i64 u] w fun e w' => e = .returned (.tuple #[.int .i64 0, .int .i64 8]) ∧ w' = w := by
  have hf := hid (unitsFit_any u w)
  have e : (decide (0 ≤ u) && decide (u ≤ 1000)) = false := by
    rcases hu with h | h
    · rw [decide_eq_false (by omega)]; rfl
    · rw [decide_eq_false (p := u ≤ 1000) (by omega)]; simp
  rw [e] at hf
  clear hu e
  go_enter Tryd.func24, Tryd.ntmps24
  go_wp2_with fail
  refine hf.out.mono ?_
  clear hf
  intro x w1 hh
  obtain ⟨hx, hw⟩ := hh
  subst x
  subst w1
  go_wp2_with fail
  exact bodyPost_ret (v := .tuple #[.int .i64 0, .int .i64 8]) (by simp [results, Tryd.results24, go_sem]) rfl ⟨rfl, rfl⟩
set_option maxRecDepth 100000 in
set_option maxHeartbeats 1000000 in
theorem pcollect_hs (b gC : Nat) (cC : CK) (base N : Nat) (hs : HSt) (rs : List Int) (n : Nat) (w : World) (hn : n ≤ 1000) (h : PHR w b gC cC base hs) (hk : HOk N hs) (hrl : rs.length ≤ 1000)
    (hR : Calls Tryd.prog 45 #[.pointer (some ⟨b, 0, none⟩)] w (RootsPost rs w)) :
    Calls Tryd.prog 24 #[.pointer (some ⟨b, 0, none⟩), .int .i64 n] w fun e w' => e = .returned (.tuple #[.int .i64 (unitsC rs n hs).2.1, .int .i64 0]) ∧ PHR w' b gC cC base (unitsC rs n hs) ∧ Two b gC w w' := by
  have hf := hid (unitsFit_any n w)
  rw [show (decide ((0 : Int) ≤ (n : Int)) && decide ((n : Int) ≤ 1000)) = true by simp; omega] at hf
  have hbz := World.block_lt_of_cell? w _ h.c0
  have hgz := (h.row.lt gC rfl).2
  simp only at hbz
  have H := hid h
  have HK := hid hk
  have HR := hid hR
  clear h hk hR
  go_enter Tryd.func24, Tryd.ntmps24
  go_wp2_with fail
  refine hf.out.mono ?_
  clear hf
  intro x w1 hh
  obtain ⟨hx, hw⟩ := hh
  subst x
  subst w1
  go_wp2_with fail
  refine HR.out.mono ?_
  clear HR
  intro x w1 hh
  obtain ⟨hb1, v, hx, ho⟩ := hh
  subst x
  have hrf := refs_of ho hgz
  obtain ⟨p0, c0, e0⟩ := hrf.1.slice
  have hvb : ∀ a n c, v = .slice (some a) n c → a.block ≠ b := fun a n c e => by have := hrf.2 a n c e; omega
  have HV := hid hrf.1
  have HVB := hid hvb
  have HP1 := hid (PH.below H.out hb1)
  have HB1 := hid hb1
  subst e0
  clear hb1 ho hrf hvb
  go_wp2_with fail
  go_loopg [7] n (fun g x w' => ∃ k : Nat, k ≤ n ∧ g = n - k ∧ x = .int .i64 k ∧ PHR w' b gC cC base (unitsC rs k hs) ∧ Two b gC w1 w')
  case atStart => exact ⟨0, by omega, by omega, rfl, HP1.out, Two.refl _ _ _⟩
  case round =>
    obtain ⟨k, hk, hg, rfl, hh, ht⟩ := hrel
    have HT := hid ht
    have HH := hid hh
    rcases Nat.lt_or_ge k n with hlt | hge
    · have d1 : (k : Int) < (n : Int) := by omega
      have hun := hid (punit_t b gC cC base N _ rs _ wr hh (HK.out.units rs k) hrl (HV.out.two HVB.out ht))
      clear hh ht
      go_wp2_with fail
      refine hun.out.mono ?_
      clear hun
      intro x w2 hh1
      obtain ⟨hx, hH, hO⟩ := hh1
      subst x
      have HH2 := hid hH
      have HO := hid hO
      clear hH hO
      go_wp2_with fail
      go_roundg (n - (k + 1))
      case measure => omega
      case rel => exact ⟨k + 1, by omega, rfl, by go_num, HH2.out, HT.out.trans HO.out⟩
    · have d1 : ¬ (k : Int) < (n : Int) := by omega
      have hkn : k = n := by omega
      subst hkn
      have hph := hid (pphase_any b 21 _ wr hh.c1)
      clear hh ht
      go_wp2_with fail
      refine hph.out.mono ?_
      clear hph
      intro x w2 hh1
      obtain ⟨hx, hw⟩ := hh1
      subst x
      subst w2
      go_wp2_with fail
      exact bodyPost_ret (v := .tuple #[.int .i64 (unitsC rs k hs).2.1, .int .i64 0]) (by simp [results, Tryd.results24, go_sem]) rfl ⟨rfl, HH.out, (Two.of_below HB1.out).trans HT.out⟩
theorem pcollect_x {w : World} {K : PK} {E : Env} {F : Nat → Prop} {s : MS} (h : PX w K F s) (hke : KE K E) (he : EnvOk E) (hi : MInv E s) (n : Nat) (hn : n ≤ 1000) :
    Calls Tryd.prog 24 #[.pointer (some ⟨K.b, 0, none⟩), .int .i64 n] w (PCollPost K F (collS E n s) w) := by
  obtain ⟨vI, vO, lo4, st8, hm, hF⟩ := h
  refine (pcollect_hs K.b K.gC _ K.A E.n s.hs (rootsS E s) n w hn hm.phr hi.hh (hi.rootsLen he) (proots_m hm hke he hi)).mono ?_
  rintro e w' ⟨h1, h2, h3⟩
  refine ⟨h1, ⟨vI, vO, lo4, st8, hm.of_phr h2 (unitsC_len _ _ _) h3, hF⟩, Touch.two h3 (hF _ (.inl ⟨hm.b1, hm.b2⟩)) (hF _ (.inl ⟨hm.c1, hm.c2⟩))⟩
end Go.Proofs.YtdmdpindonghdabDoor
namespace Go.Proofs.YtdmdpindonghdabDoor
open Go.RowKit
def sdL (nx : Int) (lo4 : List Int) (d : Nat) (st8 : List Int) : List Value := .int .i64 nx :: (lo4.map (Value.int .i64) ++ (.int .i64 d :: st8.map (Value.int .i64)))
/-- Locals and stack of a standing. -/
structure StOk (lo st : List (Bool × Int)) (lo4 st8 : List Int) : Prop where
  l4 : lo4.length = 4
  l8 : st8.length = 8
  loL : lo.length ≤ 4
  lo : lo4.take lo.length = lo.map (·.2)
  stL : st.length ≤ 8
  st : st8.take st.length = st.map (·.2)
structure SB (w : World) (a : Nat) (nx : Int) (lo st : List (Bool × Int)) (lo4 st8 : List Int) : Prop where
  row : w.heap[a]? = some (.cells (sdL nx lo4 st.length st8).toArray 80)
  ok : StOk lo st lo4 st8
theorem sdL_depth {nx : Int} {lo4 : List Int} {d : Nat} {st8 : List Int} (h4 : lo4.length = 4) (d' : Nat) : (sdL nx lo4 d st8).set 5 (.int .i64 (d' : Int)) = sdL nx lo4 d' st8 := by
  match lo4, h4 with
  | [a, b, c, e], _ => rfl
theorem sdL_nx {nx : Int} {lo4 : List Int} {d : Nat} {st8 : List Int} (nx' : Int) : (sdL nx lo4 d st8).set 0 (.int .i64 nx') = sdL nx' lo4 d st8 := rfl
theorem sdL_stk {nx : Int} {lo4 : List Int} {d : Nat} {st8 : List Int} (h4 : lo4.length = 4) (k : Nat) (v : Int) : (sdL nx lo4 d st8).set (6 + k) (.int .i64 v) = sdL nx lo4 d (st8.set k v) := by
  match lo4, h4 with
  | [a, b, c, e], _ =>
    rw [show 6 + k = k + 6 by omega]
    simp [sdL, List.map_set]
theorem sdL_lo {nx : Int} {lo4 : List Int} {d : Nat} {st8 : List Int} (h4 : lo4.length = 4) {k : Nat} (hk : k < 4) (v : Int) : (sdL nx lo4 d st8).set (1 + k) (.int .i64 v) = sdL nx (lo4.set k v) d st8 := by
  match lo4, h4, k, hk with
  | [a, b, c, e], _, 0, _ => rfl
  | [a, b, c, e], _, 1, _ => rfl
  | [a, b, c, e], _, 2, _ => rfl
  | [a, b, c, e], _, 3, _ => rfl
theorem sdL_get5 {nx : Int} {lo4 : List Int} {d : Nat} {st8 : List Int} (h4 : lo4.length = 4) : (sdL nx lo4 d st8)[5]? = some (.int .i64 (d : Int)) := by
  match lo4, h4 with
  | [a, b, c, e], _ => rfl
theorem sdL_getS {nx : Int} {lo4 : List Int} {d : Nat} {st8 : List Int} (h4 : lo4.length = 4) (k : Nat) : (sdL nx lo4 d st8)[6 + k]? = (st8[k]?).map (Value.int .i64) := by
  match lo4, h4 with
  | [a, b, c, e], _ =>
    rw [show 6 + k = k + 6 by omega]
    simp [sdL]
theorem sdL_getL {nx : Int} {lo4 : List Int} {d : Nat} {st8 : List Int} (h4 : lo4.length = 4) {k : Nat} (hk : k < 4) : (sdL nx lo4 d st8)[1 + k]? = (lo4[k]?).map (Value.int .i64) := by
  match lo4, h4, k, hk with
  | [a, b, c, e], _, 0, _ => rfl
  | [a, b, c, e], _, 1, _ => rfl
  | [a, b, c, e], _, 2, _ => rfl
  | [a, b, c, e], _, 3, _ => rfl
theorem SB.set {w : World} {a : Nat} {nx : Int} {lo st : List (Bool × Int)} {lo4 st8 : List Int} (h : SB w a nx lo st lo4 st8) (j : Nat) (v : Value) : (w.setCell ⟨a, j, none⟩ v).heap[a]? = some (.cells ((sdL nx lo4 st.length st8).set j v).toArray 80) := by
  have := setCell_row j v h.row
  rw [List.setIfInBounds_toArray] at this
  exact this
theorem StOk.push {lo st : List (Bool × Int)} {lo4 st8 : List Int} (h : StOk lo st lo4 st8) (hs : st.length < 8) (x : Bool × Int) : StOk lo (st ++ [x]) lo4 (st8.set st.length x.2) := by
  have h8 := h.l8
  refine ⟨h.l4, by simp [h.l8], h.loL, h.lo, by simp; omega, ?_⟩
  rw [List.length_append, List.length_singleton, List.take_succ_eq_append_getElem (by simp; omega), List.take_set_of_le (Nat.le_refl _), h.st, List.getElem_set_self, List.map_append]
  rfl
theorem StOk.pop {lo st : List (Bool × Int)} {lo4 st8 : List Int} {x : Bool × Int} (h : StOk lo (st ++ [x]) lo4 st8) : StOk lo st lo4 st8 ∧ st8[st.length]? = some x.2 ∧ st.length < 8 := by
  have hl := h.stL
  have hs := h.st
  have h8 := h.l8
  rw [List.length_append, List.length_singleton] at hl hs
  rw [List.take_succ_eq_append_getElem (by omega), List.map_append] at hs
  obtain ⟨h1, h2⟩ := List.append_inj' hs rfl
  simp only [List.map_cons, List.map_nil, List.cons.injEq, and_true] at h2
  exact ⟨⟨h.l4, h.l8, h.loL, h.lo, by omega, h1⟩, by rw [List.getElem?_eq_getElem (by omega), h2], by omega⟩
set_option maxRecDepth 100000 in
set_option maxHeartbeats 1000000 in
theorem spush_any {w : World} {a : Nat} {nx : Int} {lo st : List (Bool × Int)} {lo4 st8 : List Int} (h : SB w a nx lo st lo4 st8) (hs : st.length < 8) (x : Bool × Int) :
    Calls Tryd.prog 60 #[.pointer (some ⟨a, 0, none⟩), .int .i64 x.2] w fun e w' => e = .returned (.tuple #[]) ∧ SB w' a nx lo (st ++ [x]) lo4 (st8.set st.length x.2) ∧ Only a w w' := by
  have h4 := h.ok.l4
  have h8 := h.ok.l8
  have c5 := cell_of_row w a 5 _ _ _ h.row
  have f5 := frozen_of_row w a 5 _ _ h.row
  have c6 := cell_of_row w a (6 + st.length) _ _ _ h.row
  have f6 := frozen_of_row w a (6 + st.length) _ _ h.row
  rw [List.getElem?_toArray, sdL_get5 h4] at c5
  rw [List.getElem?_toArray, sdL_getS h4, List.getElem?_eq_getElem (by omega)] at c6
  simp only [Option.map_some] at c6
  have r1 := h.set (6 + st.length) (.int .i64 x.2)
  have d5 := cell_of_row _ a 5 _ _ _ r1
  have g5 := frozen_of_row _ a 5 _ _ r1
  rw [sdL_stk h4, List.getElem?_toArray, sdL_get5 h4] at d5
  rw [sdL_stk h4] at r1
  have r2 := setCell_row 5 (.int .i64 ((st.length + 1 : Nat) : Int)) r1
  rw [List.setIfInBounds_toArray, sdL_depth h4] at r2
  have R2 : Hid (SB ((w.setCell ⟨a, 6 + st.length, none⟩ (.int .i64 x.2)).setCell ⟨a, 5, none⟩ (.int .i64 ((st.length + 1 : Nat) : Int))) a nx lo (st ++ [x]) lo4 (st8.set st.length x.2)) := hid ⟨by rw [List.length_append, List.length_singleton]; exact r2, h.ok.push hs x⟩
  have i0 : (0 : Int) ≤ (st.length : Int) := by omega
  have i1 : (st.length : Int) < 8 := by omega
  generalize x.2 = v at *
  generalize st8[st.length] = v6 at *
  clear h r1 r2 h4 h8
  go_enter Tryd.func60, Tryd.ntmps60
  go_wp2_with fail
  go_region
  all_goals go_wp2_with fail
  go_end0
  exact ⟨rfl, ⟨R2.out.row, R2.out.ok⟩, ((Only.refl _ _).set _ _).drew.set _ _⟩
set_option maxRecDepth 100000 in
set_option maxHeartbeats 1000000 in
theorem spop_any {w : World} {a : Nat} {nx : Int} {lo st : List (Bool × Int)} {x : Bool × Int} {lo4 st8 : List Int} (h : SB w a nx lo (st ++ [x]) lo4 st8) :
    Calls Tryd.prog 48 #[.pointer (some ⟨a, 0, none⟩)] w fun e w' => e = .returned (.int .i64 x.2) ∧ SB w' a nx lo st lo4 st8 ∧ Only a w w' := by
  have h4 := h.ok.l4
  have h8 := h.ok.l8
  obtain ⟨hok, hget, hlt⟩ := h.ok.pop
  have hrow := h.row
  rw [List.length_append, List.length_singleton] at hrow
  have c5 := cell_of_row w a 5 _ _ _ hrow
  have f5 := frozen_of_row w a 5 _ _ hrow
  rw [List.getElem?_toArray, sdL_get5 h4] at c5
  have r1 := setCell_row 5 (.int .i64 (st.length : Int)) hrow
  rw [List.setIfInBounds_toArray, sdL_depth h4] at r1
  have d5 := cell_of_row _ a 5 _ _ _ r1
  have d6 := cell_of_row _ a (6 + st.length) _ _ _ r1
  rw [List.getElem?_toArray, sdL_get5 h4] at d5
  rw [List.getElem?_toArray, sdL_getS h4, hget] at d6
  simp only [Option.map_some] at d6
  have R1 : Hid (SB (w.setCell ⟨a, 5, none⟩ (.int .i64 (st.length : Int))) a nx lo st lo4 st8) := hid ⟨r1, hok⟩
  have i0 : (0 : Int) ≤ (st.length : Int) := by omega
  have i1 : (st.length : Int) < 8 := by omega
  generalize x.2 = v at *
  clear h r1 h4 h8 hok hget hrow
  go_enter Tryd.func48, Tryd.ntmps48
  go_wp2_with fail
  go_quiet (fail)
  all_goals go_wp2_with fail
  go_ret
  exact ⟨rfl, ⟨R1.out.row, R1.out.ok⟩, ((Only.refl _ _).set _ _).drewN _⟩
/-- A standing in memory, its spare places whatever they hold. -/
def SX (w : World) (a : Nat) (nx : Int) (lo st : List (Bool × Int)) : Prop := ∃ lo4 st8, SB w a nx lo st lo4 st8
theorem SX.below {w w' : World} {a : Nat} {nx : Int} {lo st : List (Bool × Int)} (h : SX w a nx lo st) (hb : Below w.heap.size w w') : SX w' a nx lo st := by
  obtain ⟨lo4, st8, h1, h2⟩ := h
  exact ⟨lo4, st8, (hb.block a (Array.getElem?_eq_some_iff.1 h1).1).trans h1, h2⟩
theorem SX.keep {w w' : World} {a : Nat} {nx : Int} {lo st : List (Bool × Int)} (h : SX w a nx lo st) (hb : w'.heap[a]? = w.heap[a]?) : SX w' a nx lo st := by
  obtain ⟨lo4, st8, h1, h2⟩ := h
  exact ⟨lo4, st8, hb.trans h1, h2⟩
theorem SX.lt {w : World} {a : Nat} {nx : Int} {lo st : List (Bool × Int)} (h : SX w a nx lo st) : a < w.heap.size := by
  obtain ⟨lo4, st8, h1, h2⟩ := h
  exact (Array.getElem?_eq_some_iff.1 h1).1
def SPost (a : Nat) (nx : Int) (lo st : List (Bool × Int)) (v : Value) (w : World) (e : Ending) (w' : World) : Prop := e = .returned v ∧ SX w' a nx lo st ∧ Only a w w'
theorem xpush {w : World} {a : Nat} {nx : Int} {lo st : List (Bool × Int)} (h : SX w a nx lo st) (hs : st.length < 8) (x : Bool × Int) :
    Calls Tryd.prog 60 #[.pointer (some ⟨a, 0, none⟩), .int .i64 x.2] w (SPost a nx lo (st ++ [x]) (.tuple #[]) w) := by
  obtain ⟨lo4, st8, h⟩ := h
  refine (spush_any h hs x).mono ?_
  rintro e w' ⟨h1, h2, h3⟩
  exact ⟨h1, ⟨_, _, h2⟩, h3⟩
theorem xpop {w : World} {a : Nat} {nx : Int} {lo st : List (Bool × Int)} {x : Bool × Int} (h : SX w a nx lo (st ++ [x])) :
    Calls Tryd.prog 48 #[.pointer (some ⟨a, 0, none⟩)] w (SPost a nx lo st (.int .i64 x.2) w) := by
  obtain ⟨lo4, st8, h⟩ := h
  refine (spop_any h).mono ?_
  rintro e w' ⟨h1, h2, h3⟩
  exact ⟨h1, ⟨_, _, h2⟩, h3⟩
theorem StOk.getLo {lo st : List (Bool × Int)} {lo4 st8 : List Int} (h : StOk lo st lo4 st8) {n : Nat} (hn : n < lo.length) : lo4[n]? = some lo[n].2 := by
  have e := congrArg (fun l => l[n]?) h.lo
  simp only [List.getElem?_take, if_pos hn, List.getElem?_map, List.getElem?_eq_getElem hn, Option.map_some] at e
  exact e
theorem StOk.setLo {lo st : List (Bool × Int)} {lo4 st8 : List Int} (h : StOk lo st lo4 st8) (n : Nat) (x : Bool × Int) : StOk (lo.set n x) st (lo4.set n x.2) st8 := by
  refine ⟨by simp [h.l4], h.l8, by simpa using h.loL, ?_, h.stL, h.st⟩
  rw [List.length_set, List.take_set, h.lo, List.map_set]
set_option maxRecDepth 100000 in
set_option maxHeartbeats 1000000 in
theorem xload {w : World} {a : Nat} {nx : Int} {lo st : List (Bool × Int)} (h : SX w a nx lo st) (hs : st.length < 8) {n : Nat} (hn : n < lo.length) :
    Calls Tryd.prog 80 #[.pointer (some ⟨a, 0, none⟩), .int .i64 n] w (SPost a nx lo (st ++ [lo[n]]) (.tuple #[]) w) := by
  have hp := hid (xpush h hs lo[n])
  obtain ⟨lo4, st8, h⟩ := h
  have h4 := h.ok.l4
  have hl := h.ok.loL
  have c1 := cell_of_row w a (1 + n) _ _ _ h.row
  rw [List.getElem?_toArray, sdL_getL h4 (by omega), h.ok.getLo hn] at c1
  simp only [Option.map_some] at c1
  have i0 : (0 : Int) ≤ (n : Int) := by omega
  have i1 : (n : Int) < 4 := by omega
  generalize lo[n] = x at *
  obtain ⟨xf, xv⟩ := x
  simp only at c1 hp
  clear h
  go_enter Tryd.func80, Tryd.ntmps80
  go_wp2_with fail
  refine hp.out.mono ?_
  clear hp
  intro e w2 hh
  have HH := hid hh
  have hx := hh.1
  clear hh
  subst e
  go_wp2_with fail
  go_end0
  exact HH.out
set_option maxRecDepth 100000 in
set_option maxHeartbeats 1000000 in
theorem xstore {w : World} {a : Nat} {nx : Int} {lo st : List (Bool × Int)} {x : Bool × Int} (h : SX w a nx lo (st ++ [x])) {n : Nat} (hn : n < lo.length) :
    Calls Tryd.prog 81 #[.pointer (some ⟨a, 0, none⟩), .int .i64 n] w (SPost a nx (lo.set n x) st (.tuple #[]) w) := by
  have hp := hid (xpop h)
  have hl : lo.length ≤ 4 := by obtain ⟨_, _, h⟩ := h; exact h.ok.loL
  have i0 : (0 : Int) ≤ (n : Int) := by omega
  have i1 : (n : Int) < 4 := by omega
  have ST : Hid (∀ w2, SX w2 a nx lo st → (∃ v, w2.cell? ⟨a, 1 + n, none⟩ = some v) ∧ w2.frozen? ⟨a, 1 + n, none⟩ = false ∧ SX (w2.setCell ⟨a, 1 + n, none⟩ (.int .i64 x.2)) a nx (lo.set n x) st) := hid (by
    rintro w2 ⟨lo4, st8, h2⟩
    have h4 := h2.ok.l4
    have c1 := cell_of_row w2 a (1 + n) _ _ _ h2.row
    rw [List.getElem?_toArray, sdL_getL h4 (by omega), h2.ok.getLo hn] at c1
    have r := h2.set (1 + n) (.int .i64 x.2)
    rw [sdL_lo h4 (by omega)] at r
    exact ⟨⟨_, c1⟩, frozen_of_row w2 a (1 + n) _ _ h2.row, _, _, r, h2.ok.setLo n x⟩)
  obtain ⟨xf, xv⟩ := x
  simp only at ST hp
  clear h
  go_enter Tryd.func81, Tryd.ntmps81
  go_wp2_with fail
  refine hp.out.mono ?_
  clear hp
  intro e w2 hh
  obtain ⟨hx, hS, hO⟩ := hh
  subst e
  obtain ⟨⟨v, a1⟩, a2, a3⟩ := ST.out w2 hS
  have A3 := hid a3
  have HO := hid hO
  clear a3 hS hO ST
  go_wp2_with fail
  go_end0
  exact ⟨rfl, A3.out, HO.out.set _ _⟩
set_option maxRecDepth 100000 in
theorem signed_any (n : Nat) (hn : n < 256) (w : World) : Calls Tryd.prog 79 #[.int .i64 n] w fun e w' => e = .returned (.int .i64 (if n < 128 then (n : Int) else (n : Int) - 256)) ∧ w' = w := by
  by_cases h : n < 128
  · have h1 : (n : Int) < 128 := by omega
    rw [if_pos h]
    go_enter Tryd.func79, Tryd.ntmps79
    go_wp2_with fail
    go_ret
    exact ⟨rfl, rfl⟩
  · have h1 : ¬ (n : Int) < 128 := by omega
    have h3 : -9223372036854775808 ≤ (n : Int) - 256 := by omega
    have h4 : (n : Int) - 256 < 9223372036854775808 := by omega
    rw [if_neg h]
    go_enter Tryd.func79, Tryd.ntmps79
    go_wp2_with fail
    go_ret
    exact ⟨rfl, rfl⟩
set_option maxRecDepth 100000 in
theorem truth_any (b : Bool) (w : World) : Calls Tryd.prog 70 #[.bool b] w fun e w' => e = .returned (.int .i64 (if b = true then 1 else 0)) ∧ w' = w := by
  cases b
  · go_enter Tryd.func70, Tryd.ntmps70
    go_wp2_with fail
    go_ret
    exact ⟨rfl, rfl⟩
  · go_enter Tryd.func70, Tryd.ntmps70
    go_wp2_with fail
    go_ret
    exact ⟨rfl, rfl⟩
end Go.Proofs.YtdmdpindonghdabDoor
namespace Go.Proofs.YtdmdpindonghdabDoor
open Go.RowKit
theorem st_one {st : List (Bool × Int)} (h : 0 < st.length) : st = st.take (st.length - 1) ++ [lastW st 0] := by
  have e := lastW_at h
  simp only [Nat.sub_zero] at e
  obtain ⟨hl, he⟩ := List.getElem?_eq_some_iff.1 e
  rw [← he, ← List.take_succ_eq_append_getElem hl, show st.length - 1 + 1 = st.length by omega, List.take_length]
theorem st_two {st : List (Bool × Int)} (h : 1 < st.length) : st = (st.take (st.length - 2) ++ [lastW st 1]) ++ [lastW st 0] := by
  have e := lastW_at h
  obtain ⟨hl, he⟩ := List.getElem?_eq_some_iff.1 e
  have h2 := st_one (st := st) (by omega)
  rw [show st.length - 2 = st.length - 1 - 1 by omega, ← he, ← List.take_succ_eq_append_getElem hl, show st.length - 1 - 1 + 1 = st.length - 1 by omega]
  exact h2
def insV (pl op n tg : Nat) : Value := .agg #[.int .i64 pl, .int .i64 op, .int .i64 n, .int .i64 tg]
def MPost (a : Nat) (nx : Int) (lo st : List (Bool × Int)) (v : Value) (w : World) (e : Ending) (w' : World) : Prop := e = .returned v ∧ SX w' a nx lo st ∧ Two a a w w'
/-- The world with an instruction in a box of its own. -/
structure BoxI (w W : World) (a : Nat) (pl op n tg : Nat) : Prop where
  c1 : W.cell? ⟨w.heap.size, 1, none⟩ = some (.int .i64 op)
  c2 : W.cell? ⟨w.heap.size, 2, none⟩ = some (.int .i64 n)
  c3 : W.cell? ⟨w.heap.size, 3, none⟩ = some (.int .i64 tg)
  two : Two a a w W
  lt : a < w.heap.size
theorem BoxI.start (w : World) {a : Nat} (pl op n tg : Nat) (h : a < w.heap.size) : BoxI w (w.alloc (.cells #[.int .i64 pl, .int .i64 op, .int .i64 n, .int .i64 tg] 87)) a pl op n tg := by
  have hr := heap_alloc_new w (.cells #[.int .i64 pl, .int .i64 op, .int .i64 n, .int .i64 tg] 87)
  exact ⟨cell_of_row _ _ 1 _ _ _ hr, cell_of_row _ _ 2 _ _ _ hr, cell_of_row _ _ 3 _ _ _ hr, (Two.refl _ _ _).alloc _, h⟩
theorem BoxI.only {w W W' : World} {a pl op n tg : Nat} (h : BoxI w W a pl op n tg) (ho : Only a W W') : BoxI w W' a pl op n tg := by
  have hne : w.heap.size ≠ a := by have := h.lt; omega
  exact ⟨(ho.cell hne).trans h.c1, (ho.cell hne).trans h.c2, (ho.cell hne).trans h.c3, h.two.trans (Two.of_only ho), h.lt⟩
set_option maxRecDepth 100000 in
set_option maxHeartbeats 1000000 in
theorem move_1 {w : World} {a : Nat} {nx : Int} {lo st : List (Bool × Int)} (h : SX w a nx lo st) (pl n tg : Nat) (hs : st.length < 8) (hn : n < 256) :
    Calls Tryd.prog 61 #[.pointer (some ⟨a, 0, none⟩), insV pl 1 n tg] w (MPost a nx lo (st ++ [(false, ((n : Int) + 128) % 256 - 128)]) (.tuple #[]) w) := by
  have hlt := h.lt
  have hB := BoxI.start w pl 1 n tg hlt
  have h1 := h.below ((Below.refl _ _).alloc (Nat.le_refl _) (.cells #[.int .i64 pl, .int .i64 1, .int .i64 n, .int .i64 tg] 87))
  have hsg := hid (signed_any n hn (w.alloc (.cells #[.int .i64 pl, .int .i64 1, .int .i64 n, .int .i64 tg] 87)))
  have e : (if n < 128 then (n : Int) else (n : Int) - 256) = ((n : Int) + 128) % 256 - 128 := by
    split <;> omega
  rw [e] at hsg
  have hp := hid (xpush h1 hs (false, ((n : Int) + 128) % 256 - 128))
  simp only at hp
  generalize ((n : Int) + 128) % 256 - 128 = v at *
  have HB := hid hB
  clear e h1 hB
  unfold insV
  clear h
  go_enter Tryd.func61, Tryd.ntmps61
  go_wp2_with fail
  refine hsg.out.mono ?_
  clear hsg
  rintro e w1 ⟨rfl, rfl⟩
  go_wp2_with fail
  refine hp.out.mono ?_
  clear hp
  intro e w2 hh
  obtain ⟨hx, hS, hO⟩ := hh
  subst e
  have Bw2 := HB.out.only hO
  clear hO
  have HS := hid hS
  have HT := hid Bw2.two
  clear hS Bw2
  go_wp2_with fail
  go_end0
  exact ⟨rfl, HS.out, HT.out⟩
set_option maxRecDepth 100000 in
set_option maxHeartbeats 1000000 in
theorem move_7 {w : World} {a : Nat} {nx : Int} {lo st : List (Bool × Int)} (h : SX w a nx lo st) (pl n tg : Nat) (hs : st.length < 8) (hn : n < lo.length) :
    Calls Tryd.prog 61 #[.pointer (some ⟨a, 0, none⟩), insV pl 7 n tg] w (MPost a nx lo (st ++ [lo[n]]) (.tuple #[]) w) := by
  have hlt := h.lt
  have hB := BoxI.start w pl 7 n tg hlt
  have h1 := h.below ((Below.refl _ _).alloc (Nat.le_refl _) (.cells #[.int .i64 pl, .int .i64 7, .int .i64 n, .int .i64 tg] 87))
  have hp := hid (xload h1 hs hn)
  have HB := hid hB
  clear h1 hB
  unfold insV
  clear h
  go_enter Tryd.func61, Tryd.ntmps61
  go_wp2_with fail
  refine hp.out.mono ?_
  clear hp
  intro e w2 hh
  obtain ⟨hx, hS, hO⟩ := hh
  subst e
  have Bw2 := HB.out.only hO
  clear hO
  have HS := hid hS
  have HT := hid Bw2.two
  clear hS Bw2
  go_wp2_with fail
  go_end0
  exact ⟨rfl, HS.out, HT.out⟩
set_option maxRecDepth 100000 in
set_option maxHeartbeats 1000000 in
theorem move_8 {w : World} {a : Nat} {nx : Int} {lo st : List (Bool × Int)} {x : Bool × Int} (h : SX w a nx lo (st ++ [x])) (pl n tg : Nat) (hn : n < lo.length) :
    Calls Tryd.prog 61 #[.pointer (some ⟨a, 0, none⟩), insV pl 8 n tg] w (MPost a nx (lo.set n x) st (.tuple #[]) w) := by
  have hlt := h.lt
  have hB := BoxI.start w pl 8 n tg hlt
  have h1 := h.below ((Below.refl _ _).alloc (Nat.le_refl _) (.cells #[.int .i64 pl, .int .i64 8, .int .i64 n, .int .i64 tg] 87))
  have hp := hid (xstore h1 hn)
  have HB := hid hB
  clear h1 hB
  unfold insV
  clear h
  go_enter Tryd.func61, Tryd.ntmps61
  go_wp2_with fail
  refine hp.out.mono ?_
  clear hp
  intro e w2 hh
  obtain ⟨hx, hS, hO⟩ := hh
  subst e
  have Bw2 := HB.out.only hO
  clear hO
  have HS := hid hS
  have HT := hid Bw2.two
  clear hS Bw2
  go_wp2_with fail
  go_end0
  exact ⟨rfl, HS.out, HT.out⟩
set_option maxRecDepth 100000 in
set_option maxHeartbeats 1000000 in
theorem move_9 {w : World} {a : Nat} {nx : Int} {lo st : List (Bool × Int)} {x : Bool × Int} (h : SX w a nx lo (st ++ [x])) (pl n tg : Nat) (hs : st.length < 7) :
    Calls Tryd.prog 61 #[.pointer (some ⟨a, 0, none⟩), insV pl 9 n tg] w (MPost a nx lo ((st ++ [x]) ++ [x]) (.tuple #[]) w) := by
  have hlt := h.lt
  have hB := BoxI.start w pl 9 n tg hlt
  have h1 := h.below ((Below.refl _ _).alloc (Nat.le_refl _) (.cells #[.int .i64 pl, .int .i64 9, .int .i64 n, .int .i64 tg] 87))
  have hp := hid (xpop h1)
  have HB := hid hB
  clear h1 hB
  unfold insV
  clear h
  go_enter Tryd.func61, Tryd.ntmps61
  go_wp2_with fail
  refine hp.out.mono ?_
  clear hp
  intro e w2 hh
  obtain ⟨hx, hS, hO⟩ := hh
  subst e
  have Bw2 := HB.out.only hO
  clear hO
  have hp := hid (xpush hS (by omega) x)
  have HB2 := hid Bw2
  clear hS Bw2
  go_wp2_with fail
  refine hp.out.mono ?_
  clear hp
  intro e w3 hh
  obtain ⟨hx, hS, hO⟩ := hh
  subst e
  have Bw3 := HB2.out.only hO
  clear hO
  have hp := hid (xpush hS (by simp; omega) x)
  have HB3 := hid Bw3
  clear hS Bw3
  go_wp2_with fail
  refine hp.out.mono ?_
  clear hp
  intro e w4 hh
  obtain ⟨hx, hS, hO⟩ := hh
  subst e
  have Bw4 := HB3.out.only hO
  clear hO
  have HS := hid hS
  have HT := hid Bw4.two
  clear hS Bw4
  go_wp2_with fail
  go_end0
  exact ⟨rfl, HS.out, HT.out⟩
set_option maxRecDepth 100000 in
set_option maxHeartbeats 1000000 in
theorem move_10 {w : World} {a : Nat} {nx : Int} {lo st : List (Bool × Int)} {x : Bool × Int} (h : SX w a nx lo (st ++ [x])) (pl n tg : Nat) :
    Calls Tryd.prog 61 #[.pointer (some ⟨a, 0, none⟩), insV pl 10 n tg] w (MPost a nx lo st (.tuple #[]) w) := by
  have hlt := h.lt
  have hB := BoxI.start w pl 10 n tg hlt
  have h1 := h.below ((Below.refl _ _).alloc (Nat.le_refl _) (.cells #[.int .i64 pl, .int .i64 10, .int .i64 n, .int .i64 tg] 87))
  have hp := hid (xpop h1)
  have HB := hid hB
  clear h1 hB
  unfold insV
  clear h
  go_enter Tryd.func61, Tryd.ntmps61
  go_wp2_with fail
  refine hp.out.mono ?_
  clear hp
  intro e w2 hh
  obtain ⟨hx, hS, hO⟩ := hh
  subst e
  have Bw2 := HB.out.only hO
  clear hO
  have HS := hid hS
  have HT := hid Bw2.two
  clear hS Bw2
  go_wp2_with fail
  go_end0
  exact ⟨rfl, HS.out, HT.out⟩
set_option maxRecDepth 100000 in
set_option maxHeartbeats 1000000 in
theorem move_11 {w : World} {a : Nat} {nx : Int} {lo st : List (Bool × Int)} {x y : Bool × Int} (h : SX w a nx lo ((st ++ [x]) ++ [y])) (pl n tg : Nat) (hs : st.length < 7) :
    Calls Tryd.prog 61 #[.pointer (some ⟨a, 0, none⟩), insV pl 11 n tg] w (MPost a nx lo ((st ++ [y]) ++ [x]) (.tuple #[]) w) := by
  have hlt := h.lt
  have hB := BoxI.start w pl 11 n tg hlt
  have h1 := h.below ((Below.refl _ _).alloc (Nat.le_refl _) (.cells #[.int .i64 pl, .int .i64 11, .int .i64 n, .int .i64 tg] 87))
  have hp := hid (xpop h1)
  have HB := hid hB
  clear h1 hB
  unfold insV
  clear h
  go_enter Tryd.func61, Tryd.ntmps61
  go_wp2_with fail
  refine hp.out.mono ?_
  clear hp
  intro e w2 hh
  obtain ⟨hx, hS, hO⟩ := hh
  subst e
  have Bw2 := HB.out.only hO
  clear hO
  have hp := hid (xpop hS)
  have HB2 := hid Bw2
  clear hS Bw2
  go_wp2_with fail
  refine hp.out.mono ?_
  clear hp
  intro e w3 hh
  obtain ⟨hx, hS, hO⟩ := hh
  subst e
  have Bw3 := HB2.out.only hO
  clear hO
  have hp := hid (xpush hS (by omega) y)
  have HB3 := hid Bw3
  clear hS Bw3
  go_wp2_with fail
  refine hp.out.mono ?_
  clear hp
  intro e w4 hh
  obtain ⟨hx, hS, hO⟩ := hh
  subst e
  have Bw4 := HB3.out.only hO
  clear hO
  have hp := hid (xpush hS (by simp; omega) x)
  have HB4 := hid Bw4
  clear hS Bw4
  go_wp2_with fail
  refine hp.out.mono ?_
  clear hp
  intro e w5 hh
  obtain ⟨hx, hS, hO⟩ := hh
  subst e
  have Bw5 := HB4.out.only hO
  clear hO
  have HS := hid hS
  have HT := hid Bw5.two
  clear hS Bw5
  go_wp2_with fail
  go_end0
  exact ⟨rfl, HS.out, HT.out⟩
set_option maxRecDepth 100000 in
set_option maxHeartbeats 1000000 in
theorem move_12 {w : World} {a : Nat} {nx : Int} {lo st : List (Bool × Int)} (h : SX w a nx lo st) (pl n tg : Nat) (hs : st.length < 8) :
    Calls Tryd.prog 61 #[.pointer (some ⟨a, 0, none⟩), insV pl 12 n tg] w (MPost a nx lo (st ++ [(true, -1)]) (.tuple #[]) w) := by
  have hlt := h.lt
  have hB := BoxI.start w pl 12 n tg hlt
  have h1 := h.below ((Below.refl _ _).alloc (Nat.le_refl _) (.cells #[.int .i64 pl, .int .i64 12, .int .i64 n, .int .i64 tg] 87))
  have hp := hid (xpush h1 hs (true, -1))
  simp only at hp
  have HB := hid hB
  clear h1 hB
  unfold insV
  clear h
  go_enter Tryd.func61, Tryd.ntmps61
  go_wp2_with fail
  refine hp.out.mono ?_
  clear hp
  intro e w2 hh
  obtain ⟨hx, hS, hO⟩ := hh
  subst e
  have Bw2 := HB.out.only hO
  clear hO
  have HS := hid hS
  have HT := hid Bw2.two
  clear hS Bw2
  go_wp2_with fail
  go_end0
  exact ⟨rfl, HS.out, HT.out⟩
set_option maxRecDepth 100000 in
set_option maxHeartbeats 1000000 in
theorem move_18 {w : World} {a : Nat} {nx : Int} {lo st : List (Bool × Int)} {x y : Bool × Int} (h : SX w a nx lo ((st ++ [x]) ++ [y])) (pl n tg : Nat) (hs : st.length < 8) :
    Calls Tryd.prog 61 #[.pointer (some ⟨a, 0, none⟩), insV pl 18 n tg] w (MPost a nx lo (st ++ [(false, sumC 18 x.2 y.2)]) (.tuple #[]) w) := by
  have hlt := h.lt
  have hB := BoxI.start w pl 18 n tg hlt
  have h1 := h.below ((Below.refl _ _).alloc (Nat.le_refl _) (.cells #[.int .i64 pl, .int .i64 18, .int .i64 n, .int .i64 tg] 87))
  obtain ⟨xf, xv⟩ := x
  obtain ⟨yf, yv⟩ := y
  have hp := hid (xpop h1)
  have HB := hid hB
  clear h1 hB
  unfold insV
  clear h
  go_enter Tryd.func61, Tryd.ntmps61
  go_wp2_with fail
  refine hp.out.mono ?_
  clear hp
  intro e w2 hh
  obtain ⟨hx, hS, hO⟩ := hh
  subst e
  have Bw2 := HB.out.only hO
  clear hO
  have hp := hid (xpop hS)
  have HB2 := hid Bw2
  clear hS Bw2
  go_wp2_with fail
  refine hp.out.mono ?_
  clear hp
  intro e w3 hh
  obtain ⟨hx, hS, hO⟩ := hh
  subst e
  have Bw3 := HB2.out.only hO
  clear hO
  have HB3 := hid Bw3
  clear Bw3
  simp only
  by_cases e : xv = yv
  · have q : (xv == yv) = true := by simpa using e
    have HE : Hid (sumC 18 xv yv = 1) := hid (by unfold sumC; simp [e])
    have hp := hid (xpush hS hs (false, 1))
    have ht := hid (truth_any true w3)
    simp only [if_true] at ht hp
    clear hS e
    go_wp2_with fail
    refine ht.out.mono ?_
    clear ht
    intro e w9 hh
    obtain ⟨hx, hw⟩ := hh
    subst e
    subst w9
    go_wp2_with fail
    refine hp.out.mono ?_
    clear hp
    intro e w4 hh
    obtain ⟨hx, hS, hO⟩ := hh
    subst e
    have HT := hid (HB3.out.only hO).two
    have HS := hid hS
    clear hS hO
    go_wp2_with fail
    go_end0
    exact ⟨rfl, by rw [HE.out]; exact HS.out, HT.out⟩
  · have q : (xv == yv) = false := by simpa using e
    have HE : Hid (sumC 18 xv yv = 0) := hid (by unfold sumC; simp [e])
    have hp := hid (xpush hS hs (false, 0))
    have ht := hid (truth_any false w3)
    simp only [Bool.false_eq_true, if_false] at ht hp
    clear hS e
    go_wp2_with fail
    refine ht.out.mono ?_
    clear ht
    intro e w9 hh
    obtain ⟨hx, hw⟩ := hh
    subst e
    subst w9
    go_wp2_with fail
    refine hp.out.mono ?_
    clear hp
    intro e w4 hh
    obtain ⟨hx, hS, hO⟩ := hh
    subst e
    have HT := hid (HB3.out.only hO).two
    have HS := hid hS
    clear hS hO
    go_wp2_with fail
    go_end0
    exact ⟨rfl, by rw [HE.out]; exact HS.out, HT.out⟩
theorem SX.next {w : World} {a : Nat} {nx : Int} {lo st : List (Bool × Int)} (h : SX w a nx lo st) (nx' : Int) : (∃ v, w.cell? ⟨a, 0, none⟩ = some v) ∧ w.frozen? ⟨a, 0, none⟩ = false ∧ SX (w.setCell ⟨a, 0, none⟩ (.int .i64 nx')) a nx' lo st := by
  obtain ⟨lo4, st8, h⟩ := h
  have c := cell_of_row w a 0 _ _ _ h.row
  exact ⟨⟨_, c⟩, frozen_of_row w a 0 _ _ h.row, lo4, st8, h.set 0 _, h.ok⟩
set_option maxRecDepth 100000 in
set_option maxHeartbeats 1000000 in
theorem move_19 {w : World} {a : Nat} {nx : Int} {lo st : List (Bool × Int)} (h : SX w a nx lo st) (pl n tg : Nat) :
    Calls Tryd.prog 61 #[.pointer (some ⟨a, 0, none⟩), insV pl 19 n tg] w (MPost a tg lo st (.tuple #[]) w) := by
  have hlt := h.lt
  have hB := BoxI.start w pl 19 n tg hlt
  have h1 := h.below ((Below.refl _ _).alloc (Nat.le_refl _) (.cells #[.int .i64 pl, .int .i64 19, .int .i64 n, .int .i64 tg] 87))
  obtain ⟨⟨v, a1⟩, a2, _⟩ := h1.next tg
  have A3 := hid ((h.next tg).2.2.below ((Below.refl _ _).alloc (Nat.le_refl _) (.cells #[.int .i64 pl, .int .i64 19, .int .i64 n, .int .i64 tg] 87)))
  have c3 := hB.c3
  unfold insV
  clear h h1 hB
  go_enter Tryd.func61, Tryd.ntmps61
  go_wp2_with fail
  go_end0
  exact ⟨rfl, A3.out, ((Two.refl _ _ _).set).alloc _⟩
set_option maxRecDepth 100000 in
set_option maxHeartbeats 1000000 in
theorem move_20 {w : World} {a : Nat} {nx : Int} {lo st : List (Bool × Int)} {x : Bool × Int} (h : SX w a nx lo (st ++ [x])) (pl n tg : Nat) :
    Calls Tryd.prog 61 #[.pointer (some ⟨a, 0, none⟩), insV pl 20 n tg] w (MPost a (if x.2 ≠ 0 then (tg : Int) else nx) lo st (.tuple #[]) w) := by
  have hlt := h.lt
  have hB := BoxI.start w pl 20 n tg hlt
  have h1 := h.below ((Below.refl _ _).alloc (Nat.le_refl _) (.cells #[.int .i64 pl, .int .i64 20, .int .i64 n, .int .i64 tg] 87))
  have hp := hid (xpop h1)
  have HB := hid hB
  obtain ⟨xf, xv⟩ := x
  simp only at hp ⊢
  unfold insV
  clear h h1 hB
  by_cases e : xv = 0
  · subst e
    rw [if_neg (by simp)]
    go_enter Tryd.func61, Tryd.ntmps61
    go_wp2_with fail
    refine hp.out.mono ?_
    clear hp
    intro e w2 hh
    obtain ⟨hx, hS, hO⟩ := hh
    subst e
    have HT := hid (HB.out.only hO).two
    have HS := hid hS
    clear hS hO
    go_wp2_with fail
    go_end0
    exact ⟨rfl, HS.out, HT.out⟩
  · have q : (xv != 0) = true := by simpa using e
    rw [if_pos e]
    clear e
    go_enter Tryd.func61, Tryd.ntmps61
    go_wp2_with fail
    refine hp.out.mono ?_
    clear hp
    intro e w2 hh
    obtain ⟨hx, hS, hO⟩ := hh
    subst e
    have hB2 := HB.out.only hO
    have c3 := hB2.c3
    have HT := hid hB2.two
    obtain ⟨⟨v, a1⟩, a2, a3⟩ := hS.next tg
    have A3 := hid a3
    clear hS hO hB2 a3
    go_wp2_with fail
    go_end0
    exact ⟨rfl, A3.out, HT.out.set⟩
end Go.Proofs.YtdmdpindonghdabDoor
namespace Go.Proofs.YtdmdpindonghdabDoor
open Go.RowKit
def RkPost (a : Nat) (nx : Int) (lo st : List (Bool × Int)) (v : Int) (w : World) (e : Ending) (w' : World) : Prop := e = .returned (.int .i64 0) ∧ SX w' a nx lo (st ++ [(false, v)]) ∧ Only a w w'
set_option maxRecDepth 100000 in
set_option maxHeartbeats 1000000 in
theorem reckon_2 {w : World} {a : Nat} {nx : Int} {lo st : List (Bool × Int)} {x y : Bool × Int} (h : SX w a nx lo ((st ++ [x]) ++ [y])) (hs : st.length < 8) :
    Calls Tryd.prog 55 #[.pointer (some ⟨a, 0, none⟩), .int .i64 2] w (RkPost a nx lo st (sumC 2 x.2 y.2) w) := by
  have hp := hid (xpop h)
  obtain ⟨xf, xv⟩ := x
  obtain ⟨yf, yv⟩ := y
  simp only at hp ⊢
  clear h
  go_enter Tryd.func55, Tryd.ntmps55
  go_wp2_with fail
  refine hp.out.mono ?_
  clear hp
  intro e w2 hh
  obtain ⟨hx, hS, hO⟩ := hh
  subst e
  have hp := hid (xpop hS)
  have HO1 := hid hO
  simp only at hp
  clear hS hO
  go_wp2_with fail
  refine hp.out.mono ?_
  clear hp
  intro e w3 hh
  obtain ⟨hx, hS, hO⟩ := hh
  subst e
  have HO2 := hid hO
  have hp := hid (xpush hS hs (false, sumC 2 xv yv))
  have HE : Hid (sumC 2 xv yv = wrap64 (xv + yv)) := hid rfl
  simp only [HE.out] at hp
  clear hS hO
  go_wp2_with fail
  refine hp.out.mono ?_
  clear hp
  intro e w4 hh
  obtain ⟨hx, hS, hO⟩ := hh
  subst e
  have HS := hid hS
  have HO3 := hid hO
  clear hS hO
  go_wp2_with fail
  go_ret
  exact ⟨rfl, by rw [HE.out]; exact HS.out, (HO1.out.trans HO2.out).trans HO3.out⟩
set_option maxRecDepth 100000 in
set_option maxHeartbeats 1000000 in
theorem reckon_3 {w : World} {a : Nat} {nx : Int} {lo st : List (Bool × Int)} {x y : Bool × Int} (h : SX w a nx lo ((st ++ [x]) ++ [y])) (hs : st.length < 8) :
    Calls Tryd.prog 55 #[.pointer (some ⟨a, 0, none⟩), .int .i64 3] w (RkPost a nx lo st (sumC 3 x.2 y.2) w) := by
  have hp := hid (xpop h)
  obtain ⟨xf, xv⟩ := x
  obtain ⟨yf, yv⟩ := y
  simp only at hp ⊢
  clear h
  go_enter Tryd.func55, Tryd.ntmps55
  go_wp2_with fail
  refine hp.out.mono ?_
  clear hp
  intro e w2 hh
  obtain ⟨hx, hS, hO⟩ := hh
  subst e
  have hp := hid (xpop hS)
  have HO1 := hid hO
  simp only at hp
  clear hS hO
  go_wp2_with fail
  refine hp.out.mono ?_
  clear hp
  intro e w3 hh
  obtain ⟨hx, hS, hO⟩ := hh
  subst e
  have HO2 := hid hO
  have hp := hid (xpush hS hs (false, sumC 3 xv yv))
  have HE : Hid (sumC 3 xv yv = wrap64 (xv - yv)) := hid rfl
  simp only [HE.out] at hp
  clear hS hO
  go_wp2_with fail
  refine hp.out.mono ?_
  clear hp
  intro e w4 hh
  obtain ⟨hx, hS, hO⟩ := hh
  subst e
  have HS := hid hS
  have HO3 := hid hO
  clear hS hO
  go_wp2_with fail
  go_ret
  exact ⟨rfl, by rw [HE.out]; exact HS.out, (HO1.out.trans HO2.out).trans HO3.out⟩
set_option maxRecDepth 100000 in
set_option maxHeartbeats 1000000 in
theorem reckon_4 {w : World} {a : Nat} {nx : Int} {lo st : List (Bool × Int)} {x y : Bool × Int} (h : SX w a nx lo ((st ++ [x]) ++ [y])) (hs : st.length < 8) :
    Calls Tryd.prog 55 #[.pointer (some ⟨a, 0, none⟩), .int .i64 4] w (RkPost a nx lo st (sumC 4 x.2 y.2) w) := by
  have hp := hid (xpop h)
  obtain ⟨xf, xv⟩ := x
  obtain ⟨yf, yv⟩ := y
  simp only at hp ⊢
  clear h
  go_enter Tryd.func55, Tryd.ntmps55
  go_wp2_with fail
  refine hp.out.mono ?_
  clear hp
  intro e w2 hh
  obtain ⟨hx, hS, hO⟩ := hh
  subst e
  have hp := hid (xpop hS)
  have HO1 := hid hO
  simp only at hp
  clear hS hO
  go_wp2_with fail
  refine hp.out.mono ?_
  clear hp
  intro e w3 hh
  obtain ⟨hx, hS, hO⟩ := hh
  subst e
  have HO2 := hid hO
  have hp := hid (xpush hS hs (false, sumC 4 xv yv))
  have HE : Hid (sumC 4 xv yv = wrap64 (xv * yv)) := hid rfl
  simp only [HE.out] at hp
  clear hS hO
  go_wp2_with fail
  refine hp.out.mono ?_
  clear hp
  intro e w4 hh
  obtain ⟨hx, hS, hO⟩ := hh
  subst e
  have HS := hid hS
  have HO3 := hid hO
  clear hS hO
  go_wp2_with fail
  go_ret
  exact ⟨rfl, by rw [HE.out]; exact HS.out, (HO1.out.trans HO2.out).trans HO3.out⟩
set_option maxRecDepth 100000 in
set_option maxHeartbeats 1000000 in
theorem reckon_5 {w : World} {a : Nat} {nx : Int} {lo st : List (Bool × Int)} {x y : Bool × Int} (h : SX w a nx lo ((st ++ [x]) ++ [y])) (hs : st.length < 8) (h0 : y.2 ≠ 0) :
    Calls Tryd.prog 55 #[.pointer (some ⟨a, 0, none⟩), .int .i64 5] w (RkPost a nx lo st (sumC 5 x.2 y.2) w) := by
  have hp := hid (xpop h)
  obtain ⟨xf, xv⟩ := x
  obtain ⟨yf, yv⟩ := y
  simp only at hp h0 ⊢
  clear h
  go_enter Tryd.func55, Tryd.ntmps55
  go_wp2_with fail
  refine hp.out.mono ?_
  clear hp
  intro e w2 hh
  obtain ⟨hx, hS, hO⟩ := hh
  subst e
  have hp := hid (xpop hS)
  have HO1 := hid hO
  simp only at hp
  clear hS hO
  go_wp2_with fail
  refine hp.out.mono ?_
  clear hp
  intro e w3 hh
  obtain ⟨hx, hS, hO⟩ := hh
  subst e
  have HO2 := hid hO
  have hp := hid (xpush hS hs (false, sumC 5 xv yv))
  have HE : Hid (sumC 5 xv yv = wrap64 (xv.tdiv yv)) := hid rfl
  have q : (yv == 0) = false := by simpa using h0
  simp only [HE.out] at hp
  clear hS hO
  go_wp2_with fail
  refine hp.out.mono ?_
  clear hp
  intro e w4 hh
  obtain ⟨hx, hS, hO⟩ := hh
  subst e
  have HS := hid hS
  have HO3 := hid hO
  clear hS hO
  go_wp2_with fail
  go_ret
  exact ⟨rfl, by rw [HE.out]; exact HS.out, (HO1.out.trans HO2.out).trans HO3.out⟩
set_option maxRecDepth 100000 in
set_option maxHeartbeats 1000000 in
theorem reckon_50 {w : World} {a : Nat} {nx : Int} {lo st : List (Bool × Int)} {x y : Bool × Int} (h : SX w a nx lo ((st ++ [x]) ++ [y])) (h0 : y.2 = 0) :
    Calls Tryd.prog 55 #[.pointer (some ⟨a, 0, none⟩), .int .i64 5] w fun e w' => e = .returned (.int .i64 3) ∧ SX w' a nx lo st ∧ Only a w w' := by
  have hp := hid (xpop h)
  obtain ⟨xf, xv⟩ := x
  obtain ⟨yf, yv⟩ := y
  simp only at hp h0 ⊢
  subst h0
  clear h
  go_enter Tryd.func55, Tryd.ntmps55
  go_wp2_with fail
  refine hp.out.mono ?_
  clear hp
  intro e w2 hh
  obtain ⟨hx, hS, hO⟩ := hh
  subst e
  have hp := hid (xpop hS)
  have HO1 := hid hO
  simp only at hp
  clear hS hO
  go_wp2_with fail
  refine hp.out.mono ?_
  clear hp
  intro e w3 hh
  obtain ⟨hx, hS, hO⟩ := hh
  subst e
  have HO2 := hid hO
  have HS := hid hS
  clear hS hO
  go_wp2_with fail
  go_ret
  exact ⟨rfl, HS.out, HO1.out.trans HO2.out⟩
set_option maxRecDepth 100000 in
set_option maxHeartbeats 1000000 in
theorem reckon_6 {w : World} {a : Nat} {nx : Int} {lo st : List (Bool × Int)} {x y : Bool × Int} (h : SX w a nx lo ((st ++ [x]) ++ [y])) (hs : st.length < 8) :
    Calls Tryd.prog 55 #[.pointer (some ⟨a, 0, none⟩), .int .i64 6] w (RkPost a nx lo st (sumC 6 x.2 y.2) w) := by
  have hp := hid (xpop h)
  obtain ⟨xf, xv⟩ := x
  obtain ⟨yf, yv⟩ := y
  simp only at hp ⊢
  clear h
  go_enter Tryd.func55, Tryd.ntmps55
  go_wp2_with fail
  refine hp.out.mono ?_
  clear hp
  intro e w2 hh
  obtain ⟨hx, hS, hO⟩ := hh
  subst e
  have hp := hid (xpop hS)
  have HO1 := hid hO
  simp only at hp
  clear hS hO
  go_wp2_with fail
  refine hp.out.mono ?_
  clear hp
  intro e w3 hh
  obtain ⟨hx, hS, hO⟩ := hh
  subst e
  have HO2 := hid hO
  by_cases hlt : xv < yv
  · have HE : Hid (sumC 6 xv yv = 1) := hid (by unfold sumC; simp; omega)
    have hp := hid (xpush hS hs (false, 1))
    have ht := hid (truth_any true w3)
    simp only [if_true] at ht hp
    clear hS hO
    go_wp2_with fail
    refine ht.out.mono ?_
    clear ht
    intro e w9 hh
    obtain ⟨hx, hw⟩ := hh
    subst e
    subst w9
    go_wp2_with fail
    refine hp.out.mono ?_
    clear hp
    intro e w4 hh
    obtain ⟨hx, hS, hO⟩ := hh
    subst e
    have HS := hid hS
    have HO3 := hid hO
    clear hS hO
    go_wp2_with fail
    go_ret
    exact ⟨rfl, by rw [HE.out]; exact HS.out, (HO1.out.trans HO2.out).trans HO3.out⟩
  · have HE : Hid (sumC 6 xv yv = 0) := hid (by unfold sumC; simp; omega)
    have hp := hid (xpush hS hs (false, 0))
    have ht := hid (truth_any (decide (xv < yv)) w3)
    rw [show (if decide (xv < yv) = true then (1 : Int) else 0) = 0 by simp [hlt]] at ht
    simp only at hp
    clear hS hO
    go_wp2_with fail
    refine ht.out.mono ?_
    clear ht
    intro e w9 hh
    obtain ⟨hx, hw⟩ := hh
    subst e
    subst w9
    go_wp2_with fail
    refine hp.out.mono ?_
    clear hp
    intro e w4 hh
    obtain ⟨hx, hS, hO⟩ := hh
    subst e
    have HS := hid hS
    have HO3 := hid hO
    clear hS hO
    go_wp2_with fail
    go_ret
    exact ⟨rfl, by rw [HE.out]; exact HS.out, (HO1.out.trans HO2.out).trans HO3.out⟩
end Go.Proofs.YtdmdpindonghdabDoor
namespace Go.Proofs.YtdmdpindonghdabDoor
open Go.RowKit
/-- A field of the program's machine is written. -/
theorem PM.cell_b {w : World} {K : PK} {vI vO : Value} {lo4 st8 : List Int} {s : MS} (h : PM w K vI vO lo4 st8 s) (j : Nat) : w.cell? ⟨K.b, j, none⟩ = (K.row vI vO lo4 st8 s)[j]? ∧ w.frozen? ⟨K.b, j, none⟩ = false := ⟨h.get j, frozen_of_row w K.b j _ _ h.row⟩
/-- Nothing but the machine's own row has turned. -/
theorem PM.turn {w w' : World} {K : PK} {vI vI' vO : Value} {lo4 st8 lo4' st8' : List Int} {s s' : MS} (h : PM w K vI vO lo4 st8 s) (ho : Only K.b w w') (hrow : w'.heap[K.b]? = some (.cells (K.row vI' vO lo4' st8' s').toArray 84))
    (hst : StOk s'.lo s'.st lo4' st8') (hlol : s'.lo.length = K.L) (hout : s'.out = s.out) (hhs : s'.hs = s.hs) (hinp : ZsAt w' vI' (K.zs.drop s'.rd)) (hinb : ∀ a n c, vI' = .slice (some a) n c → K.A ≤ a.block ∧ a.block < K.B4 ∧ a.block ≠ K.b ∧ a.block ≠ K.gC ∧ n ≤ c ∧ ∃ g o, a = ⟨g, o, none⟩) : PM w' K vI' vO lo4' st8' s' := by
  have z := h.z
  have hin : ∀ k, k ≠ K.b → w'.heap[k]? = w.heap[k]? := fun k hk => ho.block k hk
  have hlo := hst.lo
  rw [hlol] at hlo
  exact { row := hrow, l4 := hst.l4, l8 := hst.l8, lol := hlol, lo := hlo, stl := hst.stL, st := hst.st, L4 := h.L4, b1 := h.b1, b2 := h.b2, g1 := h.g1, g2 := h.g2, f1 := h.f1, f2 := h.f2, c1 := h.c1, c2 := h.c2
          z := by rw [ho.size]; exact z
          ne1 := h.ne1, ne2 := h.ne2, ne3 := h.ne3, ne4 := h.ne4, ne5 := h.ne5
          code := h.code.same (hin _ (fun e => h.ne1 e.symm))
          frames := (hin _ (fun e => h.ne2 e.symm)).trans h.frames
          fok := h.fok, flen := h.flen, llen := h.llen
          cells := by rw [hhs]; exact owns_keep h.cells (fun g hg => by
            simp only [Value.ownBlock, Option.some.injEq] at hg
            subst hg
            exact hin _ (fun e => h.ne3 e.symm))
          inp := hinp, inb := hinb
          out := by rw [hout]; exact owns_keep h.out (fun g hg => hin g (by have := (h.out.lt g hg).1; have := h.b2; omega)) }
theorem PM.stok {w : World} {K : PK} {vI vO : Value} {lo4 st8 : List Int} {s : MS} (h : PM w K vI vO lo4 st8 s) : StOk s.lo s.st lo4 st8 := ⟨h.l4, h.l8, by rw [h.lol]; exact h.L4, by rw [h.lol]; exact h.lo, h.stl, h.st⟩
theorem row_inputs {K : PK} {vI vI' vO : Value} {lo4 st8 : List Int} {s : MS} (rd : Nat) : ((K.row vI vO lo4 st8 s).toArray.setIfInBounds 3 vI') = (K.row vI' vO lo4 st8 { s with rd := rd }).toArray := by
  rw [List.setIfInBounds_toArray]
  rfl
def InpPost (K : PK) (vO : Value) (lo4 st8 : List Int) (s : MS) (v : Int) (rd : Nat) (w : World) (e : Ending) (w' : World) : Prop := e = .returned (.int .i64 v) ∧ Only K.b w w' ∧ ∃ vI', PM w' K vI' vO lo4 st8 { s with rd := rd }
set_option maxRecDepth 100000 in
set_option maxHeartbeats 1000000 in
theorem input_none {w : World} {K : PK} {vI vO : Value} {lo4 st8 : List Int} {s : MS} (h : PM w K vI vO lo4 st8 s) (hr : K.zs.length ≤ s.rd) :
    Calls Tryd.prog 59 #[.pointer (some ⟨K.b, 0, none⟩)] w (InpPost K vO lo4 st8 s 0 s.rd w) := by
  have m3 := h.get 3
  simp only [PK.row, List.cons_append, List.nil_append, List.getElem?_cons_zero, List.getElem?_cons_succ] at m3
  obtain ⟨p, c, e⟩ := h.inp.slice
  rw [List.drop_of_length_le hr] at e
  subst e
  have H := hid h
  clear h
  go_enter Tryd.func59, Tryd.ntmps59
  go_wp2_with fail
  go_ret
  exact ⟨rfl, Only.refl _ _, _, H.out⟩
set_option maxRecDepth 100000 in
set_option maxHeartbeats 1000000 in
theorem input_some {w : World} {K : PK} {vI vO : Value} {lo4 st8 : List Int} {s : MS} (h : PM w K vI vO lo4 st8 s) (hr : s.rd < K.zs.length) (hz : K.zs.length ≤ 64) :
    Calls Tryd.prog 59 #[.pointer (some ⟨K.b, 0, none⟩)] w (InpPost K vO lo4 st8 s (K.zs.getD s.rd 0) (s.rd + 1) w) := by
  have m3 := h.get 3
  have f3 := frozen_of_row w K.b 3 _ _ h.row
  simp only [PK.row, List.cons_append, List.nil_append, List.getElem?_cons_zero, List.getElem?_cons_succ] at m3
  have hin := h.inp
  have hdr : K.zs.drop s.rd = K.zs.getD s.rd 0 :: K.zs.drop (s.rd + 1) := by
    rw [List.drop_eq_getElem_cons hr, List.getD_eq_getElem?_getD, List.getElem?_eq_getElem hr]; rfl
  have H := hid h
  rcases hin with ⟨_, e⟩ | ⟨a, ca, e, hc⟩
  · rw [hdr] at e; cases e
  obtain ⟨b1, b2, b3, b4, b5, g, o, rfl⟩ := h.inb _ _ _ e
  rw [hdr] at e hc b5
  have hlen : (K.zs.drop (s.rd + 1)).length ≤ 64 := by rw [List.length_drop]; omega
  rw [List.length_cons] at e b5
  have x0 := hc 0 _ rfl
  rw [show (⟨g, o, none⟩ : Addr).add 0 = ⟨g, o, none⟩ by unfold Addr.add; split <;> simp_all] at x0
  have HC : Hid (∀ (j : Nat) (x : Int), (K.zs.drop (s.rd + 1))[j]? = some x → w.cell? ⟨g, o + 1 + j, none⟩ = some (.int .i64 x)) := hid (fun j x hj => by
    have := hc (j + 1) x (by simpa using hj)
    rw [show (⟨g, o, none⟩ : Addr).add (j + 1) = ⟨g, o + 1 + j, none⟩ by unfold Addr.add; split <;> simp_all; omega] at this
    exact this)
  generalize K.zs.getD s.rd 0 = x at *
  generalize hD : K.zs.drop (s.rd + 1) = D at *
  have HD := hid hD
  simp only at b1 b2 b3 b4
  subst e
  clear h hc hdr hD
  go_enter Tryd.func59, Tryd.ntmps59
  go_wp2_with fail
  · go_ret
    refine ⟨rfl, (Only.refl _ _).set _ _, .slice (some ⟨g, o, none⟩) D.length 0, ?_⟩
    refine H.out.turn ((Only.refl _ _).set _ _) (by rw [← row_inputs (vI := .slice (some ⟨g, o, none⟩) (D.length + 1) ca)]; exact setCell_row 3 _ H.out.row) H.out.stok H.out.lol rfl rfl ?_ ?_
    · refine .inr ⟨⟨g, o, none⟩, 0, by rw [HD.out], fun j y hj => ?_⟩
      have hj := hj
      rw [HD.out] at hj
      have := (List.getElem?_eq_some_iff.1 hj).1
      omega
    · intro a n c e
      injection e with e1 e2 e3
      injection e1 with e1
      subst e1
      exact ⟨b1, b2, b3, b4, by omega, g, o, rfl⟩
  · go_ret
    refine ⟨rfl, (Only.refl _ _).set _ _, .slice (some ⟨g, o + 1, none⟩) D.length (ca - 1), ?_⟩
    refine H.out.turn ((Only.refl _ _).set _ _) (by rw [← row_inputs (vI := .slice (some ⟨g, o, none⟩) (D.length + 1) ca)]; exact setCell_row 3 _ H.out.row) H.out.stok H.out.lol rfl rfl ?_ ?_
    · refine .inr ⟨⟨g, o + 1, none⟩, ca - 1, by rw [HD.out], fun j y hj => ?_⟩
      have hj := hj
      rw [HD.out] at hj
      rw [show (⟨g, o + 1, none⟩ : Addr).add j = ⟨g, o + 1 + j, none⟩ by unfold Addr.add; split <;> simp_all]
      exact (((Only.refl K.b w).set 3 _).cell b3).trans (HC.out j y hj)
    · intro a n c e
      injection e with e1 e2 e3
      injection e1 with e1
      subst e1
      exact ⟨b1, b2, b3, b4, by omega, g, o + 1, rfl⟩
end Go.Proofs.YtdmdpindonghdabDoor
namespace Go.Proofs.YtdmdpindonghdabDoor
open Go.RowKit
/-- What an instruction that reads a cell finds there. -/
def readV (cs : List RC) (op n : Nat) (r : Int) : Int := if op = 16 then (cellAt cs r).num else if n = 0 then (cellAt cs r).a else (cellAt cs r).b
def CellPost (a : Nat) (nx : Int) (lo st : List (Bool × Int)) (q v : Int) (f : Bool) (w : World) (e : Ending) (w' : World) : Prop := e = .returned (.int .i64 q) ∧ SX w' a nx lo (st ++ [(f, v)]) ∧ Two a a w w'
theorem PM.two {w w' : World} {K : PK} {vI vO : Value} {lo4 st8 : List Int} {s : MS} {a : Nat} (h : PM w K vI vO lo4 st8 s) (ht : Two a a w w') (ha : ¬ K.In vO a) : PM w' K vI vO lo4 st8 s :=
  h.keep ht.size (fun k hk hi => ht.block k hk (fun e => ha (e ▸ hi)) (fun e => ha (e ▸ hi)))
set_option maxRecDepth 100000 in
set_option maxHeartbeats 1000000 in
theorem read_14 {w : World} {K : PK} {vI vO : Value} {lo4 st8 : List Int} {s : MS} {a : Nat} {nx : Int} {lo st : List (Bool × Int)} {x : Bool × Int} (h : PM w K vI vO lo4 st8 s) (hs : SX w a nx lo (st ++ [x])) (hst : st.length < 8) (ha : ¬ K.In vO a) (hx : x.2 < (s.hs.1.length : Int)) (f : Bool) (pl n tg : Nat) :
    Calls Tryd.prog 57 #[.pointer (some ⟨K.b, 0, none⟩), insV pl 14 n tg, .pointer (some ⟨a, 0, none⟩)] w (CellPost a nx lo st (wantsC s.hs.1 x.2 false) (if wantsC s.hs.1 x.2 false = 0 then readV s.hs.1 14 n x.2 else 0) f w) := by
  have hlt := hs.lt
  have hB := BoxI.start w pl 14 n tg hlt
  have h1 := hs.below ((Below.refl _ _).alloc (Nat.le_refl _) (.cells #[.int .i64 pl, .int .i64 14, .int .i64 n, .int .i64 tg] 87))
  have hp := hid (xpop h1)
  have HB := hid hB
  have hget := hid (fun (W : World) (hT : Two a a w W) => pget_any K.b K.gC _ K.A s.hs x.2 n W (h.two hT ha).phr hx)
  have e : readV s.hs.1 14 n x.2 = (if n = 0 then (cellAt s.hs.1 x.2).a else (cellAt s.hs.1 x.2).b) := rfl
  rw [← e] at hget
  generalize (if wantsC s.hs.1 x.2 false = 0 then readV s.hs.1 14 n x.2 else 0) = v at *
  generalize wantsC s.hs.1 x.2 false = q at *
  obtain ⟨xf, xv⟩ := x
  simp only at hp hget ⊢
  unfold insV
  clear h hs h1 hB ha e
  go_enter Tryd.func57, Tryd.ntmps57
  go_wp2_with fail
  refine hp.out.mono ?_
  clear hp
  intro e w2 hh
  obtain ⟨hx, hS, hO⟩ := hh
  subst e
  have hB2 := HB.out.only hO
  have hg := hid (hget.out w2.drew hB2.two.drew)
  have c1 := hB2.c1
  have c2 := hB2.c2
  have HP := hid (fun (W : World) (hb : Below w2.heap.size w2 W) => xpush (hS.below hb) hst (f, v))
  have HT := hid hB2.two
  clear hS hO hB2 hget HB
  go_wp2_with fail
  go_region_law ((go_simp; go_at_call 74; refine hg.out.mono ?_; intro e w3 hh; obtain ⟨hx, hw⟩ := hh; subst e; subst w3; dsimp only))
  clear hg
  go_wp2_with fail
  refine (HP.out w2.drew ⟨rfl, rfl, rfl, Nat.le_refl _, fun _ _ => rfl⟩).mono ?_
  clear HP
  intro e w3 hh
  obtain ⟨hx, hS, hO⟩ := hh
  subst e
  have HS := hid hS
  have HO := hid hO
  clear hS hO
  go_wp2_with fail
  go_ret
  exact ⟨rfl, HS.out, HT.out.drew.trans (Two.of_only HO.out)⟩
set_option maxRecDepth 100000 in
set_option maxHeartbeats 1000000 in
theorem read_16 {w : World} {K : PK} {vI vO : Value} {lo4 st8 : List Int} {s : MS} {a : Nat} {nx : Int} {lo st : List (Bool × Int)} {x : Bool × Int} (h : PM w K vI vO lo4 st8 s) (hs : SX w a nx lo (st ++ [x])) (hst : st.length < 8) (ha : ¬ K.In vO a) (hx : x.2 < (s.hs.1.length : Int)) (f : Bool) (pl n tg : Nat) :
    Calls Tryd.prog 57 #[.pointer (some ⟨K.b, 0, none⟩), insV pl 16 n tg, .pointer (some ⟨a, 0, none⟩)] w (CellPost a nx lo st (wantsC s.hs.1 x.2 false) (if wantsC s.hs.1 x.2 false = 0 then readV s.hs.1 16 n x.2 else 0) f w) := by
  have hlt := hs.lt
  have hB := BoxI.start w pl 16 n tg hlt
  have h1 := hs.below ((Below.refl _ _).alloc (Nat.le_refl _) (.cells #[.int .i64 pl, .int .i64 16, .int .i64 n, .int .i64 tg] 87))
  have hp := hid (xpop h1)
  have HB := hid hB
  have hget := hid (fun (W : World) (hT : Two a a w W) => pnumber_any K.b K.gC _ K.A s.hs x.2 W (h.two hT ha).phr hx)
  have e : readV s.hs.1 16 n x.2 = (cellAt s.hs.1 x.2).num := rfl
  rw [← e] at hget
  generalize (if wantsC s.hs.1 x.2 false = 0 then readV s.hs.1 16 n x.2 else 0) = v at *
  generalize wantsC s.hs.1 x.2 false = q at *
  obtain ⟨xf, xv⟩ := x
  simp only at hp hget ⊢
  unfold insV
  clear h hs h1 hB ha e
  go_enter Tryd.func57, Tryd.ntmps57
  go_wp2_with fail
  refine hp.out.mono ?_
  clear hp
  intro e w2 hh
  obtain ⟨hx, hS, hO⟩ := hh
  subst e
  have hB2 := HB.out.only hO
  have hg := hid (hget.out w2 hB2.two)
  have c1 := hB2.c1
  have c2 := hB2.c2
  have HP := hid (xpush hS hst (f, v))
  have HT := hid hB2.two
  clear hS hO hB2 hget HB
  go_wp2_with fail
  refine hg.out.mono ?_
  clear hg
  intro e w3 hh
  obtain ⟨hx, hw⟩ := hh
  subst e
  subst w3
  go_wp2_with fail
  refine HP.out.mono ?_
  clear HP
  intro e w3 hh
  obtain ⟨hx, hS, hO⟩ := hh
  subst e
  have HS := hid hS
  have HO := hid hO
  clear hS hO
  go_wp2_with fail
  go_ret
  exact ⟨rfl, HS.out, HT.out.trans (Two.of_only HO.out)⟩
set_option maxRecDepth 100000 in
set_option maxHeartbeats 1000000 in
theorem read_24 {w : World} {K : PK} {vI vO : Value} {lo4 st8 : List Int} {s : MS} {a : Nat} {nx : Int} {lo st : List (Bool × Int)} {x : Bool × Int} (h : PM w K vI vO lo4 st8 s) (hs : SX w a nx lo (st ++ [x])) (hst : st.length < 8) (ha : ¬ K.In vO a) (hx : x.2 < (s.hs.1.length : Int)) (f : Bool) (pl tg : Nat) :
    Calls Tryd.prog 57 #[.pointer (some ⟨K.b, 0, none⟩), insV pl 24 0 tg, .pointer (some ⟨a, 0, none⟩)] w (CellPost a nx lo st (wantsC s.hs.1 x.2 true) (if wantsC s.hs.1 x.2 true = 0 then readV s.hs.1 24 0 x.2 else 0) f w) := by
  have hlt := hs.lt
  have hB := BoxI.start w pl 24 0 tg hlt
  have h1 := hs.below ((Below.refl _ _).alloc (Nat.le_refl _) (.cells #[.int .i64 pl, .int .i64 24, .int .i64 (0 : Nat), .int .i64 tg] 87))
  have hp := hid (xpop h1)
  have HB := hid hB
  have hget := hid (fun (W : World) (hT : Two a a w W) => ppeek_any K.b K.gC _ K.A s.hs x.2 W (h.two hT ha).phr hx)
  have e : readV s.hs.1 24 0 x.2 = (cellAt s.hs.1 x.2).a := rfl
  rw [← e] at hget
  generalize (if wantsC s.hs.1 x.2 true = 0 then readV s.hs.1 24 0 x.2 else 0) = v at *
  generalize wantsC s.hs.1 x.2 true = q at *
  obtain ⟨xf, xv⟩ := x
  simp only at hp hget ⊢
  unfold insV
  clear h hs h1 hB ha e
  go_enter Tryd.func57, Tryd.ntmps57
  go_wp2_with fail
  refine hp.out.mono ?_
  clear hp
  intro e w2 hh
  obtain ⟨hx, hS, hO⟩ := hh
  subst e
  have hB2 := HB.out.only hO
  have hg := hid (hget.out w2 hB2.two)
  have c1 := hB2.c1
  have c2 := hB2.c2
  have HP := hid (xpush hS hst (f, v))
  have HT := hid hB2.two
  clear hS hO hB2 hget HB
  go_wp2_with fail
  refine hg.out.mono ?_
  clear hg
  intro e w3 hh
  obtain ⟨hx, hw⟩ := hh
  subst e
  subst w3
  go_wp2_with fail
  refine HP.out.mono ?_
  clear HP
  intro e w3 hh
  obtain ⟨hx, hS, hO⟩ := hh
  subst e
  have HS := hid hS
  have HO := hid hO
  clear hS hO
  go_wp2_with fail
  go_ret
  exact ⟨rfl, HS.out, HT.out.trans (Two.of_only HO.out)⟩
def WritePost (K : PK) (vI vO : Value) (lo4 st8 : List Int) (a : Nat) (nx : Int) (lo st : List (Bool × Int)) (q : Int) (s' : MS) (w : World) (e : Ending) (w' : World) : Prop :=
  e = .returned (.int .i64 q) ∧ SX w' a nx lo st ∧ PM w' K vI vO lo4 st8 s' ∧ Two a K.gC w w'
theorem PM.only {w w' : World} {K : PK} {vI vO : Value} {lo4 st8 : List Int} {s : MS} (h : PM w K vI vO lo4 st8 s) {h' : HSt} (hp : PHR w' K.b K.gC (K.ck vI vO lo4 st8 s) K.A h') (hl : h'.1.length = s.hs.1.length) (ho : Only K.gC w w') : PM w' K vI vO lo4 st8 { s with hs := h' } := h.of_phr hp hl ⟨ho.os, ho.tape, ho.output, by rw [ho.size]; exact Nat.le_refl _, fun k _ _ h2 => ho.block k h2⟩
theorem setPost_len (hs : HSt) (r : Int) (n : Nat) (v : Int) : (setPost hs r n v).1.length = hs.1.length := by
  unfold setPost storeC
  split
  · simp only
    split
    · rw [reachC_len]; simp
    · simp
  · rfl
theorem notePost_len (hs : HSt) (r : Int) (v : Int) : (notePost hs r v).1.length = hs.1.length := by
  unfold notePost
  split
  · simp
  · rfl
set_option maxRecDepth 100000 in
set_option maxHeartbeats 1000000 in
theorem write_15 {w : World} {K : PK} {vI vO : Value} {lo4 st8 : List Int} {s : MS} {a : Nat} {nx : Int} {lo st : List (Bool × Int)} {x y : Bool × Int} (h : PM w K vI vO lo4 st8 s) (hs : SX w a nx lo ((st ++ [x]) ++ [y])) (ha : ¬ K.In vO a) (hx : x.2 < (s.hs.1.length : Int)) (pl n tg : Nat) :
    Calls Tryd.prog 58 #[.pointer (some ⟨K.b, 0, none⟩), insV pl 15 n tg, .pointer (some ⟨a, 0, none⟩)] w (WritePost K vI vO lo4 st8 a nx lo st (wantsC s.hs.1 x.2 false) { s with hs := setPost s.hs x.2 n y.2 } w) := by
  have hlt := hs.lt
  have hB := BoxI.start w pl 15 n tg hlt
  have h1 := hs.below ((Below.refl _ _).alloc (Nat.le_refl _) (.cells #[.int .i64 pl, .int .i64 15, .int .i64 n, .int .i64 tg] 87))
  have hag : a ≠ K.gC := fun e => ha (.inl ⟨e ▸ h.c1, e ▸ h.c2⟩)
  have hp := hid (xpop h1)
  have HB := hid hB
  have hset : Hid (∀ (W : World), Two a a w W → Calls Tryd.prog 77 #[.pointer (some ⟨K.b, 21, none⟩), .int .i64 x.2, .int .i64 n, .int .i64 y.2] W fun e w' => e = .returned (.int .i64 (wantsC s.hs.1 x.2 false)) ∧ PM w' K vI vO lo4 st8 { s with hs := setPost s.hs x.2 n y.2 } ∧ Only K.gC W w') := hid (fun W hT => by
    have hm := h.two hT ha
    refine (pset_any K.b K.gC _ K.A s.hs x.2 n y.2 W hm.phr hx).mono ?_
    rintro e w' ⟨a1, a2, a3⟩
    exact ⟨a1, hm.only a2 (setPost_len _ _ _ _) a3, a3⟩)
  generalize setPost s.hs x.2 n y.2 = hs' at *
  generalize wantsC s.hs.1 x.2 false = q at *
  obtain ⟨xf, xv⟩ := x
  obtain ⟨yf, yv⟩ := y
  simp only at hp hset ⊢
  unfold insV
  clear h hs h1 hB ha
  go_enter Tryd.func58, Tryd.ntmps58
  go_wp2_with fail
  refine hp.out.mono ?_
  clear hp
  intro e w2 hh
  obtain ⟨hx, hS, hO⟩ := hh
  subst e
  have hB2 := HB.out.only hO
  have hp := hid (xpop hS)
  have HB2 := hid hB2
  clear hS hO hB2 HB
  go_wp2_with fail
  refine hp.out.mono ?_
  clear hp
  intro e w3 hh
  obtain ⟨hx, hS, hO⟩ := hh
  subst e
  have hB3 := HB2.out.only hO
  have c1 := hB3.c1
  have c2 := hB3.c2
  have hg := hid (hset.out w3.drew hB3.two.drew)
  have HT := hid hB3.two
  have HS := hid hS
  clear hS hO hB3 hset HB2
  go_wp2_with fail
  go_region_law ((go_simp; go_at_call 77; refine hg.out.mono ?_; intro e w4 hh; obtain ⟨hx, hM, hO⟩ := hh; subst e; have HM := hid hM; have HO := hid hO; clear hM hO; dsimp only))
  clear hg
  go_wp2_with fail
  go_ret
  exact ⟨rfl, HS.out.keep (HO.out.block _ hag), HM.out, ⟨(HO.out.os).trans HT.out.os, HO.out.tape.trans HT.out.tape, HO.out.output.trans HT.out.output, by rw [HO.out.size]; exact HT.out.size, fun k hk k1 k2 => (HO.out.block k k2).trans (HT.out.block k hk k1 k1)⟩⟩
set_option maxRecDepth 100000 in
set_option maxHeartbeats 1000000 in
theorem write_17 {w : World} {K : PK} {vI vO : Value} {lo4 st8 : List Int} {s : MS} {a : Nat} {nx : Int} {lo st : List (Bool × Int)} {x y : Bool × Int} (h : PM w K vI vO lo4 st8 s) (hs : SX w a nx lo ((st ++ [x]) ++ [y])) (ha : ¬ K.In vO a) (hx : x.2 < (s.hs.1.length : Int)) (pl n tg : Nat) :
    Calls Tryd.prog 58 #[.pointer (some ⟨K.b, 0, none⟩), insV pl 17 n tg, .pointer (some ⟨a, 0, none⟩)] w (WritePost K vI vO lo4 st8 a nx lo st (wantsC s.hs.1 x.2 false) { s with hs := notePost s.hs x.2 y.2 } w) := by
  have hlt := hs.lt
  have hB := BoxI.start w pl 17 n tg hlt
  have h1 := hs.below ((Below.refl _ _).alloc (Nat.le_refl _) (.cells #[.int .i64 pl, .int .i64 17, .int .i64 n, .int .i64 tg] 87))
  have hag : a ≠ K.gC := fun e => ha (.inl ⟨e ▸ h.c1, e ▸ h.c2⟩)
  have hp := hid (xpop h1)
  have HB := hid hB
  have hset : Hid (∀ (W : World), Two a a w W → Calls Tryd.prog 78 #[.pointer (some ⟨K.b, 21, none⟩), .int .i64 x.2, .int .i64 y.2] W fun e w' => e = .returned (.int .i64 (wantsC s.hs.1 x.2 false)) ∧ PM w' K vI vO lo4 st8 { s with hs := notePost s.hs x.2 y.2 } ∧ Only K.gC W w') := hid (fun W hT => by
    have hm := h.two hT ha
    refine (pnote_any K.b K.gC _ K.A s.hs x.2 y.2 W hm.phr hx).mono ?_
    rintro e w' ⟨a1, a2, a3⟩
    exact ⟨a1, hm.only a2 (notePost_len _ _ _) a3, a3⟩)
  generalize notePost s.hs x.2 y.2 = hs' at *
  generalize wantsC s.hs.1 x.2 false = q at *
  obtain ⟨xf, xv⟩ := x
  obtain ⟨yf, yv⟩ := y
  simp only at hp hset ⊢
  unfold insV
  clear h hs h1 hB ha
  go_enter Tryd.func58, Tryd.ntmps58
  go_wp2_with fail
  refine hp.out.mono ?_
  clear hp
  intro e w2 hh
  obtain ⟨hx, hS, hO⟩ := hh
  subst e
  have hB2 := HB.out.only hO
  have hp := hid (xpop hS)
  have HB2 := hid hB2
  clear hS hO hB2 HB
  go_wp2_with fail
  refine hp.out.mono ?_
  clear hp
  intro e w3 hh
  obtain ⟨hx, hS, hO⟩ := hh
  subst e
  have hB3 := HB2.out.only hO
  have c1 := hB3.c1
  have c2 := hB3.c2
  have hg := hid (hset.out w3 hB3.two)
  have HT := hid hB3.two
  have HS := hid hS
  clear hS hO hB3 hset HB2
  go_wp2_with fail
  refine hg.out.mono ?_
  clear hg
  intro e w4 hh
  obtain ⟨hx, hM, hO⟩ := hh
  subst e
  have HM := hid hM
  have HO := hid hO
  clear hM hO
  go_wp2_with fail
  go_ret
  exact ⟨rfl, HS.out.keep (HO.out.block _ hag), HM.out, ⟨(HO.out.os).trans HT.out.os, HO.out.tape.trans HT.out.tape, HO.out.output.trans HT.out.output, by rw [HO.out.size]; exact HT.out.size, fun k hk k1 k2 => (HO.out.block k k2).trans (HT.out.block k hk k1 k1)⟩⟩
end Go.Proofs.YtdmdpindonghdabDoor
namespace Go.Proofs.YtdmdpindonghdabDoor
open Go.RowKit
def Tri (K : PK) (a : Nat) (k : Nat) : Prop := k = K.b ∨ k = K.gC ∨ k = a
/-- What New and Weak leave: the heap is full, or a cell is taken. -/
def TkPost (K : PK) (vI vO : Value) (lo4 st8 : List Int) (a : Nat) (nx : Int) (lo st : List (Bool × Int)) (s : MS) (t : Int × HSt) (f : RC → RC) (w : World) (e : Ending) (w' : World) : Prop :=
  Touch (Tri K a) w w' ∧ ((t.1 < 0 ∧ e = .returned (.int .i64 5) ∧ PM w' K vI vO lo4 st8 { s with hs := t.2 }) ∨
    (0 ≤ t.1 ∧ e = .returned (.int .i64 0) ∧ PM w' K vI vO lo4 st8 { s with hs := (t.2.1.modify t.1.toNat f, t.2.2) } ∧ SX w' a nx lo (st ++ [(true, t.1)])))
theorem PM.hs_len {w : World} {K : PK} {vI vO : Value} {lo4 st8 : List Int} {s : MS} {h1 h2 : HSt} (h : PM w K vI vO lo4 st8 { s with hs := h1 }) {w' : World} (hp : PHR w' K.b K.gC (K.ck vI vO lo4 st8 { s with hs := h1 }) K.A h2) (hl : h2.1.length = h1.1.length) (ht : Two K.b K.gC w w') : PM w' K vI vO lo4 st8 { s with hs := h2 } := h.of_phr hp hl ht
theorem beginC_len (h : HSt) : (beginC h).2.1.length = h.1.length := by
  show (h.1.set _ _).length = _
  simp
set_option maxRecDepth 100000 in
set_option maxHeartbeats 1000000 in
theorem take_13 {w : World} {K : PK} {E : Env} {vI vO : Value} {lo4 st8 : List Int} {s : MS} {a : Nat} {nx : Int} {lo st : List (Bool × Int)} (h : PM w K vI vO lo4 st8 s) (hke : KE K E) (he : EnvOk E) (hi : MInv E s) (hs : SX w a nx lo st) (hst : st.length < 8) (ha : ¬ K.In vO a) :
    Calls Tryd.prog 56 #[.pointer (some ⟨K.b, 0, none⟩), .int .i64 13, .pointer (some ⟨a, 0, none⟩)] w (TkPost K vI vO lo4 st8 a nx lo st s (takeC (rootsS E s) s.hs) id w) := by
  have hrt := hid (proots_m h hke he hi)
  have hk := hi.hh
  have hrl := hi.rootsLen he
  have hgz : K.gC < w.heap.size := by have := h.c2; have := h.z; omega
  have hbz : K.b < w.heap.size := by have := h.b2; have := h.z; omega
  have hab : a ≠ K.b := fun e => ha (.inl ⟨e ▸ h.b1, e ▸ h.b2⟩)
  have hag : a ≠ K.gC := fun e => ha (.inl ⟨e ▸ h.c1, e ▸ h.c2⟩)
  have HE := hid (takeC_room (rootsS E s) s.hs)
  generalize rootsS E s = rs at *
  have hkr := hk.room rs
  have hlr : (roomC rs s.hs).1.length = s.hs.1.length := by rw [hkr.len, hk.len]
  have hmr := hid (fun (W : World) (hb : Below w.heap.size w W) (v : Value) (hv : RefsAt W K.gC v rs) (hvb : ∀ a n c, v = .slice (some a) n c → a.block ≠ K.b) => by
    have hm := h.below hb
    have := (makeRoom_any K.b K.gC _ K.A E.n s.hs rs v W hm.phr hk hrl hv hvb).mono (R' := fun e w' => e = .returned (.tuple #[]) ∧ PM w' K vI vO lo4 st8 { s with hs := roomC rs s.hs } ∧ Two K.b K.gC W w') (by
      rintro e w' ⟨a1, a2, a3⟩
      exact ⟨a1, hm.of_phr a2 hlr a3, a3⟩)
    exact this)
  have htk := hid (fun (W : World) (hW : PM W K vI vO lo4 st8 { s with hs := roomC rs s.hs }) => by
    have := (takePlain_any K.b K.gC _ K.A E.n (roomC rs s.hs) W hW.phr hkr).mono (R' := fun e w' => (lowC (roomC rs s.hs) < 0 ∧ e = .returned (.tuple #[.int .i64 0, .bool false]) ∧ PM w' K vI vO lo4 st8 { s with hs := roomC rs s.hs } ∧ Two K.b K.gC W w') ∨ (0 ≤ lowC (roomC rs s.hs) ∧ e = .returned (.tuple #[.int .i64 (lowC (roomC rs s.hs)), .bool true]) ∧ PM w' K vI vO lo4 st8 { s with hs := ((beginC (roomC rs s.hs)).2.1.modify (lowC (roomC rs s.hs)).toNat id, (roomC rs s.hs).2) } ∧ Two K.b K.gC W w')) (by
      rintro e w' (⟨a1, a2, a3, a4⟩ | ⟨a1, a2, a3, a4⟩)
      · exact .inl ⟨a1, a2, hW.hs_len a3 rfl a4, a4⟩
      · exact .inr ⟨a1, a2, hW.hs_len a3 (by simp [beginC_len]) a4, a4⟩)
    exact this)
  have HS := hid hs
  have FIN : Hid (∀ (e : Ending) (w' : World), Touch (Tri K a) w w' → ((lowC (roomC rs s.hs) < 0 ∧ e = .returned (.int .i64 5) ∧ PM w' K vI vO lo4 st8 { s with hs := roomC rs s.hs }) ∨ (0 ≤ lowC (roomC rs s.hs) ∧ e = .returned (.int .i64 0) ∧ PM w' K vI vO lo4 st8 { s with hs := ((beginC (roomC rs s.hs)).2.1.modify (lowC (roomC rs s.hs)).toNat id, (roomC rs s.hs).2) } ∧ SX w' a nx lo (st ++ [(true, lowC (roomC rs s.hs))]))) → TkPost K vI vO lo4 st8 a nx lo st s (takeC rs s.hs) id w e w') := hid (by
    intro e w' ht hc
    refine ⟨ht, ?_⟩
    rw [HE.out]
    rcases hc with ⟨c1, c2, c3⟩ | ⟨c1, c2, c3, c4⟩
    · rw [if_neg (by omega)]
      exact .inl ⟨by simp, c2, c3⟩
    · rw [if_pos c1]
      exact .inr ⟨c1, c2, c3, c4⟩)
  generalize takeC rs s.hs = tk at *
  clear h hs hke he hi hk hkr hlr HE
  go_enter Tryd.func56, Tryd.ntmps56
  go_wp2_with fail
  refine hrt.out.mono ?_
  clear hrt
  intro x w1 hh
  obtain ⟨hb1, v, hx, ho⟩ := hh
  subst x
  have hrf := refs_of ho hgz
  obtain ⟨p0, c0, e0⟩ := hrf.1.slice
  have hm1 := hid (hmr.out w1 hb1 v hrf.1 (fun a n c e => by have := hrf.2 a n c e; omega))
  have hs1 := HS.out.below hb1
  have HS1 := hid hs1
  have haz := HS.out.lt
  have HB1 := hid hb1
  subst e0
  clear hmr ho hrf hb1 hs1 HS
  go_wp2_with fail
  refine hm1.out.mono ?_
  clear hm1
  intro x w2 hh
  obtain ⟨hx, hM, hT⟩ := hh
  subst x
  have hs2 := HS1.out.keep (hT.block a (by have := HB1.out.size; omega) hab hag)
  have ht3 := hid (htk.out w2 hM)
  have HS3 := hid hs2
  have HT := hid hT
  clear hs2 hM hT HS1 htk
  go_wp2_with fail
  refine ht3.out.mono ?_
  clear ht3
  intro x w4 hh
  have T02 : Touch (Tri K a) w w2 := (Touch.below HB1.out).trans (Touch.two HT.out (F := Tri K a) (.inl rfl) (.inr (.inl rfl))) (fun _ _ h => h)
  have haz3 : a < w2.heap.size := HS3.out.lt
  rcases hh with ⟨d1, hx, hM4, hT4⟩ | ⟨d1, hx, hM4, hT4⟩
  · subst x
    have HT4 := hid (T02.trans (Touch.two hT4 (F := Tri K a) (.inl rfl) (.inr (.inl rfl))) (fun _ _ h => h))
    have HM4 := hid hM4
    clear hM4 hT4 T02
    go_wp2_with fail
    go_ret
    exact FIN.out _ _ HT4.out (.inl ⟨d1, rfl, HM4.out⟩)
  · subst x
    have hs4 := HS3.out.keep (hT4.block a haz3 hab hag)
    have hp := hid (xpush hs4 hst (true, lowC (roomC rs s.hs)))
    have HT4 := hid (T02.trans (Touch.two hT4 (F := Tri K a) (.inl rfl) (.inr (.inl rfl))) (fun _ _ h => h))
    have HM4 := hid hM4
    simp only at hp
    clear hM4 hT4 hs4 T02
    generalize lowC (roomC rs s.hs) = cl at *
    go_wp2_with fail
    refine hp.out.mono ?_
    clear hp
    intro x w5 hh
    obtain ⟨hx, hS5, hO5⟩ := hh
    subst x
    have HS5 := hid hS5
    have HM5 := hid (HM4.out.two (Two.of_only hO5) ha)
    have HT5 := hid (HT4.out.trans (Touch.two (Two.of_only hO5) (F := Tri K a) (.inr (.inr rfl)) (.inr (.inr rfl))) (fun _ _ h => h))
    clear hS5 hO5
    go_wp2_with fail
    go_ret
    exact FIN.out _ _ HT5.out (.inr ⟨d1, rfl, HM5.out, HS5.out⟩)
set_option maxRecDepth 100000 in
set_option maxHeartbeats 1000000 in
theorem take_23 {w : World} {K : PK} {E : Env} {vI vO : Value} {lo4 st8 : List Int} {s : MS} {a : Nat} {nx : Int} {lo st : List (Bool × Int)} {x : Bool × Int} (h : PM w K vI vO lo4 st8 s) (hke : KE K E) (he : EnvOk E) (hi : MInv E s) (hs : SX w a nx lo (st ++ [x])) (hst : st.length < 8) (ha : ¬ K.In vO a) :
    Calls Tryd.prog 56 #[.pointer (some ⟨K.b, 0, none⟩), .int .i64 23, .pointer (some ⟨a, 0, none⟩)] w (TkPost K vI vO lo4 st8 a nx lo st s (takeC (rootsS E s) s.hs) (weakS x.2) w) := by
  have hrt := hid (proots_m h hke he hi)
  have hk := hi.hh
  have hrl := hi.rootsLen he
  have hgz : K.gC < w.heap.size := by have := h.c2; have := h.z; omega
  have hbz : K.b < w.heap.size := by have := h.b2; have := h.z; omega
  have hab : a ≠ K.b := fun e => ha (.inl ⟨e ▸ h.b1, e ▸ h.b2⟩)
  have hag : a ≠ K.gC := fun e => ha (.inl ⟨e ▸ h.c1, e ▸ h.c2⟩)
  have HE := hid (takeC_room (rootsS E s) s.hs)
  generalize rootsS E s = rs at *
  have hkr := hk.room rs
  have hlr : (roomC rs s.hs).1.length = s.hs.1.length := by rw [hkr.len, hk.len]
  have hmr := hid (fun (W : World) (hb : Below w.heap.size w W) (v : Value) (hv : RefsAt W K.gC v rs) (hvb : ∀ a n c, v = .slice (some a) n c → a.block ≠ K.b) => by
    have hm := h.below hb
    have := (makeRoom_any K.b K.gC _ K.A E.n s.hs rs v W hm.phr hk hrl hv hvb).mono (R' := fun e w' => e = .returned (.tuple #[]) ∧ PM w' K vI vO lo4 st8 { s with hs := roomC rs s.hs } ∧ Two K.b K.gC W w') (by
      rintro e w' ⟨a1, a2, a3⟩
      exact ⟨a1, hm.of_phr a2 hlr a3, a3⟩)
    exact this)
  have htk := hid (fun (W : World) (hW : PM W K vI vO lo4 st8 { s with hs := roomC rs s.hs }) (r : Int) => by
    have := (takeWeak_any K.b K.gC _ K.A E.n (roomC rs s.hs) r W hW.phr hkr).mono (R' := fun e w' => (lowC (roomC rs s.hs) < 0 ∧ e = .returned (.tuple #[.int .i64 0, .bool false]) ∧ PM w' K vI vO lo4 st8 { s with hs := roomC rs s.hs } ∧ Two K.b K.gC W w') ∨ (0 ≤ lowC (roomC rs s.hs) ∧ e = .returned (.tuple #[.int .i64 (lowC (roomC rs s.hs)), .bool true]) ∧ PM w' K vI vO lo4 st8 { s with hs := ((beginC (roomC rs s.hs)).2.1.modify (lowC (roomC rs s.hs)).toNat (weakS r), (roomC rs s.hs).2) } ∧ Two K.b K.gC W w')) (by
      rintro e w' (⟨a1, a2, a3, a4⟩ | ⟨a1, a2, a3, a4⟩)
      · exact .inl ⟨a1, a2, hW.hs_len a3 rfl a4, a4⟩
      · exact .inr ⟨a1, a2, hW.hs_len a3 (by simp [beginC_len]) a4, a4⟩)
    exact this)
  have HS := hid hs
  have FIN : Hid (∀ (e : Ending) (w' : World), Touch (Tri K a) w w' → ((lowC (roomC rs s.hs) < 0 ∧ e = .returned (.int .i64 5) ∧ PM w' K vI vO lo4 st8 { s with hs := roomC rs s.hs }) ∨ (0 ≤ lowC (roomC rs s.hs) ∧ e = .returned (.int .i64 0) ∧ PM w' K vI vO lo4 st8 { s with hs := ((beginC (roomC rs s.hs)).2.1.modify (lowC (roomC rs s.hs)).toNat (weakS x.2), (roomC rs s.hs).2) } ∧ SX w' a nx lo (st ++ [(true, lowC (roomC rs s.hs))]))) → TkPost K vI vO lo4 st8 a nx lo st s (takeC rs s.hs) (weakS x.2) w e w') := hid (by
    intro e w' ht hc
    refine ⟨ht, ?_⟩
    rw [HE.out]
    rcases hc with ⟨c1, c2, c3⟩ | ⟨c1, c2, c3, c4⟩
    · rw [if_neg (by omega)]
      exact .inl ⟨by simp, c2, c3⟩
    · rw [if_pos c1]
      exact .inr ⟨c1, c2, c3, c4⟩)
  obtain ⟨xf, xv⟩ := x
  simp only at FIN ⊢
  generalize takeC rs s.hs = tk at *
  clear h hs hke he hi hk hkr hlr HE
  go_enter Tryd.func56, Tryd.ntmps56
  go_wp2_with fail
  refine hrt.out.mono ?_
  clear hrt
  intro x w1 hh
  obtain ⟨hb1, v, hx, ho⟩ := hh
  subst x
  have hrf := refs_of ho hgz
  obtain ⟨p0, c0, e0⟩ := hrf.1.slice
  have hm1 := hid (hmr.out w1 hb1 v hrf.1 (fun a n c e => by have := hrf.2 a n c e; omega))
  have hs1 := HS.out.below hb1
  have HS1 := hid hs1
  have haz := HS.out.lt
  have HB1 := hid hb1
  subst e0
  clear hmr ho hrf hb1 hs1 HS
  go_wp2_with fail
  refine hm1.out.mono ?_
  clear hm1
  intro x w2 hh
  obtain ⟨hx, hM, hT⟩ := hh
  subst x
  have hs2 := HS1.out.keep (hT.block a (by have := HB1.out.size; omega) hab hag)
  have hp := hid (xpop hs2)
  have HM := hid hM
  have HT := hid hT
  clear hs2 hM hT HS1
  go_wp2_with fail
  refine hp.out.mono ?_
  clear hp
  intro x w3 hh
  obtain ⟨hx, hS, hO⟩ := hh
  subst x
  have hm3 := HM.out.two (Two.of_only hO) ha
  have ht3 := hid (htk.out w3 hm3 xv)
  have HS3 := hid hS
  have HO3 := hid hO
  clear hm3 hS hO htk HM
  go_wp2_with fail
  refine ht3.out.mono ?_
  clear ht3
  intro x w4 hh
  have T02 : Touch (Tri K a) w w3 := (Touch.below HB1.out).trans ((Touch.two HT.out (F := Tri K a) (.inl rfl) (.inr (.inl rfl))).trans (Touch.two (Two.of_only HO3.out) (F := Tri K a) (.inr (.inr rfl)) (.inr (.inr rfl))) (fun _ _ h => h)) (fun _ _ h => h)
  have haz3 : a < w3.heap.size := HS3.out.lt
  rcases hh with ⟨d1, hx, hM4, hT4⟩ | ⟨d1, hx, hM4, hT4⟩
  · subst x
    have HT4 := hid (T02.trans (Touch.two hT4 (F := Tri K a) (.inl rfl) (.inr (.inl rfl))) (fun _ _ h => h))
    have HM4 := hid hM4
    clear hM4 hT4 T02
    go_wp2_with fail
    go_ret
    exact FIN.out _ _ HT4.out (.inl ⟨d1, rfl, HM4.out⟩)
  · subst x
    have hs4 := HS3.out.keep (hT4.block a haz3 hab hag)
    have hp := hid (xpush hs4 hst (true, lowC (roomC rs s.hs)))
    have HT4 := hid (T02.trans (Touch.two hT4 (F := Tri K a) (.inl rfl) (.inr (.inl rfl))) (fun _ _ h => h))
    have HM4 := hid hM4
    simp only at hp
    clear hM4 hT4 hs4 T02
    generalize lowC (roomC rs s.hs) = cl at *
    go_wp2_with fail
    refine hp.out.mono ?_
    clear hp
    intro x w5 hh
    obtain ⟨hx, hS5, hO5⟩ := hh
    subst x
    have HS5 := hid hS5
    have HM5 := hid (HM4.out.two (Two.of_only hO5) ha)
    have HT5 := hid (HT4.out.trans (Touch.two (Two.of_only hO5) (F := Tri K a) (.inr (.inr rfl)) (.inr (.inr rfl))) (fun _ _ h => h))
    clear hS5 hO5
    go_wp2_with fail
    go_ret
    exact FIN.out _ _ HT5.out (.inr ⟨d1, rfl, HM5.out, HS5.out⟩)
end Go.Proofs.YtdmdpindonghdabDoor
namespace Go.Proofs.YtdmdpindonghdabDoor
open Go.RowKit
def DoF (K : PK) (vO : Value) (a : Nat) (k : Nat) : Prop := K.In vO k ∨ k = a
/-- What do answers and leaves, where the step makes t of s. -/
structure DoPost (K : PK) (vO : Value) (lo4 st8 : List Int) (a : Nat) (nx : Int) (s t : MS) (w : World) (e : Ending) (w' : World) : Prop where
  e : e = .returned (.int .i64 t.oc)
  m : ∃ vI' vO', PM w' K vI' vO' lo4 st8 (midS s t) ∧ ∀ g, vO'.ownBlock = some g → vO.ownBlock = some g ∨ w.heap.size ≤ g
  touch : Touch (DoF K vO a) w w'
  on : t.oc = 0 → SX w' a t.at_ t.lo t.st
  halt : t.oc = 1 → SX w' a nx s.lo s.st
theorem mid_self {s t : MS} (h1 : t.rd = s.rd) (h2 : t.out = s.out) (h3 : t.hs = s.hs) : midS s t = s := by
  unfold midS
  rw [h1, h2, h3]
theorem two_touch {K : PK} {vO : Value} {a : Nat} {w w' : World} (h : Two a a w w') : Touch (DoF K vO a) w w' := Touch.two h (.inr rfl) (.inr rfl)
/-- The standing of the machine ahead of a step, for do. -/
structure DoPre (K : PK) (E : Env) (vI vO : Value) (lo4 st8 : List Int) (a : Nat) (s : MS) (i : Ins) (w : World) : Prop where
  m : PM w K vI vO lo4 st8 s
  ke : KE K E
  ok : EnvOk E
  inv : MInv E s
  oc : s.oc = 0
  can : CanI E s i
  sx : SX w a ((s.at_ + 1 : Nat) : Int) s.lo s.st
  out : ¬ K.In vO a
def doV (E : Env) (i : Ins) : Value := insV i.place i.op i.n (aimOf E.l i)
set_option maxRecDepth 100000 in
set_option maxHeartbeats 1000000 in
theorem do_0 {w : World} {K : PK} {E : Env} {vI vO : Value} {lo4 st8 : List Int} {s : MS} {a : Nat} {i : Ins} (h : DoPre K E vI vO lo4 st8 a s i w) (ho : i.op = 0) :
    Calls Tryd.prog 47 #[.pointer (some ⟨K.b, 0, none⟩), doV E i, .pointer (some ⟨a, 0, none⟩)] w (DoPost K vO lo4 st8 a ((s.at_ + 1 : Nat) : Int) s (stepI E i s) w) := by
  have HE := hid (step_halt (E := E) (s := s) ho)
  have hB := BoxI.start w i.place i.op i.n (aimOf E.l i) h.sx.lt
  have HT := hid hB.two
  have h1 := hid (h.sx.below ((Below.refl _ _).alloc (Nat.le_refl _) (.cells #[.int .i64 i.place, .int .i64 i.op, .int .i64 i.n, .int .i64 (aimOf E.l i)] 87)))
  have hm := hid (h.m.two hB.two h.out)
  obtain ⟨op, n, pl⟩ := i
  simp only at ho
  subst ho
  unfold doV insV
  generalize aimOf E.l ⟨0, n, pl⟩ = tg at *
  simp only at hm h1 HT
  clear h hB
  go_enter Tryd.func47, Tryd.ntmps47
  go_wp2_with fail
  go_ret
  rw [HE.out]
  exact ⟨rfl, ⟨vI, vO, hm.out, fun g hg => .inl hg⟩, two_touch HT.out, fun e => by (cases e), fun _ => h1.out⟩
/-- The end of an instruction on locals and stack alone. -/
theorem do_fin {w w' : World} {K : PK} {E : Env} {vI vO : Value} {lo4 st8 : List Int} {s : MS} {a : Nat} {i : Ins} {e : Ending} {nx : Int} {lo st : List (Bool × Int)} (hst : stepI E i s = goS E i (-1) s) (hoc : s.oc = 0) (hd : doesS E i (-1) s = { s with lo := lo, st := st }) (hto : nx = (toS E i s : Int)) (he : e = .returned (.int .i64 0)) (hm : PM w' K vI vO lo4 st8 s) (ht : Two a a w w') (hs : SX w' a nx lo st) :
    DoPost K vO lo4 st8 a ((s.at_ + 1 : Nat) : Int) s (stepI E i s) w e w' := by
  rw [hst]
  unfold goS
  rw [hd]
  subst hto
  refine ⟨by rw [he]; simp only [hoc]; rfl, ⟨vI, vO, hm, fun g hg => .inl hg⟩, two_touch ht, fun _ => hs, fun e1 => ?_⟩
  simp only [hoc] at e1
  cases e1
set_option maxRecDepth 100000 in
set_option maxHeartbeats 1000000 in
theorem do_1 {w : World} {K : PK} {E : Env} {vI vO : Value} {lo4 st8 : List Int} {s : MS} {a : Nat} {i : Ins} (h : DoPre K E vI vO lo4 st8 a s i w) (ho : i.op = 1) :
    Calls Tryd.prog 47 #[.pointer (some ⟨K.b, 0, none⟩), doV E i, .pointer (some ⟨a, 0, none⟩)] w (DoPost K vO lo4 st8 a ((s.at_ + 1 : Nat) : Int) s (stepI E i s) w) := by
  have HE : Hid (stepI E i s = goS E i (-1) s) := hid (step_go (by rw [ho]; exact ends_other (by decide) (by decide) (by decide) (by decide) (by decide) (by decide) (by decide)) (by omega) (by omega))
  have hB := BoxI.start w i.place i.op i.n (aimOf E.l i) h.sx.lt
  have h1 := h.sx.below ((Below.refl _ _).alloc (Nat.le_refl _) (.cells #[.int .i64 i.place, .int .i64 i.op, .int .i64 i.n, .int .i64 (aimOf E.l i)] 87))
  have hm := hid (h.m.two hB.two h.out)
  have hoc := h.oc
  have hn := h.ok.wf.num i h.can.mem
  have hlen := does_len h.ok h.inv h.can (by omega) (-1)
  have hl8 : s.st.length < 8 := by
    rw [show (doesS E i (-1) s).st = s.st ++ [(false, ((i.n : Int) + 128) % 256 - 128)] by unfold doesS; simp [ho]] at hlen
    simp at hlen
    omega
  have PO := h.out
  obtain ⟨op, n, pl⟩ := i
  simp only at ho
  subst ho
  have hc := hid (move_1 h1 pl n (aimOf E.l ⟨1, n, pl⟩) hl8 hn)
  have HT := hid hB.two
  have HOC := hid hoc
  unfold doV
  simp only at HT hm hc ⊢
  unfold insV at hc ⊢
  generalize hag : aimOf E.l ⟨1, n, pl⟩ = tg at *
  have HAG := hid hag
  clear h hB h1 hoc hag
  go_enter Tryd.func47, Tryd.ntmps47
  go_wp2_with fail
  refine hc.out.mono ?_
  clear hc
  intro e w2 hh
  obtain ⟨hx, hS, hT2⟩ := hh
  subst e
  have HS := hid hS
  have HM2 := hid (hm.out.two hT2 PO)
  have HT2 := hid (HT.out.trans hT2)
  clear hS hT2 hm HT
  go_wp2_with fail
  go_ret
  exact do_fin HE.out HOC.out rfl (by rw [to_next (by simp) (by simp)]) rfl HM2.out HT2.out HS.out
set_option maxRecDepth 100000 in
set_option maxHeartbeats 1000000 in
theorem do_7 {w : World} {K : PK} {E : Env} {vI vO : Value} {lo4 st8 : List Int} {s : MS} {a : Nat} {i : Ins} (h : DoPre K E vI vO lo4 st8 a s i w) (ho : i.op = 7) :
    Calls Tryd.prog 47 #[.pointer (some ⟨K.b, 0, none⟩), doV E i, .pointer (some ⟨a, 0, none⟩)] w (DoPost K vO lo4 st8 a ((s.at_ + 1 : Nat) : Int) s (stepI E i s) w) := by
  have HE : Hid (stepI E i s = goS E i (-1) s) := hid (step_go (by rw [ho]; exact ends_other (by decide) (by decide) (by decide) (by decide) (by decide) (by decide) (by decide)) (by omega) (by omega))
  have hB := BoxI.start w i.place i.op i.n (aimOf E.l i) h.sx.lt
  have h1 := h.sx.below ((Below.refl _ _).alloc (Nat.le_refl _) (.cells #[.int .i64 i.place, .int .i64 i.op, .int .i64 i.n, .int .i64 (aimOf E.l i)] 87))
  have hm := hid (h.m.two hB.two h.out)
  have hoc := h.oc
  have hn := h.ok.wf.arg i h.can.mem (.inl ho)
  rw [← h.inv.lo h.ok] at hn
  have hlen := does_len h.ok h.inv h.can (by omega) (-1)
  have hl8 : s.st.length < 8 := by
    rw [show (doesS E i (-1) s).st = s.st ++ [s.lo.getD i.n (false, 0)] by unfold doesS; simp [ho]] at hlen
    simp at hlen
    omega
  have PO := h.out
  obtain ⟨op, n, pl⟩ := i
  simp only at ho
  subst ho
  have hc := hid (move_7 h1 pl n (aimOf E.l ⟨7, n, pl⟩) hl8 hn)
  have HT := hid hB.two
  have HOC := hid hoc
  unfold doV
  simp only at HT hm hc ⊢
  unfold insV at hc ⊢
  generalize hag : aimOf E.l ⟨7, n, pl⟩ = tg at *
  have HAG := hid hag
  clear h hB h1 hoc hag
  go_enter Tryd.func47, Tryd.ntmps47
  go_wp2_with fail
  refine hc.out.mono ?_
  clear hc
  intro e w2 hh
  obtain ⟨hx, hS, hT2⟩ := hh
  subst e
  have HS := hid hS
  have HM2 := hid (hm.out.two hT2 PO)
  have HT2 := hid (HT.out.trans hT2)
  clear hS hT2 hm HT
  go_wp2_with fail
  go_ret
  exact do_fin HE.out HOC.out rfl (by rw [to_next (by simp) (by simp)]) rfl HM2.out HT2.out (by have h9 := HS.out; rw [← show s.lo.getD n (false, 0) = s.lo[n] by simp [List.getElem?_eq_getElem hn]] at h9; exact h9)
set_option maxRecDepth 100000 in
set_option maxHeartbeats 1000000 in
theorem do_8 {w : World} {K : PK} {E : Env} {vI vO : Value} {lo4 st8 : List Int} {s : MS} {a : Nat} {i : Ins} (h : DoPre K E vI vO lo4 st8 a s i w) (ho : i.op = 8) :
    Calls Tryd.prog 47 #[.pointer (some ⟨K.b, 0, none⟩), doV E i, .pointer (some ⟨a, 0, none⟩)] w (DoPost K vO lo4 st8 a ((s.at_ + 1 : Nat) : Int) s (stepI E i s) w) := by
  have HE : Hid (stepI E i s = goS E i (-1) s) := hid (step_go (by rw [ho]; exact ends_other (by decide) (by decide) (by decide) (by decide) (by decide) (by decide) (by decide)) (by omega) (by omega))
  have hB := BoxI.start w i.place i.op i.n (aimOf E.l i) h.sx.lt
  have h1 := h.sx.below ((Below.refl _ _).alloc (Nat.le_refl _) (.cells #[.int .i64 i.place, .int .i64 i.op, .int .i64 i.n, .int .i64 (aimOf E.l i)] 87))
  have hm := hid (h.m.two hB.two h.out)
  have hoc := h.oc
  have hn := h.ok.wf.arg i h.can.mem (.inr ho)
  rw [← h.inv.lo h.ok] at hn
  rw [st_one (can_one h.can (.inl ho))] at h1
  have PO := h.out
  obtain ⟨op, n, pl⟩ := i
  simp only at ho
  subst ho
  have hc := hid (move_8 h1 pl n (aimOf E.l ⟨8, n, pl⟩) hn)
  have HT := hid hB.two
  have HOC := hid hoc
  unfold doV
  simp only at HT hm hc ⊢
  unfold insV at hc ⊢
  generalize hag : aimOf E.l ⟨8, n, pl⟩ = tg at *
  have HAG := hid hag
  clear h hB h1 hoc hag
  go_enter Tryd.func47, Tryd.ntmps47
  go_wp2_with fail
  refine hc.out.mono ?_
  clear hc
  intro e w2 hh
  obtain ⟨hx, hS, hT2⟩ := hh
  subst e
  have HS := hid hS
  have HM2 := hid (hm.out.two hT2 PO)
  have HT2 := hid (HT.out.trans hT2)
  clear hS hT2 hm HT
  go_wp2_with fail
  go_ret
  exact do_fin HE.out HOC.out rfl (by rw [to_next (by simp) (by simp)]) rfl HM2.out HT2.out HS.out
set_option maxRecDepth 100000 in
set_option maxHeartbeats 1000000 in
theorem do_9 {w : World} {K : PK} {E : Env} {vI vO : Value} {lo4 st8 : List Int} {s : MS} {a : Nat} {i : Ins} (h : DoPre K E vI vO lo4 st8 a s i w) (ho : i.op = 9) :
    Calls Tryd.prog 47 #[.pointer (some ⟨K.b, 0, none⟩), doV E i, .pointer (some ⟨a, 0, none⟩)] w (DoPost K vO lo4 st8 a ((s.at_ + 1 : Nat) : Int) s (stepI E i s) w) := by
  have HE : Hid (stepI E i s = goS E i (-1) s) := hid (step_go (by rw [ho]; exact ends_other (by decide) (by decide) (by decide) (by decide) (by decide) (by decide) (by decide)) (by omega) (by omega))
  have hB := BoxI.start w i.place i.op i.n (aimOf E.l i) h.sx.lt
  have h1 := h.sx.below ((Below.refl _ _).alloc (Nat.le_refl _) (.cells #[.int .i64 i.place, .int .i64 i.op, .int .i64 i.n, .int .i64 (aimOf E.l i)] 87))
  have hm := hid (h.m.two hB.two h.out)
  have hoc := h.oc
  have hp := can_one h.can (.inr (.inl ho))
  have hlen := does_len h.ok h.inv h.can (by omega) (-1)
  have hl8 : s.st.length < 8 := by
    rw [show (doesS E i (-1) s).st = s.st ++ [lastW s.st 0] by unfold doesS; simp [ho]] at hlen
    simp at hlen
    omega
  rw [st_one hp] at h1
  have hl7 : (s.st.take (s.st.length - 1)).length < 7 := by rw [List.length_take]; omega
  have PO := h.out
  obtain ⟨op, n, pl⟩ := i
  simp only at ho
  subst ho
  have hc := hid (move_9 h1 pl n (aimOf E.l ⟨9, n, pl⟩) hl7)
  have HT := hid hB.two
  have HOC := hid hoc
  unfold doV
  simp only at HT hm hc ⊢
  unfold insV at hc ⊢
  generalize hag : aimOf E.l ⟨9, n, pl⟩ = tg at *
  have HAG := hid hag
  clear h hB h1 hoc hag
  go_enter Tryd.func47, Tryd.ntmps47
  go_wp2_with fail
  refine hc.out.mono ?_
  clear hc
  intro e w2 hh
  obtain ⟨hx, hS, hT2⟩ := hh
  subst e
  have HS := hid hS
  have HM2 := hid (hm.out.two hT2 PO)
  have HT2 := hid (HT.out.trans hT2)
  clear hS hT2 hm HT
  go_wp2_with fail
  go_ret
  exact do_fin HE.out HOC.out rfl (by rw [to_next (by simp) (by simp)]) rfl HM2.out HT2.out (by have h9 := HS.out; rw [← st_one hp] at h9; exact h9)
set_option maxRecDepth 100000 in
set_option maxHeartbeats 1000000 in
theorem do_10 {w : World} {K : PK} {E : Env} {vI vO : Value} {lo4 st8 : List Int} {s : MS} {a : Nat} {i : Ins} (h : DoPre K E vI vO lo4 st8 a s i w) (ho : i.op = 10) :
    Calls Tryd.prog 47 #[.pointer (some ⟨K.b, 0, none⟩), doV E i, .pointer (some ⟨a, 0, none⟩)] w (DoPost K vO lo4 st8 a ((s.at_ + 1 : Nat) : Int) s (stepI E i s) w) := by
  have HE : Hid (stepI E i s = goS E i (-1) s) := hid (step_go (by rw [ho]; exact ends_other (by decide) (by decide) (by decide) (by decide) (by decide) (by decide) (by decide)) (by omega) (by omega))
  have hB := BoxI.start w i.place i.op i.n (aimOf E.l i) h.sx.lt
  have h1 := h.sx.below ((Below.refl _ _).alloc (Nat.le_refl _) (.cells #[.int .i64 i.place, .int .i64 i.op, .int .i64 i.n, .int .i64 (aimOf E.l i)] 87))
  have hm := hid (h.m.two hB.two h.out)
  have hoc := h.oc
  rw [st_one (can_one h.can (.inr (.inr ho)))] at h1
  have PO := h.out
  obtain ⟨op, n, pl⟩ := i
  simp only at ho
  subst ho
  have hc := hid (move_10 h1 pl n (aimOf E.l ⟨10, n, pl⟩))
  have HT := hid hB.two
  have HOC := hid hoc
  unfold doV
  simp only at HT hm hc ⊢
  unfold insV at hc ⊢
  generalize hag : aimOf E.l ⟨10, n, pl⟩ = tg at *
  have HAG := hid hag
  clear h hB h1 hoc hag
  go_enter Tryd.func47, Tryd.ntmps47
  go_wp2_with fail
  refine hc.out.mono ?_
  clear hc
  intro e w2 hh
  obtain ⟨hx, hS, hT2⟩ := hh
  subst e
  have HS := hid hS
  have HM2 := hid (hm.out.two hT2 PO)
  have HT2 := hid (HT.out.trans hT2)
  clear hS hT2 hm HT
  go_wp2_with fail
  go_ret
  exact do_fin HE.out HOC.out rfl (by rw [to_next (by simp) (by simp)]) rfl HM2.out HT2.out HS.out
set_option maxRecDepth 100000 in
set_option maxHeartbeats 1000000 in
theorem do_11 {w : World} {K : PK} {E : Env} {vI vO : Value} {lo4 st8 : List Int} {s : MS} {a : Nat} {i : Ins} (h : DoPre K E vI vO lo4 st8 a s i w) (ho : i.op = 11) :
    Calls Tryd.prog 47 #[.pointer (some ⟨K.b, 0, none⟩), doV E i, .pointer (some ⟨a, 0, none⟩)] w (DoPost K vO lo4 st8 a ((s.at_ + 1 : Nat) : Int) s (stepI E i s) w) := by
  have HE : Hid (stepI E i s = goS E i (-1) s) := hid (step_go (by rw [ho]; exact ends_other (by decide) (by decide) (by decide) (by decide) (by decide) (by decide) (by decide)) (by omega) (by omega))
  have hB := BoxI.start w i.place i.op i.n (aimOf E.l i) h.sx.lt
  have h1 := h.sx.below ((Below.refl _ _).alloc (Nat.le_refl _) (.cells #[.int .i64 i.place, .int .i64 i.op, .int .i64 i.n, .int .i64 (aimOf E.l i)] 87))
  have hm := hid (h.m.two hB.two h.out)
  have hoc := h.oc
  have hl7 : (s.st.take (s.st.length - 2)).length < 7 := by have := h.inv.st h.ok; have := can_two h.can ho; rw [List.length_take]; omega
  rw [st_two (can_two h.can ho)] at h1
  have PO := h.out
  obtain ⟨op, n, pl⟩ := i
  simp only at ho
  subst ho
  have hc := hid (move_11 h1 pl n (aimOf E.l ⟨11, n, pl⟩) hl7)
  have HT := hid hB.two
  have HOC := hid hoc
  unfold doV
  simp only at HT hm hc ⊢
  unfold insV at hc ⊢
  generalize hag : aimOf E.l ⟨11, n, pl⟩ = tg at *
  have HAG := hid hag
  clear h hB h1 hoc hag
  go_enter Tryd.func47, Tryd.ntmps47
  go_wp2_with fail
  refine hc.out.mono ?_
  clear hc
  intro e w2 hh
  obtain ⟨hx, hS, hT2⟩ := hh
  subst e
  have HS := hid hS
  have HM2 := hid (hm.out.two hT2 PO)
  have HT2 := hid (HT.out.trans hT2)
  clear hS hT2 hm HT
  go_wp2_with fail
  go_ret
  exact do_fin HE.out HOC.out rfl (by rw [to_next (by simp) (by simp)]) rfl HM2.out HT2.out (by have h9 := HS.out; rw [List.append_assoc] at h9; exact h9)
set_option maxRecDepth 100000 in
set_option maxHeartbeats 1000000 in
theorem do_12 {w : World} {K : PK} {E : Env} {vI vO : Value} {lo4 st8 : List Int} {s : MS} {a : Nat} {i : Ins} (h : DoPre K E vI vO lo4 st8 a s i w) (ho : i.op = 12) :
    Calls Tryd.prog 47 #[.pointer (some ⟨K.b, 0, none⟩), doV E i, .pointer (some ⟨a, 0, none⟩)] w (DoPost K vO lo4 st8 a ((s.at_ + 1 : Nat) : Int) s (stepI E i s) w) := by
  have HE : Hid (stepI E i s = goS E i (-1) s) := hid (step_go (by rw [ho]; exact ends_other (by decide) (by decide) (by decide) (by decide) (by decide) (by decide) (by decide)) (by omega) (by omega))
  have hB := BoxI.start w i.place i.op i.n (aimOf E.l i) h.sx.lt
  have h1 := h.sx.below ((Below.refl _ _).alloc (Nat.le_refl _) (.cells #[.int .i64 i.place, .int .i64 i.op, .int .i64 i.n, .int .i64 (aimOf E.l i)] 87))
  have hm := hid (h.m.two hB.two h.out)
  have hoc := h.oc
  have hlen := does_len h.ok h.inv h.can (by omega) (-1)
  have hl8 : s.st.length < 8 := by
    rw [show (doesS E i (-1) s).st = s.st ++ [(true, -1)] by unfold doesS; simp [ho]] at hlen
    simp at hlen
    omega
  have PO := h.out
  obtain ⟨op, n, pl⟩ := i
  simp only at ho
  subst ho
  have hc := hid (move_12 h1 pl n (aimOf E.l ⟨12, n, pl⟩) hl8)
  have HT := hid hB.two
  have HOC := hid hoc
  unfold doV
  simp only at HT hm hc ⊢
  unfold insV at hc ⊢
  generalize hag : aimOf E.l ⟨12, n, pl⟩ = tg at *
  have HAG := hid hag
  clear h hB h1 hoc hag
  go_enter Tryd.func47, Tryd.ntmps47
  go_wp2_with fail
  refine hc.out.mono ?_
  clear hc
  intro e w2 hh
  obtain ⟨hx, hS, hT2⟩ := hh
  subst e
  have HS := hid hS
  have HM2 := hid (hm.out.two hT2 PO)
  have HT2 := hid (HT.out.trans hT2)
  clear hS hT2 hm HT
  go_wp2_with fail
  go_ret
  exact do_fin HE.out HOC.out rfl (by rw [to_next (by simp) (by simp)]) rfl HM2.out HT2.out HS.out
set_option maxRecDepth 100000 in
set_option maxHeartbeats 1000000 in
theorem do_18 {w : World} {K : PK} {E : Env} {vI vO : Value} {lo4 st8 : List Int} {s : MS} {a : Nat} {i : Ins} (h : DoPre K E vI vO lo4 st8 a s i w) (ho : i.op = 18) :
    Calls Tryd.prog 47 #[.pointer (some ⟨K.b, 0, none⟩), doV E i, .pointer (some ⟨a, 0, none⟩)] w (DoPost K vO lo4 st8 a ((s.at_ + 1 : Nat) : Int) s (stepI E i s) w) := by
  have HE : Hid (stepI E i s = goS E i (-1) s) := hid (step_go (by rw [ho]; exact ends_other (by decide) (by decide) (by decide) (by decide) (by decide) (by decide) (by decide)) (by omega) (by omega))
  have hB := BoxI.start w i.place i.op i.n (aimOf E.l i) h.sx.lt
  have h1 := h.sx.below ((Below.refl _ _).alloc (Nat.le_refl _) (.cells #[.int .i64 i.place, .int .i64 i.op, .int .i64 i.n, .int .i64 (aimOf E.l i)] 87))
  have hm := hid (h.m.two hB.two h.out)
  have hoc := h.oc
  have hstd := h.can.std ⟨by omega, by omega, by omega, by omega, by omega⟩
  obtain ⟨hp, _⟩ := hstd.two (c := 114) (d := 114) (by rw [ho]; rfl)
  have hl8 : (s.st.take (s.st.length - 2)).length < 8 := by have := h.inv.st h.ok; rw [List.length_take]; omega
  rw [st_two hp] at h1
  have PO := h.out
  obtain ⟨op, n, pl⟩ := i
  simp only at ho
  subst ho
  have hc := hid (move_18 h1 pl n (aimOf E.l ⟨18, n, pl⟩) hl8)
  have HT := hid hB.two
  have HOC := hid hoc
  unfold doV
  simp only at HT hm hc ⊢
  unfold insV at hc ⊢
  generalize hag : aimOf E.l ⟨18, n, pl⟩ = tg at *
  have HAG := hid hag
  clear h hB h1 hoc hag
  go_enter Tryd.func47, Tryd.ntmps47
  go_wp2_with fail
  refine hc.out.mono ?_
  clear hc
  intro e w2 hh
  obtain ⟨hx, hS, hT2⟩ := hh
  subst e
  have HS := hid hS
  have HM2 := hid (hm.out.two hT2 PO)
  have HT2 := hid (HT.out.trans hT2)
  clear hS hT2 hm HT
  go_wp2_with fail
  go_ret
  exact do_fin HE.out HOC.out rfl (by rw [to_next (by simp) (by simp)]) rfl HM2.out HT2.out HS.out
set_option maxRecDepth 100000 in
set_option maxHeartbeats 1000000 in
theorem do_19 {w : World} {K : PK} {E : Env} {vI vO : Value} {lo4 st8 : List Int} {s : MS} {a : Nat} {i : Ins} (h : DoPre K E vI vO lo4 st8 a s i w) (ho : i.op = 19) :
    Calls Tryd.prog 47 #[.pointer (some ⟨K.b, 0, none⟩), doV E i, .pointer (some ⟨a, 0, none⟩)] w (DoPost K vO lo4 st8 a ((s.at_ + 1 : Nat) : Int) s (stepI E i s) w) := by
  have HE : Hid (stepI E i s = goS E i (-1) s) := hid (step_go (by rw [ho]; exact ends_other (by decide) (by decide) (by decide) (by decide) (by decide) (by decide) (by decide)) (by omega) (by omega))
  have hB := BoxI.start w i.place i.op i.n (aimOf E.l i) h.sx.lt
  have h1 := h.sx.below ((Below.refl _ _).alloc (Nat.le_refl _) (.cells #[.int .i64 i.place, .int .i64 i.op, .int .i64 i.n, .int .i64 (aimOf E.l i)] 87))
  have hm := hid (h.m.two hB.two h.out)
  have hoc := h.oc
  have PO := h.out
  obtain ⟨op, n, pl⟩ := i
  simp only at ho
  subst ho
  have hc := hid (move_19 h1 pl n (aimOf E.l ⟨19, n, pl⟩))
  have HT := hid hB.two
  have HOC := hid hoc
  unfold doV
  simp only at HT hm hc ⊢
  unfold insV at hc ⊢
  generalize hag : aimOf E.l ⟨19, n, pl⟩ = tg at *
  have HAG := hid hag
  clear h hB h1 hoc hag
  go_enter Tryd.func47, Tryd.ntmps47
  go_wp2_with fail
  refine hc.out.mono ?_
  clear hc
  intro e w2 hh
  obtain ⟨hx, hS, hT2⟩ := hh
  subst e
  have HS := hid hS
  have HM2 := hid (hm.out.two hT2 PO)
  have HT2 := hid (HT.out.trans hT2)
  clear hS hT2 hm HT
  go_wp2_with fail
  go_ret
  exact do_fin HE.out HOC.out rfl (by rw [← HAG.out]; rfl) rfl HM2.out HT2.out HS.out
set_option maxRecDepth 100000 in
set_option maxHeartbeats 1000000 in
theorem do_20 {w : World} {K : PK} {E : Env} {vI vO : Value} {lo4 st8 : List Int} {s : MS} {a : Nat} {i : Ins} (h : DoPre K E vI vO lo4 st8 a s i w) (ho : i.op = 20) :
    Calls Tryd.prog 47 #[.pointer (some ⟨K.b, 0, none⟩), doV E i, .pointer (some ⟨a, 0, none⟩)] w (DoPost K vO lo4 st8 a ((s.at_ + 1 : Nat) : Int) s (stepI E i s) w) := by
  have HE : Hid (stepI E i s = goS E i (-1) s) := hid (step_go (by rw [ho]; exact ends_other (by decide) (by decide) (by decide) (by decide) (by decide) (by decide) (by decide)) (by omega) (by omega))
  have hB := BoxI.start w i.place i.op i.n (aimOf E.l i) h.sx.lt
  have h1 := h.sx.below ((Below.refl _ _).alloc (Nat.le_refl _) (.cells #[.int .i64 i.place, .int .i64 i.op, .int .i64 i.n, .int .i64 (aimOf E.l i)] 87))
  have hm := hid (h.m.two hB.two h.out)
  have hoc := h.oc
  have hstd := h.can.std ⟨by omega, by omega, by omega, by omega, by omega⟩
  obtain ⟨hp, _⟩ := hstd.one (c := 105) (by rw [ho]; rfl)
  rw [st_one hp] at h1
  have PO := h.out
  obtain ⟨op, n, pl⟩ := i
  simp only at ho
  subst ho
  have hc := hid (move_20 h1 pl n (aimOf E.l ⟨20, n, pl⟩))
  have HT := hid hB.two
  have HOC := hid hoc
  unfold doV
  simp only at HT hm hc ⊢
  unfold insV at hc ⊢
  generalize hag : aimOf E.l ⟨20, n, pl⟩ = tg at *
  have HAG := hid hag
  clear h hB h1 hoc hag
  go_enter Tryd.func47, Tryd.ntmps47
  go_wp2_with fail
  refine hc.out.mono ?_
  clear hc
  intro e w2 hh
  obtain ⟨hx, hS, hT2⟩ := hh
  subst e
  have HS := hid hS
  have HM2 := hid (hm.out.two hT2 PO)
  have HT2 := hid (HT.out.trans hT2)
  clear hS hT2 hm HT
  go_wp2_with fail
  go_ret
  exact do_fin HE.out HOC.out rfl (by unfold toS; by_cases hz : (lastW s.st 0).2 = 0 <;> simp [hz, ← HAG.out, aimOf, isJump]) rfl HM2.out HT2.out HS.out
end Go.Proofs.YtdmdpindonghdabDoor
namespace Go.Proofs.YtdmdpindonghdabDoor
open Go.RowKit
set_option maxRecDepth 100000 in
set_option maxHeartbeats 1000000 in
theorem do_2 {w : World} {K : PK} {E : Env} {vI vO : Value} {lo4 st8 : List Int} {s : MS} {a : Nat} {i : Ins} (h : DoPre K E vI vO lo4 st8 a s i w) (ho : i.op = 2) :
    Calls Tryd.prog 47 #[.pointer (some ⟨K.b, 0, none⟩), doV E i, .pointer (some ⟨a, 0, none⟩)] w (DoPost K vO lo4 st8 a ((s.at_ + 1 : Nat) : Int) s (stepI E i s) w) := by
  have HE : Hid (stepI E i s = goS E i (-1) s) := hid (step_go (by rw [ho]; exact ends_other (by decide) (by decide) (by decide) (by decide) (by decide) (by decide) (by decide)) (by omega) (by omega))
  have hB := BoxI.start w i.place i.op i.n (aimOf E.l i) h.sx.lt
  have h1 := h.sx.below ((Below.refl _ _).alloc (Nat.le_refl _) (.cells #[.int .i64 i.place, .int .i64 i.op, .int .i64 i.n, .int .i64 (aimOf E.l i)] 87))
  have hm1 := h.m.two hB.two h.out
  have hm := hid hm1
  have HOC := hid h.oc
  have PO := h.out
  have hstd := h.can.std ⟨by omega, by omega, by omega, by omega, by omega⟩
  obtain ⟨hp, f1, f2⟩ := hstd.two (c := 105) (d := 105) (by rw [ho]; rfl)
  have hl8 : (s.st.take (s.st.length - 2)).length < 8 := by have := h.inv.st h.ok; rw [List.length_take]; omega
  rw [st_two hp] at h1
  have hc := hid (reckon_2 h1 hl8)
  obtain ⟨op, n, pl⟩ := i
  simp only at ho
  subst ho
  have HT := hid hB.two
  unfold doV
  simp only at HT hm hc ⊢
  unfold insV
  generalize aimOf E.l ⟨2, n, pl⟩ = tg at *
  clear h hB h1 hm1 hstd f1 f2
  go_enter Tryd.func47, Tryd.ntmps47
  go_wp2_with fail
  refine hc.out.mono ?_
  clear hc
  intro e w2 hh
  obtain ⟨hx, hS, hO⟩ := hh
  subst e
  have HS := hid hS
  have HM2 := hid (hm.out.two (Two.of_only hO) PO)
  have HT2 := hid (HT.out.trans (Two.of_only hO))
  clear hS hO hm HT
  go_wp2_with fail
  go_ret
  exact do_fin HE.out HOC.out rfl (by rw [to_next (by simp) (by simp)]) rfl HM2.out HT2.out HS.out
set_option maxRecDepth 100000 in
set_option maxHeartbeats 1000000 in
theorem do_3 {w : World} {K : PK} {E : Env} {vI vO : Value} {lo4 st8 : List Int} {s : MS} {a : Nat} {i : Ins} (h : DoPre K E vI vO lo4 st8 a s i w) (ho : i.op = 3) :
    Calls Tryd.prog 47 #[.pointer (some ⟨K.b, 0, none⟩), doV E i, .pointer (some ⟨a, 0, none⟩)] w (DoPost K vO lo4 st8 a ((s.at_ + 1 : Nat) : Int) s (stepI E i s) w) := by
  have HE : Hid (stepI E i s = goS E i (-1) s) := hid (step_go (by rw [ho]; exact ends_other (by decide) (by decide) (by decide) (by decide) (by decide) (by decide) (by decide)) (by omega) (by omega))
  have hB := BoxI.start w i.place i.op i.n (aimOf E.l i) h.sx.lt
  have h1 := h.sx.below ((Below.refl _ _).alloc (Nat.le_refl _) (.cells #[.int .i64 i.place, .int .i64 i.op, .int .i64 i.n, .int .i64 (aimOf E.l i)] 87))
  have hm1 := h.m.two hB.two h.out
  have hm := hid hm1
  have HOC := hid h.oc
  have PO := h.out
  have hstd := h.can.std ⟨by omega, by omega, by omega, by omega, by omega⟩
  obtain ⟨hp, f1, f2⟩ := hstd.two (c := 105) (d := 105) (by rw [ho]; rfl)
  have hl8 : (s.st.take (s.st.length - 2)).length < 8 := by have := h.inv.st h.ok; rw [List.length_take]; omega
  rw [st_two hp] at h1
  have hc := hid (reckon_3 h1 hl8)
  obtain ⟨op, n, pl⟩ := i
  simp only at ho
  subst ho
  have HT := hid hB.two
  unfold doV
  simp only at HT hm hc ⊢
  unfold insV
  generalize aimOf E.l ⟨3, n, pl⟩ = tg at *
  clear h hB h1 hm1 hstd f1 f2
  go_enter Tryd.func47, Tryd.ntmps47
  go_wp2_with fail
  refine hc.out.mono ?_
  clear hc
  intro e w2 hh
  obtain ⟨hx, hS, hO⟩ := hh
  subst e
  have HS := hid hS
  have HM2 := hid (hm.out.two (Two.of_only hO) PO)
  have HT2 := hid (HT.out.trans (Two.of_only hO))
  clear hS hO hm HT
  go_wp2_with fail
  go_ret
  exact do_fin HE.out HOC.out rfl (by rw [to_next (by simp) (by simp)]) rfl HM2.out HT2.out HS.out
set_option maxRecDepth 100000 in
set_option maxHeartbeats 1000000 in
theorem do_4 {w : World} {K : PK} {E : Env} {vI vO : Value} {lo4 st8 : List Int} {s : MS} {a : Nat} {i : Ins} (h : DoPre K E vI vO lo4 st8 a s i w) (ho : i.op = 4) :
    Calls Tryd.prog 47 #[.pointer (some ⟨K.b, 0, none⟩), doV E i, .pointer (some ⟨a, 0, none⟩)] w (DoPost K vO lo4 st8 a ((s.at_ + 1 : Nat) : Int) s (stepI E i s) w) := by
  have HE : Hid (stepI E i s = goS E i (-1) s) := hid (step_go (by rw [ho]; exact ends_other (by decide) (by decide) (by decide) (by decide) (by decide) (by decide) (by decide)) (by omega) (by omega))
  have hB := BoxI.start w i.place i.op i.n (aimOf E.l i) h.sx.lt
  have h1 := h.sx.below ((Below.refl _ _).alloc (Nat.le_refl _) (.cells #[.int .i64 i.place, .int .i64 i.op, .int .i64 i.n, .int .i64 (aimOf E.l i)] 87))
  have hm1 := h.m.two hB.two h.out
  have hm := hid hm1
  have HOC := hid h.oc
  have PO := h.out
  have hstd := h.can.std ⟨by omega, by omega, by omega, by omega, by omega⟩
  obtain ⟨hp, f1, f2⟩ := hstd.two (c := 105) (d := 105) (by rw [ho]; rfl)
  have hl8 : (s.st.take (s.st.length - 2)).length < 8 := by have := h.inv.st h.ok; rw [List.length_take]; omega
  rw [st_two hp] at h1
  have hc := hid (reckon_4 h1 hl8)
  obtain ⟨op, n, pl⟩ := i
  simp only at ho
  subst ho
  have HT := hid hB.two
  unfold doV
  simp only at HT hm hc ⊢
  unfold insV
  generalize aimOf E.l ⟨4, n, pl⟩ = tg at *
  clear h hB h1 hm1 hstd f1 f2
  go_enter Tryd.func47, Tryd.ntmps47
  go_wp2_with fail
  refine hc.out.mono ?_
  clear hc
  intro e w2 hh
  obtain ⟨hx, hS, hO⟩ := hh
  subst e
  have HS := hid hS
  have HM2 := hid (hm.out.two (Two.of_only hO) PO)
  have HT2 := hid (HT.out.trans (Two.of_only hO))
  clear hS hO hm HT
  go_wp2_with fail
  go_ret
  exact do_fin HE.out HOC.out rfl (by rw [to_next (by simp) (by simp)]) rfl HM2.out HT2.out HS.out
set_option maxRecDepth 100000 in
set_option maxHeartbeats 1000000 in
theorem do_6 {w : World} {K : PK} {E : Env} {vI vO : Value} {lo4 st8 : List Int} {s : MS} {a : Nat} {i : Ins} (h : DoPre K E vI vO lo4 st8 a s i w) (ho : i.op = 6) :
    Calls Tryd.prog 47 #[.pointer (some ⟨K.b, 0, none⟩), doV E i, .pointer (some ⟨a, 0, none⟩)] w (DoPost K vO lo4 st8 a ((s.at_ + 1 : Nat) : Int) s (stepI E i s) w) := by
  have HE : Hid (stepI E i s = goS E i (-1) s) := hid (step_go (by rw [ho]; exact ends_other (by decide) (by decide) (by decide) (by decide) (by decide) (by decide) (by decide)) (by omega) (by omega))
  have hB := BoxI.start w i.place i.op i.n (aimOf E.l i) h.sx.lt
  have h1 := h.sx.below ((Below.refl _ _).alloc (Nat.le_refl _) (.cells #[.int .i64 i.place, .int .i64 i.op, .int .i64 i.n, .int .i64 (aimOf E.l i)] 87))
  have hm1 := h.m.two hB.two h.out
  have hm := hid hm1
  have HOC := hid h.oc
  have PO := h.out
  have hstd := h.can.std ⟨by omega, by omega, by omega, by omega, by omega⟩
  obtain ⟨hp, f1, f2⟩ := hstd.two (c := 105) (d := 105) (by rw [ho]; rfl)
  have hl8 : (s.st.take (s.st.length - 2)).length < 8 := by have := h.inv.st h.ok; rw [List.length_take]; omega
  rw [st_two hp] at h1
  have hc := hid (reckon_6 h1 hl8)
  obtain ⟨op, n, pl⟩ := i
  simp only at ho
  subst ho
  have HT := hid hB.two
  unfold doV
  simp only at HT hm hc ⊢
  unfold insV
  generalize aimOf E.l ⟨6, n, pl⟩ = tg at *
  clear h hB h1 hm1 hstd f1 f2
  go_enter Tryd.func47, Tryd.ntmps47
  go_wp2_with fail
  refine hc.out.mono ?_
  clear hc
  intro e w2 hh
  obtain ⟨hx, hS, hO⟩ := hh
  subst e
  have HS := hid hS
  have HM2 := hid (hm.out.two (Two.of_only hO) PO)
  have HT2 := hid (HT.out.trans (Two.of_only hO))
  clear hS hO hm HT
  go_wp2_with fail
  go_ret
  exact do_fin HE.out HOC.out rfl (by rw [to_next (by simp) (by simp)]) rfl HM2.out HT2.out HS.out
set_option maxRecDepth 100000 in
set_option maxHeartbeats 1000000 in
theorem do_5 {w : World} {K : PK} {E : Env} {vI vO : Value} {lo4 st8 : List Int} {s : MS} {a : Nat} {i : Ins} (h : DoPre K E vI vO lo4 st8 a s i w) (ho : i.op = 5) :
    Calls Tryd.prog 47 #[.pointer (some ⟨K.b, 0, none⟩), doV E i, .pointer (some ⟨a, 0, none⟩)] w (DoPost K vO lo4 st8 a ((s.at_ + 1 : Nat) : Int) s (stepI E i s) w) := by
  have hB := BoxI.start w i.place i.op i.n (aimOf E.l i) h.sx.lt
  have h1 := h.sx.below ((Below.refl _ _).alloc (Nat.le_refl _) (.cells #[.int .i64 i.place, .int .i64 i.op, .int .i64 i.n, .int .i64 (aimOf E.l i)] 87))
  have hm1 := h.m.two hB.two h.out
  have hm := hid hm1
  have HOC := hid h.oc
  have PO := h.out
  have hstd := h.can.std ⟨by omega, by omega, by omega, by omega, by omega⟩
  obtain ⟨hp, f1, f2⟩ := hstd.two (c := 105) (d := 105) (by rw [ho]; rfl)
  have hl8 : (s.st.take (s.st.length - 2)).length < 8 := by have := h.inv.st h.ok; rw [List.length_take]; omega
  rw [st_two hp] at h1
  by_cases hz : (lastW s.st 0).2 = 0
  · have he3 : endsC s.hs.1 s.st i.op = 3 := by rw [ho]; show (if (lastW s.st 0).2 = 0 then (3 : Int) else 0) = 3; rw [if_pos hz]
    have HE : Hid (stepI E i s = { s with oc := 3 }) := hid (by rw [step_trap (by omega) (by omega), he3]; rfl)
    have hc := hid (reckon_50 h1 hz)
    obtain ⟨op, n, pl⟩ := i
    simp only at ho
    subst ho
    have HT := hid hB.two
    unfold doV
    simp only at HT hm hc ⊢
    unfold insV
    generalize aimOf E.l ⟨5, n, pl⟩ = tg at *
    clear h hB h1 hm1 hstd f1 f2 he3
    go_enter Tryd.func47, Tryd.ntmps47
    go_wp2_with fail
    refine hc.out.mono ?_
    clear hc
    intro e w2 hh
    obtain ⟨hx, hS, hO⟩ := hh
    subst e
    have HM2 := hid (hm.out.two (Two.of_only hO) PO)
    have HT2 := hid (HT.out.trans (Two.of_only hO))
    clear hS hO hm HT
    go_wp2_with fail
    go_ret
    rw [HE.out]
    exact ⟨rfl, ⟨vI, vO, HM2.out, fun g hg => .inl hg⟩, two_touch HT2.out, fun e => by (cases e), fun e => by (cases e)⟩
  · have HE : Hid (stepI E i s = goS E i (-1) s) := hid (step_go (by rw [ho]; show (if (lastW s.st 0).2 = 0 then (3 : Int) else 0) = 0; rw [if_neg hz]) (by omega) (by omega))
    have hc := hid (reckon_5 h1 hl8 hz)
    obtain ⟨op, n, pl⟩ := i
    simp only at ho
    subst ho
    have HT := hid hB.two
    unfold doV
    simp only at HT hm hc ⊢
    unfold insV
    generalize aimOf E.l ⟨5, n, pl⟩ = tg at *
    clear h hB h1 hm1 hstd f1 f2
    go_enter Tryd.func47, Tryd.ntmps47
    go_wp2_with fail
    refine hc.out.mono ?_
    clear hc
    intro e w2 hh
    obtain ⟨hx, hS, hO⟩ := hh
    subst e
    have HS := hid hS
    have HM2 := hid (hm.out.two (Two.of_only hO) PO)
    have HT2 := hid (HT.out.trans (Two.of_only hO))
    clear hS hO hm HT
    go_wp2_with fail
    go_ret
    exact do_fin HE.out HOC.out rfl (by rw [to_next (by simp) (by simp)]) rfl HM2.out HT2.out HS.out
set_option maxRecDepth 100000 in
set_option maxHeartbeats 1000000 in
theorem do_14 {w : World} {K : PK} {E : Env} {vI vO : Value} {lo4 st8 : List Int} {s : MS} {a : Nat} {i : Ins} (h : DoPre K E vI vO lo4 st8 a s i w) (ho : i.op = 14) :
    Calls Tryd.prog 47 #[.pointer (some ⟨K.b, 0, none⟩), doV E i, .pointer (some ⟨a, 0, none⟩)] w (DoPost K vO lo4 st8 a ((s.at_ + 1 : Nat) : Int) s (stepI E i s) w) := by
  have hB := BoxI.start w i.place i.op i.n (aimOf E.l i) h.sx.lt
  have h1 := h.sx.below ((Below.refl _ _).alloc (Nat.le_refl _) (.cells #[.int .i64 i.place, .int .i64 i.op, .int .i64 i.n, .int .i64 (aimOf E.l i)] 87))
  have hm1 := h.m.two hB.two h.out
  have hm := hid hm1
  have HOC := hid h.oc
  have PO := h.out
  have hstd := h.can.std ⟨by omega, by omega, by omega, by omega, by omega⟩
  obtain ⟨hp, f1⟩ := hstd.one (c := 114) (by rw [ho]; rfl)
  have hl8 : (s.st.take (s.st.length - 1)).length < 8 := by have := h.inv.st h.ok; rw [List.length_take]; omega
  have hr := (h.inv.ref hp (letB_r f1)).2
  rw [← h.inv.n] at hr
  have hends : endsC s.hs.1 s.st i.op = wantsC s.hs.1 (lastW s.st 0).2 false := by rw [ho]; rfl
  have hwv := wants_vals s.hs.1 (lastW s.st 0).2 false
  rw [st_one hp] at h1
  have HG : Hid (wantsC s.hs.1 (lastW s.st 0).2 false = 0 → stepI E i s = goS E i (-1) s) := hid (fun e => step_go (by rw [hends, e]) (by omega) (by omega))
  have HR : Hid (wantsC s.hs.1 (lastW s.st 0).2 false ≠ 0 → stepI E i s = { s with oc := (wantsC s.hs.1 (lastW s.st 0).2 false).toNat }) := hid (fun e => by rw [step_trap (by rw [hends]; exact e) (by rw [hends]; omega), hends])
  obtain ⟨op, n, pl⟩ := i
  simp only at ho
  subst ho
  have hc := hid (read_14 hm1 h1 hl8 PO hr true pl n (aimOf E.l ⟨14, n, pl⟩))
  have HD : Hid (doesS E ⟨14, n, pl⟩ (-1) s = { s with st := s.st.take (s.st.length - 1) ++ [(true, readV s.hs.1 14 n (lastW s.st 0).2)] }) := hid rfl
  have HT := hid hB.two
  unfold doV
  simp only at HT hm hc ⊢
  unfold insV at hc ⊢
  generalize aimOf E.l ⟨14, n, pl⟩ = tg at *
  generalize readV s.hs.1 14 n (lastW s.st 0).2 = rv at *
  clear h hB h1 hm1 hstd f1 hends
  generalize wantsC s.hs.1 (lastW s.st 0).2 false = q at *
  go_enter Tryd.func47, Tryd.ntmps47
  go_wp2_with fail
  refine hc.out.mono ?_
  clear hc
  intro e w2 hh
  obtain ⟨hx, hS, hO⟩ := hh
  subst e
  have HS := hid hS
  have HM2 := hid (hm.out.two hO PO)
  have HT2 := hid (HT.out.trans hO)
  clear hS hO hm HT
  go_wp2_with fail
  go_ret
  by_cases hq : q = 0
  · have h9 := HS.out
    rw [if_pos hq] at h9
    exact do_fin (HG.out hq) HOC.out HD.out (by rw [to_next (by simp) (by simp)]) (by subst hq; rfl) HM2.out HT2.out h9
  · rw [HR.out hq]
    refine ⟨?_, ⟨vI, vO, HM2.out, fun g hg => .inl hg⟩, two_touch HT2.out, fun e => ?_, fun e => ?_⟩
    · simp only
      rw [show ((q.toNat : Nat) : Int) = q by omega]
      rfl
    · simp only at e; omega
    · simp only at e; omega
set_option maxRecDepth 100000 in
set_option maxHeartbeats 1000000 in
theorem do_16 {w : World} {K : PK} {E : Env} {vI vO : Value} {lo4 st8 : List Int} {s : MS} {a : Nat} {i : Ins} (h : DoPre K E vI vO lo4 st8 a s i w) (ho : i.op = 16) :
    Calls Tryd.prog 47 #[.pointer (some ⟨K.b, 0, none⟩), doV E i, .pointer (some ⟨a, 0, none⟩)] w (DoPost K vO lo4 st8 a ((s.at_ + 1 : Nat) : Int) s (stepI E i s) w) := by
  have hB := BoxI.start w i.place i.op i.n (aimOf E.l i) h.sx.lt
  have h1 := h.sx.below ((Below.refl _ _).alloc (Nat.le_refl _) (.cells #[.int .i64 i.place, .int .i64 i.op, .int .i64 i.n, .int .i64 (aimOf E.l i)] 87))
  have hm1 := h.m.two hB.two h.out
  have hm := hid hm1
  have HOC := hid h.oc
  have PO := h.out
  have hstd := h.can.std ⟨by omega, by omega, by omega, by omega, by omega⟩
  obtain ⟨hp, f1⟩ := hstd.one (c := 114) (by rw [ho]; rfl)
  have hl8 : (s.st.take (s.st.length - 1)).length < 8 := by have := h.inv.st h.ok; rw [List.length_take]; omega
  have hr := (h.inv.ref hp (letB_r f1)).2
  rw [← h.inv.n] at hr
  have hends : endsC s.hs.1 s.st i.op = wantsC s.hs.1 (lastW s.st 0).2 false := by rw [ho]; rfl
  have hwv := wants_vals s.hs.1 (lastW s.st 0).2 false
  rw [st_one hp] at h1
  have HG : Hid (wantsC s.hs.1 (lastW s.st 0).2 false = 0 → stepI E i s = goS E i (-1) s) := hid (fun e => step_go (by rw [hends, e]) (by omega) (by omega))
  have HR : Hid (wantsC s.hs.1 (lastW s.st 0).2 false ≠ 0 → stepI E i s = { s with oc := (wantsC s.hs.1 (lastW s.st 0).2 false).toNat }) := hid (fun e => by rw [step_trap (by rw [hends]; exact e) (by rw [hends]; omega), hends])
  obtain ⟨op, n, pl⟩ := i
  simp only at ho
  subst ho
  have hc := hid (read_16 hm1 h1 hl8 PO hr false pl n (aimOf E.l ⟨16, n, pl⟩))
  have HD : Hid (doesS E ⟨16, n, pl⟩ (-1) s = { s with st := s.st.take (s.st.length - 1) ++ [(false, readV s.hs.1 16 n (lastW s.st 0).2)] }) := hid rfl
  have HT := hid hB.two
  unfold doV
  simp only at HT hm hc ⊢
  unfold insV at hc ⊢
  generalize aimOf E.l ⟨16, n, pl⟩ = tg at *
  generalize readV s.hs.1 16 n (lastW s.st 0).2 = rv at *
  clear h hB h1 hm1 hstd f1 hends
  generalize wantsC s.hs.1 (lastW s.st 0).2 false = q at *
  go_enter Tryd.func47, Tryd.ntmps47
  go_wp2_with fail
  refine hc.out.mono ?_
  clear hc
  intro e w2 hh
  obtain ⟨hx, hS, hO⟩ := hh
  subst e
  have HS := hid hS
  have HM2 := hid (hm.out.two hO PO)
  have HT2 := hid (HT.out.trans hO)
  clear hS hO hm HT
  go_wp2_with fail
  go_ret
  by_cases hq : q = 0
  · have h9 := HS.out
    rw [if_pos hq] at h9
    exact do_fin (HG.out hq) HOC.out HD.out (by rw [to_next (by simp) (by simp)]) (by subst hq; rfl) HM2.out HT2.out h9
  · rw [HR.out hq]
    refine ⟨?_, ⟨vI, vO, HM2.out, fun g hg => .inl hg⟩, two_touch HT2.out, fun e => ?_, fun e => ?_⟩
    · simp only
      rw [show ((q.toNat : Nat) : Int) = q by omega]
      rfl
    · simp only at e; omega
    · simp only at e; omega
set_option maxRecDepth 100000 in
set_option maxHeartbeats 1000000 in
theorem do_24 {w : World} {K : PK} {E : Env} {vI vO : Value} {lo4 st8 : List Int} {s : MS} {a : Nat} {i : Ins} (h : DoPre K E vI vO lo4 st8 a s i w) (ho : i.op = 24) :
    Calls Tryd.prog 47 #[.pointer (some ⟨K.b, 0, none⟩), doV E i, .pointer (some ⟨a, 0, none⟩)] w (DoPost K vO lo4 st8 a ((s.at_ + 1 : Nat) : Int) s (stepI E i s) w) := by
  have hB := BoxI.start w i.place i.op i.n (aimOf E.l i) h.sx.lt
  have h1 := h.sx.below ((Below.refl _ _).alloc (Nat.le_refl _) (.cells #[.int .i64 i.place, .int .i64 i.op, .int .i64 i.n, .int .i64 (aimOf E.l i)] 87))
  have hm1 := h.m.two hB.two h.out
  have hm := hid hm1
  have HOC := hid h.oc
  have PO := h.out
  have hstd := h.can.std ⟨by omega, by omega, by omega, by omega, by omega⟩
  obtain ⟨hp, f1⟩ := hstd.one (c := 114) (by rw [ho]; rfl)
  have hl8 : (s.st.take (s.st.length - 1)).length < 8 := by have := h.inv.st h.ok; rw [List.length_take]; omega
  have hr := (h.inv.ref hp (letB_r f1)).2
  rw [← h.inv.n] at hr
  have hends : endsC s.hs.1 s.st i.op = wantsC s.hs.1 (lastW s.st 0).2 true := by rw [ho]; rfl
  have hwv := wants_vals s.hs.1 (lastW s.st 0).2 true
  have hn0 := h.ok.n0 i h.can.mem (by rw [ho]; rfl)
  rw [st_one hp] at h1
  have HG : Hid (wantsC s.hs.1 (lastW s.st 0).2 true = 0 → stepI E i s = goS E i (-1) s) := hid (fun e => step_go (by rw [hends, e]) (by omega) (by omega))
  have HR : Hid (wantsC s.hs.1 (lastW s.st 0).2 true ≠ 0 → stepI E i s = { s with oc := (wantsC s.hs.1 (lastW s.st 0).2 true).toNat }) := hid (fun e => by rw [step_trap (by rw [hends]; exact e) (by rw [hends]; omega), hends])
  obtain ⟨op, n, pl⟩ := i
  simp only at ho
  subst ho
  simp only at hn0
  subst hn0
  have hc := hid (read_24 hm1 h1 hl8 PO hr true pl (aimOf E.l ⟨24, 0, pl⟩))
  have HD : Hid (doesS E ⟨24, 0, pl⟩ (-1) s = { s with st := s.st.take (s.st.length - 1) ++ [(true, readV s.hs.1 24 0 (lastW s.st 0).2)] }) := hid rfl
  have HT := hid hB.two
  unfold doV
  simp only at HT hm hc ⊢
  unfold insV at hc ⊢
  generalize aimOf E.l ⟨24, 0, pl⟩ = tg at *
  generalize readV s.hs.1 24 0 (lastW s.st 0).2 = rv at *
  clear h hB h1 hm1 hstd f1 hends
  generalize wantsC s.hs.1 (lastW s.st 0).2 true = q at *
  go_enter Tryd.func47, Tryd.ntmps47
  go_wp2_with fail
  refine hc.out.mono ?_
  clear hc
  intro e w2 hh
  obtain ⟨hx, hS, hO⟩ := hh
  subst e
  have HS := hid hS
  have HM2 := hid (hm.out.two hO PO)
  have HT2 := hid (HT.out.trans hO)
  clear hS hO hm HT
  go_wp2_with fail
  go_ret
  by_cases hq : q = 0
  · have h9 := HS.out
    rw [if_pos hq] at h9
    exact do_fin (HG.out hq) HOC.out HD.out (by rw [to_next (by simp) (by simp)]) (by subst hq; rfl) HM2.out HT2.out h9
  · rw [HR.out hq]
    refine ⟨?_, ⟨vI, vO, HM2.out, fun g hg => .inl hg⟩, two_touch HT2.out, fun e => ?_, fun e => ?_⟩
    · simp only
      rw [show ((q.toNat : Nat) : Int) = q by omega]
      rfl
    · simp only at e; omega
    · simp only at e; omega
set_option maxRecDepth 100000 in
set_option maxHeartbeats 1000000 in
theorem do_15 {w : World} {K : PK} {E : Env} {vI vO : Value} {lo4 st8 : List Int} {s : MS} {a : Nat} {i : Ins} (h : DoPre K E vI vO lo4 st8 a s i w) (ho : i.op = 15) :
    Calls Tryd.prog 47 #[.pointer (some ⟨K.b, 0, none⟩), doV E i, .pointer (some ⟨a, 0, none⟩)] w (DoPost K vO lo4 st8 a ((s.at_ + 1 : Nat) : Int) s (stepI E i s) w) := by
  have hB := BoxI.start w i.place i.op i.n (aimOf E.l i) h.sx.lt
  have h1 := h.sx.below ((Below.refl _ _).alloc (Nat.le_refl _) (.cells #[.int .i64 i.place, .int .i64 i.op, .int .i64 i.n, .int .i64 (aimOf E.l i)] 87))
  have hm1 := h.m.two hB.two h.out
  have hm := hid hm1
  have HOC := hid h.oc
  have PO := h.out
  have hstd := h.can.std ⟨by omega, by omega, by omega, by omega, by omega⟩
  obtain ⟨hp, f1, f2⟩ := hstd.two (c := 114) (d := 114) (by rw [ho]; rfl)
  have hl8 : (s.st.take (s.st.length - 2)).length < 8 := by have := h.inv.st h.ok; rw [List.length_take]; omega
  have hr := (h.inv.ref hp (letB_r f1)).2
  rw [← h.inv.n] at hr
  have hends : endsC s.hs.1 s.st i.op = wantsC s.hs.1 (lastW s.st 1).2 false := by rw [ho]; rfl
  have hwv := wants_vals s.hs.1 (lastW s.st 1).2 false
  rw [st_two hp] at h1
  have HG : Hid (wantsC s.hs.1 (lastW s.st 1).2 false = 0 → stepI E i s = goS E i (-1) s) := hid (fun e => step_go (by rw [hends, e]) (by omega) (by omega))
  have HR : Hid (wantsC s.hs.1 (lastW s.st 1).2 false ≠ 0 → stepI E i s = { s with oc := (wantsC s.hs.1 (lastW s.st 1).2 false).toNat }) := hid (fun e => by rw [step_trap (by rw [hends]; exact e) (by rw [hends]; omega), hends])
  have hgC : K.In vO K.gC := .inl ⟨h.m.c1, h.m.c2⟩
  obtain ⟨op, n, pl⟩ := i
  simp only at ho
  subst ho
  have hc := hid (write_15 hm1 h1 PO hr pl n (aimOf E.l ⟨15, n, pl⟩))
  have HD : Hid (doesS E ⟨15, n, pl⟩ (-1) s = { s with hs := (storeC s.hs.1 s.hs.2.1 (lastW s.st 1).2.toNat n (lastW s.st 0).2, s.hs.2), st := s.st.take (s.st.length - 2) }) := hid rfl
  have HP0 : Hid (wantsC s.hs.1 (lastW s.st 1).2 false = 0 → setPost s.hs (lastW s.st 1).2 n (lastW s.st 0).2 = (storeC s.hs.1 s.hs.2.1 (lastW s.st 1).2.toNat n (lastW s.st 0).2, s.hs.2)) := hid (fun e => if_pos e)
  have HP1 : Hid (wantsC s.hs.1 (lastW s.st 1).2 false ≠ 0 → setPost s.hs (lastW s.st 1).2 n (lastW s.st 0).2 = s.hs) := hid (fun e => if_neg e)
  have HT := hid hB.two
  unfold doV
  simp only at HT hm hc ⊢
  unfold insV at hc ⊢
  generalize aimOf E.l ⟨15, n, pl⟩ = tg at *
  generalize setPost s.hs (lastW s.st 1).2 n (lastW s.st 0).2 = hp2 at *
  generalize (storeC s.hs.1 s.hs.2.1 (lastW s.st 1).2.toNat n (lastW s.st 0).2, s.hs.2) = hv2 at *
  clear h hB h1 hm1 hstd f1 f2 hends
  generalize wantsC s.hs.1 (lastW s.st 1).2 false = q at *
  go_enter Tryd.func47, Tryd.ntmps47
  go_wp2_with fail
  refine hc.out.mono ?_
  clear hc
  intro e w2 hh
  obtain ⟨hx, hS, hM, hO⟩ := hh
  subst e
  have HS := hid hS
  have HM2 := hid hM
  have HT2 : Hid (Touch (DoF K vO a) w w2) := hid ((two_touch HT.out).trans (Touch.two hO (F := DoF K vO a) (.inr rfl) (.inl hgC)) (fun _ _ h => h))
  clear hS hO hM hm HT
  go_wp2_with fail
  go_ret
  by_cases hq : q = 0
  · have h9 := HM2.out
    rw [HP0.out hq] at h9
    rw [HG.out hq]
    unfold goS
    rw [HD.out, to_next (by simp) (by simp)]
    refine ⟨by subst hq; simp only [HOC.out]; rfl, ⟨vI, vO, h9, fun g hg => .inl hg⟩, HT2.out, fun _ => HS.out, fun e => ?_⟩
    simp only [HOC.out] at e
    cases e
  · have h9 := HM2.out
    rw [HP1.out hq] at h9
    rw [HR.out hq]
    refine ⟨?_, ⟨vI, vO, h9, fun g hg => .inl hg⟩, HT2.out, fun e => ?_, fun e => ?_⟩
    · simp only
      rw [show ((q.toNat : Nat) : Int) = q by omega]
      rfl
    · simp only at e; omega
    · simp only at e; omega
set_option maxRecDepth 100000 in
set_option maxHeartbeats 1000000 in
theorem do_17 {w : World} {K : PK} {E : Env} {vI vO : Value} {lo4 st8 : List Int} {s : MS} {a : Nat} {i : Ins} (h : DoPre K E vI vO lo4 st8 a s i w) (ho : i.op = 17) :
    Calls Tryd.prog 47 #[.pointer (some ⟨K.b, 0, none⟩), doV E i, .pointer (some ⟨a, 0, none⟩)] w (DoPost K vO lo4 st8 a ((s.at_ + 1 : Nat) : Int) s (stepI E i s) w) := by
  have hB := BoxI.start w i.place i.op i.n (aimOf E.l i) h.sx.lt
  have h1 := h.sx.below ((Below.refl _ _).alloc (Nat.le_refl _) (.cells #[.int .i64 i.place, .int .i64 i.op, .int .i64 i.n, .int .i64 (aimOf E.l i)] 87))
  have hm1 := h.m.two hB.two h.out
  have hm := hid hm1
  have HOC := hid h.oc
  have PO := h.out
  have hstd := h.can.std ⟨by omega, by omega, by omega, by omega, by omega⟩
  obtain ⟨hp, f1, f2⟩ := hstd.two (c := 114) (d := 105) (by rw [ho]; rfl)
  have hl8 : (s.st.take (s.st.length - 2)).length < 8 := by have := h.inv.st h.ok; rw [List.length_take]; omega
  have hr := (h.inv.ref hp (letB_r f1)).2
  rw [← h.inv.n] at hr
  have hends : endsC s.hs.1 s.st i.op = wantsC s.hs.1 (lastW s.st 1).2 false := by rw [ho]; rfl
  have hwv := wants_vals s.hs.1 (lastW s.st 1).2 false
  rw [st_two hp] at h1
  have HG : Hid (wantsC s.hs.1 (lastW s.st 1).2 false = 0 → stepI E i s = goS E i (-1) s) := hid (fun e => step_go (by rw [hends, e]) (by omega) (by omega))
  have HR : Hid (wantsC s.hs.1 (lastW s.st 1).2 false ≠ 0 → stepI E i s = { s with oc := (wantsC s.hs.1 (lastW s.st 1).2 false).toNat }) := hid (fun e => by rw [step_trap (by rw [hends]; exact e) (by rw [hends]; omega), hends])
  have hgC : K.In vO K.gC := .inl ⟨h.m.c1, h.m.c2⟩
  obtain ⟨op, n, pl⟩ := i
  simp only at ho
  subst ho
  have hc := hid (write_17 hm1 h1 PO hr pl n (aimOf E.l ⟨17, n, pl⟩))
  have HD : Hid (doesS E ⟨17, n, pl⟩ (-1) s = { s with hs := (s.hs.1.modify (lastW s.st 1).2.toNat (noteS (lastW s.st 0).2), s.hs.2), st := s.st.take (s.st.length - 2) }) := hid rfl
  have HP0 : Hid (wantsC s.hs.1 (lastW s.st 1).2 false = 0 → notePost s.hs (lastW s.st 1).2 (lastW s.st 0).2 = (s.hs.1.modify (lastW s.st 1).2.toNat (noteS (lastW s.st 0).2), s.hs.2)) := hid (fun e => if_pos e)
  have HP1 : Hid (wantsC s.hs.1 (lastW s.st 1).2 false ≠ 0 → notePost s.hs (lastW s.st 1).2 (lastW s.st 0).2 = s.hs) := hid (fun e => if_neg e)
  have HT := hid hB.two
  unfold doV
  simp only at HT hm hc ⊢
  unfold insV at hc ⊢
  generalize aimOf E.l ⟨17, n, pl⟩ = tg at *
  generalize notePost s.hs (lastW s.st 1).2 (lastW s.st 0).2 = hp2 at *
  generalize (s.hs.1.modify (lastW s.st 1).2.toNat (noteS (lastW s.st 0).2), s.hs.2) = hv2 at *
  clear h hB h1 hm1 hstd f1 f2 hends
  generalize wantsC s.hs.1 (lastW s.st 1).2 false = q at *
  go_enter Tryd.func47, Tryd.ntmps47
  go_wp2_with fail
  refine hc.out.mono ?_
  clear hc
  intro e w2 hh
  obtain ⟨hx, hS, hM, hO⟩ := hh
  subst e
  have HS := hid hS
  have HM2 := hid hM
  have HT2 : Hid (Touch (DoF K vO a) w w2) := hid ((two_touch HT.out).trans (Touch.two hO (F := DoF K vO a) (.inr rfl) (.inl hgC)) (fun _ _ h => h))
  clear hS hO hM hm HT
  go_wp2_with fail
  go_ret
  by_cases hq : q = 0
  · have h9 := HM2.out
    rw [HP0.out hq] at h9
    rw [HG.out hq]
    unfold goS
    rw [HD.out, to_next (by simp) (by simp)]
    refine ⟨by subst hq; simp only [HOC.out]; rfl, ⟨vI, vO, h9, fun g hg => .inl hg⟩, HT2.out, fun _ => HS.out, fun e => ?_⟩
    simp only [HOC.out] at e
    cases e
  · have h9 := HM2.out
    rw [HP1.out hq] at h9
    rw [HR.out hq]
    refine ⟨?_, ⟨vI, vO, h9, fun g hg => .inl hg⟩, HT2.out, fun e => ?_, fun e => ?_⟩
    · simp only
      rw [show ((q.toNat : Nat) : Int) = q by omega]
      rfl
    · simp only at e; omega
    · simp only at e; omega
end Go.Proofs.YtdmdpindonghdabDoor
namespace Go.Proofs.YtdmdpindonghdabDoor
open Go.RowKit
set_option maxRecDepth 100000 in
set_option maxHeartbeats 1000000 in
theorem do_13 {w : World} {K : PK} {E : Env} {vI vO : Value} {lo4 st8 : List Int} {s : MS} {a : Nat} {i : Ins} (h : DoPre K E vI vO lo4 st8 a s i w) (ho : i.op = 13) :
    Calls Tryd.prog 47 #[.pointer (some ⟨K.b, 0, none⟩), doV E i, .pointer (some ⟨a, 0, none⟩)] w (DoPost K vO lo4 st8 a ((s.at_ + 1 : Nat) : Int) s (stepI E i s) w) := by
  have hB := BoxI.start w i.place i.op i.n (aimOf E.l i) h.sx.lt
  have h1 := h.sx.below ((Below.refl _ _).alloc (Nat.le_refl _) (.cells #[.int .i64 i.place, .int .i64 i.op, .int .i64 i.n, .int .i64 (aimOf E.l i)] 87))
  have hm1 := h.m.two hB.two h.out
  have hm := hid hm1
  have HOC := hid h.oc
  have PO := h.out
  have hlen := does_len h.ok h.inv h.can (by omega) (-1)
  have hl8 : s.st.length < 8 := by
    rw [show (doesS E i (-1) s).st = s.st ++ [(true, -1)] by unfold doesS touchS; simp [ho]] at hlen
    simp at hlen
    omega
  have hstp := step_take (E := E) (s := s) (i := i) (.inl ho)
  have hc := hid (take_13 hm1 h.ke h.ok h.inv h1 hl8 PO)
  have hKb : K.In vO K.b := .inl ⟨h.m.b1, h.m.b2⟩
  have hgC : K.In vO K.gC := .inl ⟨h.m.c1, h.m.c2⟩
  obtain ⟨op, n, pl⟩ := i
  simp only at ho
  subst ho
  have HD : Hid (∀ c hs', doesS E ⟨13, n, pl⟩ c { s with hs := hs' } = { s with hs := hs', st := s.st ++ [(true, c)] }) := hid (fun _ _ => rfl)
  have HSTP := hid hstp
  have HT := hid hB.two
  unfold doV
  simp only at HT hm hc ⊢
  unfold insV
  generalize aimOf E.l ⟨13, n, pl⟩ = tg at *
  generalize takeC (rootsS E s) s.hs = tk at *
  clear h hB h1 hm1 hstp
  go_enter Tryd.func47, Tryd.ntmps47
  go_wp2_with fail
  refine hc.out.mono ?_
  clear hc
  intro e w2 hh
  obtain ⟨hT2, hh⟩ := hh
  have HT2 : Hid (Touch (DoF K vO a) w w2) := hid ((two_touch HT.out).trans (hT2.mono (G := DoF K vO a) (fun k _ hk => by
    rcases hk with rfl | rfl | rfl
    · exact .inl hKb
    · exact .inl hgC
    · exact .inr rfl)) (fun _ _ h => h))
  clear hT2 HT
  rcases hh with ⟨d1, hx, hM⟩ | ⟨d1, hx, hM, hS⟩
  · subst e
    have HM := hid hM
    clear hM
    go_wp2_with fail
    go_ret
    rw [HSTP.out, if_pos d1]
    exact ⟨rfl, ⟨vI, vO, HM.out, fun g hg => .inl hg⟩, HT2.out, fun e => by (cases e), fun e => by (cases e)⟩
  · subst e
    have HM := hid hM
    have HS := hid hS
    clear hM hS
    go_wp2_with fail
    go_ret
    rw [HSTP.out, if_neg (by omega)]
    unfold goS
    rw [HD.out, to_next (by simp) (by simp)]
    refine ⟨by simp only [HOC.out]; rfl, ⟨vI, vO, by have h9 := HM.out; rw [List.modify_id] at h9; exact h9, fun g hg => .inl hg⟩, HT2.out, fun _ => HS.out, fun e => ?_⟩
    simp only [HOC.out] at e
    cases e
set_option maxRecDepth 100000 in
set_option maxHeartbeats 1000000 in
theorem do_23 {w : World} {K : PK} {E : Env} {vI vO : Value} {lo4 st8 : List Int} {s : MS} {a : Nat} {i : Ins} (h : DoPre K E vI vO lo4 st8 a s i w) (ho : i.op = 23) :
    Calls Tryd.prog 47 #[.pointer (some ⟨K.b, 0, none⟩), doV E i, .pointer (some ⟨a, 0, none⟩)] w (DoPost K vO lo4 st8 a ((s.at_ + 1 : Nat) : Int) s (stepI E i s) w) := by
  have hB := BoxI.start w i.place i.op i.n (aimOf E.l i) h.sx.lt
  have h1 := h.sx.below ((Below.refl _ _).alloc (Nat.le_refl _) (.cells #[.int .i64 i.place, .int .i64 i.op, .int .i64 i.n, .int .i64 (aimOf E.l i)] 87))
  have hm1 := h.m.two hB.two h.out
  have hm := hid hm1
  have HOC := hid h.oc
  have PO := h.out
  have hstd := h.can.std ⟨by omega, by omega, by omega, by omega, by omega⟩
  obtain ⟨hp, f1⟩ := hstd.one (c := 114) (by rw [ho]; rfl)
  have hl8 : (s.st.take (s.st.length - 1)).length < 8 := by have := h.inv.st h.ok; rw [List.length_take]; omega
  rw [st_one hp] at h1
  have hstp := step_take (E := E) (s := s) (i := i) (.inr ho)
  have hc := hid (take_23 hm1 h.ke h.ok h.inv h1 hl8 PO)
  have hKb : K.In vO K.b := .inl ⟨h.m.b1, h.m.b2⟩
  have hgC : K.In vO K.gC := .inl ⟨h.m.c1, h.m.c2⟩
  obtain ⟨op, n, pl⟩ := i
  simp only at ho
  subst ho
  have HD : Hid (∀ c hs', doesS E ⟨23, n, pl⟩ c { s with hs := hs' } = { s with hs := (hs'.1.modify c.toNat (weakS (lastW s.st 0).2), hs'.2), st := s.st.take (s.st.length - 1) ++ [(true, c)] }) := hid (fun _ _ => rfl)
  have HSTP := hid hstp
  have HT := hid hB.two
  unfold doV
  simp only at HT hm hc ⊢
  unfold insV
  generalize aimOf E.l ⟨23, n, pl⟩ = tg at *
  generalize takeC (rootsS E s) s.hs = tk at *
  clear h hB h1 hm1 hstp
  go_enter Tryd.func47, Tryd.ntmps47
  go_wp2_with fail
  refine hc.out.mono ?_
  clear hc
  intro e w2 hh
  obtain ⟨hT2, hh⟩ := hh
  have HT2 : Hid (Touch (DoF K vO a) w w2) := hid ((two_touch HT.out).trans (hT2.mono (G := DoF K vO a) (fun k _ hk => by
    rcases hk with rfl | rfl | rfl
    · exact .inl hKb
    · exact .inl hgC
    · exact .inr rfl)) (fun _ _ h => h))
  clear hT2 HT
  rcases hh with ⟨d1, hx, hM⟩ | ⟨d1, hx, hM, hS⟩
  · subst e
    have HM := hid hM
    clear hM
    go_wp2_with fail
    go_ret
    rw [HSTP.out, if_pos d1]
    exact ⟨rfl, ⟨vI, vO, HM.out, fun g hg => .inl hg⟩, HT2.out, fun e => by (cases e), fun e => by (cases e)⟩
  · subst e
    have HM := hid hM
    have HS := hid hS
    clear hM hS
    go_wp2_with fail
    go_ret
    rw [HSTP.out, if_neg (by omega)]
    unfold goS
    rw [HD.out, to_next (by simp) (by simp)]
    refine ⟨by simp only [HOC.out]; rfl, ⟨vI, vO, HM.out, fun g hg => .inl hg⟩, HT2.out, fun _ => HS.out, fun e => ?_⟩
    simp only [HOC.out] at e
    cases e
set_option maxRecDepth 100000 in
set_option maxHeartbeats 1000000 in
theorem do_21 {w : World} {K : PK} {E : Env} {vI vO : Value} {lo4 st8 : List Int} {s : MS} {a : Nat} {i : Ins} (h : DoPre K E vI vO lo4 st8 a s i w) (ho : i.op = 21) (hz : E.zs.length ≤ 64) :
    Calls Tryd.prog 47 #[.pointer (some ⟨K.b, 0, none⟩), doV E i, .pointer (some ⟨a, 0, none⟩)] w (DoPost K vO lo4 st8 a ((s.at_ + 1 : Nat) : Int) s (stepI E i s) w) := by
  have HE : Hid (stepI E i s = goS E i (-1) s) := hid (step_go (by rw [ho]; exact ends_other (by decide) (by decide) (by decide) (by decide) (by decide) (by decide) (by decide)) (by omega) (by omega))
  have hB := BoxI.start w i.place i.op i.n (aimOf E.l i) h.sx.lt
  have h1 := h.sx.below ((Below.refl _ _).alloc (Nat.le_refl _) (.cells #[.int .i64 i.place, .int .i64 i.op, .int .i64 i.n, .int .i64 (aimOf E.l i)] 87))
  have hm1 := h.m.two hB.two h.out
  have hm := hid hm1
  have HOC := hid h.oc
  have PO := h.out
  have hlen := does_len h.ok h.inv h.can (by omega) (-1)
  have hl8 : s.st.length < 8 := by
    by_cases hr : s.rd < E.zs.length
    · rw [show (doesS E i (-1) s).st = s.st ++ [(false, E.zs.getD s.rd 0)] by unfold doesS; simp [ho, hr]] at hlen
      simp at hlen
      omega
    · rw [show (doesS E i (-1) s).st = s.st ++ [(false, 0)] by unfold doesS; simp [ho, hr]] at hlen
      simp at hlen
      omega
  have hKb : K.In vO K.b := .inl ⟨h.m.b1, h.m.b2⟩
  have hab : a ≠ K.b := fun e => PO (e ▸ hKb)
  have hzs := h.ke.zs
  obtain ⟨vv, rd2, hcall, HD⟩ : ∃ vv rd2, Calls Tryd.prog 59 #[.pointer (some ⟨K.b, 0, none⟩)] (w.alloc (.cells #[.int .i64 i.place, .int .i64 i.op, .int .i64 i.n, .int .i64 (aimOf E.l i)] 87)) (InpPost K vO lo4 st8 s vv rd2 (w.alloc (.cells #[.int .i64 i.place, .int .i64 i.op, .int .i64 i.n, .int .i64 (aimOf E.l i)] 87))) ∧ Hid (doesS E i (-1) s = { s with rd := rd2, st := s.st ++ [(false, vv)] }) := by
    by_cases hr : s.rd < E.zs.length
    · refine ⟨_, _, input_some hm1 (by rw [hzs]; exact hr) (by rw [hzs]; exact hz), hid ?_⟩
      rw [hzs]
      unfold doesS
      simp [ho, hr]
    · refine ⟨_, _, input_none hm1 (by rw [hzs]; omega), hid ?_⟩
      unfold doesS
      simp [ho, hr]
  have hc := hid hcall
  obtain ⟨op, n, pl⟩ := i
  simp only at ho
  subst ho
  have HT := hid hB.two
  have H1 := hid h1
  unfold doV
  simp only at HT hm hc H1 ⊢
  unfold insV
  generalize aimOf E.l ⟨21, n, pl⟩ = tg at *
  clear h hB h1 hm1 hcall hm
  go_enter Tryd.func47, Tryd.ntmps47
  go_wp2_with fail
  refine hc.out.mono ?_
  clear hc
  intro e w2 hh
  obtain ⟨hx, hO, vI2, hM⟩ := hh
  subst e
  have hs2 := H1.out.keep (hO.block a hab)
  have hp := hid (xpush hs2 hl8 (false, vv))
  have HM := hid hM
  have HT2 : Hid (Touch (DoF K vO a) w w2) := hid ((two_touch HT.out).trans (Touch.two (Two.of_only hO) (F := DoF K vO a) (.inl hKb) (.inl hKb)) (fun _ _ h => h))
  simp only at hp
  clear hs2 hM hO HT H1
  go_wp2_with fail
  refine hp.out.mono ?_
  clear hp
  intro e w3 hh
  obtain ⟨hx, hS, hO⟩ := hh
  subst e
  have HS := hid hS
  have HM3 := hid (HM.out.two (Two.of_only hO) PO)
  have HT3 := hid (HT2.out.trans (two_touch (Two.of_only hO)) (fun _ _ h => h))
  clear hS hO
  go_wp2_with fail
  go_ret
  rw [HE.out]
  unfold goS
  rw [HD.out, to_next (by simp) (by simp)]
  refine ⟨by simp only [HOC.out]; rfl, ⟨vI2, vO, HM3.out, fun g hg => .inl hg⟩, HT3.out, fun _ => HS.out, fun e => ?_⟩
  simp only [HOC.out] at e
  cases e
end Go.Proofs.YtdmdpindonghdabDoor
namespace Go.Proofs.YtdmdpindonghdabDoor
open Go.RowKit
theorem row_output {K : PK} {vI vO vO' : Value} {lo4 st8 : List Int} {s : MS} (o : List Int) : ((K.row vI vO lo4 st8 s).toArray.setIfInBounds 4 vO') = (K.row vI vO' lo4 st8 { s with out := o }).toArray := by
  rw [List.setIfInBounds_toArray]
  rfl
/-- The output has grown: every other block is as it was. -/
theorem PM.outs {w w' : World} {K : PK} {vI vO vO' : Value} {lo4 st8 : List Int} {s : MS} {o : List Int} (h : PM w K vI vO lo4 st8 s) (hz : w.heap.size ≤ w'.heap.size) (hk : ∀ k, k < w.heap.size → k ≠ K.b → vO.ownBlock ≠ some k → w'.heap[k]? = w.heap[k]?) (hrow : w'.heap[K.b]? = some (.cells (K.row vI vO' lo4 st8 { s with out := o }).toArray 84)) (hout : w'.ownsRow K.B4 3 1 vO' o.length (o.map (.int .i64))) : PM w' K vI vO' lo4 st8 { s with out := o } := by
  have z := h.z
  have hne : ∀ k, k < K.B4 → vO.ownBlock ≠ some k := fun k hk e => by have := (h.out.lt k e).1; omega
  have hin : ∀ k, k < K.B4 → k ≠ K.b → w'.heap[k]? = w.heap[k]? := fun k h1 h2 => hk k (by omega) h2 (hne k h1)
  exact { h with
    row := hrow
    z := by omega
    code := h.code.same (hin _ h.g2 (fun e => h.ne1 e.symm))
    frames := (hin _ h.f2 (fun e => h.ne2 e.symm)).trans h.frames
    cells := owns_keep h.cells (fun g hg => by
      simp only [Value.ownBlock, Option.some.injEq] at hg
      subst hg
      exact hin _ h.c2 (fun e => h.ne3 e.symm))
    inp := h.inp.same (fun a n c e => hin _ (h.inb a n c e).2.1 (h.inb a n c e).2.2.1)
    out := hout }
set_option maxRecDepth 100000 in
set_option maxHeartbeats 4000000 in
theorem do_22 {w : World} {K : PK} {E : Env} {vI vO : Value} {lo4 st8 : List Int} {s : MS} {a : Nat} {i : Ins} (h : DoPre K E vI vO lo4 st8 a s i w) (ho : i.op = 22) (hlen : s.out.length ≤ 8796093022208) :
    Calls Tryd.prog 47 #[.pointer (some ⟨K.b, 0, none⟩), doV E i, .pointer (some ⟨a, 0, none⟩)] w (DoPost K vO lo4 st8 a ((s.at_ + 1 : Nat) : Int) s (stepI E i s) w) := by
  obtain ⟨i0, hi0, hz0, hz1, hz2⟩ := info_parts intInfo
  have HE : Hid (stepI E i s = goS E i (-1) s) := hid (step_go (by rw [ho]; exact ends_other (by decide) (by decide) (by decide) (by decide) (by decide) (by decide) (by decide)) (by omega) (by omega))
  have hB := BoxI.start w i.place i.op i.n (aimOf E.l i) h.sx.lt
  have h1 := h.sx.below ((Below.refl _ _).alloc (Nat.le_refl _) (.cells #[.int .i64 i.place, .int .i64 i.op, .int .i64 i.n, .int .i64 (aimOf E.l i)] 87))
  have hm1 := h.m.two hB.two h.out
  have HOC := hid h.oc
  have PO := h.out
  have hstd := h.can.std ⟨by omega, by omega, by omega, by omega, by omega⟩
  obtain ⟨hp, f1⟩ := hstd.one (c := 105) (by rw [ho]; rfl)
  rw [st_one hp] at h1
  have hc := hid (xpop h1)
  have hKb : K.In vO K.b := .inl ⟨h.m.b1, h.m.b2⟩
  have hbz : K.b < w.heap.size := by have := h.m.b2; have := h.m.z; omega
  have haz := h.sx.lt
  have hfar : some K.b ≠ vO.ownBlock := fun e => by have := (h.m.out.lt _ e.symm).1; have := h.m.b2; omega
  have hav : some a ≠ vO.ownBlock := fun e => PO (.inr e.symm)
  have hab : a ≠ K.b := fun e => PO (e ▸ hKb)
  have HO0 := hid h.m.out
  have HB4 := hid h.m.z
  obtain ⟨op, n, pl⟩ := i
  simp only at ho
  subst ho
  have HD : Hid (doesS E ⟨22, n, pl⟩ (-1) s = { s with out := s.out ++ [(lastW s.st 0).2], st := s.st.take (s.st.length - 1) }) := hid rfl
  have HM := hid (fun (W : World) (hT : Two a a w W) => h.m.two hT PO)
  have HT := hid hB.two
  obtain ⟨pv, cv, ev⟩ := (LsAt.of_owns h.m.out).slice
  subst ev
  unfold doV
  simp only at HT hc ⊢
  unfold insV
  generalize aimOf E.l ⟨22, n, pl⟩ = tg at *
  generalize lastW s.st 0 = x at *
  obtain ⟨xf, xv⟩ := x
  simp only at hc HD
  clear h hB h1 hm1 hstd f1
  go_enter Tryd.func47, Tryd.ntmps47
  go_wp2_with fail
  refine hc.out.mono ?_
  clear hc
  intro e w2 hh
  obtain ⟨hx, hS, hO⟩ := hh
  subst e
  have hT2 := HT.out.trans (Two.of_only hO)
  have hM2 := HM.out w2 hT2
  have hown := hM2.out
  have m4 := hM2.get 4
  have f4 := frozen_of_row w2 K.b 4 _ _ hM2.row
  simp only [PK.row, List.cons_append, List.nil_append, List.getElem?_cons_zero, List.getElem?_cons_succ] at m4
  have hz2' := hT2.size
  have HM2 := hid hM2
  have HS := hid hS
  have HT2 := hid hT2
  have a4 : (w2.alloc (.cells #[.int .i64 xv] 3)).cell? ⟨K.b, 4, none⟩ = some (.slice pv s.out.length cv) := (World.cell?_alloc_past _ _ _ (by omega)).trans m4
  clear hS hO hM2 hT2 HM HT
  have hB4 := HB4.out
  go_wp2_with (at_builtin; go_must (refine wpList_append_lies _ (by rfl) _ _ _ (by rfl) K.B4 3 i0 _ 1 8 Tryd.underlying22 hi0 hz0 hz1 hz2 rfl (by omega) _ s.out.length (s.out.map (.int .i64)) (by rfl) (hown.alloc _) ⟨_, 0, none⟩ 1 1 [.int .i64 xv] (by rfl) (by rfl) (World.news_of_block (cs := #[.int .i64 xv]) (t := 3) (fr := (0, 0)) (heap_alloc_new _ _)) (by simp [Value.oneCell']) (by omega) (by unfold maxLen; omega) (by omega) (by simp; omega) _ rfl ?_); intro gg gcap w6 hown6 hgrow6 hat6 hlt6; obtain ⟨c6, f6⟩ := cell6b hgrow6 (b := K.b) (by omega) hfar 4; rw [m4] at c6; rw [f4] at f6)
  go_ret
  have hsz6 : w2.heap.size + 1 ≤ w6.heap.size := by
    have := hgrow6.size
    rw [alloc_size] at this
    exact this
  have hk6 : ∀ k : Nat, k < w2.heap.size → (Value.slice pv s.out.length cv).ownBlock ≠ some k → w6.heap[k]? = w2.heap[k]? := fun k hk hv => (hgrow6.block k (by rw [alloc_size]; omega) (fun e => hv e.symm)).trans (Below.heap_alloc _ _ _ hk)
  have hks : ∀ k : Nat, k ≠ K.b → (w6.setCell ⟨K.b, 4, none⟩ (.slice (some ⟨gg, 0, none⟩) (s.out.length + 1) gcap)).heap[k]? = w6.heap[k]? := fun k hk => Below.heap_setCell _ _ _ _ hk
  have hzs : (w6.setCell ⟨K.b, 4, none⟩ (.slice (some ⟨gg, 0, none⟩) (s.out.length + 1) gcap)).heap.size = w6.heap.size := by simp [World.setCell]
  have hrow6 := (hk6 K.b (by omega) (fun e => hfar e.symm)).trans HM2.out.row
  have hgb : gg ≠ K.b := by
    rcases hat6 with e | e
    · intro e2; exact hfar (by rw [← e2]; exact e.symm)
    · rw [alloc_size] at e; omega
  have hM : PM (w6.setCell ⟨K.b, 4, none⟩ (.slice (some ⟨gg, 0, none⟩) (s.out.length + 1) gcap)) K vI (.slice (some ⟨gg, 0, none⟩) (s.out.length + 1) gcap) lo4 st8 { s with out := s.out ++ [xv] } := by
    refine HM2.out.outs (by rw [hzs]; omega) (fun k h1 h2 h3 => (hks k h2).trans (hk6 k h1 h3)) ?_ ?_
    · rw [← row_output (vO := .slice pv s.out.length cv)]
      exact setCell_row 4 _ hrow6
    · have h6 := hown6
      rw [show (s.out ++ [xv]).length = s.out.length + 1 by simp, show (s.out ++ [xv]).map (Value.int .i64) = s.out.map (Value.int .i64) ++ [.int .i64 xv] by simp]
      exact owns_set h6 (fun e => hgb (by simpa [Value.ownBlock] using e)) _
  have hSX := HS.out.keep (w' := w6.setCell ⟨K.b, 4, none⟩ (.slice (some ⟨gg, 0, none⟩) (s.out.length + 1) gcap)) ((hks a hab).trans (hk6 a (by omega) (fun e => hav e.symm)))
  have hT : Touch (DoF K (.slice pv s.out.length cv) a) w (w6.setCell ⟨K.b, 4, none⟩ (.slice (some ⟨gg, 0, none⟩) (s.out.length + 1) gcap)) := by
    refine (two_touch HT2.out).trans (G := DoF K (.slice pv s.out.length cv) a) ⟨?_, ?_, ?_, by rw [hzs]; omega, fun k h1 h2 => (hks k (fun e => h2 (.inl (e ▸ hKb)))).trans (hk6 k h1 (fun e => h2 (.inl (.inr e))))⟩ (fun _ _ h => h)
    · exact hgrow6.os
    · exact hgrow6.tape
    · exact hgrow6.output
  rw [HE.out]
  unfold goS
  rw [HD.out, to_next (by simp) (by simp)]
  refine ⟨by simp only [HOC.out]; rfl, ⟨vI, _, hM, fun g hg => ?_⟩, hT, fun _ => hSX, fun e => ?_⟩
  · simp only [Value.ownBlock, Option.some.injEq] at hg
    subst hg
    rcases hat6 with e | e
    · exact .inl e
    · rw [alloc_size] at e; exact .inr (by omega)
  · simp only [HOC.out] at e
    cases e
theorem do_any {w : World} {K : PK} {E : Env} {vI vO : Value} {lo4 st8 : List Int} {s : MS} {a : Nat} {i : Ins} (h : DoPre K E vI vO lo4 st8 a s i w) (hz : E.zs.length ≤ 64) (hlen : s.out.length ≤ 8796093022208) :
    Calls Tryd.prog 47 #[.pointer (some ⟨K.b, 0, none⟩), doV E i, .pointer (some ⟨a, 0, none⟩)] w (DoPost K vO lo4 st8 a ((s.at_ + 1 : Nat) : Int) s (stepI E i s) w) := by
  have hop := h.ok.wf.op i h.can.mem
  have hcases : i.op = 0 ∨ i.op = 1 ∨ i.op = 2 ∨ i.op = 3 ∨ i.op = 4 ∨ i.op = 5 ∨ i.op = 6 ∨ i.op = 7 ∨ i.op = 8 ∨ i.op = 9 ∨ i.op = 10 ∨ i.op = 11 ∨ i.op = 12 ∨ i.op = 13 ∨ i.op = 14 ∨ i.op = 15 ∨ i.op = 16 ∨ i.op = 17 ∨ i.op = 18 ∨ i.op = 19 ∨ i.op = 20 ∨ i.op = 21 ∨ i.op = 22 ∨ i.op = 23 ∨ i.op = 24 := by omega
  rcases hcases with e | e | e | e | e | e | e | e | e | e | e | e | e | e | e | e | e | e | e | e | e | e | e | e | e
  · exact do_0 h e
  · exact do_1 h e
  · exact do_2 h e
  · exact do_3 h e
  · exact do_4 h e
  · exact do_5 h e
  · exact do_6 h e
  · exact do_7 h e
  · exact do_8 h e
  · exact do_9 h e
  · exact do_10 h e
  · exact do_11 h e
  · exact do_12 h e
  · exact do_13 h e
  · exact do_14 h e
  · exact do_15 h e
  · exact do_16 h e
  · exact do_17 h e
  · exact do_18 h e
  · exact do_19 h e
  · exact do_20 h e
  · exact do_21 h e hz
  · exact do_22 h e hlen
  · exact do_23 h e
  · exact do_24 h e
end Go.Proofs.YtdmdpindonghdabDoor
namespace Go.Proofs.YtdmdpindonghdabDoor
open Go.RowKit
set_option maxRecDepth 100000 in
set_option maxHeartbeats 1000000 in
theorem pstep_done {w : World} {K : PK} {F : Nat → Prop} {s : MS} (h : PX w K F s) (ho : s.oc ≠ 0) :
    Calls Tryd.prog 25 #[.pointer (some ⟨K.b, 0, none⟩)] w fun e w' => e = .returned (.tuple #[.int .i64 0, .int .i64 9]) ∧ w' = w := by
  obtain ⟨vI, vO, lo4, st8, hm, _⟩ := h
  have m5 := hm.get 5
  have m7 := hm.get 7
  obtain ⟨x0, x1, x2, x3, rfl⟩ := fourZ hm.l4
  obtain ⟨t0, t1, t2, t3, t4, t5, t6, t7, rfl⟩ := eightZ hm.l8
  simp only [PK.row, List.map_cons, List.map_nil, List.cons_append, List.nil_append, List.getElem?_cons_zero, List.getElem?_cons_succ] at m5 m7
  have q : ((s.oc : Int) != 0) = true := by simp; omega
  clear hm ho
  go_enter Tryd.func25, Tryd.ntmps25
  go_wp2_with fail
  exact bodyPost_ret (v := .tuple #[.int .i64 0, .int .i64 9]) (by simp [results, Tryd.results25, go_sem]) rfl ⟨rfl, rfl⟩
theorem row_now {w : World} {b : Nat} {t : TypeId} {x0 x1 x2 x3 x4 x5 x6 x7 x8 x9 x10 x11 x12 x13 x14 x15 x16 x17 x18 x19 x20 x21 x22 x23 : Value} (h : w.heap[b]? = some (.cells [x0, x1, x2, x3, x4, x5, x6, x7, x8, x9, x10, x11, x12, x13, x14, x15, x16, x17, x18, x19, x20, x21, x22, x23].toArray t)) (v5 v7 v8 v9 v10 v11 v12 v13 v14 v15 v16 v17 v18 v19 v20 : Value) : (((((((((((((((w.setCell ⟨b, 5, none⟩ v5).setCell ⟨b, 7, none⟩ v7).setCell ⟨b, 8, none⟩ v8).setCell ⟨b, 9, none⟩ v9).setCell ⟨b, 10, none⟩ v10).setCell ⟨b, 11, none⟩ v11).setCell ⟨b, 12, none⟩ v12).setCell ⟨b, 13, none⟩ v13).setCell ⟨b, 14, none⟩ v14).setCell ⟨b, 15, none⟩ v15).setCell ⟨b, 16, none⟩ v16).setCell ⟨b, 17, none⟩ v17).setCell ⟨b, 18, none⟩ v18).setCell ⟨b, 19, none⟩ v19).setCell ⟨b, 20, none⟩ v20).heap[b]? = some (.cells [x0, x1, x2, x3, x4, v5, x6, v7, v8, v9, v10, v11, v12, v13, v14, v15, v16, v17, v18, v19, v20, x21, x22, x23].toArray t) := by
  have h0 := setCell_row 5 v5 h
  simp only [List.setIfInBounds_toArray, List.set_cons_zero, List.set_cons_succ] at h0
  have h1 := setCell_row 7 v7 h0
  simp only [List.setIfInBounds_toArray, List.set_cons_zero, List.set_cons_succ] at h1
  have h2 := setCell_row 8 v8 h1
  simp only [List.setIfInBounds_toArray, List.set_cons_zero, List.set_cons_succ] at h2
  have h3 := setCell_row 9 v9 h2
  simp only [List.setIfInBounds_toArray, List.set_cons_zero, List.set_cons_succ] at h3
  have h4 := setCell_row 10 v10 h3
  simp only [List.setIfInBounds_toArray, List.set_cons_zero, List.set_cons_succ] at h4
  have h5 := setCell_row 11 v11 h4
  simp only [List.setIfInBounds_toArray, List.set_cons_zero, List.set_cons_succ] at h5
  have h6 := setCell_row 12 v12 h5
  simp only [List.setIfInBounds_toArray, List.set_cons_zero, List.set_cons_succ] at h6
  have h7 := setCell_row 13 v13 h6
  simp only [List.setIfInBounds_toArray, List.set_cons_zero, List.set_cons_succ] at h7
  have h8 := setCell_row 14 v14 h7
  simp only [List.setIfInBounds_toArray, List.set_cons_zero, List.set_cons_succ] at h8
  have h9 := setCell_row 15 v15 h8
  simp only [List.setIfInBounds_toArray, List.set_cons_zero, List.set_cons_succ] at h9
  have h10 := setCell_row 16 v16 h9
  simp only [List.setIfInBounds_toArray, List.set_cons_zero, List.set_cons_succ] at h10
  have h11 := setCell_row 17 v17 h10
  simp only [List.setIfInBounds_toArray, List.set_cons_zero, List.set_cons_succ] at h11
  have h12 := setCell_row 18 v18 h11
  simp only [List.setIfInBounds_toArray, List.set_cons_zero, List.set_cons_succ] at h12
  have h13 := setCell_row 19 v19 h12
  simp only [List.setIfInBounds_toArray, List.set_cons_zero, List.set_cons_succ] at h13
  have h14 := setCell_row 20 v20 h13
  simp only [List.setIfInBounds_toArray, List.set_cons_zero, List.set_cons_succ] at h14
  exact h14
theorem only_now (w : World) (b : Nat) (v5 v7 v8 v9 v10 v11 v12 v13 v14 v15 v16 v17 v18 v19 v20 : Value) : Only b w (((((((((((((((w.setCell ⟨b, 5, none⟩ v5).setCell ⟨b, 7, none⟩ v7).setCell ⟨b, 8, none⟩ v8).setCell ⟨b, 9, none⟩ v9).setCell ⟨b, 10, none⟩ v10).setCell ⟨b, 11, none⟩ v11).setCell ⟨b, 12, none⟩ v12).setCell ⟨b, 13, none⟩ v13).setCell ⟨b, 14, none⟩ v14).setCell ⟨b, 15, none⟩ v15).setCell ⟨b, 16, none⟩ v16).setCell ⟨b, 17, none⟩ v17).setCell ⟨b, 18, none⟩ v18).setCell ⟨b, 19, none⟩ v19).setCell ⟨b, 20, none⟩ v20) := (((((((((((((((Only.refl _ _).set _ _).set _ _).set _ _).set _ _).set _ _).set _ _).set _ _).set _ _).set _ _).set _ _).set _ _).set _ _).set _ _).set _ _).set _ _
theorem row_oc {K : PK} {vI vO : Value} {lo4 st8 : List Int} {s : MS} (oc : Nat) : ((K.row vI vO lo4 st8 s).toArray.setIfInBounds 5 (.int .i64 oc)) = (K.row vI vO lo4 st8 { s with oc := oc }).toArray := by
  rw [List.setIfInBounds_toArray]
  rfl
theorem row_va {K : PK} {vI vO : Value} {lo4 st8 : List Int} {s : MS} (v : Int) : ((K.row vI vO lo4 st8 s).toArray.setIfInBounds 6 (.int .i64 v)) = (K.row vI vO lo4 st8 { s with va := v }).toArray := by
  rw [List.setIfInBounds_toArray]
  rfl
theorem PM.oc {w : World} {K : PK} {vI vO : Value} {lo4 st8 : List Int} {s : MS} (h : PM w K vI vO lo4 st8 s) (oc : Nat) : PM (w.setCell ⟨K.b, 5, none⟩ (.int .i64 oc)) K vI vO lo4 st8 { s with oc := oc } := by
  have honly : Only K.b w (w.setCell ⟨K.b, 5, none⟩ (.int .i64 oc)) := (Only.refl _ _).set _ _
  exact h.turn honly (by rw [← row_oc]; exact setCell_row 5 _ h.row) h.stok h.lol rfl rfl (h.inp.same (fun a n c e => honly.block _ (h.inb a n c e).2.2.1)) h.inb
theorem PM.va {w : World} {K : PK} {vI vO : Value} {lo4 st8 : List Int} {s : MS} (h : PM w K vI vO lo4 st8 s) (v : Int) : PM (w.setCell ⟨K.b, 6, none⟩ (.int .i64 v)) K vI vO lo4 st8 { s with va := v } := by
  have honly : Only K.b w (w.setCell ⟨K.b, 6, none⟩ (.int .i64 v)) := (Only.refl _ _).set _ _
  exact h.turn honly (by rw [← row_va]; exact setCell_row 6 _ h.row) h.stok h.lol rfl rfl (h.inp.same (fun a n c e => honly.block _ (h.inb a n c e).2.2.1)) h.inb
def PStepPost (K : PK) (F : Nat → Prop) (t : MS) (w : World) (e : Ending) (w' : World) : Prop :=
  e = .returned (.tuple #[.int .i64 t.oc, .int .i64 0]) ∧ PX w' K (Grown F w w') t ∧ Touch F w w'
set_option maxRecDepth 100000 in
set_option maxHeartbeats 4000000 in
theorem pstep_x {w : World} {K : PK} {E : Env} {F : Nat → Prop} {s : MS} (h : PX w K F s) (hke : KE K E) (he : EnvOk E) (hi : MInv E s) (hoc : s.oc = 0) (hz : E.zs.length ≤ 64) (hlen : s.out.length ≤ 8796093022208) :
    Calls Tryd.prog 25 #[.pointer (some ⟨K.b, 0, none⟩)] w (PStepPost K F (stepS E s) w) := by
  obtain ⟨i, hcan⟩ := hi.can he
  have hst : stepS E s = stepI E i s := by unfold stepS; rw [hcan.get]
  rw [hst]
  obtain ⟨vI, vO, lo4, st8, hm, hF⟩ := h
  have hlt := hi.lt he
  rw [← hke.l] at hlt
  have hgi : K.l[s.at_]? = some i := by rw [hke.l]; exact hcan.get
  obtain ⟨p0, p1, p2, p3⟩ := hm.code s.at_ _ (aims_get hgi)
  simp only at p0 p1 p2 p3
  rw [hke.l] at p3
  have m1 := hm.get 1
  have m5 := hm.get 5
  have m7 := hm.get 7
  have m8 := hm.get 8
  have m9 := hm.get 9
  have m10 := hm.get 10
  have m11 := hm.get 11
  have m12 := hm.get 12
  have m13 := hm.get 13
  have m14 := hm.get 14
  have m15 := hm.get 15
  have m16 := hm.get 16
  have m17 := hm.get 17
  have m18 := hm.get 18
  have m19 := hm.get 19
  have m20 := hm.get 20
  have H := hid hm
  have hzw := hm.z
  have hb2 := hm.b2
  have hg2 := hm.g2
  have hbz : K.b < w.heap.size := by omega
  have hgz : K.g < w.heap.size := by omega
  obtain ⟨x0, x1, x2, x3, e4⟩ := fourZ hm.l4
  obtain ⟨t0, t1, t2, t3, t4, t5, t6, t7, e8⟩ := eightZ hm.l8
  subst e4
  subst e8
  simp only [PK.row, List.map_cons, List.map_nil, List.cons_append, List.nil_append, List.getElem?_cons_zero, List.getElem?_cons_succ] at m1 m5 m7 m8 m9 m10 m11 m12 m13 m14 m15 m16 m17 m18 m19 m20
  rw [hoc] at m5
  have d0 : ¬ (s.at_ : Int) < 0 := by omega
  have d1 : (s.at_ : Int) < (K.l.length : Int) := by omega
  have d2 : ¬ (K.l.length : Int) ≤ (s.at_ : Int) := by omega
  have d3 : (0 : Int) ≤ (s.at_ : Int) := by omega
  have hl120 := hm.llen
  have hbA : Below w.heap.size w (w.alloc (.cells #[.int .i64 ((s.at_ : Int) + 1), .int .i64 x0, .int .i64 x1, .int .i64 x2, .int .i64 x3, .int .i64 s.st.length, .int .i64 t0, .int .i64 t1, .int .i64 t2, .int .i64 t3, .int .i64 t4, .int .i64 t5, .int .i64 t6, .int .i64 t7] 80)) := (Below.refl _ _).alloc (Nat.le_refl _) _
  have hnin : ¬ K.In vO w.heap.size := by
    rintro (⟨h1, h2⟩ | h1)
    · omega
    · have := (hm.out.lt _ h1).2; omega
  have hdo := hid (do_any (a := w.heap.size) (i := i) ⟨hm.below hbA, hke, he, hi, hoc, hcan, ⟨[x0, x1, x2, x3], [t0, t1, t2, t3, t4, t5, t6, t7], heap_alloc_new w _, hm.stok⟩, hnin⟩ hz hlen)
  have hshape := step_shape (E := E) (i := i) hoc
  have HBA := hid hbA
  have hlo2 := (hi.step he).lo he
  rw [hst, ← hke.L] at hlo2
  have HLO := hid hlo2
  have hstd0 : i.op = 0 → 0 < s.st.length := fun e => ((hcan.std ⟨by omega, by omega, by omega, by omega, by omega⟩).one (c := 105) (by rw [e]; rfl)).1
  clear hlo2
  unfold doV insV at hdo
  generalize stepI E i s = t at *
  clear hm hbA hi hcan hke he
  go_enter Tryd.func25, Tryd.ntmps25
  go_wp2_with fail
  refine hdo.out.mono ?_
  clear hdo
  intro e w2 hp
  obtain ⟨hx, ⟨vI2, vO2, hM, hvO⟩, hT, hon, hhalt⟩ := hp
  subst e
  have FIN : Hid (∀ (W : World) (lo4 st8 : List Int), Two K.b w.heap.size w2 W → PM W K vI2 vO2 lo4 st8 t → PX W K (Grown F w W) t ∧ Touch F w W) := hid (by
    intro W lo4 st8 hO hP
    have hzA : (w.alloc (.cells #[.int .i64 ((s.at_ : Int) + 1), .int .i64 x0, .int .i64 x1, .int .i64 x2, .int .i64 x3, .int .i64 s.st.length, .int .i64 t0, .int .i64 t1, .int .i64 t2, .int .i64 t3, .int .i64 t4, .int .i64 t5, .int .i64 t6, .int .i64 t7] 80)).heap.size = w.heap.size + 1 := alloc_size _ _
    refine ⟨⟨vI2, vO2, lo4, st8, hP, fun k hk => ?_⟩, ?_⟩
    · rcases hk with hk | hk
      · exact .inl (hF k (.inl hk))
      · rcases hvO k hk with h1 | h1
        · exact .inl (hF k (.inr h1))
        · exact .inr ⟨by omega, (hP.out.lt k hk).2⟩
    · have hT1 : Touch F w w2 := (Touch.below (F := F) HBA.out).trans hT (fun k hk h => by
        rcases h with h | h
        · exact hF k h
        · omega)
      exact hT1.trans (Touch.two hO (F := fun k => k = K.b ∨ k = w.heap.size) (.inl rfl) (.inr rfl)) (fun k hk h => by
        rcases h with rfl | h
        · exact hF _ (.inl ⟨H.out.b1, H.out.b2⟩)
        · omega))
  have n5 := hM.get 5
  have g5 := frozen_of_row w2 K.b 5 _ _ hM.row
  have HM := hid hM
  have HT := hid hT
  have HVO := hid hvO
  clear m1 m5 m7 m8 m9 m10 m11 m12 m13 m14 m15 m16 m17 m18 m19 m20 p0 p1 p2 p3 hT hM hvO
  simp only [PK.row, midS, List.map_cons, List.map_nil, List.cons_append, List.nil_append, List.getElem?_cons_zero, List.getElem?_cons_succ] at n5
  rcases hshape with ⟨z1, z2⟩ | z1 | ⟨z1, z2, z3⟩
  · obtain ⟨lo4, st8, hS⟩ := hon z1
    have hsr := hS.row
    have hsok := hS.ok
    obtain ⟨y0, y1, y2, y3, e4⟩ := fourZ hsok.l4
    obtain ⟨u0, u1, u2, u3, u4, u5, u6, u7, e8⟩ := eightZ hsok.l8
    subst e4
    subst e8
    have HSO := hid hsok
    have HSR := hid hsr
    have c0 := cell_of_row w2 w.heap.size 0 _ _ _ hsr
    have c1 := cell_of_row w2 w.heap.size 1 _ _ _ hsr
    have c2 := cell_of_row w2 w.heap.size 2 _ _ _ hsr
    have c3 := cell_of_row w2 w.heap.size 3 _ _ _ hsr
    have c4 := cell_of_row w2 w.heap.size 4 _ _ _ hsr
    have c5 := cell_of_row w2 w.heap.size 5 _ _ _ hsr
    have c6 := cell_of_row w2 w.heap.size 6 _ _ _ hsr
    have c7 := cell_of_row w2 w.heap.size 7 _ _ _ hsr
    have c8 := cell_of_row w2 w.heap.size 8 _ _ _ hsr
    have c9 := cell_of_row w2 w.heap.size 9 _ _ _ hsr
    have c10 := cell_of_row w2 w.heap.size 10 _ _ _ hsr
    have c11 := cell_of_row w2 w.heap.size 11 _ _ _ hsr
    have c12 := cell_of_row w2 w.heap.size 12 _ _ _ hsr
    have c13 := cell_of_row w2 w.heap.size 13 _ _ _ hsr
    have n7 := HM.out.get 7
    have g7 := frozen_of_row w2 K.b 7 _ _ HM.out.row
    have n8 := HM.out.get 8
    have g8 := frozen_of_row w2 K.b 8 _ _ HM.out.row
    have n9 := HM.out.get 9
    have g9 := frozen_of_row w2 K.b 9 _ _ HM.out.row
    have n10 := HM.out.get 10
    have g10 := frozen_of_row w2 K.b 10 _ _ HM.out.row
    have n11 := HM.out.get 11
    have g11 := frozen_of_row w2 K.b 11 _ _ HM.out.row
    have n12 := HM.out.get 12
    have g12 := frozen_of_row w2 K.b 12 _ _ HM.out.row
    have n13 := HM.out.get 13
    have g13 := frozen_of_row w2 K.b 13 _ _ HM.out.row
    have n14 := HM.out.get 14
    have g14 := frozen_of_row w2 K.b 14 _ _ HM.out.row
    have n15 := HM.out.get 15
    have g15 := frozen_of_row w2 K.b 15 _ _ HM.out.row
    have n16 := HM.out.get 16
    have g16 := frozen_of_row w2 K.b 16 _ _ HM.out.row
    have n17 := HM.out.get 17
    have g17 := frozen_of_row w2 K.b 17 _ _ HM.out.row
    have n18 := HM.out.get 18
    have g18 := frozen_of_row w2 K.b 18 _ _ HM.out.row
    have n19 := HM.out.get 19
    have g19 := frozen_of_row w2 K.b 19 _ _ HM.out.row
    have n20 := HM.out.get 20
    have g20 := frozen_of_row w2 K.b 20 _ _ HM.out.row
    simp only [sdL, List.map_cons, List.map_nil, List.cons_append, List.nil_append, List.getElem?_toArray, List.getElem?_cons_zero, List.getElem?_cons_succ] at c0 c1 c2 c3 c4 c5 c6 c7 c8 c9 c10 c11 c12 c13
    simp only [PK.row, midS, List.map_cons, List.map_nil, List.cons_append, List.nil_append, List.getElem?_cons_zero, List.getElem?_cons_succ] at n7 n8 n9 n10 n11 n12 n13 n14 n15 n16 n17 n18 n19 n20
    have hbs : K.b ≠ w.heap.size := by omega
    rw [z1]
    clear hon hhalt hS hsok hsr
    go_wp2_with fail
    have hrow := HM.out.row
    simp only [PK.row, midS, List.map_cons, List.map_nil, List.cons_append, List.nil_append] at hrow
    have hrow2 := row_now hrow (.int .i64 0) (.int .i64 t.at_) (.int .i64 y0) (.int .i64 y1) (.int .i64 y2) (.int .i64 y3) (.int .i64 t.st.length) (.int .i64 u0) (.int .i64 u1) (.int .i64 u2) (.int .i64 u3) (.int .i64 u4) (.int .i64 u5) (.int .i64 u6) (.int .i64 u7)
    have honly := only_now w2 K.b (.int .i64 0) (.int .i64 t.at_) (.int .i64 y0) (.int .i64 y1) (.int .i64 y2) (.int .i64 y3) (.int .i64 t.st.length) (.int .i64 u0) (.int .i64 u1) (.int .i64 u2) (.int .i64 u3) (.int .i64 u4) (.int .i64 u5) (.int .i64 u6) (.int .i64 u7)
    generalize (((((((((((((((w2.setCell ⟨K.b, 5, none⟩ (.int .i64 0)).setCell ⟨K.b, 7, none⟩ (.int .i64 t.at_)).setCell ⟨K.b, 8, none⟩ (.int .i64 y0)).setCell ⟨K.b, 9, none⟩ (.int .i64 y1)).setCell ⟨K.b, 10, none⟩ (.int .i64 y2)).setCell ⟨K.b, 11, none⟩ (.int .i64 y3)).setCell ⟨K.b, 12, none⟩ (.int .i64 t.st.length)).setCell ⟨K.b, 13, none⟩ (.int .i64 u0)).setCell ⟨K.b, 14, none⟩ (.int .i64 u1)).setCell ⟨K.b, 15, none⟩ (.int .i64 u2)).setCell ⟨K.b, 16, none⟩ (.int .i64 u3)).setCell ⟨K.b, 17, none⟩ (.int .i64 u4)).setCell ⟨K.b, 18, none⟩ (.int .i64 u5)).setCell ⟨K.b, 19, none⟩ (.int .i64 u6)).setCell ⟨K.b, 20, none⟩ (.int .i64 u7)) = W at *
    have hP : PM W K vI2 vO2 [y0, y1, y2, y3] [u0, u1, u2, u3, u4, u5, u6, u7] t := by
      refine HM.out.turn honly ?_ HSO.out HLO.out rfl rfl (HM.out.inp.same (fun a n c e => honly.block _ (HM.out.inb a n c e).2.2.1)) HM.out.inb
      rw [hrow2]
      simp only [PK.row, List.map_cons, List.map_nil, List.cons_append, List.nil_append, z1, z2]
      rfl
    obtain ⟨f1, f2⟩ := FIN.out W _ _ (Two.of_only honly).widen.swap hP
    refine bodyPost_ret (v := .tuple #[.int .i64 0, .int .i64 0]) (by simp [results, Tryd.results25, go_sem]) rfl ⟨?_, f1, f2⟩
    rw [z1]
    rfl
  · obtain ⟨z0, z1⟩ := z1
    have hpop := hstd0 z0
    have hS := hhalt (by rw [z1])
    rw [st_one hpop] at hS
    have hS2 := hS.keep (w' := w2.setCell ⟨K.b, 5, none⟩ (.int .i64 1)) (Below.heap_setCell _ _ _ _ (fun e => by simp only at e; omega))
    have hp := hid (xpop hS2)
    have n6 := HM.out.get 6
    have g6 := frozen_of_row w2 K.b 6 _ _ HM.out.row
    simp only [PK.row, midS, List.map_cons, List.map_nil, List.cons_append, List.nil_append, List.getElem?_cons_zero, List.getElem?_cons_succ] at n6
    have HZ1 := hid z1
    have hoc1 : t.oc = 1 := by rw [z1]
    have hbs : K.b ≠ w.heap.size := by omega
    rw [hoc1]
    clear hon hhalt hS hS2 z1
    go_wp2_with fail
    refine hp.out.mono ?_
    clear hp
    intro e w4 hh
    obtain ⟨hx, hS4, hO4⟩ := hh
    subst e
    have k6 : w4.cell? ⟨K.b, 6, none⟩ = some (.int .i64 s.va) := (hO4.cell hbs).trans ((World.cell?_setCell_other _ _ _ _ (by simp)).trans n6)
    have j6 : w4.frozen? ⟨K.b, 6, none⟩ = false := (World.frozen?_of_block (a := ⟨K.b, 6, none⟩) (hO4.block _ hbs)).trans ((World.frozen?_setCell _ _ _ _).trans g6)
    have k5 : w4.cell? ⟨K.b, 5, none⟩ = some (.int .i64 1) := (hO4.cell hbs).trans (World.cell?_setCell_same _ _ _ n5)
    have HO4 := hid hO4
    clear hS4 hO4 n5 n6 g5 g6
    go_wp2_with fail
    have hnin2 : ¬ K.In vO2 w.heap.size := by
      have hzA : (w.alloc (.cells #[.int .i64 ((s.at_ : Int) + 1), .int .i64 x0, .int .i64 x1, .int .i64 x2, .int .i64 x3, .int .i64 s.st.length, .int .i64 t0, .int .i64 t1, .int .i64 t2, .int .i64 t3, .int .i64 t4, .int .i64 t5, .int .i64 t6, .int .i64 t7] 80)).heap.size = w.heap.size + 1 := alloc_size _ _
      rintro (⟨h1, h2⟩ | h1)
      · omega
      · rcases HVO.out _ h1 with h2 | h2
        · exact hnin (.inr h2)
        · omega
    have hP := ((HM.out.oc 1).two (Two.of_only HO4.out) hnin2).va (lastW s.st 0).2
    have hPt : PM (w4.setCell ⟨K.b, 6, none⟩ (.int .i64 (lastW s.st 0).2)) K vI2 vO2 [x0, x1, x2, x3] [t0, t1, t2, t3, t4, t5, t6, t7] t := by
      have e : ({ { midS s t with oc := 1 } with va := (lastW s.st 0).2 } : MS) = t := by
        have h9 := HZ1.out
        rw [h9]
        rfl
      rw [← e]
      exact hP
    have hTW : Two K.b w.heap.size w2 (w4.setCell ⟨K.b, 6, none⟩ (.int .i64 (lastW s.st 0).2)) := (((Two.refl K.b w.heap.size w2).set).trans (Two.of_only HO4.out).widen).set
    obtain ⟨f1, f2⟩ := FIN.out _ _ _ hTW hPt
    refine bodyPost_ret (v := .tuple #[.int .i64 1, .int .i64 0]) (by simp [results, Tryd.results25, go_sem]) rfl ⟨?_, f1, f2⟩
    rw [hoc1]
    rfl
  · have hoc3 : ((t.oc : Int) == 0) = false := by simp; omega
    have hoc4 : ((t.oc : Int) == 1) = false := by simp; omega
    have HZ3 := hid z3
    clear hon hhalt z3
    go_wp2_with fail
    have hP := HM.out.oc t.oc
    have hPt : PM (w2.setCell ⟨K.b, 5, none⟩ (.int .i64 t.oc)) K vI2 vO2 [x0, x1, x2, x3] [t0, t1, t2, t3, t4, t5, t6, t7] t := by
      have e : ({ midS s t with oc := t.oc } : MS) = t := by
        unfold midS
        rw [show t.rd = s.rd by rw [HZ3.out], show t.out = s.out by rw [HZ3.out]]
        exact HZ3.out.symm
      rw [← e]
      exact hP
    obtain ⟨f1, f2⟩ := FIN.out _ _ _ ((Two.refl K.b w.heap.size w2).set) hPt
    exact bodyPost_ret (v := .tuple #[.int .i64 t.oc, .int .i64 0]) (by simp [results, Tryd.results25, go_sem]) rfl ⟨rfl, f1, f2⟩
end Go.Proofs.YtdmdpindonghdabDoor
namespace Go.Proofs.YtdmdpindonghdabDoor
open Go.RowKit
def HNewPost (n : Nat) (w : World) (e : Ending) (w' : World) : Prop :=
  Below w.heap.size w w' ∧ ∃ v, e = .returned (.agg #[v, .int .i64 0, .int .i64 0]) ∧ w'.ownsRow w.heap.size 42 5 v n ((List.replicate n blankL).flatMap clCells)
set_option maxRecDepth 100000 in
set_option maxHeartbeats 4000000 in
theorem hnew_any (n : Nat) (w : World) (hn : n ≤ 32) : Calls Tryd.prog 51 #[.int .i64 n] w (HNewPost n w) := by
  obtain ⟨i0, hi0, hz0, hz1, hz2⟩ := info_parts cellInfo
  have hpc := hid (fun W => plainCell_any W)
  go_enter Tryd.func51, Tryd.ntmps51
  go_wp2_with fail
  go_loopg [4] n (fun g x w' => ∃ (k : Nat) (v : Value), k ≤ n ∧ g = n - k ∧ x = .int .i64 k ∧ w'.heap[w.heap.size + 1]? = some (.cells #[v, .int .i64 0, .int .i64 0] 82) ∧ w'.heap[w.heap.size]? = some (.cells #[.slice none 0 0, .int .i64 0, .int .i64 0] 82) ∧ Below w.heap.size w w' ∧ w'.ownsRow (w.heap.size + 2) 42 5 v k ((List.replicate k blankL).flatMap clCells))
  case atStart => exact ⟨0, .slice none 0 0, by omega, by omega, rfl, heap_two_new w _ _, heap_two_first w _ _, ((Below.refl _ _).alloc (Nat.le_refl _) _).alloc (by simp) _, World.ownsRow_nil _ _ _ _⟩
  case round =>
    obtain ⟨k, v, hk, hg, rfl, hrow, hres, hbel, hown⟩ := hrel
    obtain ⟨pv, cv, ev⟩ := (LsAt.of_owns hown).slice
    subst ev
    have hz : w.heap.size + 1 < wr.heap.size := (Array.getElem?_eq_some_iff.1 hrow).1
    have HB := hid hbel
    rcases Nat.lt_or_ge k n with hlt | hge
    · have d1 : (k : Int) < (n : Int) := by omega
      have c0 := cell_of_row wr (w.heap.size + 1) 0 _ _ _ hrow
      simp only [List.getElem?_toArray, List.getElem?_cons_zero] at c0
      have hp := hid (hpc.out wr.drew)
      have KEEP : Hid (∀ w9, Below wr.drew.heap.size wr.drew w9 → w9.cell? ⟨w.heap.size + 1, 0, none⟩ = some (.slice pv k cv) ∧ w9.frozen? ⟨w.heap.size + 1, 0, none⟩ = false ∧ w9.ownsRow (w.heap.size + 2) 42 5 (.slice pv k cv) k ((List.replicate k blankL).flatMap clCells) ∧ w.heap.size + 1 < w9.heap.size ∧ w9.heap[w.heap.size + 1]? = some (.cells #[.slice pv k cv, .int .i64 0, .int .i64 0] 82) ∧ w9.heap[w.heap.size]? = some (.cells #[.slice none 0 0, .int .i64 0, .int .i64 0] 82) ∧ Below w.heap.size w w9) := hid (fun w9 hb => by
        have r9 := (hb.block (w.heap.size + 1) (show w.heap.size + 1 < wr.heap.size from hz)).trans hrow
        refine ⟨cell_of_row w9 _ 0 _ _ _ r9, frozen_of_row w9 _ 0 _ _ r9, owns_keep hown (fun g hg => hb.block g (hown.lt g hg).2), (Array.getElem?_eq_some_iff.1 r9).1, r9, (hb.block w.heap.size (show w.heap.size < wr.heap.size by omega)).trans hres, (show Below w.heap.size w wr.drew from ⟨hbel.os, hbel.tape, hbel.output, hbel.size, hbel.block⟩).trans (hb.mono (show w.heap.size ≤ wr.heap.size by omega))⟩)
      have hfar : some (w.heap.size + 1) ≠ (Value.slice pv k cv).ownBlock := fun e => by
        have := (hown.lt _ e.symm).1
        omega
      go_wp2_with fail
      go_region_law
        ((first
          | (refine step_append_lies _ (by rfl) _ _ _ (by rfl) (w.heap.size + 2) 42 i0 _ 5 40 Tryd.underlying35 hi0 hz0 hz1 hz2 rfl (by omega) _ k ((List.replicate k blankL).flatMap clCells) (by rfl) (o9.alloc _)
              ⟨w9.heap.size, 0, none⟩ 1 1 [.int .i64 0, .bool false, .int .i64 (-1), .int .i64 (-1), .int .i64 0] (by rfl) (by rfl) (World.news_of_block (cs := #[.int .i64 0, .bool false, .int .i64 (-1), .int .i64 (-1), .int .i64 0]) (t := 42) (fr := (0, 0)) (heap_alloc_new w9 _)) (by simp [Value.oneCell'])
              (by omega) (by unfold maxLen; omega) (by omega) (by simp; omega) (w9.heap.size + 1) (by simp) ?_; intro gg gcap w6 hown6 hgrow6 hat6 hlt6; obtain ⟨c6, f6⟩ := cell6b hgrow6 (b := w.heap.size + 1) (by omega) hfar 0; rw [a9] at c6; rw [f9] at f6)
          | (go_simp; go_at_call 64; refine hp.out.mono ?_; intro x w9 hh9; obtain ⟨hx9, hB9⟩ := hh9; subst hx9; obtain ⟨a9, f9, o9, z9, r9, q9, b9⟩ := KEEP.out w9 hB9; have R9 := hid r9; have Q9 := hid q9; have B9 := hid b9; clear r9 q9 b9; dsimp only)
          | fail))
      all_goals
        have HO6 := hid hown6
        have HG6 := hid hgrow6
        have HZ9 := hid z9
        have HLO := hid (fun g hg => (hown.lt g hg).1)
        have ROW6 : Hid (w6.heap[w.heap.size + 1]? = some (.cells #[.slice pv k cv, .int .i64 0, .int .i64 0] 82)) := hid ((hgrow6.block (w.heap.size + 1) (by simp; omega) hfar).trans ((Below.heap_alloc _ _ _ z9).trans R9.out))
        have RES6 : Hid (w6.heap[w.heap.size]? = some (.cells #[.slice none 0 0, .int .i64 0, .int .i64 0] 82)) := hid ((hgrow6.block w.heap.size (by simp; omega) (fun e => by have := (hown.lt _ e.symm).1; omega)).trans ((Below.heap_alloc _ _ _ (by omega)).trans Q9.out))
        clear hown6 hgrow6 hat6 hlt6 c6 f6 a9 f9 o9 KEEP hp hbel hrow hres c0 hown
        go_wp2_with fail
        go_roundg (n - (k + 1))
        case measure => omega
        case rel =>
          refine ⟨k + 1, .slice (some ⟨gg, 0, none⟩) (k + 1) gcap, by omega, rfl, by go_num, ?_, ?_, ?_, ?_⟩
          · have := setCell_row 0 (.slice (some ⟨gg, 0, none⟩) (k + 1) gcap) ROW6.out
            simpa using this
          · rw [Below.heap_setCell _ _ _ _ (by simp)]
            exact RES6.out
          · exact (((B9.out.alloc (by have := HZ9.out; omega) _).grown HG6.out (by simp; have := HZ9.out; omega) (fun g hg => by have := HLO.out g hg; omega)).setCell (by simp only; omega) _)
          · have h6 := HO6.out
            have e : (List.replicate (k + 1) blankL).flatMap clCells = (List.replicate k blankL).flatMap clCells ++ [.int .i64 0, .bool false, .int .i64 (-1), .int .i64 (-1), .int .i64 0] := by
              rw [List.replicate_succ', List.flatMap_append]
              rfl
            rw [e]
            exact owns_set h6 (fun e => by have := (h6.lt _ e).1; simp only at this; omega) _
    · have d1 : ¬ (k : Int) < (n : Int) := by omega
      have hkn : k = n := by omega
      subst hkn
      have c0 := cell_of_row wr (w.heap.size + 1) 0 _ _ _ hrow
      have c1 := cell_of_row wr (w.heap.size + 1) 1 _ _ _ hrow
      have c2 := cell_of_row wr (w.heap.size + 1) 2 _ _ _ hrow
      have e0 := cell_of_row wr w.heap.size 0 _ _ _ hres
      have e1 := cell_of_row wr w.heap.size 1 _ _ _ hres
      have e2 := cell_of_row wr w.heap.size 2 _ _ _ hres
      have f0 := frozen_of_row wr w.heap.size 0 _ _ hres
      have f1 := frozen_of_row wr w.heap.size 1 _ _ hres
      have f2 := frozen_of_row wr w.heap.size 2 _ _ hres
      simp only [List.getElem?_toArray, List.getElem?_cons_zero, List.getElem?_cons_succ] at c0 c1 c2 e0 e1 e2
      have HO := hid hown
      clear hown hbel hrow hres
      go_wp2_with fail
      refine bodyPost_ret (v := .agg #[.slice pv k cv, .int .i64 0, .int .i64 0]) (by simp [results, Tryd.results51, go_sem, e0, e1, e2]) rfl ⟨((HB.out.setCell (Nat.le_refl _) _).setCell (Nat.le_refl _) _).setCell (Nat.le_refl _) _, _, rfl, ?_⟩
      have hne : ∀ j : Nat, (Value.slice pv k cv).ownBlock ≠ some (⟨w.heap.size, j, none⟩ : Addr).block := fun j e => by have := (HO.out.lt _ e).1; simp only at this; omega
      exact owns_mono (owns_set (owns_set (owns_set HO.out (hne 0) _) (hne 1) _) (hne 2) _) (by omega)
end Go.Proofs.YtdmdpindonghdabDoor
namespace Go.Proofs.YtdmdpindonghdabDoor
open Go.RowKit
set_option maxRecDepth 100000 in
set_option maxHeartbeats 1000000 in
theorem pnew_bad (s : ByteArray) (vi : Value) (zs : List Int) (cells : Int) (w : World) (hs : s.size ≤ maxLen) (ht : FlowTab w) (hv : ZsAt w vi zs) (r : Nat) (hr : r ≠ 0) (he : NewErr s zs.length cells r) :
    Calls Tryd.prog 28 #[.string s, vi, .int .i64 cells] w fun e w' => e = .returned (.tuple #[.pointer none, .int .i64 r]) ∧ Below w.heap.size w w' := by
  obtain ⟨p0, c0, e0⟩ := hv.slice
  subst e0
  have hld := hid (tload_any s w hs ht)
  clear hs ht hv
  go_enter Tryd.func28, Tryd.ntmps28
  go_wp2_with fail
  refine hld.out.mono ?_
  clear hld
  intro x w1 hp
  obtain ⟨hb, hp⟩ := hp
  have HB := hid hb
  clear hb
  rcases hp with ⟨r1, hr1, he1, hx⟩ | ⟨g, cap, bf, fs, hx, hL⟩
  · subst x
    have e : r1 = r := by
      rcases he with ⟨_, h2⟩ | ⟨h1, _⟩ | ⟨h1, _⟩ | ⟨h1, _⟩
      · exact he1.unique h2
      · exact absurd (he1.unique h1) hr1
      · exact absurd (he1.unique h1) hr1
      · exact absurd (he1.unique h1) hr1
    subst e
    have hne : ((r1 : Int) != 0) = true := by simp; omega
    clear he he1
    go_wp2_with fail
    exact bodyPost_ret (v := .tuple #[.pointer none, .int .i64 r1]) (by simp [results, Tryd.results28, go_sem]) rfl ⟨rfl, HB.out.alloc HB.out.size _⟩
  · subst x
    have he1 : IsErr s 0 := .inr (.inl ⟨hL.err, hL.wt, rfl⟩)
    clear hL
    rcases he with ⟨_, h2⟩ | ⟨h1, h2, h3⟩ | ⟨h1, h2, h3, h4, h5⟩ | ⟨h1, h2, h3, h4, h5⟩
    · exact absurd (h2.unique he1) hr
    · subst h3
      clear he1 h1 hr
      by_cases h2' : cells < 1
      · go_wp2_with fail
        exact bodyPost_ret (v := .tuple #[.pointer none, .int .i64 6]) (by simp [results, Tryd.results28, go_sem]) rfl ⟨rfl, HB.out.alloc HB.out.size _⟩
      · have h3 : 32 < cells := by omega
        clear h2
        go_wp2_with fail
        exact bodyPost_ret (v := .tuple #[.pointer none, .int .i64 6]) (by simp [results, Tryd.results28, go_sem]) rfl ⟨rfl, HB.out.alloc HB.out.size _⟩
    · subst h5
      have h2' : ¬ cells < 1 := by omega
      have h3' : ¬ 32 < cells := by omega
      have h4' : (64 : Int) < (zs.length : Int) := by omega
      clear he1 h1 hr
      go_wp2_with fail
      exact bodyPost_ret (v := .tuple #[.pointer none, .int .i64 7]) (by simp [results, Tryd.results28, go_sem]) rfl ⟨rfl, HB.out.alloc HB.out.size _⟩
    · exact absurd h5 hr
/-- What New answers where it makes a machine. -/
structure PNew (s : ByteArray) (zs : List Int) (n : Nat) (w w' : World) (K : PK) : Prop where
  below : Below w.heap.size w w'
  A : K.A = w.heap.size
  B4 : K.B4 = w'.heap.size
  l : K.l = codeOf s
  L : K.L = byteAt s 1
  z : K.zs = zs
  err : errOf s = 0
  wt : WT (codeOf s) (byteAt s 1)
  inv : SetInv (codeOf s) (byteAt s 1) K.fs
  still : Still (codeOf s) K.fs
  m : ∃ vI, PM w' K vI (.slice none 0 0) [0, 0, 0, 0] [0, 0, 0, 0, 0, 0, 0, 0] (startS (byteAt s 1) n)
def PNewPost (s : ByteArray) (zs : List Int) (n : Nat) (w : World) (e : Ending) (w' : World) : Prop := ∃ K, e = .returned (.tuple #[.pointer (some ⟨K.b, 0, none⟩), .int .i64 0]) ∧ PNew s zs n w w' K
theorem told_blank (n : Nat) : (List.replicate n (⟨false, false, false, false, -1, -1, 0⟩ : RC)).map toldC = List.replicate n blankL := by rw [List.map_replicate]; rfl
theorem CiAt.keep {w w' : World} {g : Nat} {l : List CI} (h : CiAt w g l) (hb : Below w.heap.size w w') (hg : g < w.heap.size) : CiAt w' g l := h.same (hb.block g hg)
def newRow (L g len cap bf : Nat) (pI : Option Addr) (zl cI : Nat) (pC : Option Addr) (n cC : Nat) : Array Value := #[.int .i64 L, .slice (some ⟨g, 0, none⟩) len cap, .slice (some ⟨bf, 0, none⟩) len len, .slice pI zl cI, .slice none 0 0, .int .i64 0, .int .i64 0, .int .i64 0, .int .i64 0, .int .i64 0, .int .i64 0, .int .i64 0, .int .i64 0, .int .i64 0, .int .i64 0, .int .i64 0, .int .i64 0, .int .i64 0, .int .i64 0, .int .i64 0, .int .i64 0, .slice pC n cC, .int .i64 0, .int .i64 0]
theorem pnew_make {s : ByteArray} {zs : List Int} {n : Nat} {w w1 w2 w9 : World} {g cap bf cI cC : Nat} {fs : List Fr} {pI pC : Option Addr} {o : Obj} (hL : Loaded s w w1 g cap bf fs) (hb : Below w.heap.size w w1) (hb2 : Below (w1.alloc o).heap.size (w1.alloc o) w2) (hoI : w2.ownsRow (w1.alloc o).heap.size 3 1 (.slice pI zs.length cI) zs.length (zs.map (.int .i64)))
    (hb9 : Below w2.drew.heap.size w2.drew w9) (ho9 : w9.ownsRow w2.drew.heap.size 42 5 (.slice pC n cC) n ((List.replicate n blankL).flatMap clCells)) (hn : 1 ≤ n) :
    ∃ K : PK, K.b = w9.heap.size ∧ PNew s zs n w (w9.alloc (.cells (newRow (byteAt s 1) g (codeOf s).length cap bf pI zs.length cI pC n cC) 84)) K := by
  have hw := wf_of hL.err
  have z1 : (w1.alloc o).heap.size = w1.heap.size + 1 := alloc_size _ _
  have z2 := hb2.size
  have z9 : w2.heap.size ≤ w9.heap.size := hb9.size
  have z0 := hb.size
  have hbf : bf < w1.heap.size := (Array.getElem?_eq_some_iff.1 hL.all).1
  have hg2 := hL.g2
  have hg1 := hL.g1
  have hbf1 := hL.b1
  obtain ⟨gC, hgC, hgClt⟩ : ∃ gC, pC = some ⟨gC, 0, none⟩ ∧ w2.heap.size ≤ gC := by
    rcases ho9.2 with ⟨_, e⟩ | ⟨gC, cap', cur, hv, hg, _⟩
    · omega
    · injection hv with a1 a2 a3
      exact ⟨gC, a1, hg⟩
  subst hgC
  have hgC9 := (ho9.lt gC rfl).2
  have hB1 : Below w1.heap.size w1 (w1.alloc o) := (Below.refl _ _).alloc (Nat.le_refl _) _
  have hB12 : Below w1.heap.size w1 w2 := hB1.trans (hb2.mono (by omega))
  have hB2d : Below w1.heap.size w1 w2.drew := ⟨hB12.os, hB12.tape, hB12.output, hB12.size, hB12.block⟩
  have hB19 : Below w1.heap.size w1 w9 := hB2d.trans (hb9.mono (by show w1.heap.size ≤ w2.heap.size; omega))
  have hB1W : Below w1.heap.size w1 (w9.alloc (.cells (newRow (byteAt s 1) g (codeOf s).length cap bf pI zs.length cI (some ⟨gC, 0, none⟩) n cC) 84)) := hB19.alloc (by omega) _
  have hB9W : Below w9.heap.size w9 (w9.alloc (.cells (newRow (byteAt s 1) g (codeOf s).length cap bf pI zs.length cI (some ⟨gC, 0, none⟩) n cC) 84)) := (Below.refl _ _).alloc (Nat.le_refl _) _
  have hzW : (w9.alloc (.cells (newRow (byteAt s 1) g (codeOf s).length cap bf pI zs.length cI (some ⟨gC, 0, none⟩) n cC) 84)).heap.size = w9.heap.size + 1 := alloc_size _ _
  have hrow := heap_alloc_new w9 (.cells (newRow (byteAt s 1) g (codeOf s).length cap bf pI zs.length cI (some ⟨gC, 0, none⟩) n cC) 84)
  generalize w9.alloc (.cells (newRow (byteAt s 1) g (codeOf s).length cap bf pI zs.length cI (some ⟨gC, 0, none⟩) n cC) 84) = W at *
  have hIo : W.ownsRow (w1.alloc o).heap.size 3 1 (.slice pI zs.length cI) zs.length (zs.map (.int .i64)) := owns_keep hoI (fun g' hg' => by
    have h2 := (hoI.lt g' hg').2
    exact (hB9W.block g' (by omega)).trans (hb9.block g' h2))
  refine ⟨⟨w9.heap.size, g, cap, bf, gC, cC, w.heap.size, W.heap.size, codeOf s, byteAt s 1, fs, zs⟩, rfl, ⟨hb.trans (hB1W.mono hb.size), rfl, rfl, rfl, rfl, rfl, hL.err, hL.wt, hL.inv, hL.still, .slice pI zs.length cI, ?_⟩⟩
  refine ⟨?_, rfl, rfl, by simp [startS], ?_, by simp [startS], rfl, hw.loc, by simp only; omega, by simp only; omega, hg1, by simp only; omega, hbf1, by simp only; omega, by simp only; omega, by simp only; omega, Nat.le_refl _, by simp only; omega, by simp only; omega, by simp only; omega, by simp only; omega, by simp only; omega, ?_, ?_, hL.inv.ok, hL.inv.len, hw.len, ?_, ?_, ?_, World.ownsRow_nil _ _ _ _⟩
  · simp only [PK.row, startS, List.map_cons, List.map_nil, List.length_nil, List.cons_append, List.nil_append, List.length_replicate]
    exact hrow
  · have h4 := hw.loc
    simp only [startS, List.map_replicate]
    match byteAt s 1, h4 with
    | 0, _ => rfl
    | 1, _ => rfl
    | 2, _ => rfl
    | 3, _ => rfl
    | 4, _ => rfl
  · exact hL.ci.keep hB1W hg2
  · exact (hB1W.block bf hbf).trans hL.all
  · simp only [startS, List.length_replicate, told_blank]
    exact owns_mono (owns_keep ho9 (fun g' hg' => hB9W.block g' (ho9.lt g' hg').2)) (show w.heap.size ≤ w2.heap.size by omega)
  · simp only [startS, List.drop_zero]
    exact zs_of_owns hIo
  · intro a n' c e
    injection e with e1 e2 e3
    subst e1
    rcases hIo.2 with ⟨e, _⟩ | ⟨g', cap', cur, hv, hg', r⟩
    · cases e
    · injection hv with a1 a2 a3
      injection a1 with a1
      subst a1
      have h2 := (hoI.lt g' rfl).2
      have h3 := r.2.1
      simp only
      exact ⟨by omega, by omega, by omega, by omega, by omega, g', 0, rfl⟩
set_option maxRecDepth 100000 in
set_option maxHeartbeats 4000000 in
theorem pnew_ok (s : ByteArray) (vi : Value) (zs : List Int) (n : Nat) (w : World) (hs : s.size ≤ maxLen) (ht : FlowTab w) (hv : ArgInts w vi zs) (he : NewErr s zs.length (n : Int) 0) :
    Calls Tryd.prog 28 #[.string s, vi, .int .i64 n] w (PNewPost s zs n w) := by
  obtain ⟨h1, h2, h3, h4⟩ : IsErr s 0 ∧ 1 ≤ (n : Int) ∧ (n : Int) ≤ 32 ∧ zs.length ≤ 64 := by
    rcases he with ⟨h, _⟩ | ⟨_, _, h⟩ | ⟨_, _, _, _, h⟩ | ⟨h1, h2, h3, h4, _⟩
    · exact absurd rfl h
    · cases h
    · cases h
    · exact ⟨h1, h2, h3, h4⟩
  have h2' : ¬ (n : Int) < 1 := by omega
  have h3' : ¬ 32 < (n : Int) := by omega
  have h4' : ¬ (64 : Int) < (zs.length : Int) := by omega
  have hld := hid (tload_any s w hs ht)
  have hcp := hid (fun (W : World) (hb : Below w.heap.size w W) => copied_any zs vi W (hv.zs hb) (by omega))
  have hhn := hid (fun (W : World) => hnew_any n W (by omega))
  obtain ⟨p0, c0, e0⟩ := hv.slice
  subst e0
  clear hs ht hv he h2 h3
  go_enter Tryd.func28, Tryd.ntmps28
  go_wp2_with fail
  refine hld.out.mono ?_
  clear hld
  intro x w1 hp
  obtain ⟨hb, hp⟩ := hp
  rcases hp with ⟨r1, hr1, he1, hx⟩ | ⟨g, cap, bf, fs, hx, hL⟩
  · exact absurd (he1.unique h1) hr1
  subst x
  have hb1 : Below w.heap.size w (w1.alloc (.cells #[.int .i64 (byteAt s 1 : Nat), .slice (some ⟨g, 0, none⟩) (codeOf s).length cap] 75)) := hb.alloc hb.size _
  have hc1 := hid (hcp.out _ hb1)
  have hq0 := cell_of_row _ w1.heap.size 0 _ _ _ (heap_alloc_new w1 (.cells #[.int .i64 (byteAt s 1 : Nat), .slice (some ⟨g, 0, none⟩) (codeOf s).length cap] 75))
  have HL := hid hL
  have HB := hid hb
  have HB1 := hid hb1
  clear hcp hb hb1 hL
  generalize hlen : (codeOf s).length = len at *
  generalize hLL : byteAt s 1 = L at *
  have HLEN := hid hlen
  have HLL := hid hLL
  clear hlen hLL
  go_wp2_with fail
  refine hc1.out.mono ?_
  clear hc1
  intro x w2 hp
  obtain ⟨hb2, vI, hx, hoI⟩ := hp
  subst x
  have hW : Hid (∀ o : Obj, (w1.alloc o).heap.size = w1.heap.size + 1) := hid (fun o => alloc_size _ _)
  have hsz := hW.out (.cells #[.int .i64 (L : Nat), .slice (some ⟨g, 0, none⟩) len cap] 75)
  have q0 := (hb2.cell (p := ⟨w1.heap.size, 0, none⟩) (by simp only; omega)).trans hq0
  have q1 := (hb2.cell (p := ⟨w1.heap.size, 1, none⟩) (by simp only; omega)).trans (cell_of_row _ w1.heap.size 1 _ _ _ (heap_alloc_new w1 (.cells #[.int .i64 (L : Nat), .slice (some ⟨g, 0, none⟩) len cap] 75)))
  obtain ⟨pI, cI, eI⟩ := (LsAt.of_owns hoI).slice
  subst eI
  have hh := hid (hhn.out w2.drew)
  have HO := hid hoI
  have HB2 := hid hb2
  simp only [List.getElem?_toArray, List.getElem?_cons_zero, List.getElem?_cons_succ] at q0 q1
  have hw12 : w1.heap.size < w2.heap.size := by have := hb2.size; omega
  have KEEP : Hid (∀ w9, Below w2.drew.heap.size w2.drew w9 → w9.cell? ⟨w1.heap.size, 0, none⟩ = some (.int .i64 L) ∧ w9.cell? ⟨w1.heap.size, 1, none⟩ = some (.slice (some ⟨g, 0, none⟩) len cap)) := hid (fun w9 hb => ⟨(hb.cell (p := ⟨w1.heap.size, 0, none⟩) (show w1.heap.size < w2.heap.size from hw12)).trans q0, (hb.cell (p := ⟨w1.heap.size, 1, none⟩) (show w1.heap.size < w2.heap.size from hw12)).trans q1⟩)
  clear hhn hoI hb2 hq0
  go_wp2_with fail
  go_region_law ((go_simp; go_at_call 51; refine hh.out.mono ?_; intro x w9 hp; obtain ⟨hB9, vC, hx9, ho9⟩ := hp; subst hx9; obtain ⟨pC, cC, eC⟩ := (LsAt.of_owns ho9).slice; subst eC; obtain ⟨k0, k1⟩ := KEEP.out w9 hB9; dsimp only))
  all_goals
    have HO9 := hid ho9
    have HB9 := hid hB9
    clear ho9 hB9 k0 k1 q0 q1 KEEP hh
    go_wp2_with fail
    have hlen := HLEN.out
    have hLL := HLL.out
    subst hlen
    subst hLL
    obtain ⟨K, hK, hP⟩ := pnew_make HL.out HB.out HB2.out HO.out HB9.out HO9.out (by omega)
    refine bodyPost_ret (v := .tuple #[.pointer (some ⟨w9.heap.size, 0, none⟩), .int .i64 0]) (by simp [results, Tryd.results28, go_sem]) rfl ⟨K, by rw [hK], hP⟩
end Go.Proofs.YtdmdpindonghdabDoor
namespace Go.Proofs.YtdmdpindonghdabDoor
open Go.RowKit
theorem Touch.sub {F : Nat → Prop} {w w' : World} {B : Nat} (h : Touch F w w') (hF : ∀ k, F k → B ≤ k) (hB : B ≤ w.heap.size) : Below B w w' :=
  ⟨h.os, h.tape, h.output, h.size, fun k hk => h.block k (by omega) (fun hf => by have := hF k hf; omega)⟩
/-- The program's machine lies above B. -/
def PR (B : Nat) (W : World) (K : PK) (s : MS) : Prop := ∃ F, PX W K F s ∧ (∀ k, F k → B ≤ k) ∧ B ≤ W.heap.size
theorem PR.keep {B : Nat} {w w' : World} {K : PK} {s : MS} (h : PR B w K s) (hb : Below w.heap.size w w') : PR B w' K s := by
  obtain ⟨F, h1, h2, h3⟩ := h
  exact ⟨F, h1.below hb, h2, Nat.le_trans h3 hb.size⟩
theorem PR.size {B : Nat} {w : World} {K : PK} {s : MS} (h : PR B w K s) : B ≤ w.heap.size := by
  obtain ⟨F, h1, h2, h3⟩ := h
  exact h3
theorem PR.oc {B : Nat} {w : World} {K : PK} {s : MS} (h : PR B w K s) : w.cell? ⟨K.b, 5, none⟩ = some (.int .i64 s.oc) := by
  obtain ⟨F, ⟨vI, vO, lo4, st8, hm, _⟩, _⟩ := h
  have m5 := hm.get 5
  simpa [PK.row] using m5
theorem PR.next {B : Nat} {w w' : World} {K : PK} {F : Nat → Prop} {t : MS} (hF : ∀ k, F k → B ≤ k) (hB : B ≤ w.heap.size) (hp : PX w' K (Grown F w w') t) (ht : Touch F w w') : PR B w' K t ∧ Below B w w' := by
  refine ⟨⟨_, hp, ?_, Nat.le_trans hB ht.size⟩, ht.sub hF hB⟩
  rintro k (h | h)
  · exact hF k h
  · omega
theorem pr_step {B : Nat} {w : World} {K : PK} {E : Env} {s : MS} (h : PR B w K s) (hke : KE K E) (he : EnvOk E) (hi : MInv E s) (hoc : s.oc = 0) (hz : E.zs.length ≤ 64) (hlen : s.out.length ≤ 8796093022208) :
    Calls Tryd.prog 25 #[.pointer (some ⟨K.b, 0, none⟩)] w fun e w' => e = .returned (.tuple #[.int .i64 (stepS E s).oc, .int .i64 0]) ∧ PR B w' K (stepS E s) ∧ Below B w w' := by
  obtain ⟨F, h1, h2, h3⟩ := h
  refine (pstep_x h1 hke he hi hoc hz hlen).mono ?_
  rintro e w' ⟨a, b, c⟩
  exact ⟨a, PR.next h2 h3 b c⟩
theorem pr_coll {B : Nat} {w : World} {K : PK} {E : Env} {s : MS} (h : PR B w K s) (hke : KE K E) (he : EnvOk E) (hi : MInv E s) (n : Nat) (hn : n ≤ 1000) :
    Calls Tryd.prog 24 #[.pointer (some ⟨K.b, 0, none⟩), .int .i64 n] w fun e w' => e = .returned (.tuple #[.int .i64 (collS E n s).hs.2.1, .int .i64 0]) ∧ PR B w' K (collS E n s) ∧ Below B w w' := by
  obtain ⟨F, h1, h2, h3⟩ := h
  refine (pcollect_x h1 hke he hi n hn).mono ?_
  rintro e w' ⟨a, b, c⟩
  exact ⟨a, PR.next h2 h3 (b.mono (fun _ h => .inl h)) c⟩
/-- The units ahead of step k. -/
def preS (E : Env) (us : List Int) (k : Nat) (s : MS) : MS := if us.length = 0 then s else collS E (us.getD (k % us.length) 0).toNat s
/-- At most f steps more, k are done. -/
def runS (E : Env) (us : List Int) : Nat → Nat → MS → Nat × MS
  | 0, k, s => (k, s)
  | f + 1, k, s => if s.oc = 0 then runS E us f (k + 1) (stepS E (preS E us k s)) else (k, s)
theorem MInv.pre {E : Env} {us : List Int} {k : Nat} {s : MS} (h : MInv E s) : MInv E (preS E us k s) := by
  unfold preS
  split
  · exact h
  · exact h.coll _
theorem pre_oc (E : Env) (us : List Int) (k : Nat) (s : MS) : (preS E us k s).oc = s.oc ∧ (preS E us k s).out = s.out := by
  unfold preS
  split <;> exact ⟨rfl, rfl⟩
theorem out_le {P : Prop} [Decidable P] {a b : List Int} {n : Nat} (h1 : a.length ≤ n) (h2 : b.length ≤ n) : (if P then a else b).length ≤ n := by split <;> assumption
theorem doesS_out (E : Env) (i : Ins) (cell : Int) (s : MS) : (doesS E i cell s).out.length ≤ s.out.length + 1 := by
  have h0 : s.out.length ≤ s.out.length + 1 := by omega
  unfold doesS touchS
  simp only [apply_ite MS.out, ite_self]
  exact out_le h0 (out_le h0 (out_le h0 (out_le h0 (out_le h0 (out_le h0 (out_le h0 (out_le h0 (out_le h0 (out_le (by simp) h0)))))))))
theorem stepS_out (E : Env) (s : MS) : (stepS E s).out.length ≤ s.out.length + 1 := by
  have h0 : s.out.length ≤ s.out.length + 1 := by omega
  unfold stepS
  split
  · exact h0
  · unfold stepI goS
    simp only [apply_ite MS.out]
    exact out_le h0 (out_le h0 (out_le (out_le h0 (doesS_out _ _ _ _)) (doesS_out _ _ _ _)))
/-- Numbers in memory that lie below B. -/
def ArgB (B : Nat) (w : World) (v : Value) (zs : List Int) : Prop := ArgInts w v zs ∧ ∀ a n c, v = .slice (some a) n c → 0 < n → a.block < B
theorem ArgB.keep {B : Nat} {w w' : World} {v : Value} {zs : List Int} (h : ArgB B w v zs) (hb : Below B w w') : ArgB B w' v zs := by
  refine ⟨?_, h.2⟩
  rcases h.1 with h1 | ⟨a, cap, hv, hc, hl⟩
  · exact .inl h1
  · refine .inr ⟨a, cap, hv, fun j x hj => ?_, fun hp => Nat.lt_of_lt_of_le (hl hp) hb.size⟩
    have hz : 0 < zs.length := by have := (List.getElem?_eq_some_iff.1 hj).1; omega
    refine (hb.cell (p := a.add j) ?_).trans (hc j x hj)
    have := h.2 a _ _ hv hz
    unfold Addr.add
    split <;> exact this
theorem any_take_all (f : Int → Bool) (l : List Int) (k : Nat) (h : k < l.length) : (l.take (k + 1)).all f = ((l.take k).all f && f l[k]) := by
  rw [List.take_succ_eq_append_getElem h, List.all_append]
  simp
def fitsB (u : Int) : Bool := decide (0 ≤ u) && decide (u ≤ 1000)
set_option maxRecDepth 100000 in
set_option maxHeartbeats 1000000 in
theorem allFit_any (vu : Value) (us : List Int) (w : World) (hu : ArgInts w vu us) (hl : us.length ≤ 17592186044416) :
    Calls Tryd.prog 42 #[vu] w fun e w' => e = .returned (.bool (us.all fitsB)) ∧ w' = w := by
  have HU := hid hu
  obtain ⟨p0, c0, e0⟩ := hu.slice
  subst e0
  clear hu
  obtain ⟨bb, hbb⟩ : ∃ bb, bb = us.all fitsB := ⟨_, rfl⟩
  rw [← hbb]
  have HBB := hid hbb
  clear hbb
  go_enter Tryd.func42, Tryd.ntmps42
  go_wp2_with fail
  go_loopg [7] us.length (fun gk x w' => ∃ k : Nat, k ≤ us.length ∧ gk = us.length - k ∧ x = .int .i64 k ∧ (us.take k).all fitsB = true ∧ w = w')
  case atStart => exact ⟨0, by omega, by omega, rfl, by simp, rfl⟩
  case round =>
    obtain ⟨k, hk, hgk, rfl, hall, hw⟩ := hrel
    subst hw
    have HALL := hid hall
    clear hall
    rcases Nat.lt_or_ge k us.length with hlt | hge
    · have d0 : (0 : Int) ≤ (k : Int) := by omega
      have d1 : (k : Int) < (us.length : Int) := by omega
      have d2 : (k : Int) + 1 ≤ 17592186044416 := by omega
      rcases HU.out with ⟨_, h0⟩ | ⟨a, cap, hv, hcell, hbl⟩
      · rw [h0] at hlt; simp at hlt
      cases hv
      have y0 := hcell k us[k] (List.getElem?_eq_getElem hlt)
      have hf := hid (unitsFit_any us[k] w)
      have HN := hid (any_take_all fitsB us k hlt)
      have HB := hid (show us.all fitsB = true → fitsB us[k] = true from fun h => List.all_eq_true.1 h _ (List.getElem_mem hlt))
      obtain ⟨fb, hfb⟩ : ∃ fb, fb = (decide (0 ≤ us[k]) && decide (us[k] ≤ 1000)) := ⟨_, rfl⟩
      have HFB := hid (show fb = fitsB us[k] from hfb)
      rw [← hfb] at hf
      clear hfb hcell hbl
      generalize us[k] = u at *
      cases fb
      · go_wp2_with fail
        refine hf.out.mono ?_
        clear hf
        intro e w1 hp
        obtain ⟨hx, hw1⟩ := hp
        subst e
        subst hw1
        go_wp2_with fail
        go_ret
        refine ⟨?_, rfl⟩
        have : us.all fitsB = false := by
          cases hq : us.all fitsB with
          | false => rfl
          | true => have h1 := HB.out hq; have h2 := HFB.out; rw [h1] at h2; cases h2
        rw [HBB.out, this]
        rfl
      · go_wp2_with fail
        refine hf.out.mono ?_
        clear hf
        intro e w1 hp
        obtain ⟨hx, hw1⟩ := hp
        subst e
        subst hw1
        go_wp2_with fail
        go_roundg (us.length - (k + 1))
        case measure => omega
        case rel => exact ⟨k + 1, by omega, rfl, by go_num, by rw [HN.out, HALL.out, ← HFB.out]; rfl, rfl⟩
    · have d1 : ¬ (k : Int) < (us.length : Int) := by omega
      go_wp2_with fail
      go_ret
      refine ⟨?_, rfl⟩
      have : us.all fitsB = true := by
        have h := HALL.out
        rw [List.take_of_length_le (by omega)] at h
        exact h
      rw [HBB.out, this]
      rfl
set_option maxRecDepth 100000 in
set_option maxHeartbeats 1000000 in
theorem prun_nil {B : Nat} {K : PK} {E : Env} {s : MS} (vu : Value) (most : Nat) (w : World) (h : PR B w K s) (hke : KE K E) (he : EnvOk E) (hi : MInv E s) (hz : E.zs.length ≤ 64) (hlen : s.out.length = 0) (hu : ArgB B w vu []) (hm : most ≤ 2000) :
    Calls Tryd.prog 43 #[.pointer (some ⟨K.b, 0, none⟩), vu, .int .i64 most] w fun e w' => e = .returned (.int .i64 (runS E [] most 0 s).1) ∧ PR B w' K (runS E [] most 0 s).2 ∧ Below B w w' := by
  obtain ⟨p0, c0, e0⟩ := hu.1.slice
  subst e0
  simp only [List.length_nil]
  clear hu
  have HH := hid h
  have HI := hid hi
  clear h hi
  go_enter Tryd.func43, Tryd.ntmps43
  go_wp2_with fail
  go_loopg [7] most (fun gk x w' => ∃ (k : Nat) (t : MS), k ≤ most ∧ gk = most - k ∧ x = .int .i64 k ∧ PR B w' K t ∧ MInv E t ∧ t.out.length ≤ k ∧ Below B w w' ∧ runS E [] (most - k) k t = runS E [] most 0 s)
  case atStart => exact ⟨0, s, by omega, by omega, rfl, HH.out, HI.out, by omega, Below.refl _ _, rfl⟩
  case round =>
    obtain ⟨k, t, hk, hgk, rfl, hP, hI, ho, hB, hR⟩ := hrel
    have hoc := hP.oc
    have HP := hid hP
    have HI2 := hid hI
    have HB := hid hB
    have HR := hid hR
    clear hP hI hB hR HH HI
    rcases Nat.lt_or_ge k most with hlt | hge
    · have d1 : (k : Int) < (most : Int) := by omega
      by_cases h0 : t.oc = 0
      · rw [h0] at hoc
        have HR2 : Hid (runS E [] (most - (k + 1)) (k + 1) (stepS E (preS E [] k t)) = runS E [] most 0 s) := hid (by
          have := HR.out
          rw [show most - k = (most - (k + 1)) + 1 by omega] at this
          simp only [runS, if_pos h0] at this
          exact this)
        clear HR
        have hst := hid (fun (W : World) (hW : PR B W K (preS E [] k t)) => pr_step hW hke he HI2.out.pre ((pre_oc E [] k t).1.trans h0) hz (by rw [(pre_oc E [] k t).2]; omega))
        have hout : Hid ((stepS E (preS E [] k t)).out.length ≤ k + 1) := hid (by
          have := stepS_out E (preS E [] k t)
          rw [(pre_oc E [] k t).2] at this
          omega)
        have HI3 : Hid (MInv E (stepS E (preS E [] k t))) := hid (HI2.out.pre.step he)
        have HPr : Hid (preS E [] k t = t) := hid rfl
        have hs1 := hid (hst.out wr (by rw [HPr.out]; exact HP.out))
        clear hst HP HI2
        go_wp2_with fail
        refine hs1.out.mono ?_
        clear hs1
        intro e w2 hp
        obtain ⟨hx, hP2, hB2⟩ := hp
        subst e
        have HP2 := hid hP2
        have HB3 := hid (HB.out.trans hB2)
        clear hP2 hB2
        go_wp2_with fail
        go_roundg (most - (k + 1))
        case measure => omega
        case rel => exact ⟨k + 1, _, by omega, rfl, by go_num, HP2.out, HI3.out, hout.out, HB3.out, HR2.out⟩
      · have q0 : ((t.oc : Int) == 0) = false := by simp; omega
        go_wp2_with fail
        go_ret
        have hr := HR.out
        rw [show most - k = (most - (k + 1)) + 1 by omega] at hr
        simp only [runS, if_neg h0] at hr
        rw [← hr]
        exact ⟨rfl, HP.out, HB.out⟩
    · have d1 : ¬ (k : Int) < (most : Int) := by omega
      go_wp2_with fail
      go_ret
      have hr := HR.out
      rw [show most - k = 0 by omega] at hr
      simp only [runS] at hr
      rw [← hr]
      exact ⟨rfl, HP.out, HB.out⟩
set_option maxRecDepth 100000 in
set_option maxHeartbeats 1000000 in
theorem prun_some {B : Nat} {K : PK} {E : Env} {s : MS} (vu : Value) (us : List Int) (most : Nat) (w : World) (h : PR B w K s) (hke : KE K E) (he : EnvOk E) (hi : MInv E s) (hz : E.zs.length ≤ 64) (hlen : s.out.length = 0) (hu : ArgB B w vu us) (hl : us.length ≤ 17592186044416) (hf : us.all fitsB = true) (hu0 : 0 < us.length) (hm : most ≤ 2000) :
    Calls Tryd.prog 43 #[.pointer (some ⟨K.b, 0, none⟩), vu, .int .i64 most] w fun e w' => e = .returned (.int .i64 (runS E us most 0 s).1) ∧ PR B w' K (runS E us most 0 s).2 ∧ Below B w w' := by
  obtain ⟨p0, c0, e0⟩ := hu.1.slice
  subst e0
  have HU := hid hu
  have HF := hid hf
  clear hu hf
  have HH := hid h
  have HI := hid hi
  clear h hi
  go_enter Tryd.func43, Tryd.ntmps43
  go_wp2_with fail
  go_loopg [7] most (fun gk x w' => ∃ (k : Nat) (t : MS), k ≤ most ∧ gk = most - k ∧ x = .int .i64 k ∧ PR B w' K t ∧ MInv E t ∧ t.out.length ≤ k ∧ Below B w w' ∧ runS E us (most - k) k t = runS E us most 0 s)
  case atStart => exact ⟨0, s, by omega, by omega, rfl, HH.out, HI.out, by omega, Below.refl _ _, rfl⟩
  case round =>
    obtain ⟨k, t, hk, hgk, rfl, hP, hI, ho, hB, hR⟩ := hrel
    have hoc := hP.oc
    have HP := hid hP
    have HI2 := hid hI
    have HB := hid hB
    have HR := hid hR
    clear hP hI hB hR HH HI
    rcases Nat.lt_or_ge k most with hlt | hge
    · have d1 : (k : Int) < (most : Int) := by omega
      by_cases h0 : t.oc = 0
      · rw [h0] at hoc
        have HR2 : Hid (runS E us (most - (k + 1)) (k + 1) (stepS E (preS E us k t)) = runS E us most 0 s) := hid (by
          have := HR.out
          rw [show most - k = (most - (k + 1)) + 1 by omega] at this
          simp only [runS, if_pos h0] at this
          exact this)
        clear HR
        have hst := hid (fun (W : World) (hW : PR B W K (preS E us k t)) => pr_step hW hke he HI2.out.pre ((pre_oc E us k t).1.trans h0) hz (by rw [(pre_oc E us k t).2]; omega))
        have hout : Hid ((stepS E (preS E us k t)).out.length ≤ k + 1) := hid (by
          have := stepS_out E (preS E us k t)
          rw [(pre_oc E us k t).2] at this
          omega)
        have HI3 : Hid (MInv E (stepS E (preS E us k t))) := hid (HI2.out.pre.step he)
        obtain ⟨m, hm0⟩ : ∃ m, m = k % us.length := ⟨_, rfl⟩
        have hml : m < us.length := by rw [hm0]; exact Nat.mod_lt _ hu0
        have hmod : (k : Int) % (us.length : Int) = (m : Int) := by rw [hm0]; rfl
        have d3 : (0 : Int) ≤ (m : Int) := by omega
        have d4 : (m : Int) < (us.length : Int) := by omega
        have q0 : (0 : Int) < (us.length : Int) := by omega
        have hub := HU.out.keep HB.out
        rcases hub.1 with ⟨_, hn⟩ | ⟨a, cap, hv, hcell, _⟩
        · rw [hn] at hu0; simp at hu0
        cases hv
        have y0 := hcell m us[m] (List.getElem?_eq_getElem hml)
        have hfit := List.all_eq_true.1 HF.out us[m] (List.getElem_mem hml)
        unfold fitsB at hfit
        simp only [Bool.and_eq_true, decide_eq_true_eq] at hfit
        obtain ⟨u, hu⟩ : ∃ u : Nat, us[m] = (u : Int) := ⟨us[m].toNat, by omega⟩
        rw [hu] at y0 hfit
        have HPr : Hid (preS E us k t = collS E u t) := hid (by
          unfold preS
          rw [if_neg (by omega), ← hm0, List.getD_eq_getElem?_getD, List.getElem?_eq_getElem hml]
          simp [hu])
        have hcl := hid (pr_coll HP.out hke he HI2.out u (by omega))
        clear hcell hub hu hfit hm0 HP HI2
        go_wp2_with fail
        refine hcl.out.mono ?_
        clear hcl
        intro e w1 hp
        obtain ⟨hx, hP1, hB1⟩ := hp
        subst e
        have hs1 := hid (hst.out w1 (by rw [HPr.out]; exact hP1))
        have HB2 := hid (HB.out.trans hB1)
        clear hst hP1 hB1 HB hoc y0
        go_wp2_with fail
        refine hs1.out.mono ?_
        clear hs1
        intro e w2 hp
        obtain ⟨hx, hP2, hB2⟩ := hp
        subst e
        have HP2 := hid hP2
        have HB3 := hid (HB2.out.trans hB2)
        clear hP2 hB2
        go_wp2_with fail
        go_roundg (most - (k + 1))
        case measure => omega
        case rel => exact ⟨k + 1, _, by omega, rfl, by go_num, HP2.out, HI3.out, hout.out, HB3.out, HR2.out⟩
      · have q0 : ((t.oc : Int) == 0) = false := by simp; omega
        go_wp2_with fail
        go_ret
        have hr := HR.out
        rw [show most - k = (most - (k + 1)) + 1 by omega] at hr
        simp only [runS, if_neg h0] at hr
        rw [← hr]
        exact ⟨rfl, HP.out, HB.out⟩
    · have d1 : ¬ (k : Int) < (most : Int) := by omega
      go_wp2_with fail
      go_ret
      have hr := HR.out
      rw [show most - k = 0 by omega] at hr
      simp only [runS] at hr
      rw [← hr]
      exact ⟨rfl, HP.out, HB.out⟩
end Go.Proofs.YtdmdpindonghdabDoor
