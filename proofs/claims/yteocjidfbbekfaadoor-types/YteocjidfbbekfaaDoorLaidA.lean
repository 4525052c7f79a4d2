/- What the five listed variables hold, as the walks take it. -/
import Derived.Test.YteocjidfbbekfaaDoorFlowC
import Derived.ProofKit
import Derived.OpenShut
import Derived.Lay
import Derived.SevenTiedAt
import Derived.Stop.Joined
namespace Go.Proofs.YteocjidfbbekfaaDoor
open Go.ChangeShapes Go.WideShapes Go.ChangeAt Go.ChangeMaps Go.RowKit

theorem knobs : ownKnob Tryd.prog.godebug = none := by kernel_rfl
theorem arr_cell {α : Type} {cs : List α} {r : Nat} {v : α} (h : (cs.drop r).take 1 = [v]) : cs[r]? = some v := by
  have h0 : ((cs.drop r).take 1)[0]? = some v := by rw [h]; rfl
  simpa using h0
theorem arr_strings {W : World} {g : Nat} {name : String} {cs : Array Value} {fuel : Nat} {p : List MemPlace} {l : List (List UInt8)} {sp : Nat → Bool} {hd : Bool} {b : Nat} {enc : TypeId × Value → Unit}
    (hg : Tryd.prog.globalNamed name = some g) (hv : W.var? Tryd.prog name = some cs) (hl : l.length = 25)
    (h : DataW.trod enc Tryd.prog W b sp hd fuel 83 cs.toList = some (.agg (l.map fun x => .lit (.string x)), p)) (k : Nat) (hk : k < 25) : W.cell? ⟨g, k, none⟩ = some (.string ⟨(l.getD k []).toArray⟩) := by
  obtain ⟨xs, m, _, ex, _, hlx, hel⟩ := DataW.trod_array Tryd.underlying83 h
  have c9 : Tryd.prog.cellsOf 9 = 1 := by kernel_rfl
  have hE := hel k hk
  rw [c9, Nat.mul_one, List.getElem?_eq_getElem (by omega)] at hE
  obtain ⟨z, e1, e2, _⟩ := DataW.trod_string Tryd.underlying9 hE
  have e3 : (xs.map (·.1)) = l.map fun x => .lit (.string x) := (DataW.agg.inj (Prod.mk.inj ex).1).symm
  have e4 : (xs.map (·.1))[k]? = (l.map fun x => (DataW.lit (.string x) : DataW Unit))[k]? := by rw [e3]
  rw [List.getElem?_map, List.getElem?_map, List.getElem?_eq_getElem (by omega : k < xs.length), List.getElem?_eq_getElem (by omega : k < l.length), e2] at e4
  have hz : z.data.toList = l.getD k [] := by
    simp only [Option.map_some, Option.some.injEq, DataW.lit.injEq, Lit.string.injEq] at e4
    rw [e4, List.getD, List.getElem?_eq_getElem (by omega : k < l.length)]; rfl
  rw [World.var?_cell hg hv k, ← hz]
  simpa using arr_cell e1
theorem arr_bools {W : World} {g : Nat} {name : String} {cs : Array Value} {fuel : Nat} {p : List MemPlace} {l : List Bool} {sp : Nat → Bool} {hd : Bool} {b : Nat} {enc : TypeId × Value → Unit}
    (hg : Tryd.prog.globalNamed name = some g) (hv : W.var? Tryd.prog name = some cs) (hl : l.length = 25)
    (h : DataW.trod enc Tryd.prog W b sp hd fuel 82 cs.toList = some (.agg (l.map fun x => .lit (.bool x)), p)) (k : Nat) (hk : k < 25) : W.cell? ⟨g, k, none⟩ = some (.bool (l.getD k false)) := by
  obtain ⟨xs, m, _, ex, _, hlx, hel⟩ := DataW.trod_array Tryd.underlying82 h
  have c9 : Tryd.prog.cellsOf 4 = 1 := by kernel_rfl
  have hE := hel k hk
  rw [c9, Nat.mul_one, List.getElem?_eq_getElem (by omega)] at hE
  obtain ⟨z, e1, e2⟩ := DataW.trod_bool Tryd.underlying4 hE
  have e3 : (xs.map (·.1)) = l.map fun x => .lit (.bool x) := (DataW.agg.inj (Prod.mk.inj ex).1).symm
  have e4 : (xs.map (·.1))[k]? = (l.map fun x => (DataW.lit (.bool x) : DataW Unit))[k]? := by rw [e3]
  rw [List.getElem?_map, List.getElem?_map, List.getElem?_eq_getElem (by omega : k < xs.length), List.getElem?_eq_getElem (by omega : k < l.length), e2] at e4
  have hz : z = l.getD k false := by
    simp only [Option.map_some, Option.some.injEq, DataW.lit.injEq, Lit.bool.injEq] at e4
    rw [e4, List.getD, List.getElem?_eq_getElem (by omega : k < l.length)]; rfl
  rw [World.var?_cell hg hv k, ← hz]
  simpa using arr_cell e1

def popsAll : List (List UInt8) := (List.range 25).map popsL
def pushesAll : List (List UInt8) := (List.range 25).map pushesL
def takesAll : List Bool := (List.range 25).map takesB
theorem popsAll_get {k : Nat} (h : k < 25) : popsAll.getD k [] = popsL k := by simp [popsAll, List.getD_eq_getElem?_getD, h]
theorem pushesAll_get {k : Nat} (h : k < 25) : pushesAll.getD k [] = pushesL k := by simp [pushesAll, List.getD_eq_getElem?_getD, h]
theorem takesAll_get {k : Nat} (h : k < 25) : takesAll.getD k false = takesB k := by simp [takesAll, List.getD_eq_getElem?_getD, h]
theorem e1 : (Rows.laid_tint_flow_pops : DataW Unit) = .agg (popsAll.map fun x => .lit (.string x)) := by kernel_rfl
theorem e2 : (Rows.laid_tint_flow_pushes : DataW Unit) = .agg (pushesAll.map fun x => .lit (.string x)) := by kernel_rfl
theorem e3 : (Rows.laid_tint_tintref_pops : DataW Unit) = .agg (popsAll.map fun x => .lit (.string x)) := by kernel_rfl
theorem e4 : (Rows.laid_tint_tintref_pushes : DataW Unit) = .agg (pushesAll.map fun x => .lit (.string x)) := by kernel_rfl
theorem e5 : (Rows.laid_tint_tintref_takes : DataW Unit) = .agg (takesAll.map fun x => .lit (.bool x)) := by kernel_rfl

theorem tabs_of_laid {W : World} (h : laidMetH Tryd.prog [("tint/flow.pops", Rows.laid_tint_flow_pops), ("tint/flow.pushes", Rows.laid_tint_flow_pushes), ("tint/tintref.pops", Rows.laid_tint_tintref_pops), ("tint/tintref.pushes", Rows.laid_tint_tintref_pushes), ("tint/tintref.takes", Rows.laid_tint_tintref_takes)] W) : FlowTab W ∧ TakesTab W ∧ TypeTab W := by
  rw [MakeChecks.laidMetH_plain _ _ _ (by kernel_rfl)] at h
  obtain ⟨ps, ⟨g0, t0, cs0, f0, p0, q0, hg0, ht0, hv0, hd0, ⟨g1, t1, cs1, f1, p1, q1, hg1, ht1, hv1, hd1, ⟨g2, t2, cs2, f2, p2, q2, hg2, ht2, hv2, hd2, ⟨g3, t3, cs3, f3, p3, q3, hg3, ht3, hv3, hd3, ⟨g4, t4, cs4, f4, p4, q4, hg4, ht4, hv4, hd4, _, _⟩, _⟩, _⟩, _⟩, _⟩, _, _⟩ := h
  obtain rfl := Option.some.inj ((show Tryd.prog.globalNamed "tint/flow.pops" = some 3 by kernel_rfl).symm.trans hg0)
  obtain rfl := Option.some.inj ((show Tryd.prog.globalNamed "tint/flow.pushes" = some 4 by kernel_rfl).symm.trans hg1)
  obtain rfl := Option.some.inj ((show Tryd.prog.globalNamed "tint/tintref.pops" = some 1 by kernel_rfl).symm.trans hg2)
  obtain rfl := Option.some.inj ((show Tryd.prog.globalNamed "tint/tintref.pushes" = some 2 by kernel_rfl).symm.trans hg3)
  obtain rfl := Option.some.inj ((show Tryd.prog.globalNamed "tint/tintref.takes" = some 0 by kernel_rfl).symm.trans hg4)
  obtain rfl := Option.some.inj ((show (Tryd.prog.globals[3]?).map (·.type) = some 83 by kernel_rfl).symm.trans ht0)
  obtain rfl := Option.some.inj ((show (Tryd.prog.globals[4]?).map (·.type) = some 83 by kernel_rfl).symm.trans ht1)
  obtain rfl := Option.some.inj ((show (Tryd.prog.globals[1]?).map (·.type) = some 83 by kernel_rfl).symm.trans ht2)
  obtain rfl := Option.some.inj ((show (Tryd.prog.globals[2]?).map (·.type) = some 83 by kernel_rfl).symm.trans ht3)
  obtain rfl := Option.some.inj ((show (Tryd.prog.globals[0]?).map (·.type) = some 82 by kernel_rfl).symm.trans ht4)
  rw [e1] at hd0
  rw [e2] at hd1
  rw [e3] at hd2
  rw [e4] at hd3
  rw [e5] at hd4
  refine ⟨fun k hk => ⟨?_, ?_⟩, fun k hk => ?_, fun k hk => ⟨?_, ?_⟩⟩
  · rw [arr_strings hg0 hv0 rfl hd0 k hk, popsAll_get hk]; rfl
  · rw [arr_strings hg1 hv1 rfl hd1 k hk, pushesAll_get hk]; rfl
  · rw [arr_bools hg4 hv4 rfl hd4 k hk, takesAll_get hk]
  · rw [arr_strings hg2 hv2 rfl hd2 k hk, popsAll_get hk]; rfl
  · rw [arr_strings hg3 hv3 rfl hd3 k hk, pushesAll_get hk]; rfl
end Go.Proofs.YteocjidfbbekfaaDoor
