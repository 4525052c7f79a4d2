/- What the proofs of these statements stand on, part 5: PhA, HpK, MchA, MchB, MchC, MchD, MchE, MchF, TypH, MsB, MsC, MsD, MsE, PmD, PmE, PhB, PhC, PhD, PhE, PhF, PhG, PhH, PhI, PmF. -/
import Derived.Test.YtdmdpindonghdaaGreatDoorAll4
set_option maxHeartbeats 4000000
set_option maxRecDepth 100000
namespace Go.Proofs.YtdmdpindonghdaaGreatDoor
open Go.RowKit
def colL (cs : List Cl) (k : Nat) : Nat := ((cs[k]?).map Cl.col).getD 9
def hasL (cs : List Cl) (r : Int) (k : Nat) : Bool := decide (0 ≤ r) && (decide (r < (cs.length : Int)) && colL cs r.toNat == k)
def paintL (k : Nat) (c : Cl) : Cl := { c with col := k }
def shadeL (cs : List Cl) (r : Int) : List Cl := if hasL cs r 1 = true then cs.modify r.toNat (paintL 2) else cs
def shadesL (cs : List Cl) : List Int → List Cl
  | [] => cs
  | r :: rs => shadesL (shadeL cs r) rs
def firstL (p : Cl → Bool) : List Cl → Nat → Int
  | [], _ => -1
  | c :: r, k => if p c = true then (k : Int) else firstL p r (k + 1)
def greyL (cs : List Cl) : Int := firstL (fun c => c.col == 2) cs 0
def zeroL : Cl := ⟨0, false, 0, 0, 0⟩
def blackL (cs : List Cl) (g : Nat) : List Cl := (if (cs.getD g zeroL).weak = true then cs else shadeL (shadeL cs (cs.getD g zeroL).a) (cs.getD g zeroL).b).modify g (paintL 3)
def fgL (cs : List Cl) (c : Cl) : Cl := if (c.weak && hasL cs c.a 1) = true then { c with a := -1 } else c
def forgetL (cs : List Cl) : List Cl := cs.map (fgL cs)
def blankL : Cl := ⟨0, false, -1, -1, 0⟩
def sweepL (cs : List Cl) (hd : Nat) : List Cl := if hasL cs hd 1 = true then cs.set hd blankL else if hasL cs hd 3 = true then cs.modify hd (paintL 1) else cs
def unitL (cs : List Cl) (ph hd : Nat) (rs : List Int) : List Cl × Nat × Nat :=
  if ph = 0 then (shadesL cs rs, 1, hd)
  else if ph = 2 then (if cs.length ≤ hd + 1 then (sweepL cs hd, 0, 0) else (sweepL cs hd, 2, hd + 1))
  else if 0 ≤ greyL cs then (blackL cs (greyL cs).toNat, ph, hd)
  else if greyL (shadesL cs rs) < 0 then (forgetL (shadesL cs rs), 2, 0) else (shadesL cs rs, ph, hd)
theorem shadeL_len (cs : List Cl) (r : Int) : (shadeL cs r).length = cs.length := by unfold shadeL; split <;> simp
theorem shadesL_len : ∀ (rs : List Int) (cs : List Cl), (shadesL cs rs).length = cs.length
  | [], _ => rfl
  | r :: rs, cs => by simp only [shadesL]; rw [shadesL_len rs, shadeL_len]
theorem shadesL_snoc : ∀ (rs : List Int) (cs : List Cl) (r : Int), shadesL cs (rs ++ [r]) = shadeL (shadesL cs rs) r
  | [], _, _ => rfl
  | x :: xs, cs, r => shadesL_snoc xs (shadeL cs x) r
theorem colL_get {cs : List Cl} {k : Nat} (h : k < cs.length) : colL cs k = cs[k].col := by simp [colL, List.getElem?_eq_getElem h]
theorem modify_setL {cs : List Cl} {k : Nat} (h : k < cs.length) (f : Cl → Cl) : cs.modify k f = cs.set k (f cs[k]) := by
  induction cs generalizing k with
  | nil => simp at h
  | cons a r ih =>
    cases k with
    | zero => rfl
    | succ k =>
      have := ih (k := k) (by simpa using h)
      simp only [List.modify_succ_cons, List.set_cons_succ, List.getElem_cons_succ]
      rw [this]
theorem colL_told {cs : List RC} {k : Nat} (h : k < cs.length) : colL (cs.map toldC) k = colR cs[k] := by
  rw [colL_get (by simpa using h), List.getElem_map]; rfl
theorem hasL_in {cs : List RC} {r k : Nat} (h : r < cs.length) : hasL (cs.map toldC) r k = (colR cs[r] == k) := by
  unfold hasL
  rw [List.length_map, Int.toNat_natCast, colL_told h, decide_eq_true (by omega), decide_eq_true (by omega)]
  simp
theorem hasL_neg {cs : List Cl} {r : Int} {k : Nat} (h : r < 0) : hasL cs r k = false := by
  unfold hasL; rw [decide_eq_false (by omega)]; simp
theorem hasL_out {cs : List Cl} {r : Int} {k : Nat} (h : (cs.length : Int) ≤ r) : hasL cs r k = false := by
  unfold hasL; rw [decide_eq_false (p := r < (cs.length : Int)) (by omega)]; simp
theorem set_self {α : Type} {cs : List α} {k : Nat} (h : k < cs.length) : cs.set k cs[k] = cs := by
  apply List.ext_getElem?
  intro j
  rw [List.getElem?_set]
  split
  · rename_i e; subst e; simp [h]
  · rfl
theorem told_mark (c : RC) : toldC (markC c) = if colR c = 1 then paintL 2 (toldC c) else toldC c := by
  obtain ⟨u, r, k, wk, a, b, n⟩ := c
  cases u <;> cases r <;> cases k <;> simp [toldC, markC, colR, paintL]
theorem told_shade (cs : List RC) (r : Int) : shadeL (cs.map toldC) r = (if 0 ≤ r then cs.modify r.toNat markC else cs).map toldC := by
  by_cases h0 : 0 ≤ r
  · rw [if_pos h0]
    obtain ⟨q, rfl⟩ : ∃ q : Nat, r = (q : Int) := ⟨r.toNat, by omega⟩
    rw [Int.toNat_natCast]
    by_cases hq : q < cs.length
    · have hq' : q < (cs.map toldC).length := by simpa using hq
      rw [modify_set hq, List.map_set, told_mark]
      unfold shadeL
      rw [hasL_in hq, Int.toNat_natCast]
      by_cases h1 : colR cs[q] = 1
      · rw [if_pos (by simpa using h1), if_pos h1, modify_setL hq', List.getElem_map]
      · rw [if_neg (by simpa using h1), if_neg h1]
        have := set_self hq'
        rw [List.getElem_map] at this
        exact this.symm
    · rw [List.modify_eq_self (by omega)]
      unfold shadeL
      rw [hasL_out (by simp; omega), if_neg (by simp)]
  · rw [if_neg h0]
    unfold shadeL
    rw [hasL_neg (by omega), if_neg (by simp)]
theorem told_shades : ∀ (rs : List Int) (cs : List RC), shadesL (cs.map toldC) rs = (reachC cs rs).map toldC
  | [], _ => rfl
  | r :: rs, cs => by
    simp only [shadesL, reachC]
    rw [told_shade, told_shades rs]
theorem told_first (p : Cl → Bool) : ∀ (cs : List RC) (k : Nat), firstL p (cs.map toldC) k = firstP (fun c => p (toldC c)) cs k
  | [], _ => rfl
  | c :: r, k => by
    simp only [List.map_cons, firstL, firstP]
    rw [told_first p r (k + 1)]
theorem told_grey (cs : List RC) : greyL (cs.map toldC) = greyC cs := told_first _ cs 0
theorem shade_comm {T : List Cl} {g : Nat} {r : Int} (hg : g < T.length) (h1 : T[g].col ≠ 1) : shadeL (T.modify g (paintL 3)) r = (shadeL T r).modify g (paintL 3) := by
  by_cases h0 : 0 ≤ r
  · obtain ⟨q, rfl⟩ : ∃ q : Nat, r = (q : Int) := ⟨r.toNat, by omega⟩
    by_cases hq : q < T.length
    · by_cases e : q = g
      · subst e
        have a1 : hasL T (q : Int) 1 = false := by
          unfold hasL; rw [Int.toNat_natCast, colL_get hq]; simp [h1]
        have a2 : hasL (T.modify q (paintL 3)) (q : Int) 1 = false := by
          unfold hasL; rw [Int.toNat_natCast, colL_get (by simpa using hq)]; simp [paintL]
        unfold shadeL
        rw [a1, a2]; simp
      · have a1 : hasL (T.modify g (paintL 3)) (q : Int) 1 = hasL T (q : Int) 1 := by
          unfold hasL
          rw [Int.toNat_natCast, colL_get hq, colL_get (by simpa using hq)]
          simp [Ne.symm e]
        unfold shadeL
        rw [a1]
        split
        · rw [Int.toNat_natCast]
          apply List.ext_getElem?
          intro j
          simp only [List.getElem?_modify]
          by_cases j1 : g = j
          · subst j1; simp [e]
          · simp [j1]
        · rfl
    · unfold shadeL
      rw [hasL_out (by simp; omega), hasL_out (by omega)]; simp
  · unfold shadeL
    rw [hasL_neg (by omega), hasL_neg (by omega)]; simp
theorem shade_col {T : List Cl} {g : Nat} {r : Int} (hg : g < T.length) (h1 : T[g].col ≠ 1) : (shadeL T r)[g]'(by rw [shadeL_len]; exact hg) = T[g] := by
  unfold shadeL
  split
  · rename_i h
    by_cases e : r.toNat = g
    · exfalso
      subst e
      unfold hasL at h
      rw [colL_get hg] at h
      simp [h1] at h
    · simp [e]
  · rfl
theorem told_look (c : RC) (h : colR c = 2) : toldC (lookC c) = paintL 3 (toldC c) := by
  obtain ⟨u, r, k, wk, a, b, n⟩ := c
  revert h
  cases u <;> cases r <;> cases k <;> simp [toldC, lookC, colR, paintL]
theorem told_black {cs : List RC} {g : Nat} (hg : g < cs.length) (h2 : colR cs[g] = 2) : blackL (cs.map toldC) g = (markStep cs g).map toldC := by
  have hT : g < (cs.map toldC).length := by simpa using hg
  have e1 : (cs.map toldC).getD g zeroL = toldC cs[g] := by
    rw [List.getD_eq_getElem?_getD, List.getElem?_eq_getElem hT, List.getElem_map]; rfl
  have e2 : cs.getD g ⟨false, false, false, false, 0, 0, 0⟩ = cs[g] := by
    rw [List.getD_eq_getElem?_getD, List.getElem?_eq_getElem hg]; rfl
  have e3 : (cs.modify g lookC).map toldC = (cs.map toldC).modify g (paintL 3) := by
    rw [modify_set hg, List.map_set, told_look _ h2, modify_setL hT, List.getElem_map]
  have hc : (cs.map toldC)[g].col ≠ 1 := by rw [List.getElem_map]; show colR cs[g] ≠ 1; omega
  unfold blackL markStep
  rw [e1, e2]
  show (if cs[g].weak = true then _ else shadeL (shadeL _ cs[g].a) cs[g].b).modify g _ = _
  by_cases hw : cs[g].weak = true
  · rw [if_pos hw, if_pos hw, e3]
  · rw [if_neg hw, if_neg hw, ← told_shades, e3]
    simp only [shadesL]
    rw [shade_comm hT hc, shade_comm (by rw [shadeL_len]; exact hT) (by rw [shade_col hT hc]; exact hc)]
/-- What holds of each cell, besides; no cell is grey in the phase Sweep. -/
structure CellOk (c : RC) : Prop where
  free : c.used = false → c.weak = false
  lowA : -1 ≤ c.a
  lowB : -1 ≤ c.b
  weak : c.weak = true → c.b = -1 ∧ c.num = 0
structure HpX (cs : List RC) (ph : Nat) : Prop where
  cell : ∀ c ∈ cs, CellOk c
  nogrey : ph = 2 → ∀ c ∈ cs, colR c ≠ 2
theorem CellOk.mark {c : RC} (h : CellOk c) : CellOk (markC c) := ⟨h.free, h.lowA, h.lowB, h.weak⟩
theorem CellOk.look {c : RC} (h : CellOk c) : CellOk (lookC c) := ⟨h.free, h.lowA, h.lowB, h.weak⟩
theorem CellOk.wipe {c : RC} (h : CellOk c) : CellOk (wipeC c) := ⟨h.free, h.lowA, h.lowB, h.weak⟩
theorem CellOk.blank : CellOk ⟨false, false, false, false, -1, -1, 0⟩ := ⟨fun _ => rfl, by simp, by simp, fun h => by (cases h)⟩
theorem CellOk.fg {cs : List RC} {c : RC} (h : CellOk c) : CellOk (fgC cs c) := by
  unfold fgC
  split
  · exact ⟨h.free, by simp, h.lowB, h.weak⟩
  · exact h
theorem told_fg {cs : List RC} {c : RC} (h : CellOk c) (ha : c.a < (cs.length : Int)) : fgL (cs.map toldC) (toldC c) = toldC (fgC cs c) := by
  have e : (c.weak && hasL (cs.map toldC) c.a 1) = fgB cs c := by
    unfold fgB
    cases hw : c.weak
    · simp
    · have hu : c.used = true := by
        cases hx : c.used
        · exact absurd hw (by rw [h.free hx]; simp)
        · rfl
      by_cases h0 : 0 ≤ c.a
      · obtain ⟨q, hq⟩ : ∃ q : Nat, c.a = (q : Int) := ⟨c.a.toNat, by omega⟩
        rw [hq] at ha ⊢
        have hql : q < cs.length := by omega
        rw [hasL_in hql]
        simp [hu, hql]
      · rw [hasL_neg (by omega)]
        simp [hu, h0]
  unfold fgL fgC
  show (if (c.weak && hasL (cs.map toldC) c.a 1) = true then _ else _) = _
  rw [e]
  split
  · rfl
  · rfl
theorem told_forget {cs : List RC} (h : ∀ c ∈ cs, CellOk c) (ha : ∀ c ∈ cs, c.a < (cs.length : Int)) : forgetL (cs.map toldC) = (forgetC cs).map toldC := by
  unfold forgetL forgetC
  rw [List.map_map, List.map_map]
  apply List.map_congr_left
  intro c hc
  exact told_fg (h c hc) (ha c hc)
theorem told_sweep {cs : List RC} {hd : Nat} (hh : hd < cs.length) (h2 : colR cs[hd] ≠ 2) : sweepL (cs.map toldC) hd = (sweepC cs hd).map toldC := by
  have hT : hd < (cs.map toldC).length := by simpa using hh
  have e2 : cs.getD hd ⟨false, false, false, false, 0, 0, 0⟩ = cs[hd] := by
    rw [List.getD_eq_getElem?_getD, List.getElem?_eq_getElem hh]; rfl
  unfold sweepL sweepC
  rw [hasL_in hh, hasL_in hh, e2]
  by_cases h1 : colR cs[hd] = 1
  · rw [if_pos (by simpa using h1), if_pos h1, List.map_set]; rfl
  · rw [if_neg (by simpa using h1), if_neg h1, modify_set hh, List.map_set, modify_setL hT, List.getElem_map]
    have hw : toldC (wipeC cs[hd]) = if colR cs[hd] = 3 then paintL 1 (toldC cs[hd]) else toldC cs[hd] := by
      generalize cs[hd] = c at *
      obtain ⟨u, r, k, wk, a, b, n⟩ := c
      revert h1 h2
      cases u <;> cases r <;> cases k <;> simp [toldC, wipeC, colR, paintL]
    rw [hw]
    by_cases h3 : colR cs[hd] = 3
    · rw [if_pos (by simpa using h3), if_pos h3]
    · rw [if_neg (by simpa using h3), if_neg h3]
      have := set_self hT
      rw [List.getElem_map] at this
      exact this.symm
theorem greyC_at {cs : List RC} (h : 0 ≤ greyC cs) : ∃ hg : (greyC cs).toNat < cs.length, colR cs[(greyC cs).toNat] = 2 := by
  rcases firstP_spec (fun c => colR c == 2) cs 0 with e | ⟨j, hj, e, hq⟩
  · unfold greyC at h; omega
  · have e' : greyC cs = (j : Int) := by unfold greyC; rw [e]; simp
    have : (greyC cs).toNat = j := by omega
    refine ⟨by omega, ?_⟩
    simp only [this]
    simpa using hq
theorem told_unit {cs : List RC} {ph hd : Nat} (ho : HpOk cs ph hd) (hx : HpX cs ph) (rs : List Int) : unitL (cs.map toldC) ph hd rs = ((unitC cs ph hd rs).1.map toldC, (unitC cs ph hd rs).2.1, (unitC cs ph hd rs).2.2) := by
  unfold unitL unitC
  by_cases h0 : ph = 0
  · rw [if_pos h0, if_pos h0, told_shades]
  rw [if_neg h0, if_neg h0]
  by_cases h2 : ph = 2
  · have hh := ho.hand h2
    rw [if_pos h2, if_pos h2, told_sweep hh (hx.nogrey h2 _ (List.getElem_mem hh)), List.length_map]
    by_cases he : hd + 1 = cs.length
    · rw [if_pos he, if_pos (by omega)]
    · rw [if_neg he, if_neg (by omega)]
  rw [if_neg h2, if_neg h2, told_grey, told_shades, told_grey]
  by_cases hg : 0 ≤ greyC cs
  · obtain ⟨hgl, hg2⟩ := greyC_at hg
    rw [if_pos hg, if_pos hg, told_black hgl hg2]
  rw [if_neg hg, if_neg hg]
  split
  · rw [told_forget]
    · rw [ho.nohand h2]
    · exact reachC_a (P := CellOk) (fun _ h => h.mark) rs cs hx.cell
    · rw [reachC_len]
      exact reachC_a (P := fun c => c.a < (cs.length : Int)) (fun _ h => h) rs cs (fun c hc => (ho.refs c hc).1)
  · rfl
theorem firstP_none {p : RC → Bool} : ∀ (cs : List RC) (k : Nat), firstP p cs k < 0 → ∀ c ∈ cs, p c = false
  | [], _, _, c, hc => by simp at hc
  | a :: r, k, h, c, hc => by
    simp only [firstP] at h
    by_cases hp : p a = true
    · rw [if_pos hp] at h; omega
    · rw [if_neg hp] at h
      rcases List.mem_cons.1 hc with rfl | hc
      · simpa using hp
      · exact firstP_none r (k + 1) h c hc
theorem unitC_cell {cs : List RC} (ph hd : Nat) (rs : List Int) (h : ∀ c ∈ cs, CellOk c) : ∀ c ∈ (unitC cs ph hd rs).1, CellOk c := by
  have hr : ∀ (l : List RC) (rs : List Int), (∀ c ∈ l, CellOk c) → ∀ c ∈ reachC l rs, CellOk c := fun l rs hl => reachC_a (P := CellOk) (fun _ h => h.mark) rs l hl
  unfold unitC
  split
  · exact hr _ _ h
  split
  · have hs : ∀ c ∈ sweepC cs hd, CellOk c := by
      unfold sweepC
      split
      · intro c hc
        rcases List.mem_or_eq_of_mem_set hc with h1 | h1
        · exact h c h1
        · rw [h1]; exact .blank
      · exact modify_mem (P := CellOk) (f := wipeC) (fun _ h => h.wipe) h
    split <;> exact hs
  split
  · show ∀ c ∈ markStep cs _, _
    unfold markStep
    have hm : ∀ g, ∀ c ∈ cs.modify g lookC, CellOk c := fun g => modify_mem (P := CellOk) (f := lookC) (fun _ h => h.look) h
    split
    · exact hm _
    · exact hr _ _ (hm _)
  split
  · show ∀ c ∈ forgetC _, _
    intro c hc
    unfold forgetC at hc
    obtain ⟨d, hd', rfl⟩ := List.mem_map.1 hc
    exact (hr _ _ h d hd').fg
  · exact hr _ _ h
theorem wipe_col (c : RC) : colR (wipeC c) ≠ 2 := by
  obtain ⟨u, r, k, wk, a, b, n⟩ := c
  cases u <;> simp [wipeC, colR]
theorem HpX.unit {cs : List RC} {ph hd : Nat} (hx : HpX cs ph) (rs : List Int) : HpX (unitC cs ph hd rs).1 (unitC cs ph hd rs).2.1 := by
  refine ⟨unitC_cell ph hd rs hx.cell, ?_⟩
  intro e
  unfold unitC at e ⊢
  by_cases h0 : ph = 0
  · rw [if_pos h0] at e; simp at e
  rw [if_neg h0] at e ⊢
  by_cases h2 : ph = 2
  · rw [if_pos h2] at e ⊢
    have hn := hx.nogrey h2
    have hs : ∀ c ∈ sweepC cs hd, colR c ≠ 2 := by
      unfold sweepC
      split
      · intro c hc
        rcases List.mem_or_eq_of_mem_set hc with h1 | h1
        · exact hn c h1
        · rw [h1]; simp [colR]
      · intro c hc
        by_cases hl : hd < cs.length
        · rw [modify_set hl] at hc
          rcases List.mem_or_eq_of_mem_set hc with h1 | h1
          · exact hn c h1
          · rw [h1]; exact wipe_col _
        · rw [List.modify_eq_self (by omega)] at hc
          exact hn c hc
    split <;> exact hs
  rw [if_neg h2] at e ⊢
  by_cases hg : 0 ≤ greyC cs
  · rw [if_pos hg] at e; simp at e; omega
  rw [if_neg hg] at e ⊢
  by_cases hg2 : greyC (reachC cs rs) < 0
  · rw [if_pos hg2]
    intro c hc
    obtain ⟨d, hd', rfl⟩ := List.mem_map.1 (show c ∈ (reachC cs rs).map (fgC (reachC cs rs)) from hc)
    rw [fgC_col]
    have := firstP_none (p := fun c => colR c == 2) _ 0 hg2 d hd'
    simpa using this
  · rw [if_neg hg2] at e; simp at e; omega
/-- The heap's state in memory. -/
def HsAt (w : World) (b gC : Nat) (cC : CK) (base : Nat) (s : HSt) : Prop := HpAt w b gC cC base s.1 s.2.1 s.2.2
theorem RefsAt.two {w w' : World} {b gC : Nat} {v : Value} {rs : List Int} (h : RefsAt w gC v rs) (hb : ∀ a n c, v = .slice (some a) n c → a.block ≠ b) (ht : Two b gC w w') : RefsAt w' gC v rs := by
  rcases h with h | ⟨a, ca, e1, e2, e3, e4⟩
  · exact .inl h
  · refine .inr ⟨a, ca, e1, e2, Nat.lt_of_lt_of_le e3 ht.size, fun j x hj => ?_⟩
    have hbl : (a.add j).block = a.block := by unfold Addr.add; split <;> rfl
    exact (World.cell?_of_block (a := a.add j) (ht.block _ (by rw [hbl]; exact e3) (by rw [hbl]; exact hb a _ _ e1) (by rw [hbl]; exact e2))).trans (e4 j x hj)
def TakePost (b gC : Nat) (cC : CK) (base : Nat) (s : HSt) (rs : List Int) (w : World) (e : Ending) (w' : World) : Prop :=
  e = .returned (.int .i64 (takeC rs s).1) ∧ HsAt w' b gC cC base (takeC rs s).2 ∧ Two b gC w w'
theorem stepC_len (rs : List Int) (s : HSt) : (stepC rs s).1.length = s.1.length := unitC_len _ _ _ _
theorem lowC_lt {s : HSt} (h : 0 ≤ lowC s) : (lowC s).toNat < s.1.length := by
  rcases firstP_lt (fun c => !c.used) s.1 0 with e | e
  · unfold lowC at h; omega
  · unfold lowC at *; omega
/-- Where round k stands: the heap s at the beginning of round k, none free in the rounds ahead of it. -/
def Rnd (rs : List Int) (s0 s : HSt) (k : Nat) : Prop := (k = 0 ∧ s = s0) ∨ (k = 1 ∧ s = idleC rs s0 ∧ lowC s0 < 0) ∨ (k = 2 ∧ s = idleC rs (stepC rs (idleC rs s0)) ∧ lowC s0 < 0 ∧ lowC (idleC rs s0) < 0)
theorem Rnd.take {rs : List Int} {s0 s : HSt} {k : Nat} (h : Rnd rs s0 s k) (hl : 0 ≤ lowC s) : takeC rs s0 = beginC s := by
  unfold takeC
  rcases h with ⟨_, rfl⟩ | ⟨_, rfl, h1⟩ | ⟨_, rfl, h1, h2⟩
  · rw [if_pos hl]
  · rw [if_neg (by omega), if_pos hl]
  · rw [if_neg (by omega), if_neg (by omega), if_pos hl]
theorem Rnd.full {rs : List Int} {s0 s : HSt} (h : Rnd rs s0 s 2) (hl : lowC s < 0) : takeC rs s0 = (-1, s) := by
  unfold takeC
  rcases h with ⟨e, _⟩ | ⟨e, _⟩ | ⟨_, rfl, h1, h2⟩
  · cases e
  · cases e
  · rw [if_neg (by omega), if_neg (by omega), if_neg (by omega)]
theorem take_any (b gC : Nat) (cC : CK) (base : Nat) (s0 : HSt) (rs : List Int) (v : Value) (w : World) (h : HsAt w b gC cC base s0) (ho : OkS s0) (hrl : rs.length ≤ 1000) (hr : ∀ r ∈ rs, r < (s0.1.length : Int)) (hv : RefsAt w gC v rs) (hvb : ∀ a n c, v = .slice (some a) n c → a.block ≠ b) :
    Calls Tryz.prog 49 #[.pointer (some ⟨b, 10, none⟩), v] w (TakePost b gC cC base s0 rs w) := by
  obtain ⟨p0, c0, e0⟩ := hv.slice
  have hun := hid (fun (W : World) (s : HSt) (hW : HsAt W b gC cC base s) (hs : OkS s) (hl : s.1.length = s0.1.length) (ht : Two b gC w W) => unit_any b gC cC base s.2.1 s.2.2 s.1 rs v W hW hs hrl (by rw [hl]; exact hr) (hv.two hvb ht))
  subst e0
  have HLEN : Hid (s0.1.length ≤ 1000) := hid (by have := ho.len; omega)
  have H := hid h
  have HO := hid ho
  clear h ho hr hv hvb
  go_enter Tryz.func49, Tryz.ntmps49
  go_wp2_with fail
  go_loopg [5] 2 (fun g x w' => ∃ (k : Nat) (s : HSt), k ≤ 2 ∧ g = 2 - k ∧ x = .int .i64 k ∧ HsAt w' b gC cC base s ∧ OkS s ∧ s.1.length = s0.1.length ∧ Rnd rs s0 s k ∧ Two b gC w w')
  case atStart => exact ⟨0, s0, by omega, by omega, rfl, H.out, HO.out, rfl, .inl ⟨rfl, rfl⟩, Two.refl _ _ _⟩
  case round =>
    obtain ⟨k, s, hk, hg, rfl, hH, hO, hL, hR, hT⟩ := hrel
    have hlo := hid (lowest_any b gC cC base s.2.1 s.2.2 s.1 wr hH (by rw [hL]; exact HLEN.out))
    have HH := hid hH
    have HOK := hid hO
    have HL := hid hL
    have HR := hid hR
    have HT := hid hT
    clear hH hO hL hR hT
    rcases Nat.lt_or_ge k 2 with hlt | hge
    · have d1 : (k : Int) < 2 := by omega
      go_wp2_with fail
      refine hlo.out.mono ?_
      clear hlo
      intro x w9 hh
      obtain ⟨hx, hw9⟩ := hh
      subst x
      subst w9
      by_cases hlow : 0 ≤ lowC s
      · have g1 : 0 ≤ firstP (fun c => !c.used) s.1 0 := hlow
        have hbg := hid (begun_any b gC cC base s.2.1 s.2.2 (lowC s).toNat s.1 wr HH.out (lowC_lt hlow))
        have HE := hid (HR.out.take hlow)
        rw [show (((lowC s).toNat : Nat) : Int) = firstP (fun c => !c.used) s.1 0 from Int.toNat_of_nonneg hlow] at hbg
        go_wp2_with fail
        refine hbg.out.mono ?_
        clear hbg
        intro x w5 hh
        obtain ⟨hx, hH5, hO5⟩ := hh
        subst x
        have HH5 := hid hH5
        have HO5 := hid hO5
        clear hH5 hO5
        go_wp2_with fail
        go_ret
        exact ⟨by rw [HE.out]; rfl, by rw [HE.out]; exact HH5.out, HT.out.trans (Two.of_only HO5.out).widen⟩
      · have g1 : ¬ 0 ≤ firstP (fun c => !c.used) s.1 0 := hlow
        by_cases hk1 : k = 1
        · subst hk1
          have hu := hid (hun.out wr s HH.out HOK.out HL.out HT.out)
          have HNX : Hid (Rnd rs s0 (idleC rs (stepC rs s)) (1 + 1)) := hid (by
            rcases HR.out with ⟨e, _⟩ | ⟨_, e, h1⟩ | ⟨e, _⟩
            · cases e
            · subst e; exact .inr (.inr ⟨rfl, rfl, h1, by omega⟩)
            · cases e)
          go_wp2_with fail
          refine hu.out.mono ?_
          clear hu
          intro x w4 hh
          obtain ⟨hx, hH4, hT4⟩ := hh
          subst x
          have HH4 : Hid (HsAt w4 b gC cC base (stepC rs s)) := hid hH4
          have HT4 : Hid (Two b gC w w4) := hid (HT.out.trans hT4)
          have HOK4 : Hid (OkS (stepC rs s)) := hid (HOK.out.step rs)
          have HL4 : Hid ((stepC rs s).1.length = s0.1.length) := hid ((stepC_len rs s).trans HL.out)
          clear hH4 hT4
          go_wp2_with fail
          go_loopg [] (muC (stepC rs s)) (fun g w' => ∃ t : HSt, HsAt w' b gC cC base t ∧ OkS t ∧ t.1.length = s0.1.length ∧ idleC rs t = idleC rs (stepC rs s) ∧ muC t ≤ g ∧ Two b gC w w')
          case atStart => exact ⟨_, HH4.out, HOK4.out, HL4.out, rfl, Nat.le_refl _, HT4.out⟩
          case round =>
            obtain ⟨t, hH, hO, hL, hE, hM, hT⟩ := hrel
            have c1 := hH.c1
            have HHt := hid hH
            have HOt := hid hO
            have HLt := hid hL
            have HEt := hid hE
            have HMt := hid hM
            have HTt := hid hT
            clear hH hO hL hE hM hT
            by_cases hp : t.2.1 = 0
            · have q0 : ((t.2.1 : Int) != 0) = false := by simp; omega
              have HI : Hid (t = idleC rs (stepC rs s)) := hid ((idleC_zero hp).symm.trans HEt.out)
              clear hp
              go_wp2_with fail
              go_roundg (2 - (1 + 1))
              case measure => omega
              case rel => exact ⟨1 + 1, t, by omega, rfl, by go_num, HHt.out, HOt.out, HLt.out, by rw [HI.out]; exact HNX.out, HTt.out⟩
            · have q0 : ((t.2.1 : Int) != 0) = true := by simp; omega
              have hu := hid (hun.out wr t HHt.out HOt.out HLt.out HTt.out)
              have HSt := hid (idleC_step (rs := rs) HOt.out hp)
              have HDt := hid (mu_dec HOt.out hp rs)
              clear hp
              go_wp2_with fail
              refine hu.out.mono ?_
              clear hu
              intro x w5 hh
              obtain ⟨hx, hH5, hT5⟩ := hh
              subst x
              have HH5 := hid hH5
              have HT5 := hid hT5
              clear hH5 hT5
              go_wp2_with fail
              go_roundg (muC (stepC rs t))
              case measure => have h1 := HDt.out; have h2 := HMt.out; omega
              case rel => exact ⟨stepC rs t, HH5.out, HOt.out.step rs, (stepC_len rs t).trans HLt.out, HSt.out.symm.trans HEt.out, Nat.le_refl _, HTt.out.trans HT5.out⟩
        · have hk0 : k = 0 := by omega
          subst hk0
          have HNX : Hid (Rnd rs s0 (idleC rs s) (0 + 1)) := hid (by
            rcases HR.out with ⟨_, e⟩ | ⟨e, _⟩ | ⟨e, _⟩
            · subst e; exact .inr (.inl ⟨rfl, rfl, by omega⟩)
            · cases e
            · cases e)
          clear hk1
          go_wp2_with fail
          go_loopg [] (muC s) (fun g w' => ∃ t : HSt, HsAt w' b gC cC base t ∧ OkS t ∧ t.1.length = s0.1.length ∧ idleC rs t = idleC rs s ∧ muC t ≤ g ∧ Two b gC w w')
          case atStart => exact ⟨_, HH.out, HOK.out, HL.out, rfl, Nat.le_refl _, HT.out⟩
          case round =>
            obtain ⟨t, hH, hO, hL, hE, hM, hT⟩ := hrel
            have c1 := hH.c1
            have HHt := hid hH
            have HOt := hid hO
            have HLt := hid hL
            have HEt := hid hE
            have HMt := hid hM
            have HTt := hid hT
            clear hH hO hL hE hM hT
            by_cases hp : t.2.1 = 0
            · have q0 : ((t.2.1 : Int) != 0) = false := by simp; omega
              have HI : Hid (t = idleC rs s) := hid ((idleC_zero hp).symm.trans HEt.out)
              clear hp
              go_wp2_with fail
              go_roundg (2 - (0 + 1))
              case measure => omega
              case rel => exact ⟨0 + 1, t, by omega, rfl, by go_num, HHt.out, HOt.out, HLt.out, by rw [HI.out]; exact HNX.out, HTt.out⟩
            · have q0 : ((t.2.1 : Int) != 0) = true := by simp; omega
              have hu := hid (hun.out wr t HHt.out HOt.out HLt.out HTt.out)
              have HSt := hid (idleC_step (rs := rs) HOt.out hp)
              have HDt := hid (mu_dec HOt.out hp rs)
              clear hp
              go_wp2_with fail
              refine hu.out.mono ?_
              clear hu
              intro x w5 hh
              obtain ⟨hx, hH5, hT5⟩ := hh
              subst x
              have HH5 := hid hH5
              have HT5 := hid hT5
              clear hH5 hT5
              go_wp2_with fail
              go_roundg (muC (stepC rs t))
              case measure => have h1 := HDt.out; have h2 := HMt.out; omega
              case rel => exact ⟨stepC rs t, HH5.out, HOt.out.step rs, (stepC_len rs t).trans HLt.out, HSt.out.symm.trans HEt.out, Nat.le_refl _, HTt.out.trans HT5.out⟩
    · have d1 : ¬ (k : Int) < 2 := by omega
      have hk2 : k = 2 := by omega
      subst hk2
      go_wp2_with fail
      refine hlo.out.mono ?_
      clear hlo
      intro x w9 hh
      obtain ⟨hx, hw9⟩ := hh
      subst x
      subst w9
      by_cases hlow : 0 ≤ lowC s
      · have g1 : 0 ≤ firstP (fun c => !c.used) s.1 0 := hlow
        have hbg := hid (begun_any b gC cC base s.2.1 s.2.2 (lowC s).toNat s.1 wr HH.out (lowC_lt hlow))
        have HE := hid (HR.out.take hlow)
        rw [show (((lowC s).toNat : Nat) : Int) = firstP (fun c => !c.used) s.1 0 from Int.toNat_of_nonneg hlow] at hbg
        go_wp2_with fail
        refine hbg.out.mono ?_
        clear hbg
        intro x w5 hh
        obtain ⟨hx, hH5, hO5⟩ := hh
        subst x
        have HH5 := hid hH5
        have HO5 := hid hO5
        clear hH5 hO5
        go_wp2_with fail
        go_ret
        exact ⟨by rw [HE.out]; rfl, by rw [HE.out]; exact HH5.out, HT.out.trans (Two.of_only HO5.out).widen⟩
      · have g1 : ¬ 0 ≤ firstP (fun c => !c.used) s.1 0 := hlow
        have HE := hid (HR.out.full (by omega))
        go_wp2_with fail
        go_ret
        exact ⟨by rw [HE.out]; rfl, by rw [HE.out]; exact HH.out, HT.out⟩
/-- What an instruction makes of two words. -/
def sumC (op x y : Int) : Int :=
  if op = 2 then wrap64 (x + y) else if op = 3 then wrap64 (x - y) else if op = 4 then wrap64 (x * y) else if op = 5 then wrap64 (x.tdiv y)
  else if (if op = 6 then decide (x < y) else decide (x = y)) then 1 else 0
theorem sum_any (op x y : Int) (w : World) (h5 : op = 5 → y ≠ 0) : Calls Tryz.prog 83 #[.int .i64 op, .int .i64 x, .int .i64 y] w fun e w' => e = .returned (.int .i64 (sumC op x y)) ∧ w' = w := by
  unfold sumC
  rcases Decidable.em (op = 2) with rfl | h2
  · clear h5
    go_enter Tryz.func83, Tryz.ntmps83
    go_wp2_with fail
    exact bodyPost_ret (v := .int .i64 (wrap64 (x + y))) (by simp [results, Tryz.results83, go_sem]) rfl ⟨rfl, rfl⟩
  rcases Decidable.em (op = 3) with rfl | h3
  · clear h5
    go_enter Tryz.func83, Tryz.ntmps83
    go_wp2_with fail
    exact bodyPost_ret (v := .int .i64 (wrap64 (x - y))) (by simp [results, Tryz.results83, go_sem]) rfl ⟨rfl, rfl⟩
  rcases Decidable.em (op = 4) with rfl | h4
  · clear h5
    go_enter Tryz.func83, Tryz.ntmps83
    go_wp2_with fail
    exact bodyPost_ret (v := .int .i64 (wrap64 (x * y))) (by simp [results, Tryz.results83, go_sem]) rfl ⟨rfl, rfl⟩
  rcases Decidable.em (op = 5) with rfl | h55
  · have hy := h5 rfl
    clear h5 h2 h3 h4
    go_enter Tryz.func83, Tryz.ntmps83
    go_wp2_with fail
    exact bodyPost_ret (v := .int .i64 (wrap64 (x.tdiv y))) (by simp [results, Tryz.results83, go_sem]) rfl ⟨rfl, rfl⟩
  clear h5
  rcases Decidable.em (op = 6) with rfl | h6
  · rcases Decidable.em (x < y) with hxy | hxy
    · go_enter Tryz.func83, Tryz.ntmps83
      go_wp2_with fail
      exact bodyPost_ret (v := .int .i64 1) (by simp [results, Tryz.results83, go_sem]) rfl ⟨rfl, rfl⟩
    · go_enter Tryz.func83, Tryz.ntmps83
      go_wp2_with fail
      exact bodyPost_ret (v := .int .i64 0) (by simp [results, Tryz.results83, go_sem]) rfl ⟨rfl, rfl⟩
  · rcases Decidable.em (x = y) with rfl | hxy
    · go_enter Tryz.func83, Tryz.ntmps83
      go_wp2_with fail
      exact bodyPost_ret (v := .int .i64 1) (by simp [results, Tryz.results83, go_sem]) rfl ⟨rfl, rfl⟩
    · go_enter Tryz.func83, Tryz.ntmps83
      go_wp2_with fail
      exact bodyPost_ret (v := .int .i64 0) (by simp [results, Tryz.results83, go_sem]) rfl ⟨rfl, rfl⟩
/-- How the machine stands if the cell r must be a weak one, or a plain one. -/
def wantsC (cs : List RC) (r : Int) (weak : Bool) : Int :=
  if r < 0 then 2 else if (cs[r.toNat]?.map (·.weak)) = some weak then 0 else 4
theorem wants_any (b gC : Nat) (cC : CK) (base ph hd : Nat) (cs : List RC) (r : Int) (weak : Bool) (w : World) (h : HpAt w b gC cC base cs ph hd) (hr : r < (cs.length : Int)) :
    Calls Tryz.prog 78 #[.pointer (some ⟨b, 0, none⟩), .int .i64 r, .bool weak] w fun e w' => e = .returned (.int .i64 (wantsC cs r weak)) ∧ w' = w := by
  rcases Decidable.em (r < 0) with h0 | h0
  · have e0 : wantsC cs r weak = 2 := by unfold wantsC; rw [if_pos h0]
    rw [e0]
    clear e0
    go_enter Tryz.func78, Tryz.ntmps78
    go_wp2_with fail
    exact bodyPost_ret (v := .int .i64 2) (by simp [results, Tryz.results78, go_sem]) rfl ⟨rfl, rfl⟩
  · obtain ⟨k, rfl⟩ : ∃ k : Nat, r = k := ⟨r.toNat, by omega⟩
    have hk : k < cs.length := by omega
    have z0 := h.c0
    have c3 := h.cell hk (j := 3) (by omega)
    simp only [rcCells, List.getElem?_cons_zero, List.getElem?_cons_succ] at c3
    have n0 : (0 : Int) ≤ (k : Int) := by omega
    clear h
    rcases Decidable.em (cs[k].weak = weak) with hw | hne
    · have e0 : wantsC cs k weak = 0 := by unfold wantsC; rw [if_neg h0, if_pos (by rw [Int.toNat_natCast, List.getElem?_eq_getElem hk, ← hw]; rfl)]
      rw [e0]
      rw [hw] at c3
      clear e0 hw
      go_enter Tryz.func78, Tryz.ntmps78
      go_wp2_with fail
      exact bodyPost_ret (v := .int .i64 0) (by simp [results, Tryz.results78, go_sem]) rfl ⟨rfl, rfl⟩
    · have e0 : wantsC cs k weak = 4 := by unfold wantsC; rw [if_neg h0, if_neg (by rw [Int.toNat_natCast, List.getElem?_eq_getElem hk]; simpa using hne)]
      rw [e0]
      clear e0
      generalize cs[k].weak = wk at *
      obtain rfl : wk = !weak := by cases wk <;> cases weak <;> simp_all
      clear hne
      cases weak <;> (
        simp only [Bool.not_true, Bool.not_false] at c3
        go_enter Tryz.func78, Tryz.ntmps78
        go_wp2_with fail
        exact bodyPost_ret (v := .int .i64 4) (by simp [results, Tryz.results78, go_sem]) rfl ⟨rfl, rfl⟩)
/-- The word k below the top of the stack. -/
def LastPost (x : Bool × Int) (w : World) (e : Ending) (w' : World) : Prop := Below w.heap.size w w' ∧ e = .returned (.agg #[.bool x.1, .int .i64 x.2])
theorem last_any (b k : Nat) (vS : Value) (st : List (Bool × Int)) (x : Bool × Int) (P : Nat → Prop) (w : World) (hm : w.cell? ⟨b, 9, none⟩ = some vS) (hst : LsAt w P vS st.length (st.flatMap wdCells)) (hs : st.length ≤ 100) (hk : k < st.length) (hx : st[st.length - 1 - k]? = some x) :
    Calls Tryz.prog 48 #[.pointer (some ⟨b, 0, none⟩), .int .i64 k] w (LastPost x w) := by
  obtain ⟨g, c, rfl, _, hc⟩ := hst.some (by omega)
  obtain ⟨n, hn⟩ : ∃ n, n = st.length - 1 - k := ⟨_, rfl⟩
  have hnl : n < st.length := by omega
  rw [← hn, List.getElem?_eq_getElem hnl] at hx
  have y0 := hc _ _ (flat_at wdCells 2 (fun _ => rfl) st n 0 hnl (by omega))
  have y1 := hc _ _ (flat_at wdCells 2 (fun _ => rfl) st n 1 hnl (by omega))
  rw [Nat.add_zero] at y0
  cases hx
  generalize st[n] = x at *
  obtain ⟨xr, xv⟩ := x
  simp only at y0 y1
  generalize st.length = L at *
  have e1 : wrap64 ((L : Int) - 1) = (L : Int) - 1 := by unfold wrap64; omega
  have e2 : wrap64 ((L : Int) - 1 - (k : Int)) = (n : Int) := by unfold wrap64; omega
  have n0 : (0 : Int) ≤ (n : Int) := by omega
  have n1 : (n : Int) < (L : Int) := by omega
  have hbz := World.block_lt_of_cell? w _ hm
  have hgz := World.block_lt_of_cell? w _ y0
  simp only at hbz hgz
  clear hst hc hn hnl hk
  go_enter Tryz.func48, Tryz.ntmps48
  go_wp2_with fail
  go_region
  go_wp2_with fail
  exact bodyPost_ret (v := .agg #[.bool xr, .int .i64 xv]) (by simp [results, Tryz.results48, go_sem]) rfl ⟨(((Below.refl _ _).alloc (Nat.le_refl _) _).drew), rfl⟩
theorem drop_any (b g k L c : Nat) (w : World) (hm : w.cell? ⟨b, 9, none⟩ = some (.slice (some ⟨g, 0, none⟩) L c)) (hf : w.frozen? ⟨b, 9, none⟩ = false) (hs : L ≤ 100) (hk : k ≤ L) (hc : L ≤ c) :
    Calls Tryz.prog 82 #[.pointer (some ⟨b, 0, none⟩), .int .i64 k] w fun e w' => e = .returned (.tuple #[]) ∧ w' = (w.setCell ⟨b, 9, none⟩ (.slice (some ⟨g, 0, none⟩) (L - k) c)).drew := by
  obtain ⟨n, hn⟩ : ∃ n, n = L - k := ⟨_, rfl⟩
  rw [← hn]
  have e2 : wrap64 ((L : Int) - (k : Int)) = (n : Int) := by unfold wrap64; omega
  have n0 : (0 : Int) ≤ (n : Int) := by omega
  have n1 : (n : Int) ≤ (c : Int) := by omega
  have hbz := World.block_lt_of_cell? w _ hm
  simp only at hbz
  clear hn hk
  go_enter Tryz.func82, Tryz.ntmps82
  go_region
  go_wp2_with fail
  go_end0
  exact ⟨rfl, rfl⟩
/-- A list of words in field o of block b, owned from base on. -/
structure WdsAt (w : World) (b o base : Nat) (v : Value) (ws : List (Bool × Int)) : Prop where
  cell : w.cell? ⟨b, o, none⟩ = some v
  thaw : w.frozen? ⟨b, o, none⟩ = false
  row : w.ownsRow base 116 2 v ws.length (ws.flatMap wdCells)
  far : some b ≠ v.ownBlock
/-- Block b turned in one cell, and the row of v may have turned, or was left for a new one: nothing else below. -/
structure Grew (b o : Nat) (v v' : Value) (w w' : World) : Prop where
  os : w'.os = w.os
  tape : w'.tape = w.tape
  output : w'.output = w.output
  size : w.heap.size ≤ w'.heap.size
  block : ∀ k, k < w.heap.size → k ≠ b → some k ≠ v.ownBlock → w'.heap[k]? = w.heap[k]?
  own : ∀ g, v'.ownBlock = some g → v.ownBlock = some g ∨ w.heap.size ≤ g
  home : ∀ r t, w.heap[b]? = some (.cells r t) → w'.heap[b]? = some (.cells (r.setIfInBounds o v') t)
theorem grew_of {w w6 : World} {ob : Obj} {b o base gg n cap : Nat} {v : Value} {ws ws' : List (Bool × Int)} (h : WdsAt w b o base v ws) (hn : n = ws'.length) (hown : w6.ownsRow base 116 2 (.slice (some ⟨gg, 0, none⟩) n cap) n (ws'.flatMap wdCells)) (hg : (w.alloc ob).grownBy w6 v.ownBlock) (hat : v.ownBlock = some gg ∨ gg = (w.alloc ob).heap.size) :
    WdsAt (w6.setCell ⟨b, o, none⟩ (.slice (some ⟨gg, 0, none⟩) n cap)) b o base (.slice (some ⟨gg, 0, none⟩) n cap) ws' ∧ Grew b o v (.slice (some ⟨gg, 0, none⟩) n cap) w (w6.setCell ⟨b, o, none⟩ (.slice (some ⟨gg, 0, none⟩) n cap)) := by
  subst hn
  have hbz := World.block_lt_of_cell? w _ h.cell
  simp only at hbz
  have hz : (w.alloc ob).heap.size = w.heap.size + 1 := alloc_size _ _
  have hz6 := hg.size
  have hb6 : ∀ k, k < w.heap.size → some k ≠ v.ownBlock → w6.heap[k]? = w.heap[k]? := fun k hk hne => (hg.block k (by omega) hne).trans (Below.heap_alloc _ _ _ hk)
  have hne : b ≠ gg := by
    rcases hat with e | e
    · exact fun he => h.far (by rw [e, he])
    · omega
  have c6 : w6.cell? ⟨b, o, none⟩ = some v := (World.cell?_of_block (a := ⟨b, o, none⟩) (hb6 b hbz h.far)).trans h.cell
  have f6 : w6.frozen? ⟨b, o, none⟩ = false := (World.frozen?_of_block (a := ⟨b, o, none⟩) (hb6 b hbz h.far)).trans h.thaw
  refine ⟨⟨World.cell?_setCell_same _ _ _ c6, by simpa [go_sem] using f6, owns_keep hown (fun g hg' => Below.heap_setCell _ _ _ _ ?_), ?_⟩, ⟨hg.os, hg.tape, hg.output, by simp [World.setCell]; omega, ?_, ?_, ?_⟩⟩
  · simp only [Value.ownBlock, Option.some.injEq] at hg'
    rw [← hg']
    exact Ne.symm hne
  · simp only [Value.ownBlock, ne_eq, Option.some.injEq]
    exact hne
  · intro k hk h1 h2
    rw [Below.heap_setCell _ _ _ _ h1]
    exact hb6 k hk h2
  · intro g he
    simp only [Value.ownBlock, Option.some.injEq] at he
    subst he
    rcases hat with e | e
    · exact .inl e
    · exact .inr (by omega)
  · intro r t hr
    exact setCell_row o _ ((hb6 b hbz h.far).trans hr)
def PushPost (b base : Nat) (v : Value) (ws : List (Bool × Int)) (w : World) (e : Ending) (w' : World) : Prop :=
  e = .returned (.tuple #[]) ∧ ∃ v', WdsAt w' b 9 base v' ws ∧ Grew b 9 v v' w w'
theorem number_any (b base : Nat) (v : Value) (st : List (Bool × Int)) (x : Int) (w : World) (h : WdsAt w b 9 base v st) (hs : st.length ≤ 100) (hbase : base ≤ w.heap.size) :
    Calls Tryz.prog 81 #[.pointer (some ⟨b, 0, none⟩), .int .i64 x] w (PushPost b base v (st ++ [(false, x)]) w) := by
  obtain ⟨i0, hi0, hz0, hz1, hz2⟩ := info_parts wordInfo
  have hm := h.cell
  have hf := h.thaw
  have hown := h.row
  have hfar := h.far
  have H := hid h
  have hbz := World.block_lt_of_cell? w _ hm
  simp only at hbz
  clear h
  go_enter Tryz.func81, Tryz.ntmps81
  go_wp2_with (at_builtin; go_must (refine wpList_append_lies _ (by rfl) _ _ _ (by rfl) base 116 i0 _ 2 16 Tryz.underlying77 hi0 hz0 hz1 hz2 rfl (by omega) _ st.length (st.flatMap wdCells) (by rfl) (hown.alloc _) ⟨_, 0, none⟩ 1 1 [.bool false, .int .i64 x] (by rfl) (by rfl) (World.news_of_block (cs := #[.bool false, .int .i64 x]) (t := 116) (fr := (0, 0)) (heap_alloc_new _ _)) (by simp [Value.oneCell']) (by omega) (by unfold maxLen; omega) (by omega) (by simp; omega) _ rfl ?_); intro gg gcap w6 hown6 hgrow6 hat6 hlt6; obtain ⟨c6, f6⟩ := cell6b hgrow6 (b := b) (by omega) hfar 9; rw [hm] at c6; rw [hf] at f6)
  go_end0
  exact ⟨rfl, _, grew_of H.out (by simp) (by simpa [wdCells] using hown6) hgrow6 hat6⟩
theorem ref_any (b base : Nat) (v : Value) (st : List (Bool × Int)) (x : Int) (w : World) (h : WdsAt w b 9 base v st) (hs : st.length ≤ 100) (hbase : base ≤ w.heap.size) :
    Calls Tryz.prog 84 #[.pointer (some ⟨b, 0, none⟩), .int .i64 x] w (PushPost b base v (st ++ [(true, x)]) w) := by
  obtain ⟨i0, hi0, hz0, hz1, hz2⟩ := info_parts wordInfo
  have hm := h.cell
  have hf := h.thaw
  have hown := h.row
  have hfar := h.far
  have H := hid h
  have hbz := World.block_lt_of_cell? w _ hm
  simp only at hbz
  clear h
  go_enter Tryz.func84, Tryz.ntmps84
  go_wp2_with (at_builtin; go_must (refine wpList_append_lies _ (by rfl) _ _ _ (by rfl) base 116 i0 _ 2 16 Tryz.underlying77 hi0 hz0 hz1 hz2 rfl (by omega) _ st.length (st.flatMap wdCells) (by rfl) (hown.alloc _) ⟨_, 0, none⟩ 1 1 [.bool true, .int .i64 x] (by rfl) (by rfl) (World.news_of_block (cs := #[.bool true, .int .i64 x]) (t := 116) (fr := (0, 0)) (heap_alloc_new _ _)) (by simp [Value.oneCell']) (by omega) (by unfold maxLen; omega) (by omega) (by simp; omega) _ rfl ?_); intro gg gcap w6 hown6 hgrow6 hat6 hlt6; obtain ⟨c6, f6⟩ := cell6b hgrow6 (b := b) (by omega) hfar 9; rw [hm] at c6; rw [hf] at f6)
  go_end0
  exact ⟨rfl, _, grew_of H.out (by simp) (by simpa [wdCells] using hown6) hgrow6 hat6⟩
/-- The references among the words that are told. -/
def rootsC (Q : List (Nat × Int)) : List Int := (Q.filter (fun x => x.1 == 1)).map (·.2)
theorem rootsC_next {Q : List (Nat × Int)} {n : Nat} (h : n < Q.length) : rootsC (Q.take (n + 1)) = rootsC (Q.take n) ++ (if Q[n].1 = 1 then [Q[n].2] else []) := by
  unfold rootsC
  rw [List.take_succ_eq_append_getElem h, List.filter_append, List.map_append]
  congr 1
  by_cases e : Q[n].1 = 1 <;> simp [e]
theorem rootsC_len (Q : List (Nat × Int)) : (rootsC Q).length ≤ Q.length := by
  unfold rootsC
  rw [List.length_map]
  exact List.length_filter_le _ _
theorem rootsC_append (A B : List (Nat × Int)) : rootsC (A ++ B) = rootsC A ++ rootsC B := by simp [rootsC]
def RootsPost (rs : List Int) (w : World) (e : Ending) (w' : World) : Prop :=
  Below w.heap.size w w' ∧ ∃ v, e = .returned v ∧ w'.ownsRow w.heap.size 3 1 v rs.length (rs.map (.int .i64))
theorem roots_any (b : Nat) (oc va : Int) (pl : Nat) (ph hd : Int) (Q1 Q2 : List (Nat × Int)) (w : World) (h1 : Q1.length ≤ 100) (h2 : Q2.length ≤ 100)
    (hS : Calls Tryz.prog 61 #[.pointer (some ⟨b, 0, none⟩)] w (fun e w' => Below w.heap.size w w' ∧ ∃ v1 v2, e = .returned (.agg #[.int .i64 oc, .int .i64 va, .int .i64 pl, .int .i64 ph, .int .i64 hd, v1, v2]) ∧ LsAt w' (fun g => w.heap.size ≤ g ∧ g < w'.heap.size) v1 Q1.length (Q1.flatMap slCells) ∧ LsAt w' (fun g => w.heap.size ≤ g ∧ g < w'.heap.size) v2 Q2.length (Q2.flatMap slCells))) :
    Calls Tryz.prog 45 #[.pointer (some ⟨b, 0, none⟩)] w (RootsPost (rootsC (Q1 ++ Q2)) w) := by
  obtain ⟨i0, hi0, hz0, hz1, hz2⟩ := info_parts intInfo
  have HS := hid hS
  clear hS
  go_enter Tryz.func45, Tryz.ntmps45
  go_wp2_with fail
  refine HS.out.mono ?_
  clear HS
  intro x w1 hp
  obtain ⟨hb1, v1, v2, hx, hl1, hl2⟩ := hp
  subst x
  obtain ⟨p1, c1, e1⟩ := hl1.slice
  obtain ⟨p2, c2, e2⟩ := hl2.slice
  subst e1
  subst e2
  have hz1w := hb1.size
  have hst := heap_alloc_new w1 (.cells #[.int .i64 oc, .int .i64 va, .int .i64 pl, .int .i64 ph, .int .i64 hd, .slice p1 Q1.length c1, .slice p2 Q2.length c2] 134)
  have hbW := hb1.alloc hz1w (.cells #[.int .i64 oc, .int .i64 va, .int .i64 pl, .int .i64 ph, .int .i64 hd, .slice p1 Q1.length c1, .slice p2 Q2.length c2] 134)
  have hL1 : LsAt (w1.alloc (.cells #[.int .i64 oc, .int .i64 va, .int .i64 pl, .int .i64 ph, .int .i64 hd, .slice p1 Q1.length c1, .slice p2 Q2.length c2] 134)) (fun g => g < w1.heap.size) (.slice p1 Q1.length c1) Q1.length (Q1.flatMap slCells) := hl1.keep (fun g hg => ⟨hg.2, Below.heap_alloc _ _ _ hg.2⟩)
  have hL2 : LsAt (w1.alloc (.cells #[.int .i64 oc, .int .i64 va, .int .i64 pl, .int .i64 ph, .int .i64 hd, .slice p1 Q1.length c1, .slice p2 Q2.length c2] 134)) (fun g => g < w1.heap.size) (.slice p2 Q2.length c2) Q2.length (Q2.flatMap slCells) := hl2.keep (fun g hg => ⟨hg.2, Below.heap_alloc _ _ _ hg.2⟩)
  clear hb1 hl1 hl2
  go_wp2_with fail
  have hzW : (w1.alloc (.cells #[.int .i64 oc, .int .i64 va, .int .i64 pl, .int .i64 ph, .int .i64 hd, .slice p1 Q1.length c1, .slice p2 Q2.length c2] 134)).heap.size = w1.heap.size + 1 := alloc_size _ _
  generalize hW : w1.alloc (.cells #[.int .i64 oc, .int .i64 va, .int .i64 pl, .int .i64 ph, .int .i64 hd, .slice p1 Q1.length c1, .slice p2 Q2.length c2] 134) = W at *
  clear hW
  have t5 := cell_of_row W w1.heap.size 5 _ _ _ hst
  have t6 := cell_of_row W w1.heap.size 6 _ _ _ hst
  simp only [List.getElem?_toArray, List.getElem?_cons_zero, List.getElem?_cons_succ] at t5 t6
  generalize hsb : w1.heap.size = sb at *
  have hsbW : sb < W.heap.size := by omega
  have HBW := hid hbW
  have HL1 := hid hL1
  have HL2 := hid hL2
  clear hsb hst hbW hL1 hL2
  go_loopg [3, 5] Q1.length (fun g l x w' => ∃ k : Nat, k ≤ Q1.length ∧ g = Q1.length - k ∧ x = .int .i64 k ∧ w'.ownsRow W.heap.size 3 1 l (rootsC (Q1.take k)).length ((rootsC (Q1.take k)).map (.int .i64)) ∧ Below W.heap.size W w')
  case atStart => exact ⟨0, by omega, by omega, rfl, World.ownsRow_nil _ _ _ _, Below.refl _ _⟩
  case round =>
    obtain ⟨k, hk, hg, rfl, hown, hbel⟩ := hrel
    have hz := hbel.size
    have t5' := (hbel.cell (p := ⟨sb, 5, none⟩) hsbW).trans t5
    have HB := hid hbel
    rcases Nat.lt_or_ge k Q1.length with hlt | hge
    · have d1 : (k : Int) < (Q1.length : Int) := by omega
      have d0 : (0 : Int) ≤ (k : Int) := by omega
      obtain ⟨g, cap, eg, hgs, hc⟩ := HL1.out.some (by omega)
      cases eg
      have y0 := hc _ _ (flat_at slCells 2 (fun _ => rfl) Q1 k 0 hlt (by omega))
      have y1 := hc _ _ (flat_at slCells 2 (fun _ => rfl) Q1 k 1 hlt (by omega))
      rw [Nat.add_zero] at y0
      rw [← hbel.cell (p := ⟨g, k * 2, none⟩) (Nat.lt_trans hgs hsbW)] at y0
      rw [← hbel.cell (p := ⟨g, k * 2 + 1, none⟩) (Nat.lt_trans hgs hsbW)] at y1
      have HNX := hid (rootsC_next hlt)
      have HLN : Hid ((rootsC (Q1.take k)).length ≤ 100) := hid (by have := rootsC_len (Q1.take k); rw [List.length_take] at this; omega)
      generalize Q1[k] = q at *
      obtain ⟨qt, qv⟩ := q
      simp only at y0 y1
      generalize rootsC (Q1.take k) = R at *
      have hR := HLN.out
      clear hc hbel HLN
      by_cases hq : qt = 1
      · subst hq
        go_wp2_with (at_builtin; go_must (refine wpList_append_lies _ (by rfl) _ _ _ (by rfl) W.heap.size 3 i0 _ 1 8 Tryz.underlying22 hi0 hz0 hz1 hz2 rfl (by omega) _ R.length (R.map (.int .i64)) (by rfl) (hown.alloc _) ⟨_, 0, none⟩ 1 1 [.int .i64 qv] (by rfl) (by rfl) (World.news_of_block (cs := #[.int .i64 qv]) (t := 3) (fr := (0, 0)) (heap_alloc_new _ _)) (by simp [Value.oneCell']) (by omega) (by unfold maxLen; omega) (by omega) (by simp; omega) _ rfl ?_); intro gg gcap w6 hown6 hgrow6 hat6 hlt6)
        go_roundg (Q1.length - (k + 1))
        case measure => omega
        case rel =>
          refine ⟨k + 1, by omega, rfl, by go_num, ?_, ?_⟩
          · rw [HNX.out]
            simpa using hown6
          · exact (HB.out.alloc hz _).grown hgrow6 (by simp; omega) (fun j hj => (hown.lt j hj).1)
      · have hq1 : ¬ (qt : Int) = 1 := by omega
        go_wp2_with fail
        go_roundg (Q1.length - (k + 1))
        case measure => omega
        case rel =>
          refine ⟨k + 1, by omega, rfl, by go_num, ?_, HB.out⟩
          rw [HNX.out, if_neg hq, List.append_nil]
          exact hown
    · have d1 : ¬ (k : Int) < (Q1.length : Int) := by omega
      rw [List.take_of_length_le hge] at hown
      have HO := hid hown
      clear hown
      clear hbel t5 HL1
      go_wp2_with fail
      clear t5'
      go_loopg [3, 6] Q2.length (fun g l x w' => ∃ k : Nat, k ≤ Q2.length ∧ g = Q2.length - k ∧ x = .int .i64 k ∧ w'.ownsRow W.heap.size 3 1 l (rootsC Q1 ++ rootsC (Q2.take k)).length ((rootsC Q1 ++ rootsC (Q2.take k)).map (.int .i64)) ∧ Below W.heap.size W w')
      case atStart => exact ⟨0, by omega, by omega, rfl, by simpa [rootsC] using HO.out, HB.out⟩
      case round =>
        clear hk hg HB HO hge d1 hz
        obtain ⟨k, hk, hg, rfl, hown, hbel⟩ := hrel
        have hz := hbel.size
        have t6' := (hbel.cell (p := ⟨sb, 6, none⟩) hsbW).trans t6
        have HB := hid hbel
        rcases Nat.lt_or_ge k Q2.length with hlt | hge
        · have d1 : (k : Int) < (Q2.length : Int) := by omega
          have d0 : (0 : Int) ≤ (k : Int) := by omega
          obtain ⟨g, cap, eg, hgs, hc⟩ := HL2.out.some (by omega)
          cases eg
          have y0 := hc _ _ (flat_at slCells 2 (fun _ => rfl) Q2 k 0 hlt (by omega))
          have y1 := hc _ _ (flat_at slCells 2 (fun _ => rfl) Q2 k 1 hlt (by omega))
          rw [Nat.add_zero] at y0
          rw [← hbel.cell (p := ⟨g, k * 2, none⟩) (Nat.lt_trans hgs hsbW)] at y0
          rw [← hbel.cell (p := ⟨g, k * 2 + 1, none⟩) (Nat.lt_trans hgs hsbW)] at y1
          have HNX : Hid (rootsC Q1 ++ rootsC (Q2.take (k + 1)) = (rootsC Q1 ++ rootsC (Q2.take k)) ++ (if Q2[k].1 = 1 then [Q2[k].2] else [])) := hid (by rw [rootsC_next hlt, List.append_assoc])
          have HLN : Hid ((rootsC Q1 ++ rootsC (Q2.take k)).length ≤ 200) := hid (by have := rootsC_len (Q2.take k); have := rootsC_len Q1; rw [List.length_take] at *; rw [List.length_append]; omega)
          generalize Q2[k] = q at *
          obtain ⟨qt, qv⟩ := q
          simp only at y0 y1
          generalize rootsC Q1 ++ rootsC (Q2.take k) = R at *
          have hR := HLN.out
          clear hc hbel HLN
          by_cases hq : qt = 1
          · subst hq
            go_wp2_with (at_builtin; go_must (refine wpList_append_lies _ (by rfl) _ _ _ (by rfl) W.heap.size 3 i0 _ 1 8 Tryz.underlying22 hi0 hz0 hz1 hz2 rfl (by omega) _ R.length (R.map (.int .i64)) (by rfl) (hown.alloc _) ⟨_, 0, none⟩ 1 1 [.int .i64 qv] (by rfl) (by rfl) (World.news_of_block (cs := #[.int .i64 qv]) (t := 3) (fr := (0, 0)) (heap_alloc_new _ _)) (by simp [Value.oneCell']) (by omega) (by unfold maxLen; omega) (by omega) (by simp; omega) _ rfl ?_); intro gg gcap w6 hown6 hgrow6 hat6 hlt6)
            go_roundg (Q2.length - (k + 1))
            case measure => omega
            case rel =>
              refine ⟨k + 1, by omega, rfl, by go_num, ?_, ?_⟩
              · rw [HNX.out]
                simpa using hown6
              · exact (HB.out.alloc hz _).grown hgrow6 (by simp; omega) (fun j hj => (hown.lt j hj).1)
          · have hq1 : ¬ (qt : Int) = 1 := by omega
            go_wp2_with fail
            go_roundg (Q2.length - (k + 1))
            case measure => omega
            case rel =>
              refine ⟨k + 1, by omega, rfl, by go_num, ?_, HB.out⟩
              rw [HNX.out, if_neg hq, List.append_nil]
              exact hown
        · have d1 : ¬ (k : Int) < (Q2.length : Int) := by omega
          rw [List.take_of_length_le hge] at hown
          have HO := hid hown
          clear hown hbel
          go_wp2_with fail
          go_ret
          refine ⟨HBW.out.trans (HB.out.mono HBW.out.size), _, rfl, ?_⟩
          rw [rootsC_append]
          exact owns_mono HO.out HBW.out.size
theorem refs_of {w1 : World} {B gC : Nat} {v : Value} {rs : List Int} (h : w1.ownsRow B 3 1 v rs.length (rs.map (.int .i64))) (hg : gC < B) : RefsAt w1 gC v rs ∧ ∀ a n c, v = .slice (some a) n c → B ≤ a.block := by
  rcases LsAt.of_owns h with ⟨h1, h2⟩ | ⟨g, cap, e1, e2, e3⟩
  · exact ⟨.inl ⟨h1, List.length_eq_zero_iff.1 h2⟩, fun a n c e => by rw [h1] at e; cases e⟩
  · refine ⟨.inr ⟨⟨g, 0, none⟩, cap, e1, by simp only; omega, e2.2, fun j x hj => ?_⟩, fun a n c e => ?_⟩
    · have := e3 j (.int .i64 x) (by simp [hj])
      have ha : (⟨g, 0, none⟩ : Addr).add j = ⟨g, j, none⟩ := by
        unfold Addr.add
        split
        · rename_i h0
          simp_all
        · simp
      rw [ha]
      exact this
    · rw [e1] at e
      cases e
      exact e2.1
/-- Units one after another, with the same roots. -/
def unitsC (rs : List Int) : Nat → HSt → HSt
  | 0, s => s
  | n + 1, s => stepC rs (unitsC rs n s)
theorem unitsC_len (rs : List Int) (s : HSt) : ∀ n, (unitsC rs n s).1.length = s.1.length := by
  intro n
  induction n with
  | zero => rfl
  | succ n ih => rw [unitsC, stepC_len, ih]
theorem unitsC_ok {rs : List Int} {s : HSt} (h : OkS s) : ∀ n, OkS (unitsC rs n s) := by
  intro n
  induction n with
  | zero => exact h
  | succ n ih => exact ih.step rs
def CollectPost (b gC : Nat) (cC : CK) (base : Nat) (s : HSt) (rs : List Int) (n : Nat) (w : World) (e : Ending) (w' : World) : Prop :=
  e = .returned (.tuple #[.int .i64 (unitsC rs n s).2.1, .int .i64 0]) ∧ HsAt w' b gC cC base (unitsC rs n s) ∧ Two b gC w w'
theorem rcollect_bad (b : Nat) (u : Int) (w : World) (hu : u < 0 ∨ 1000 < u) : Calls Tryz.prog 26 #[.pointer (some ⟨b, 0, none⟩), .int .i64 u] w fun e w' => e = .returned (.tuple #[.int .i64 0, .int .i64 8]) ∧ w' = w := by
  by_cases h0 : u < 0
  · clear hu
    go_enter Tryz.func26, Tryz.ntmps26
    go_wp2_with fail
    exact bodyPost_ret (v := .tuple #[.int .i64 0, .int .i64 8]) (by simp [results, Tryz.results26, go_sem]) rfl ⟨rfl, rfl⟩
  · have h1 : 1000 < u := by omega
    clear hu
    go_enter Tryz.func26, Tryz.ntmps26
    go_wp2_with fail
    exact bodyPost_ret (v := .tuple #[.int .i64 0, .int .i64 8]) (by simp [results, Tryz.results26, go_sem]) rfl ⟨rfl, rfl⟩
theorem rcollect_ok (b gC : Nat) (cC : CK) (base : Nat) (s0 : HSt) (rs : List Int) (n : Nat) (w : World) (hn : n ≤ 1000) (h : HsAt w b gC cC base s0) (ho : OkS s0) (hrl : rs.length ≤ 1000) (hr : ∀ r ∈ rs, r < (s0.1.length : Int))
    (hR : Calls Tryz.prog 45 #[.pointer (some ⟨b, 0, none⟩)] w (RootsPost rs w)) :
    Calls Tryz.prog 26 #[.pointer (some ⟨b, 0, none⟩), .int .i64 n] w (CollectPost b gC cC base s0 rs n w) := by
  have hbz := World.block_lt_of_cell? w _ h.c0
  have hgz := (h.row.lt gC rfl).2
  simp only at hbz hgz
  have HR := hid hR
  have H := hid h
  have HO := hid ho
  have HRR := hid hr
  have g0 : ¬ (n : Int) < 0 := by omega
  have g1 : ¬ 1000 < (n : Int) := by omega
  clear h ho hr hR
  go_enter Tryz.func26, Tryz.ntmps26
  go_wp2_with fail
  refine HR.out.mono ?_
  clear HR
  intro x w1 hp
  obtain ⟨hb1, v, hx, hown⟩ := hp
  subst x
  obtain ⟨hrf, hrb⟩ := refs_of (gC := gC) hown hgz
  obtain ⟨p0, c0, e0⟩ := hrf.slice
  have hun := hid (fun (W : World) (s : HSt) (hW : HsAt W b gC cC base s) (hs : OkS s) (hl : s.1.length = s0.1.length) (ht : Two b gC w1 W) => unit_any b gC cC base s.2.1 s.2.2 s.1 rs v W hW hs hrl (by rw [hl]; exact HRR.out) (hrf.two (fun a n c e => by have := hrb a n c e; omega) ht))
  subst e0
  have HB1 := hid hb1
  have HH1 : Hid (HsAt w1 b gC cC base s0) := hid (HpAt.below H.out hb1)
  clear hb1 hown hrf hrb
  go_wp2_with fail
  go_loopg [7] n (fun g x w' => ∃ k : Nat, k ≤ n ∧ g = n - k ∧ x = .int .i64 k ∧ HsAt w' b gC cC base (unitsC rs k s0) ∧ Two b gC w1 w')
  case atStart => exact ⟨0, by omega, by omega, rfl, HH1.out, Two.refl _ _ _⟩
  case round =>
    obtain ⟨k, hk, hg, rfl, hH, hT⟩ := hrel
    have HH := hid hH
    have HT := hid hT
    rcases Nat.lt_or_ge k n with hlt | hge
    · have d1 : (k : Int) < (n : Int) := by omega
      have hu1 := hid (hun.out wr _ hH (unitsC_ok HO.out k) (unitsC_len _ _ _) hT)
      clear hH hT
      go_wp2_with fail
      refine hu1.out.mono ?_
      clear hu1
      intro x w5 hh
      obtain ⟨hx, hH5, hT5⟩ := hh
      subst x
      have HH5 := hid hH5
      have HT5 := hid hT5
      clear hH5 hT5
      go_wp2_with fail
      go_roundg (n - (k + 1))
      case measure => omega
      case rel => exact ⟨k + 1, by omega, rfl, by go_num, HH5.out, HT.out.trans HT5.out⟩
    · have d1 : ¬ (k : Int) < (n : Int) := by omega
      obtain rfl : k = n := by omega
      have c1 := hH.c1
      clear hH hT
      go_wp2_with fail
      exact bodyPost_ret (v := .tuple #[.int .i64 (unitsC rs k s0).2.1, .int .i64 0]) (by simp [results, Tryz.results26, go_sem]) rfl ⟨rfl, HH.out, (Two.of_below HB1.out).trans HT.out⟩
theorem run_fieldW (a b : Value) (w : World) : Sem.run Tryz.prog (Instr.field 116 (.agg #[a, b]) 1) w = .ok b w := by
  simp [Instr.field, asAgg, go_sem]
attribute [local go_sem] run_fieldW
/-- The word k below the top. -/
def lastW (st : List (Bool × Int)) (k : Nat) : Bool × Int := (st[st.length - 1 - k]?).getD (false, 0)
theorem lastW_at {st : List (Bool × Int)} {k : Nat} (h : k < st.length) : st[st.length - 1 - k]? = some (lastW st k) := by
  unfold lastW
  rw [List.getElem?_eq_getElem (by omega)]
  rfl
def endsC (cs : List RC) (st : List (Bool × Int)) (op : Int) : Int :=
  if op = 0 then 1 else if op = 5 then (if (lastW st 0).2 = 0 then 3 else 0) else if op = 14 ∨ op = 16 then wantsC cs (lastW st 0).2 false else if op = 24 then wantsC cs (lastW st 0).2 true
  else if op = 15 ∨ op = 17 then wantsC cs (lastW st 1).2 false else 0
/-- What ends asks of the stack. -/
structure EndsOk (cs : List RC) (st : List (Bool × Int)) (op : Int) : Prop where
  one : op = 0 ∨ op = 5 ∨ op = 14 ∨ op = 16 ∨ op = 24 → 0 < st.length
  two : op = 15 ∨ op = 17 → 1 < st.length
  lo : op = 14 ∨ op = 16 ∨ op = 24 → (lastW st 0).2 < (cs.length : Int)
  lo2 : op = 15 ∨ op = 17 → (lastW st 1).2 < (cs.length : Int)
def EndsPost (r : Int) (w : World) (e : Ending) (w' : World) : Prop := Below w.heap.size w w' ∧ e = .returned (.int .i64 r)
theorem ends_any (b gC : Nat) (cC : CK) (base ph hd : Nat) (cs : List RC) (vS : Value) (st : List (Bool × Int)) (op n pl : Int) (w : World) (h : HpAt w b gC cC base cs ph hd) (hm : w.cell? ⟨b, 9, none⟩ = some vS) (hst : LsAt w (fun g => g < w.heap.size) vS st.length (st.flatMap wdCells)) (hs : st.length ≤ 100) (ho : EndsOk cs st op) :
    Calls Tryz.prog 47 #[.pointer (some ⟨b, 0, none⟩), .agg #[.int .i64 op, .int .i64 n, .int .i64 pl]] w (EndsPost (endsC cs st op) w) := by
  have hbz := World.block_lt_of_cell? w _ hm
  simp only at hbz
  have hla := hid (fun (W : World) (hb : Below w.heap.size w W) (k : Nat) (hk : k < st.length) => last_any b k vS st (lastW st k) (fun _ => True) W ((hb.cell (p := ⟨b, 9, none⟩) hbz).trans hm) (hst.keep (fun g hg => ⟨trivial, hb.block g hg⟩)) hs hk (lastW_at hk))
  have hwa := hid (fun (W : World) (hb : Below w.heap.size w W) (r : Int) (weak : Bool) (hr : r < (cs.length : Int)) => wants_any b gC cC base ph hd cs r weak W (h.below hb) hr)
  have hW : Below w.heap.size w (w.alloc (.cells #[.int .i64 op, .int .i64 n, .int .i64 pl] 113)) := (Below.refl _ _).alloc (Nat.le_refl _) _
  clear h hm hst hbz
  rcases Decidable.em (op = 0) with rfl | h0
  · have e0 : endsC cs st 0 = 1 := rfl
    rw [e0]
    have HW := hid hW
    clear e0 ho hla hwa hW
    go_enter Tryz.func47, Tryz.ntmps47
    go_wp2_with fail
    go_ret
    exact ⟨HW.out, rfl⟩
  rcases Decidable.em (op = 5) with rfl | h5
  · have hl := hid (hla.out _ hW 0 (ho.one (by omega)))
    have HE : Hid (endsC cs st 5 = if (lastW st 0).2 = 0 then 3 else 0) := hid (by unfold endsC; rw [if_neg (by omega), if_pos rfl])
    have HW := hid hW
    clear ho hla hwa hW h0
    generalize lastW st 0 = x at *
    obtain ⟨xr, xv⟩ := x
    go_enter Tryz.func47, Tryz.ntmps47
    go_wp2_with fail
    refine hl.out.mono ?_
    clear hl
    intro x w5 hh
    obtain ⟨hb5, hx⟩ := hh
    subst x
    have HB : Hid (Below w.heap.size w w5) := hid (HW.out.trans (hb5.mono HW.out.size))
    clear hb5
    by_cases hx : xv = 0
    · go_wp2_with fail
      go_ret
      exact ⟨HB.out, by rw [HE.out, if_pos hx]; rfl⟩
    · go_wp2_with fail
      go_ret
      exact ⟨HB.out, by rw [HE.out, if_neg hx]; rfl⟩
  rcases Decidable.em (op = 14) with rfl | h14
  · have hl := hid (hla.out _ hW 0 (ho.one (by omega)))
    have hw2 := hid (fun W hb => hwa.out W hb (lastW st 0).2 false (ho.lo (by omega)))
    have HE : Hid (endsC cs st 14 = wantsC cs (lastW st 0).2 false) := hid (by unfold endsC; rw [if_neg (by omega), if_neg (by omega), if_pos (by omega)])
    have HW := hid hW
    clear ho hla hwa hW h0 h5
    generalize lastW st 0 = x at *
    obtain ⟨xr, xv⟩ := x
    go_enter Tryz.func47, Tryz.ntmps47
    go_wp2_with fail
    refine hl.out.mono ?_
    clear hl
    intro x w5 hh
    obtain ⟨hb5, hx⟩ := hh
    subst x
    have HB : Hid (Below w.heap.size w w5) := hid (HW.out.trans (hb5.mono HW.out.size))
    have hw3 := hid (hw2.out w5 HB.out)
    clear hb5 hw2
    go_wp2_with fail
    refine hw3.out.mono ?_
    clear hw3
    intro x w6 hh
    obtain ⟨hx, rfl⟩ := hh
    subst x
    go_wp2_with fail
    go_ret
    exact ⟨HB.out, by rw [HE.out]; rfl⟩
  rcases Decidable.em (op = 16) with rfl | h16
  · have hl := hid (hla.out _ hW 0 (ho.one (by omega)))
    have hw2 := hid (fun W hb => hwa.out W hb (lastW st 0).2 false (ho.lo (by omega)))
    have HE : Hid (endsC cs st 16 = wantsC cs (lastW st 0).2 false) := hid (by unfold endsC; rw [if_neg (by omega), if_neg (by omega), if_pos (by omega)])
    have HW := hid hW
    clear ho hla hwa hW h0 h5 h14
    generalize lastW st 0 = x at *
    obtain ⟨xr, xv⟩ := x
    go_enter Tryz.func47, Tryz.ntmps47
    go_wp2_with fail
    refine hl.out.mono ?_
    clear hl
    intro x w5 hh
    obtain ⟨hb5, hx⟩ := hh
    subst x
    have HB : Hid (Below w.heap.size w w5) := hid (HW.out.trans (hb5.mono HW.out.size))
    have hw3 := hid (hw2.out w5 HB.out)
    clear hb5 hw2
    go_wp2_with fail
    refine hw3.out.mono ?_
    clear hw3
    intro x w6 hh
    obtain ⟨hx, rfl⟩ := hh
    subst x
    go_wp2_with fail
    go_ret
    exact ⟨HB.out, by rw [HE.out]; rfl⟩
  rcases Decidable.em (op = 24) with rfl | h24
  · have hl := hid (hla.out _ hW 0 (ho.one (by omega)))
    have hw2 := hid (fun W hb => hwa.out W hb (lastW st 0).2 true (ho.lo (by omega)))
    have HE : Hid (endsC cs st 24 = wantsC cs (lastW st 0).2 true) := hid (by unfold endsC; rw [if_neg (by omega), if_neg (by omega), if_neg (by omega), if_pos (by omega)])
    have HW := hid hW
    clear ho hla hwa hW h0 h5 h14 h16
    generalize lastW st 0 = x at *
    obtain ⟨xr, xv⟩ := x
    go_enter Tryz.func47, Tryz.ntmps47
    go_wp2_with fail
    refine hl.out.mono ?_
    clear hl
    intro x w5 hh
    obtain ⟨hb5, hx⟩ := hh
    subst x
    have HB : Hid (Below w.heap.size w w5) := hid (HW.out.trans (hb5.mono HW.out.size))
    have hw3 := hid (hw2.out w5 HB.out)
    clear hb5 hw2
    go_wp2_with fail
    refine hw3.out.mono ?_
    clear hw3
    intro x w6 hh
    obtain ⟨hx, rfl⟩ := hh
    subst x
    go_wp2_with fail
    go_ret
    exact ⟨HB.out, by rw [HE.out]; rfl⟩
  rcases Decidable.em (op = 15) with rfl | h15
  · have hl := hid (hla.out _ hW 1 (ho.two (by omega)))
    have hw2 := hid (fun W hb => hwa.out W hb (lastW st 1).2 false (ho.lo2 (by omega)))
    have HE : Hid (endsC cs st 15 = wantsC cs (lastW st 1).2 false) := hid (by unfold endsC; rw [if_neg (by omega), if_neg (by omega), if_neg (by omega), if_neg (by omega), if_pos (by omega)])
    have HW := hid hW
    clear ho hla hwa hW h0 h5 h14 h16 h24
    generalize lastW st 1 = x at *
    obtain ⟨xr, xv⟩ := x
    go_enter Tryz.func47, Tryz.ntmps47
    go_wp2_with fail
    refine hl.out.mono ?_
    clear hl
    intro x w5 hh
    obtain ⟨hb5, hx⟩ := hh
    subst x
    have HB : Hid (Below w.heap.size w w5) := hid (HW.out.trans (hb5.mono HW.out.size))
    have hw3 := hid (hw2.out w5 HB.out)
    clear hb5 hw2
    go_wp2_with fail
    refine hw3.out.mono ?_
    clear hw3
    intro x w6 hh
    obtain ⟨hx, rfl⟩ := hh
    subst x
    go_wp2_with fail
    go_ret
    exact ⟨HB.out, by rw [HE.out]; rfl⟩
  rcases Decidable.em (op = 17) with rfl | h17
  · have hl := hid (hla.out _ hW 1 (ho.two (by omega)))
    have hw2 := hid (fun W hb => hwa.out W hb (lastW st 1).2 false (ho.lo2 (by omega)))
    have HE : Hid (endsC cs st 17 = wantsC cs (lastW st 1).2 false) := hid (by unfold endsC; rw [if_neg (by omega), if_neg (by omega), if_neg (by omega), if_neg (by omega), if_pos (by omega)])
    have HW := hid hW
    clear ho hla hwa hW h0 h5 h14 h16 h24 h15
    generalize lastW st 1 = x at *
    obtain ⟨xr, xv⟩ := x
    go_enter Tryz.func47, Tryz.ntmps47
    go_wp2_with fail
    refine hl.out.mono ?_
    clear hl
    intro x w5 hh
    obtain ⟨hb5, hx⟩ := hh
    subst x
    have HB : Hid (Below w.heap.size w w5) := hid (HW.out.trans (hb5.mono HW.out.size))
    have hw3 := hid (hw2.out w5 HB.out)
    clear hb5 hw2
    go_wp2_with fail
    refine hw3.out.mono ?_
    clear hw3
    intro x w6 hh
    obtain ⟨hx, rfl⟩ := hh
    subst x
    go_wp2_with fail
    go_ret
    exact ⟨HB.out, by rw [HE.out]; rfl⟩
  have e0 : endsC cs st op = 0 := by unfold endsC; rw [if_neg h0, if_neg h5, if_neg (by omega), if_neg h24, if_neg (by omega)]
  rw [e0]
  have HW := hid hW
  clear e0 ho hla hwa hW
  go_enter Tryz.func47, Tryz.ntmps47
  go_wp2_with fail
  go_ret
  exact ⟨HW.out, rfl⟩
end Go.Proofs.YtdmdpindonghdaaGreatDoor
namespace Go.Proofs.YtdmdpindonghdaaGreatDoor
open Go.RowKit
theorem lk_le (b : ByteArray) (j : Nat) : lk b j ≤ 1 := by unfold lk kindN; split <;> omega
theorem codes_lk {b : ByteArray} {j : Nat} (h : j < b.size) : (codes b).getD j 0 = lk b j := codes_get h
theorem zip_getL {a b : List Nat} {L j : Nat} (ha : a.length = L) (hb : b.length = L) (hj : j < L) : (List.zipWith joinN a b).getD j 0 = joinN (a.getD j 0) (b.getD j 0) := by
  have h1 : j < a.length := by omega
  have h2 : j < b.length := by omega
  simp [List.getD_eq_getElem?_getD, List.getElem?_zipWith, List.getElem?_eq_getElem h1, List.getElem?_eq_getElem h2]
theorem list_ext {a b : List Nat} {L : Nat} (ha : a.length = L) (hb : b.length = L) (h : ∀ j, j < L → a.getD j 0 = b.getD j 0) : a = b := by
  apply List.ext_getElem (by omega)
  intro j h1 h2
  have := h j (by omega)
  simpa [List.getD_eq_getElem?_getD, List.getElem?_eq_getElem h1, List.getElem?_eq_getElem h2] using this
structure TS (k L : Nat) (all : List Pt) (a : Ac) : Prop where
  no : a.r = false → ∀ p ∈ all, p.at_ ≠ k
  len : a.r = true → a.lo.length = L
  st : a.r = true → ∃ p ∈ all, p.at_ = k ∧ a.st = codes p.st
  wit : a.r = true → ∀ j, j < L → (∃ p ∈ all, p.at_ = k ∧ a.lo.getD j 0 = lk p.lo j) ∨ (a.lo.getD j 0 = 2 ∧ ∃ p ∈ all, ∃ q ∈ all, p.at_ = k ∧ q.at_ = k ∧ lk p.lo j ≠ lk q.lo j)
  cov : a.r = true → ∀ j, j < L → ∀ p ∈ all, p.at_ = k → a.lo.getD j 0 = lk p.lo j ∨ a.lo.getD j 0 = 2
theorem TS.step {k L : Nat} {all : List Pt} {a : Ac} (h : TS k L all a) {p : Pt} (hp : p.lo.size = L) : TS k L (all ++ [p]) (toldS k a p) := by
  unfold toldS
  by_cases e : p.at_ = k
  · rw [if_pos e]
    have hcl : (codes p.lo).length = L := by rw [codes_len, hp]
    unfold baseA
    cases hr : a.r
    · rw [if_neg (by simp)]
      have hno := h.no hr
      have hg : ∀ j, j < L → (List.zipWith joinN (codes p.lo) (codes p.lo)).getD j 0 = lk p.lo j := fun j hj => by
        rw [zip_getL hcl hcl hj, joinN_eq rfl, codes_lk (by omega)]
      refine ⟨fun h => by (cases h), fun _ => by simp [hcl], fun _ => ⟨p, by simp, e, rfl⟩, fun _ j hj => .inl ⟨p, by simp, e, hg j hj⟩, fun _ j hj q hq hqk => ?_⟩
      rw [List.mem_append, List.mem_singleton] at hq
      rcases hq with hq | rfl
      · exact absurd hqk (hno q hq)
      · exact .inl (hg j hj)
    · rw [if_pos rfl]
      have hal := h.len hr
      have hg : ∀ j, j < L → (List.zipWith joinN a.lo (codes p.lo)).getD j 0 = joinN (a.lo.getD j 0) (lk p.lo j) := fun j hj => by
        rw [zip_getL hal hcl hj, codes_lk (by omega)]
      refine ⟨fun h => by (cases h), fun _ => by simp [hcl, hal], fun _ => ?_, fun _ j hj => ?_, fun _ j hj q hq hqk => ?_⟩
      · obtain ⟨q, hq, h1, h2⟩ := h.st hr
        exact ⟨q, by simp [hq], h1, h2⟩
      · simp only
        rw [hg j hj]
        by_cases ej : a.lo.getD j 0 = lk p.lo j
        · rw [joinN_eq ej]
          exact .inl ⟨p, by simp, e, ej⟩
        · rw [joinN_ne ej]
          refine .inr ⟨rfl, ?_⟩
          rcases h.wit hr j hj with ⟨q, hq, h1, h2⟩ | ⟨_, q, hq, q', hq', h1, h2, h3⟩
          · exact ⟨q, by simp [hq], p, by simp, h1, e, by rw [← h2]; exact ej⟩
          · exact ⟨q, by simp [hq], q', by simp [hq'], h1, h2, h3⟩
      · simp only
        rw [hg j hj]
        rw [List.mem_append, List.mem_singleton] at hq
        by_cases ej : a.lo.getD j 0 = lk p.lo j
        · rw [joinN_eq ej]
          rcases hq with hq | rfl
          · exact h.cov hr j hj q hq hqk
          · exact .inl ej
        · rw [joinN_ne ej]; exact .inr rfl
  · rw [if_neg e]
    refine ⟨fun hr q hq => ?_, h.len, fun hr => ?_, fun hr j hj => ?_, fun hr j hj q hq hqk => ?_⟩
    · rw [List.mem_append, List.mem_singleton] at hq
      rcases hq with hq | rfl
      · exact h.no hr q hq
      · exact e
    · obtain ⟨q, hq, h1, h2⟩ := h.st hr
      exact ⟨q, by simp [hq], h1, h2⟩
    · rcases h.wit hr j hj with ⟨q, hq, h1, h2⟩ | ⟨h0, q, hq, q', hq', h1, h2, h3⟩
      · exact .inl ⟨q, by simp [hq], h1, h2⟩
      · exact .inr ⟨h0, q, by simp [hq], q', by simp [hq'], h1, h2, h3⟩
    · rw [List.mem_append, List.mem_singleton] at hq
      rcases hq with hq | rfl
      · exact h.cov hr j hj q hq hqk
      · exact absurd hqk e
theorem ts_all {k L : Nat} (all : List Pt) (h : ∀ p ∈ all, p.lo.size = L) : TS k L all (toldF k all) := by
  suffices hs : ∀ (rest pre : List Pt) (a : Ac), (∀ p ∈ rest, p.lo.size = L) → TS k L pre a → TS k L (pre ++ rest) (rest.foldl (toldS k) a) from by
    have := hs all [] ⟨false, [], []⟩ h ⟨fun _ p hp => by simp at hp, fun h => by (cases h), fun h => by (cases h), fun h => by (cases h), fun h => by (cases h)⟩
    rw [List.nil_append] at this
    exact this
  intro rest
  induction rest with
  | nil => intro pre a _ h; simpa using h
  | cons p r ih =>
    intro pre a hp h
    have := ih (pre ++ [p]) (toldS k a p) (fun q hq => hp q (by simp [hq])) (h.step (hp p (by simp)))
    simpa using this
theorem stk_codes {f : Fr} {st : ByteArray} (h : Stk f (tl st)) : f.stk.take f.depth = codes st := by
  rw [h.stk, h.depth, List.take_append_of_le_length (by simp), List.take_of_length_le (by simp)]
  rfl
theorem told_same {l : List Ins} {L : Nat} (hw : Wf l L) {fs : List Fr} (hinv : SetInv l L fs) (hst : Still l fs) (hwt : WT l L) {all : List Pt} (hall : ∀ p, Reach l L p ↔ p ∈ all) {k : Nat} {i : Ins} {f : Fr} (hi : l[k]? = some i) (hf : fs[k]? = some f) (pl : Nat) :
    ptF pl f L = ⟨pl, (toldF k all).r, (toldF k all).lo, (toldF k all).st⟩ := by
  have hts : TS k L all (toldF k all) := ts_all all (fun p hp => (reach_ok hw ((hall p).2 hp)).lo)
  have hnone := toldF_none k all
  have hfo := hinv.ok f (List.mem_of_getElem? hf)
  have hL := hw.loc
  have hcov : ∀ lo st, At l L k lo st → Cov f lo st := fun lo st h => by
    obtain ⟨f', h1, h2⟩ := still_all hw hinv.ok hst hinv.cov h
    have : some f' = some f := h1.symm.trans hf
    cases this
    exact h2
  have hin : ∀ p ∈ all, p.at_ = k → At l L k p.lo p.st := fun p hp e => by
    have := (hall p).2 hp
    obtain ⟨a, b, c⟩ := p
    simp only at e
    subst e
    exact this
  have hout : ∀ lo st, At l L k lo st → (⟨k, lo, st⟩ : Pt) ∈ all := fun lo st h => (hall _).1 h
  generalize toldF k all = A at *
  unfold ptF
  cases hr : f.reached
  · rw [if_neg (by simp)]
    have har : A.r = false := by
      cases e : A.r
      · rfl
      · obtain ⟨p, hp, h1, _⟩ := hts.st e
        have := (hcov _ _ (hin p hp h1)).reached
        rw [hr] at this; cases this
    obtain ⟨e1, e2⟩ := hnone har
    rw [har, e1, e2]
  · rw [if_pos rfl]
    have hwit := hinv.sound hwt k f hf hr
    obtain ⟨lo0, st0, h0, hs0⟩ := hwit.one
    have har : A.r = true := by
      cases e : A.r
      · exact absurd rfl (hts.no e _ (hout _ _ h0))
      · rfl
    have est : f.stk.take f.depth = A.st := by
      obtain ⟨p, hp, h1, h2⟩ := hts.st har
      rw [h2, stk_codes hs0]
      have := (calm_st (p := ⟨k, lo0, st0⟩) (q := ⟨k, p.lo, p.st⟩) (hwt.2 _ _ i h0 (hin p hp h1) rfl hi) rfl).1
      simp only at this
      rw [this]
    have elo : f.lo.take L = A.lo := by
      refine list_ext (L := L) (by rw [List.length_take, hfo.lo]; omega) (hts.len har) (fun j hj => ?_)
      have e0 : (f.lo.take L).getD j 0 = f.lo.getD j 0 := by simp [List.getD_eq_getElem?_getD, hj]
      rw [e0]
      rcases hwit.lo j (by omega) with ⟨lo1, st1, h1, e1⟩ | ⟨e1, lo1, st1, lo2, st2, h1, h2, e2⟩
      · rcases hts.cov har j hj _ (hout _ _ h1) rfl with h | h
        · rw [e1]; exact h.symm
        · exfalso
          have l1 := lk_le lo1 j
          rcases hts.wit har j hj with ⟨p, _, _, h3⟩ | ⟨_, p, hp, q, hq, hpk, hqk, h3⟩
          · have := lk_le p.lo j; omega
          · apply h3
            have cp := (hcov _ _ (hin p hp hpk)).lo j (by omega)
            have cq := (hcov _ _ (hin q hq hqk)).lo j (by omega)
            rcases cp with cp | cp
            · rcases cq with cq | cq
              · rw [← cp, ← cq]
              · omega
            · omega
      · rw [e1]
        rcases hts.cov har j hj _ (hout _ _ h1) rfl with h | h
        · rcases hts.cov har j hj _ (hout _ _ h2) rfl with h' | h'
          · exact absurd (h.symm.trans h') e2
          · exact h'.symm
        · exact h.symm
    rw [har, est, elo]
theorem maps_same {l : List Ins} {L : Nat} (hw : Wf l L) {fs : List Fr} (hinv : SetInv l L fs) (hst : Still l fs) (hwt : WT l L) {all : List Pt} (hall : ∀ p, Reach l L p ↔ p ∈ all) : mapsF l fs L = toldAll l all := by
  have hlen := hinv.len
  apply List.ext_getElem
  · simp [mapsF, toldAll]; omega
  · intro k h1 h2
    have hk : k < l.length := by simpa [toldAll] using h2
    have hk2 : k < fs.length := by omega
    simp only [mapsF, List.getElem_zipWith, toldAll, List.getElem_map, List.getElem_range, toldM]
    rw [told_same hw hinv hst hwt hall (List.getElem?_eq_getElem hk) (List.getElem?_eq_getElem hk2) l[k].place]
    simp [List.getD_eq_getElem?_getD, hk]
/-- What a machine has that no step changes: its code, what Maps tells, its inputs, its number of cells. -/
structure Env where
  l : List Ins
  L : Nat
  ms : List MP
  zs : List Int
  n : Nat
def tysAt (E : Env) (k : Nat) : List Nat × List Nat := match E.ms[k]? with | some m => (m.lo, m.st) | none => ([], [])
def slotsC (tys : List Nat) (ws : List (Bool × Int)) : List (Nat × Int) := List.zipWith (fun t (x : Bool × Int) => (t, slotV t x.2)) tys ws
def locsS (E : Env) (s : MS) : List (Nat × Int) := slotsC (tysAt E s.at_).1 s.lo
def stkS (E : Env) (s : MS) : List (Nat × Int) := slotsC (tysAt E s.at_).2 s.st
def rootsS (E : Env) (s : MS) : List Int := rootsC (locsS E s ++ stkS E s)
def noRC : RC := ⟨false, false, false, false, -1, -1, 0⟩
def cellAt (cs : List RC) (r : Int) : RC := cs.getD r.toNat noRC
def cutS (s : MS) (k : Nat) : List (Bool × Int) := s.st.take (s.st.length - k)
def weakS (a : Int) (c : RC) : RC := { c with weak := true, a := a }
def noteS (v : Int) (c : RC) : RC := { c with num := v }
/-- What an instruction on cells does. -/
def touchS (i : Ins) (cell : Int) (s : MS) : MS :=
  if i.op = 13 then { s with st := s.st ++ [(true, cell)] }
  else if i.op = 23 then { s with hs := (s.hs.1.modify cell.toNat (weakS (lastW s.st 0).2), s.hs.2), st := cutS s 1 ++ [(true, cell)] }
  else if i.op = 14 ∨ i.op = 24 then { s with st := cutS s 1 ++ [(true, if i.n = 0 then (cellAt s.hs.1 (lastW s.st 0).2).a else (cellAt s.hs.1 (lastW s.st 0).2).b)] }
  else if i.op = 16 then { s with st := cutS s 1 ++ [(false, (cellAt s.hs.1 (lastW s.st 0).2).num)] }
  else if i.op = 17 then { s with hs := (s.hs.1.modify (lastW s.st 1).2.toNat (noteS (lastW s.st 0).2), s.hs.2), st := cutS s 2 }
  else if i.op = 15 then { s with hs := (storeC s.hs.1 s.hs.2.1 (lastW s.st 1).2.toNat i.n (lastW s.st 0).2, s.hs.2), st := cutS s 2 }
  else s
/-- What an instruction does to locals, stack, cells, inputs, output. -/
def doesS (E : Env) (i : Ins) (cell : Int) (s : MS) : MS :=
  if i.op = 1 then { s with st := s.st ++ [(false, ((i.n : Int) + 128) % 256 - 128)] }
  else if i.op = 2 ∨ i.op = 3 ∨ i.op = 4 ∨ i.op = 5 ∨ i.op = 6 ∨ i.op = 18 then { s with st := cutS s 2 ++ [(false, sumC i.op (lastW s.st 1).2 (lastW s.st 0).2)] }
  else if i.op = 7 then { s with st := s.st ++ [s.lo.getD i.n (false, 0)] }
  else if i.op = 8 then { s with lo := s.lo.set i.n (lastW s.st 0), st := cutS s 1 }
  else if i.op = 9 then { s with st := s.st ++ [lastW s.st 0] }
  else if i.op = 10 ∨ i.op = 20 then { s with st := cutS s 1 }
  else if i.op = 11 then { s with st := cutS s 2 ++ [lastW s.st 0, lastW s.st 1] }
  else if i.op = 12 then { s with st := s.st ++ [(true, -1)] }
  else if i.op = 21 then (if s.rd < E.zs.length then { s with rd := s.rd + 1, st := s.st ++ [(false, E.zs.getD s.rd 0)] } else { s with st := s.st ++ [(false, 0)] })
  else if i.op = 22 then { s with out := s.out ++ [(lastW s.st 0).2], st := cutS s 1 }
  else touchS i cell s
def toS (E : Env) (i : Ins) (s : MS) : Nat := if i.op = 19 ∨ i.op = 20 ∧ (lastW s.st 0).2 ≠ 0 then (findP i.n E.l 0).toNat else s.at_ + 1
def goS (E : Env) (i : Ins) (cell : Int) (s : MS) : MS := { doesS E i cell s with at_ := toS E i s }
/-- A step at an instruction. -/
def stepI (E : Env) (i : Ins) (s : MS) : MS :=
  if endsC s.hs.1 s.st i.op = 1 then { s with oc := 1, va := (lastW s.st 0).2 }
  else if endsC s.hs.1 s.st i.op ≠ 0 then { s with oc := (endsC s.hs.1 s.st i.op).toNat }
  else if i.op = 13 ∨ i.op = 23 then
    (if (takeC (rootsS E s) s.hs).1 < 0 then { s with oc := 5, hs := (takeC (rootsS E s) s.hs).2 }
     else goS E i (takeC (rootsS E s) s.hs).1 { s with hs := (takeC (rootsS E s) s.hs).2 })
  else goS E i (-1) s
def stepS (E : Env) (s : MS) : MS := match E.l[s.at_]? with | none => s | some i => stepI E i s
/-- Units of the collector's. -/
def collS (E : Env) (n : Nat) (s : MS) : MS := { s with hs := unitsC (rootsS E s) n s.hs }
/-- The point at which a machine stands. -/
def letB (b : Bool) : UInt8 := if b = true then 114 else 105
def flagB (ws : List (Bool × Int)) : ByteArray := ⟨(ws.map (fun x => letB x.1)).toArray⟩
def ptOf (s : MS) : Pt := ⟨s.at_, flagB s.lo, flagB s.st⟩
theorem tl_flag (ws : List (Bool × Int)) : tl (flagB ws) = ws.map (fun x => letB x.1) := rfl
theorem size_flag (ws : List (Bool × Int)) : (flagB ws).size = ws.length := by
  have := tl_len (flagB ws)
  rw [tl_flag, List.length_map] at this
  exact this.symm
theorem code_let (b : Bool) : code8 (letB b) = if b = true then 1 else 0 := by cases b <;> rfl
def kindB (b : Bool) : Nat := if b = true then 1 else 0
theorem codes_flag (ws : List (Bool × Int)) : codes (flagB ws) = ws.map (fun x => kindB x.1) := by
  unfold codes
  rw [tl_flag, List.map_map]
  apply List.map_congr_left
  intro x _
  exact code_let x.1
structure EnvOk (E : Env) : Prop where
  wf : Wf E.l E.L
  wt : WT E.l E.L
  n0 : ∀ i ∈ E.l, takesB i.op = false → i.n = 0
  len : E.ms.length = E.l.length
  place : ∀ (k : Nat) (i : Ins) (m : MP), E.l[k]? = some i → E.ms[k]? = some m → m.place = i.place
  tys : ∀ p, Reach E.l E.L p → ∃ m : MP, E.ms[p.at_]? = some m ∧ m.reached = true ∧ m.st = codes p.st ∧ m.lo.length = E.L ∧ ∀ j, j < E.L → m.lo.getD j 0 = lk p.lo j ∨ m.lo.getD j 0 = 2
  n1 : 1 ≤ E.n
  n32 : E.n ≤ 32
structure MInv (E : Env) (s : MS) : Prop where
  reach : Reach E.l E.L (ptOf s)
  refs : ∀ x ∈ s.lo ++ s.st, x.1 = true → -1 ≤ x.2 ∧ x.2 < (E.n : Int)
  hok : OkS s.hs
  hx : HpX s.hs.1 s.hs.2.1
  n : s.hs.1.length = E.n
  rd : s.rd ≤ E.zs.length
  oc : s.oc ≤ 5
theorem MInv.okp {E : Env} (he : EnvOk E) {s : MS} (h : MInv E s) : Okp E.l E.L (ptOf s) := reach_ok he.wf h.reach
theorem MInv.lo {E : Env} (he : EnvOk E) {s : MS} (h : MInv E s) : s.lo.length = E.L := by
  have := (h.okp he).lo
  rw [show (ptOf s).lo = flagB s.lo from rfl, size_flag] at this
  exact this
theorem MInv.st {E : Env} (he : EnvOk E) {s : MS} (h : MInv E s) : s.st.length ≤ 8 := by
  have := (h.okp he).st
  rw [show (ptOf s).st = flagB s.st from rfl, size_flag] at this
  exact this
theorem MInv.lt {E : Env} (he : EnvOk E) {s : MS} (h : MInv E s) : s.at_ < E.l.length := (h.okp he).at_
/-- The types at the instruction. -/
structure TysOk (E : Env) (s : MS) (m : MP) : Prop where
  get : E.ms[s.at_]? = some m
  st : m.st = s.st.map (fun x => kindB x.1)
  lol : m.lo.length = s.lo.length
  lo : ∀ j (h : j < s.lo.length), m.lo.getD j 0 = kindB s.lo[j].1 ∨ m.lo.getD j 0 = 2
  reached : m.reached = true
theorem MInv.tys {E : Env} (he : EnvOk E) {s : MS} (h : MInv E s) : ∃ m, TysOk E s m := by
  obtain ⟨m, h1, h2, h3, h4, h5⟩ := he.tys _ h.reach
  have hl := h.lo he
  refine ⟨m, h1, ?_, by rw [h4, hl], ?_, h2⟩
  · rw [h3]; exact codes_flag s.st
  · intro j hj
    rcases h5 j (by omega) with e | e
    · left
      rw [e, ← codes_lk (show j < (ptOf s).lo.size by show j < (flagB s.lo).size; rw [size_flag]; exact hj)]
      show (codes (flagB s.lo)).getD j 0 = _
      rw [codes_flag, List.getD_eq_getElem?_getD, List.getElem?_map, List.getElem?_eq_getElem hj]
      rfl
    · exact .inr e
theorem zipRefs {tys : List Nat} {ws : List (Bool × Int)} (h : ∀ j (hj : j < ws.length), tys.getD j 0 = kindB ws[j].1 ∨ tys.getD j 0 = 2) {N : Int} (hw : ∀ x ∈ ws, x.1 = true → -1 ≤ x.2 ∧ x.2 < N) : ∀ r ∈ rootsC (slotsC tys ws), -1 ≤ r ∧ r < N := by
  intro r hr
  unfold rootsC slotsC at hr
  obtain ⟨x, hx, rfl⟩ := List.mem_map.1 hr
  obtain ⟨hx1, hx2⟩ := List.mem_filter.1 hx
  obtain ⟨j, hj, e⟩ := List.mem_iff_getElem.1 hx1
  rw [List.length_zipWith] at hj
  rw [List.getElem_zipWith] at e
  subst e
  have hjw : j < ws.length := by omega
  have hjt : j < tys.length := by omega
  have hg := h j hjw
  rw [List.getD_eq_getElem?_getD, List.getElem?_eq_getElem hjt] at hg
  simp only [Option.getD_some] at hg
  simp only [beq_iff_eq] at hx2
  have hb : ws[j].1 = true := by
    rcases hg with e | e
    · rw [hx2] at e
      unfold kindB at e
      by_cases hb : ws[j].1 = true
      · exact hb
      · rw [if_neg hb] at e; omega
    · omega
  simp only
  unfold slotV
  rw [if_neg (by omega)]
  exact hw _ (List.getElem_mem hjw) hb
theorem MInv.roots {E : Env} (he : EnvOk E) {s : MS} (h : MInv E s) : ∀ r ∈ rootsS E s, -1 ≤ r ∧ r < (E.n : Int) := by
  obtain ⟨m, hm⟩ := h.tys he
  intro r hr
  unfold rootsS locsS stkS tysAt at hr
  rw [hm.get, rootsC_append] at hr
  rcases List.mem_append.1 hr with hr | hr
  · exact zipRefs hm.lo (fun x hx => h.refs x (List.mem_append_left _ hx)) r hr
  · refine zipRefs (fun j hj => .inl ?_) (fun x hx => h.refs x (List.mem_append_right _ hx)) r hr
    show m.st.getD j 0 = _
    rw [hm.st, List.getD_eq_getElem?_getD, List.getElem?_map, List.getElem?_eq_getElem hj]
    rfl
theorem MInv.rootsLen {E : Env} (he : EnvOk E) {s : MS} (h : MInv E s) : (rootsS E s).length ≤ 1000 := by
  have h1 := rootsC_len (locsS E s ++ stkS E s)
  have h2 := h.lo he
  have h3 := h.st he
  have h4 := he.wf.loc
  have h5 : (locsS E s).length ≤ s.lo.length := by unfold locsS slotsC; rw [List.length_zipWith]; omega
  have h6 : (stkS E s).length ≤ s.st.length := by unfold stkS slotsC; rw [List.length_zipWith]; omega
  rw [List.length_append] at h1
  unfold rootsS
  omega
structure HOk (n : Nat) (h : HSt) : Prop where
  ok : OkS h
  x : HpX h.1 h.2.1
  len : h.1.length = n
theorem HOk.unit {n : Nat} {h : HSt} (k : HOk n h) (rs : List Int) : HOk n (stepC rs h) := ⟨k.ok.step rs, k.x.unit rs, by show (unitC _ _ _ _).1.length = n; rw [unitC_len]; exact k.len⟩
theorem HOk.units {n : Nat} {h : HSt} (k : HOk n h) (rs : List Int) : ∀ m, HOk n (unitsC rs m h)
  | 0 => k
  | m + 1 => (HOk.units k rs m).unit rs
theorem toIdle_ind {rs : List Int} {P : HSt → Prop} (hP : ∀ h, P h → P (stepC rs h)) : ∀ (m : Nat) (h : HSt), P h → P (toIdle rs m h)
  | 0, _, k => k
  | m + 1, h, k => by
    simp only [toIdle]
    split
    · exact k
    · exact toIdle_ind hP m _ (hP h k)
theorem idleC_ind {rs : List Int} {P : HSt → Prop} (hP : ∀ h, P h → P (stepC rs h)) {h : HSt} (k : P h) : P (idleC rs h) := toIdle_ind hP _ h k
theorem HOk.idle {n : Nat} {h : HSt} (k : HOk n h) (rs : List Int) : HOk n (idleC rs h) := idleC_ind (P := HOk n) (fun _ k => k.unit rs) k
theorem fresh_ok (d : Bool) : CellOk (freshC d) := ⟨fun h => by (cases h), by simp [freshC], by simp [freshC], fun h => by (cases h)⟩
theorem fresh_col (d : Bool) : colR (freshC d) = if d = true then 3 else 1 := by cases d <;> rfl
theorem lowC_at {h : HSt} (k : 0 ≤ lowC h) : ∃ hl : (lowC h).toNat < h.1.length, h.1[(lowC h).toNat].used = false := by
  rcases firstP_spec (fun c => !c.used) h.1 0 with e | ⟨j, hj, e, hq⟩
  · unfold lowC at k; omega
  · have e' : lowC h = (j : Int) := by unfold lowC; rw [e]; simp
    have : (lowC h).toNat = j := by omega
    refine ⟨by omega, ?_⟩
    simp only [this]
    simpa using hq
theorem HOk.set {n : Nat} {h : HSt} (k : HOk n h) (j : Nat) (c : RC) (hc : CellOk c) (hr : c.a < (n : Int) ∧ c.b < (n : Int)) (h2 : h.2.1 = 2 → colR c ≠ 2) : HOk n (h.1.set j c, h.2) := by
  refine ⟨?_, ⟨?_, ?_⟩, by simp [k.len]⟩
  · refine ⟨by simpa using k.ok.pos, by simpa using k.ok.len, ?_, k.ok.phz, by simpa using k.ok.hand, k.ok.nohand⟩
    intro d hd
    simp only [List.length_set]
    rcases List.mem_or_eq_of_mem_set hd with e | e
    · exact k.ok.refs d e
    · subst e; rw [k.len]; exact hr
  · intro d hd
    rcases List.mem_or_eq_of_mem_set hd with e | e
    · exact k.x.cell d e
    · subst e; exact hc
  · intro e2 d hd
    rcases List.mem_or_eq_of_mem_set hd with e | e
    · exact k.x.nogrey e2 d e
    · subst e; exact h2 e2
theorem HOk.modify {n : Nat} {h : HSt} (k : HOk n h) (j : Nat) (f : RC → RC) (hf : ∀ c ∈ h.1, c.a < (n : Int) → c.b < (n : Int) → CellOk c → h.1[j]? = some c → CellOk (f c) ∧ (f c).a < (n : Int) ∧ (f c).b < (n : Int) ∧ colR (f c) = colR c) : HOk n (h.1.modify j f, h.2) := by
  by_cases hj : j < h.1.length
  · rw [modify_set hj]
    have hm := List.getElem_mem hj
    have hr := k.ok.refs _ hm
    rw [k.len] at hr
    obtain ⟨a1, a2, a3, a4⟩ := hf _ hm hr.1 hr.2 (k.x.cell _ hm) (List.getElem?_eq_getElem hj)
    exact k.set j _ a1 ⟨a2, a3⟩ (fun e => by rw [a4]; exact k.x.nogrey e _ hm)
  · rw [List.modify_eq_self (by omega)]; exact k
theorem HOk.begin {n : Nat} {h : HSt} (k : HOk n h) : HOk n (beginC h).2 :=
  k.set _ _ (fresh_ok _) (by have := k.ok.pos; have := k.len; simp only [freshC]; omega) (fun _ => by rw [fresh_col]; split <;> omega)
theorem HOk.take {n : Nat} {h : HSt} (k : HOk n h) (rs : List Int) : HOk n (takeC rs h).2 ∧ (takeC rs h).1 < (n : Int) ∧ -1 ≤ (takeC rs h).1 := by
  have hb : ∀ {q : HSt}, HOk n q → 0 ≤ lowC q → HOk n (beginC q).2 ∧ (beginC q).1 < (n : Int) ∧ -1 ≤ (beginC q).1 := fun {q} kq hq => ⟨kq.begin, by
    obtain ⟨hl, _⟩ := lowC_at hq
    rw [kq.len] at hl
    show lowC q < _
    omega, by show -1 ≤ lowC q; omega⟩
  unfold takeC
  split
  · exact hb k (by assumption)
  split
  · exact hb (k.idle rs) (by assumption)
  split
  · exact hb (((k.idle rs).unit rs).idle rs) (by assumption)
  · exact ⟨((k.idle rs).unit rs).idle rs, by have := k.ok.pos; have := k.len; simp only; omega, by simp⟩
theorem reachC_one (cs : List RC) (r : Int) : reachC cs [r] = if 0 ≤ r then cs.modify r.toNat markC else cs := rfl
theorem HOk.reach1 {n : Nat} {h : HSt} (k : HOk n h) (h1 : h.2.1 ≠ 2) (r : Int) : HOk n (reachC h.1 [r], h.2) := by
  rw [reachC_one]
  split
  · by_cases hj : r.toNat < h.1.length
    · rw [modify_set hj]
      have hm := List.getElem_mem hj
      have hr := k.ok.refs _ hm
      rw [k.len] at hr
      exact k.set _ _ (k.x.cell _ hm).mark hr (fun e => absurd e h1)
    · rw [List.modify_eq_self (by omega)]; exact k
  · exact k
theorem setAB_fix (m : Nat) (v : Int) (c : RC) : colR (setAB m v c) = colR c ∧ (setAB m v c).used = c.used ∧ (setAB m v c).weak = c.weak ∧ (setAB m v c).num = c.num := by
  unfold setAB; split <;> exact ⟨rfl, rfl, rfl, rfl⟩
theorem HOk.store {n : Nat} {h : HSt} (k : HOk n h) (r m : Nat) (v : Int) (hv : -1 ≤ v ∧ v < (n : Int)) (hc : ∀ c, h.1[r]? = some c → c.weak = false) : HOk n (storeC h.1 h.2.1 r m v, h.2) := by
  have k1 : HOk n (h.1.modify r (setAB m v), h.2) := k.modify r _ (fun c _ ha hb ho hg => by
    obtain ⟨e1, _, e3, _⟩ := setAB_fix m v c
    have u2 := hc c hg
    refine ⟨⟨fun _ => by rw [e3, u2], ?_, ?_, fun e => by (rw [e3, u2] at e; cases e)⟩, ?_, ?_, e1⟩
    · unfold setAB; split
      · exact hv.1
      · exact ho.lowA
    · unfold setAB; split
      · exact ho.lowB
      · exact hv.1
    · unfold setAB; split
      · exact hv.2
      · exact ha
    · unfold setAB; split
      · exact hb
      · exact hv.2)
  unfold storeC
  split
  · rename_i e
    exact k1.reach1 (by simp only; omega) v
  · exact k1
theorem HOk.weak {n : Nat} {h : HSt} (k : HOk n h) (r : Nat) (v : Int) (hv : -1 ≤ v ∧ v < (n : Int)) (hc : ∀ c, h.1[r]? = some c → c.used = true ∧ c.b = -1 ∧ c.num = 0) : HOk n (h.1.modify r (weakS v), h.2) :=
  k.modify r _ (fun c _ _ hb _ hg => by
    obtain ⟨u1, u2, u3⟩ := hc c hg
    exact ⟨⟨fun e => by (exact absurd (u1.symm.trans e) (by simp)), hv.1, by show -1 ≤ c.b; omega, fun _ => ⟨u2, u3⟩⟩, hv.2, hb, rfl⟩)
theorem HOk.note {n : Nat} {h : HSt} (k : HOk n h) (r : Nat) (v : Int) (hc : ∀ c, h.1[r]? = some c → c.weak = false) : HOk n (h.1.modify r (noteS v), h.2) :=
  k.modify r _ (fun c _ ha hb ho hg => by
    have u2 := hc c hg
    exact ⟨⟨fun _ => u2, ho.lowA, ho.lowB, fun e => by (exact absurd (u2.symm.trans e) (by simp))⟩, ha, hb, rfl⟩)
theorem afterV_std {lo st : ByteArray} {op n : Nat} (h : op ≠ 7 ∧ op ≠ 8 ∧ op ≠ 9 ∧ op ≠ 10 ∧ op ≠ 11) (ht : (afterV lo st op n).2.2 = true) :
    (afterV lo st op n).1 = lo ∧ tl (afterV lo st op n).2.1 = (tl st).take (st.size - (popsL op).length) ++ pushesL op ∧ (popsL op).length ≤ st.size ∧ (tl st).drop (st.size - (popsL op).length) = popsL op := by
  obtain ⟨h7, h8, h9, h10, h11⟩ := h
  have hs : (popsS op).size = (popsL op).length := rfl
  unfold afterV at ht ⊢
  simp only [if_neg h7, if_neg h8, if_neg h9, if_neg h10, if_neg h11] at ht ⊢
  by_cases hk : st.size < (popsS op).size
  · rw [if_pos hk] at ht; cases ht
  rw [if_neg hk] at ht ⊢
  by_cases hx : st.extract (st.size - (popsS op).size) st.size = popsS op
  · rw [if_pos hx]
    have e := congrArg tl hx
    rw [tl_extract] at e
    refine ⟨rfl, ?_, by omega, ?_⟩
    · show tl (_ ++ _) = _
      rw [tl_append, tl_extract]
      simp only [List.drop_zero, Nat.sub_zero]
      rfl
    · rw [List.take_of_length_le (by rw [List.length_drop, tl_len]; omega)] at e
      exact e
  · rw [if_neg hx] at ht; cases ht
/-- The instruction at which a machine stands can be done. -/
structure CanI (E : Env) (s : MS) (i : Ins) : Prop where
  get : E.l[s.at_]? = some i
  ok : (afterV (flagB s.lo) (flagB s.st) i.op i.n).2.2 = true
  le : (afterV (flagB s.lo) (flagB s.st) i.op i.n).2.1.size ≤ 8
theorem MInv.can {E : Env} (he : EnvOk E) {s : MS} (h : MInv E s) : ∃ i, CanI E s i := by
  have hlt := h.lt he
  have hi : E.l[(ptOf s).at_]? = some E.l[s.at_] := List.getElem?_eq_getElem hlt
  have hs := he.wt.1 _ h.reach
  rw [stepP_eq hi] at hs
  have hn : ¬ ((afterV (flagB s.lo) (flagB s.st) E.l[s.at_].op E.l[s.at_].n).2.2 = false ∨ 8 < (afterV (flagB s.lo) (flagB s.st) E.l[s.at_].op E.l[s.at_].n).2.1.size) := by
    intro hc
    exact hs (if_pos hc)
  simp only [not_or, Bool.not_eq_false, Nat.not_lt] at hn
  exact ⟨_, hi, hn.1, hn.2⟩
theorem CanI.mem {E : Env} {s : MS} {i : Ins} (h : CanI E s i) : i ∈ E.l := List.mem_of_getElem? h.get
/-- The words that an instruction pops, and their flags. -/
structure Std (s : MS) (op : Nat) : Prop where
  len : (popsL op).length ≤ s.st.length
  flags : (s.st.drop (s.st.length - (popsL op).length)).map (fun x => letB x.1) = popsL op
theorem CanI.std {E : Env} {s : MS} {i : Ins} (h : CanI E s i) (hn : i.op ≠ 7 ∧ i.op ≠ 8 ∧ i.op ≠ 9 ∧ i.op ≠ 10 ∧ i.op ≠ 11) : Std s i.op := by
  obtain ⟨_, _, h3, h4⟩ := afterV_std hn h.ok
  rw [size_flag] at h3
  rw [tl_flag, size_flag, ← List.map_drop] at h4
  exact ⟨h3, h4⟩
theorem drop_lastW {st : List (Bool × Int)} {k : Nat} (h : k < st.length) : st.drop (st.length - 1 - k) = lastW st k :: st.drop (st.length - k) := by
  have e := lastW_at h
  have hl := (List.getElem?_eq_some_iff.1 e).1
  rw [List.drop_eq_getElem_cons hl, (List.getElem?_eq_some_iff.1 e).2]
  congr 2
  omega
theorem letB_r {b : Bool} (h : letB b = 114) : b = true := by cases b; · exact absurd h (by decide)
                                                              · rfl
theorem Std.one {s : MS} {op : Nat} {c : UInt8} (h : Std s op) (e : popsL op = [c]) : 0 < s.st.length ∧ letB (lastW s.st 0).1 = c := by
  have h1 := h.len
  have h2 := h.flags
  rw [e] at h1 h2
  simp only [List.length_cons, List.length_nil] at h1 h2
  have hp : 0 < s.st.length := by omega
  refine ⟨hp, ?_⟩
  rw [show s.st.length - (0 + 1) = s.st.length - 1 - 0 by omega, drop_lastW hp] at h2
  simpa using h2
theorem Std.two {s : MS} {op : Nat} {c d : UInt8} (h : Std s op) (e : popsL op = [c, d]) : 1 < s.st.length ∧ letB (lastW s.st 1).1 = c ∧ letB (lastW s.st 0).1 = d := by
  have h1 := h.len
  have h2 := h.flags
  rw [e] at h1 h2
  simp only [List.length_cons, List.length_nil] at h1 h2
  have hp : 1 < s.st.length := by omega
  refine ⟨hp, ?_⟩
  rw [show s.st.length - (0 + 1 + 1) = s.st.length - 1 - 1 by omega, drop_lastW hp, show s.st.length - 1 = s.st.length - 1 - 0 by omega, drop_lastW (by omega)] at h2
  simpa using h2
theorem lastW_mem {st : List (Bool × Int)} {k : Nat} (h : k < st.length) : lastW st k ∈ st := List.mem_of_getElem? (lastW_at h)
theorem MInv.ref {E : Env} {s : MS} (h : MInv E s) {k : Nat} (hk : k < s.st.length) (hb : (lastW s.st k).1 = true) : -1 ≤ (lastW s.st k).2 ∧ (lastW s.st k).2 < (E.n : Int) := h.refs _ (List.mem_append_right _ (lastW_mem hk)) hb
theorem flag_ext {ws : List (Bool × Int)} {b : ByteArray} (h : ws.map (fun x => letB x.1) = tl b) : flagB ws = b := tl_inj (by rw [tl_flag]; exact h)
theorem flags_last {ws : List (Bool × Int)} {k : Nat} (h : k < ws.length) : tl ((flagB ws).extract ((flagB ws).size - 1 - k) ((flagB ws).size - k)) = [letB (lastW ws k).1] := by
  rw [tl_extract, size_flag, tl_flag, ← List.map_drop, ← List.map_take, drop_lastW h, show ws.length - k - (ws.length - 1 - k) = 1 by omega]
  simp
/-- The flags behind an instruction are its types behind it. -/
theorem does_flags {E : Env} (he : EnvOk E) {s : MS} (h : MInv E s) {i : Ins} (hc : CanI E s i) (h0 : i.op ≠ 0) (cell : Int) :
    flagB (doesS E i cell s).lo = (afterV (flagB s.lo) (flagB s.st) i.op i.n).1 ∧ flagB (doesS E i cell s).st = (afterV (flagB s.lo) (flagB s.st) i.op i.n).2.1 := by
  have hlo := h.lo he
  have hok := hc.ok
  have hsz := size_flag s.st
  by_cases e7 : i.op = 7
  · have hn := he.wf.arg i hc.mem (.inl e7)
    have hnl : i.n < s.lo.length := by omega
    unfold afterV doesS
    simp only [e7, if_pos]
    simp only [reduceIte, show (7 : Nat) ≠ 1 by decide, show ¬ ((7 : Nat) = 2 ∨ (7 : Nat) = 3 ∨ (7 : Nat) = 4 ∨ (7 : Nat) = 5 ∨ (7 : Nat) = 6 ∨ (7 : Nat) = 18) by decide]
    refine ⟨trivial, flag_ext ?_⟩
    rw [tl_append, tl_extract, tl_flag, tl_flag, List.map_append, show i.n + 1 - i.n = 1 by omega, List.drop_eq_getElem_cons (by simpa using hnl)]
    simp [List.getElem?_eq_getElem hnl]
  by_cases e8 : i.op = 8
  · have hn := he.wf.arg i hc.mem (.inr e8)
    have hnl : i.n < s.lo.length := by omega
    unfold afterV at hok ⊢
    unfold doesS
    simp only [e8] at hok ⊢
    simp only [reduceIte, show (8 : Nat) ≠ 1 by decide, show (8 : Nat) ≠ 7 by decide, show ¬ ((8 : Nat) = 2 ∨ (8 : Nat) = 3 ∨ (8 : Nat) = 4 ∨ (8 : Nat) = 5 ∨ (8 : Nat) = 6 ∨ (8 : Nat) = 18) by decide] at hok ⊢
    by_cases hk : (flagB s.st).size < 1
    · rw [if_pos hk] at hok; cases hok
    rw [if_neg hk]
    have hp : 0 < s.st.length := by omega
    have hfl := flags_last hp
    simp only [Nat.sub_zero] at hfl
    refine ⟨flag_ext ?_, flag_ext ?_⟩
    · show (s.lo.set i.n (lastW s.st 0)).map _ = _
      rw [tl_append, tl_append, hfl, tl_extract, tl_extract, tl_flag, List.map_set, Nat.sub_zero, List.drop_zero, size_flag]
      rw [List.take_of_length_le (l := List.drop _ _) (by simp)]
      rw [List.set_eq_take_append_cons_drop, if_pos (by simpa using hnl)]
      simp
    · show (cutS s 1).map _ = _
      rw [tl_extract, tl_flag, size_flag, List.drop_zero, Nat.sub_zero, ← List.map_take]
      rfl
  by_cases e9 : i.op = 9
  · unfold afterV at hok ⊢
    unfold doesS
    simp only [e9] at hok ⊢
    simp only [reduceIte, show (9 : Nat) ≠ 1 by decide, show (9 : Nat) ≠ 7 by decide, show (9 : Nat) ≠ 8 by decide, show ¬ ((9 : Nat) = 2 ∨ (9 : Nat) = 3 ∨ (9 : Nat) = 4 ∨ (9 : Nat) = 5 ∨ (9 : Nat) = 6 ∨ (9 : Nat) = 18) by decide] at hok ⊢
    by_cases hk : (flagB s.st).size < 1
    · rw [if_pos hk] at hok; cases hok
    rw [if_neg hk]
    have hp : 0 < s.st.length := by omega
    have hfl := flags_last hp
    simp only [Nat.sub_zero] at hfl
    refine ⟨rfl, flag_ext ?_⟩
    rw [tl_append, hfl, tl_flag, List.map_append]
    rfl
  by_cases e10 : i.op = 10
  · unfold afterV at hok ⊢
    unfold doesS
    simp only [e10] at hok ⊢
    simp only [reduceIte, show (10 : Nat) ≠ 1 by decide, show (10 : Nat) ≠ 7 by decide, show (10 : Nat) ≠ 8 by decide, show (10 : Nat) ≠ 9 by decide, show ¬ ((10 : Nat) = 2 ∨ (10 : Nat) = 3 ∨ (10 : Nat) = 4 ∨ (10 : Nat) = 5 ∨ (10 : Nat) = 6 ∨ (10 : Nat) = 18) by decide, true_or] at hok ⊢
    by_cases hk : (flagB s.st).size < 1
    · rw [if_pos hk] at hok; cases hok
    rw [if_neg hk]
    refine ⟨rfl, flag_ext ?_⟩
    show (cutS s 1).map _ = _
    rw [tl_extract, tl_flag, size_flag, List.drop_zero, Nat.sub_zero, ← List.map_take]
    rfl
  by_cases e11 : i.op = 11
  · unfold afterV at hok ⊢
    unfold doesS
    simp only [e11] at hok ⊢
    simp only [reduceIte, show (11 : Nat) ≠ 1 by decide, show (11 : Nat) ≠ 7 by decide, show (11 : Nat) ≠ 8 by decide, show (11 : Nat) ≠ 9 by decide, show (11 : Nat) ≠ 10 by decide, show ¬ ((11 : Nat) = 2 ∨ (11 : Nat) = 3 ∨ (11 : Nat) = 4 ∨ (11 : Nat) = 5 ∨ (11 : Nat) = 6 ∨ (11 : Nat) = 18) by decide] at hok ⊢
    by_cases hk : (flagB s.st).size < 2
    · rw [if_pos hk] at hok; cases hok
    rw [if_neg hk]
    have f0 := flags_last (ws := s.st) (k := 0) (by omega)
    have f1 := flags_last (ws := s.st) (k := 1) (by omega)
    simp only [Nat.sub_zero] at f0
    rw [show (flagB s.st).size - 1 - 1 = (flagB s.st).size - 2 by omega] at f1
    refine ⟨rfl, flag_ext ?_⟩
    rw [tl_append, tl_append, f0, f1, tl_extract, tl_flag, size_flag, List.drop_zero, Nat.sub_zero, ← List.map_take]
    show (cutS s 2 ++ [lastW s.st 0, lastW s.st 1]).map _ = _
    simp [cutS]
  obtain ⟨a1, a2, a3, a4⟩ := afterV_std ⟨e7, e8, e9, e10, e11⟩ hok
  rw [size_flag, tl_flag, ← List.map_take] at a2
  have hop := he.wf.op i hc.mem
  suffices hs : (doesS E i cell s).lo = s.lo ∧ (doesS E i cell s).st.map (fun x => letB x.1) = (s.st.take (s.st.length - (popsL i.op).length)).map (fun x => letB x.1) ++ pushesL i.op by
    exact ⟨by rw [hs.1, a1], flag_ext (by rw [hs.2, a2])⟩
  unfold doesS touchS cutS
  have hcases : i.op = 1 ∨ i.op = 2 ∨ i.op = 3 ∨ i.op = 4 ∨ i.op = 5 ∨ i.op = 6 ∨ i.op = 12 ∨ i.op = 13 ∨ i.op = 14 ∨ i.op = 15 ∨ i.op = 16 ∨ i.op = 17 ∨ i.op = 18 ∨ i.op = 19 ∨ i.op = 20 ∨ i.op = 21 ∨ i.op = 22 ∨ i.op = 23 ∨ i.op = 24 := by omega
  rcases hcases with e | e | e | e | e | e | e | e | e | e | e | e | e | e | e | e | e | e | e
  all_goals
    simp only [e, popsL, pushesL]
    simp only [Nat.reduceEqDiff, or_false, or_true, or_self, true_and, if_true, if_false]
  case inr.inr.inr.inr.inr.inr.inr.inr.inr.inr.inr.inr.inr.inr.inr.inl => split <;> simp [letB]
  all_goals simp [letB]
theorem endsC_range {cs : List RC} {st : List (Bool × Int)} {op : Int} : 0 ≤ endsC cs st op ∧ endsC cs st op ≤ 4 := by
  have hw : ∀ r b, 0 ≤ wantsC cs r b ∧ wantsC cs r b ≤ 4 := by
    intro r b
    unfold wantsC
    split
    · omega
    split <;> omega
  unfold endsC
  split
  · omega
  split
  · split <;> omega
  split
  · exact hw _ _
  split
  · exact hw _ _
  split
  · exact hw _ _
  · omega
theorem endsC_halt {cs : List RC} {st : List (Bool × Int)} {op : Int} (h : endsC cs st op ≠ 1) : op ≠ 0 := by
  intro e
  apply h
  unfold endsC
  rw [if_pos e]
theorem wantsC_zero {cs : List RC} {r : Int} {b : Bool} (h : wantsC cs r b = 0) (hr : r < (cs.length : Int)) : 0 ≤ r ∧ ∃ hl : r.toNat < cs.length, cs[r.toNat].weak = b := by
  unfold wantsC at h
  by_cases h0 : r < 0
  · rw [if_pos h0] at h; omega
  rw [if_neg h0] at h
  have hl : r.toNat < cs.length := by omega
  refine ⟨by omega, hl, ?_⟩
  rw [List.getElem?_eq_getElem hl] at h
  by_cases e : cs[r.toNat].weak = b
  · exact e
  · rw [if_neg (by simpa using e)] at h; omega
theorem low_used {h : HSt} (hl : 0 ≤ lowC h) : (beginC h).2.1[(beginC h).1.toNat]? = some (freshC (doneB h.2.1 h.2.2 (lowC h).toNat)) := by
  obtain ⟨hlt, _⟩ := lowC_at hl
  show (h.1.set (lowC h).toNat _)[(lowC h).toNat]? = _
  rw [List.getElem?_set_self hlt]
/-- The cell that is taken is a fresh one. -/
theorem take_fresh {h : HSt} (rs : List Int) (hc : ¬ (takeC rs h).1 < 0) : ∃ d, (takeC rs h).2.1[(takeC rs h).1.toNat]? = some (freshC d) := by
  unfold takeC at hc ⊢
  split
  · exact ⟨_, low_used (by assumption)⟩
  rename_i h1
  rw [if_neg h1] at hc
  split
  · exact ⟨_, low_used (by assumption)⟩
  rename_i h2
  rw [if_neg h2] at hc
  split
  · exact ⟨_, low_used (by assumption)⟩
  rename_i h3
  rw [if_neg h3] at hc
  simp at hc
theorem MInv.hh {E : Env} {s : MS} (h : MInv E s) : HOk E.n s.hs := ⟨h.hok, h.hx, h.n⟩
theorem cut_sub {s : MS} {k : Nat} {x : Bool × Int} (h : x ∈ cutS s k) : x ∈ s.st := List.mem_of_mem_take h
/-- What an instruction leaves: references in range, a heap in order. -/
structure DoneOk (E : Env) (s : MS) : Prop where
  refs : ∀ x ∈ s.lo ++ s.st, x.1 = true → -1 ≤ x.2 ∧ x.2 < (E.n : Int)
  hh : HOk E.n s.hs
  rd : s.rd ≤ E.zs.length
theorem does_ok {E : Env} (he : EnvOk E) {s : MS} {i : Ins} (hlen : s.lo.length = E.L) (hd : DoneOk E s) (hc : CanI E s i) (hends : endsC s.hs.1 s.st i.op = 0) (cell : Int) (hcell : i.op = 13 ∨ i.op = 23 → 0 ≤ cell ∧ cell < (E.n : Int) ∧ ∃ d, s.hs.1[cell.toNat]? = some (freshC d)) : DoneOk E (doesS E i cell s) := by
  have hop := he.wf.op i hc.mem
  have hlo : ∀ {x}, x ∈ s.lo → x.1 = true → -1 ≤ x.2 ∧ x.2 < (E.n : Int) := fun hx => hd.refs _ (List.mem_append_left _ hx)
  have hst : ∀ {x}, x ∈ s.st → x.1 = true → -1 ≤ x.2 ∧ x.2 < (E.n : Int) := fun hx => hd.refs _ (List.mem_append_right _ hx)
  have push : ∀ (k : Nat) (ws : List (Bool × Int)), (∀ x ∈ ws, x.1 = true → -1 ≤ x.2 ∧ x.2 < (E.n : Int)) → ∀ x ∈ s.lo ++ (cutS s k ++ ws), x.1 = true → -1 ≤ x.2 ∧ x.2 < (E.n : Int) := by
    intro k ws hws x hx
    rcases List.mem_append.1 hx with hx | hx
    · exact hlo hx
    rcases List.mem_append.1 hx with hx | hx
    · exact hst (cut_sub hx)
    · exact hws x hx
  have push0 : ∀ (ws : List (Bool × Int)), (∀ x ∈ ws, x.1 = true → -1 ≤ x.2 ∧ x.2 < (E.n : Int)) → ∀ x ∈ s.lo ++ (s.st ++ ws), x.1 = true → -1 ≤ x.2 ∧ x.2 < (E.n : Int) := by
    intro ws hws x hx
    have := push 0 ws hws x
    unfold cutS at this
    rw [Nat.sub_zero, List.take_length] at this
    exact this hx
  have cut : ∀ (k : Nat), ∀ x ∈ s.lo ++ cutS s k, x.1 = true → -1 ≤ x.2 ∧ x.2 < (E.n : Int) := by
    intro k x hx
    exact push k [] (by simp) x (by simpa using hx)
  have hlen8 : ∀ {k : Nat}, k < s.st.length → (lastW s.st k).1 = true → -1 ≤ (lastW s.st k).2 ∧ (lastW s.st k).2 < (E.n : Int) := fun hk => hst (lastW_mem hk)
  have hpos : (0 : Int) < (E.n : Int) := by have := he.n1; omega
  have hN := hd.hh.len
  have crefs : ∀ r, -1 ≤ (cellAt s.hs.1 r).a ∧ (cellAt s.hs.1 r).a < (E.n : Int) ∧ -1 ≤ (cellAt s.hs.1 r).b ∧ (cellAt s.hs.1 r).b < (E.n : Int) := by
    intro r
    unfold cellAt
    rw [List.getD_eq_getElem?_getD]
    by_cases hr : r.toNat < s.hs.1.length
    · rw [List.getElem?_eq_getElem hr]
      have h1 := hd.hh.ok.refs _ (List.getElem_mem hr)
      have h2 := hd.hh.x.cell _ (List.getElem_mem hr)
      rw [hN] at h1
      exact ⟨h2.lowA, h1.1, h2.lowB, h1.2⟩
    · rw [List.getElem?_eq_none (by omega)]
      simp only [Option.getD_none, noRC]
      omega
  by_cases e1 : i.op = 1
  · simp only [doesS, e1, if_true]
    exact ⟨push0 _ (by simp), hd.hh, hd.rd⟩
  by_cases e2 : i.op = 2 ∨ i.op = 3 ∨ i.op = 4 ∨ i.op = 5 ∨ i.op = 6 ∨ i.op = 18
  · simp only [doesS, if_neg e1, if_pos e2]
    exact ⟨push _ _ (by simp), hd.hh, hd.rd⟩
  by_cases e7 : i.op = 7
  · simp only [doesS, if_neg e1, if_neg e2, if_pos e7]
    refine ⟨push0 _ ?_, hd.hh, hd.rd⟩
    have hn := he.wf.arg i hc.mem (.inl e7)
    have hnl : i.n < s.lo.length := by omega
    rw [List.getD_eq_getElem?_getD, List.getElem?_eq_getElem hnl]
    simpa using hlo (List.getElem_mem hnl)
  by_cases e8 : i.op = 8
  · simp only [doesS, if_neg e1, if_neg e2, if_neg e7, if_pos e8]
    have hp : 0 < s.st.length := by
      have := hc.ok
      unfold afterV at this
      rw [if_neg e7, if_pos e8, size_flag] at this
      by_cases hk : s.st.length < 1
      · rw [if_pos hk] at this; cases this
      · omega
    refine ⟨?_, hd.hh, hd.rd⟩
    intro x hx
    rcases List.mem_append.1 hx with hx | hx
    · rcases List.mem_or_eq_of_mem_set hx with hx | hx
      · exact hlo hx
      · rw [hx]; exact hlen8 hp
    · exact hst (cut_sub hx)
  by_cases e9 : i.op = 9
  · simp only [doesS, if_neg e1, if_neg e2, if_neg e7, if_neg e8, if_pos e9]
    have hp : 0 < s.st.length := by
      have := hc.ok
      unfold afterV at this
      rw [if_neg e7, if_neg e8, if_pos e9, size_flag] at this
      by_cases hk : s.st.length < 1
      · rw [if_pos hk] at this; cases this
      · omega
    refine ⟨push0 _ ?_, hd.hh, hd.rd⟩
    simpa using hlen8 hp
  by_cases e10 : i.op = 10 ∨ i.op = 20
  · simp only [doesS, if_neg e1, if_neg e2, if_neg e7, if_neg e8, if_neg e9, if_pos e10]
    exact ⟨cut 1, hd.hh, hd.rd⟩
  by_cases e11 : i.op = 11
  · simp only [doesS, if_neg e1, if_neg e2, if_neg e7, if_neg e8, if_neg e9, if_neg e10, if_pos e11]
    have hp : 1 < s.st.length := by
      have := hc.ok
      unfold afterV at this
      rw [if_neg e7, if_neg e8, if_neg e9, if_neg (fun e => e10 (.inl e)), if_pos e11, size_flag] at this
      by_cases hk : s.st.length < 2
      · rw [if_pos hk] at this; cases this
      · omega
    refine ⟨push _ _ ?_, hd.hh, hd.rd⟩
    intro x hx
    rcases List.mem_cons.1 hx with rfl | hx
    · exact hlen8 (by omega)
    · rw [List.mem_singleton.1 hx]; exact hlen8 hp
  by_cases e12 : i.op = 12
  · simp only [doesS, if_neg e1, if_neg e2, if_neg e7, if_neg e8, if_neg e9, if_neg e10, if_neg e11, if_pos e12]
    refine ⟨push0 _ ?_, hd.hh, hd.rd⟩
    intro x hx
    rw [List.mem_singleton.1 hx]
    simp only
    omega
  by_cases e21 : i.op = 21
  · simp only [doesS, if_neg e1, if_neg e2, if_neg e7, if_neg e8, if_neg e9, if_neg e10, if_neg e11, if_neg e12, if_pos e21]
    split
    · exact ⟨push0 _ (by simp), hd.hh, by simp only; omega⟩
    · exact ⟨push0 _ (by simp), hd.hh, hd.rd⟩
  by_cases e22 : i.op = 22
  · simp only [doesS, if_neg e1, if_neg e2, if_neg e7, if_neg e8, if_neg e9, if_neg e10, if_neg e11, if_neg e12, if_neg e21, if_pos e22]
    exact ⟨cut 1, hd.hh, hd.rd⟩
  have hstd := hc.std ⟨e7, e8, e9, fun e => e10 (.inl e), e11⟩
  simp only [doesS, if_neg e1, if_neg e2, if_neg e7, if_neg e8, if_neg e9, if_neg e10, if_neg e11, if_neg e12, if_neg e21, if_neg e22]
  have hi : ∀ k : Nat, i.op = k → (i.op : Int) = (k : Int) := fun k e => by rw [e]
  by_cases e13 : i.op = 13
  · simp only [touchS, if_pos e13]
    obtain ⟨c1, c2, _⟩ := hcell (.inl e13)
    refine ⟨push0 _ ?_, hd.hh, hd.rd⟩
    intro x hx
    rw [List.mem_singleton.1 hx]
    simp only
    omega
  by_cases e23 : i.op = 23
  · simp only [touchS, if_neg e13, if_pos e23]
    obtain ⟨c1, c2, d, c3⟩ := hcell (.inr e23)
    obtain ⟨hp, hf⟩ := hstd.one (c := 114) (by rw [e23]; rfl)
    refine ⟨push _ _ ?_, hd.hh.weak _ _ (hlen8 hp (letB_r hf)) ?_, hd.rd⟩
    · intro x hx
      rw [List.mem_singleton.1 hx]
      simp only
      omega
    · intro c hcc
      rw [c3] at hcc
      cases hcc
      exact ⟨rfl, rfl, rfl⟩
  by_cases e14 : i.op = 14 ∨ i.op = 24
  · simp only [touchS, if_neg e13, if_neg e23, if_pos e14]
    refine ⟨push _ _ ?_, hd.hh, hd.rd⟩
    have := crefs (lastW s.st 0).2
    intro x hx
    rw [List.mem_singleton.1 hx]
    simp only
    split <;> omega
  by_cases e16 : i.op = 16
  · simp only [touchS, if_neg e13, if_neg e23, if_neg e14, if_pos e16]
    exact ⟨push _ _ (by simp), hd.hh, hd.rd⟩
  by_cases e17 : i.op = 17
  · simp only [touchS, if_neg e13, if_neg e23, if_neg e14, if_neg e16, if_pos e17]
    obtain ⟨hp, hf, _⟩ := hstd.two (c := 114) (d := 105) (by rw [e17]; rfl)
    have hr := hlen8 hp (letB_r hf)
    have hw : wantsC s.hs.1 (lastW s.st 1).2 false = 0 := by rw [← hends, hi 17 e17]; rfl
    obtain ⟨_, hl, hwk⟩ := wantsC_zero hw (by rw [hN]; exact hr.2)
    refine ⟨cut 2, hd.hh.note _ _ ?_, hd.rd⟩
    intro c hcc
    rw [List.getElem?_eq_getElem hl] at hcc
    cases hcc
    exact hwk
  by_cases e15 : i.op = 15
  · simp only [touchS, if_neg e13, if_neg e23, if_neg e14, if_neg e16, if_neg e17, if_pos e15]
    obtain ⟨hp, hf, hf2⟩ := hstd.two (c := 114) (d := 114) (by rw [e15]; rfl)
    have hr := hlen8 hp (letB_r hf)
    have hw : wantsC s.hs.1 (lastW s.st 1).2 false = 0 := by rw [← hends, hi 15 e15]; rfl
    obtain ⟨_, hl, hwk⟩ := wantsC_zero hw (by rw [hN]; exact hr.2)
    refine ⟨cut 2, hd.hh.store _ _ _ (hlen8 (by omega) (letB_r hf2)) ?_, hd.rd⟩
    intro c hcc
    rw [List.getElem?_eq_getElem hl] at hcc
    cases hcc
    exact hwk
  simp only [touchS, if_neg e13, if_neg e23, if_neg e14, if_neg e16, if_neg e17, if_neg e15]
  exact hd
theorem does_oc (E : Env) (i : Ins) (cell : Int) (s : MS) : (doesS E i cell s).oc = s.oc ∧ (doesS E i cell s).va = s.va := by
  unfold doesS touchS
  exact ⟨by simp only [apply_ite MS.oc, ite_self], by simp only [apply_ite MS.va, ite_self]⟩
theorem go_ok {E : Env} (he : EnvOk E) {s s' : MS} {i : Ins} (h : MInv E s) (hc : CanI E s i) (h0 : i.op ≠ 0) (hd : DoneOk E s') (hs : s' = { s with hs := s'.hs }) (hends : endsC s'.hs.1 s'.st i.op = 0) (cell : Int) (hcell : i.op = 13 ∨ i.op = 23 → 0 ≤ cell ∧ cell < (E.n : Int) ∧ ∃ d, s'.hs.1[cell.toNat]? = some (freshC d)) : MInv E (goS E i cell s') := by
  have hlo : s'.lo = s.lo := by rw [hs]
  have hst : s'.st = s.st := by rw [hs]
  have hat : s'.at_ = s.at_ := by rw [hs]
  have hoc : s'.oc = s.oc := by rw [hs]
  have hc' : CanI E s' i := ⟨by rw [hat]; exact hc.get, by rw [hlo, hst]; exact hc.ok, by rw [hlo, hst]; exact hc.le⟩
  have hd' := does_ok he (by rw [hlo]; exact h.lo he) hd hc' hends cell hcell
  have hm : MInv E s' := ⟨by
    have e : ptOf s' = ptOf s := by unfold ptOf; rw [hlo, hst, hat]
    rw [e]; exact h.reach, hd.refs, hd.hh.ok, hd.hh.x, hd.hh.len, hd.rd, by rw [hoc]; exact h.oc⟩
  obtain ⟨f1, f2⟩ := does_flags he hm hc' h0 cell
  refine ⟨?_, hd'.refs, hd'.hh.ok, hd'.hh.x, hd'.hh.len, hd'.rd, by
    show (doesS E i cell s').oc ≤ 5
    rw [(does_oc E i cell s').1, hoc]; exact h.oc⟩
  have hi : E.l[(ptOf s').at_]? = some i := hc'.get
  have hsp := stepP_eq (l := E.l) (p := ptOf s') hi
  rw [if_neg (show ¬ ((afterV (ptOf s').lo (ptOf s').st i.op i.n).2.2 = false ∨ 8 < (afterV (ptOf s').lo (ptOf s').st i.op i.n).2.1.size) by
    simp only [not_or, Bool.not_eq_false, Nat.not_lt]
    exact ⟨hc'.ok, hc'.le⟩)] at hsp
  refine hm.reach.step hsp ?_
  have ept : ptOf (goS E i cell s') = ⟨toS E i s', (afterV (ptOf s').lo (ptOf s').st i.op i.n).1, (afterV (ptOf s').lo (ptOf s').st i.op i.n).2.1⟩ := by
    show (⟨toS E i s', flagB (doesS E i cell s').lo, flagB (doesS E i cell s').st⟩ : Pt) = _
    rw [f1, f2]
    rfl
  rw [ept, List.mem_append]
  unfold toS
  by_cases hj : i.op = 19 ∨ i.op = 20 ∧ (lastW s'.st 0).2 ≠ 0
  · left
    rw [if_pos hj, if_pos (by unfold isJump; rcases hj with e | ⟨e, _⟩ <;> simp [e])]
    exact List.mem_singleton.2 rfl
  · right
    rw [if_neg hj, if_pos ⟨h0, fun e => hj (.inl e)⟩]
    exact List.mem_singleton.2 rfl
theorem endsC_take {cs cs' : List RC} {st : List (Bool × Int)} {op : Nat} (h : op = 13 ∨ op = 23) : endsC cs st op = endsC cs' st op := by
  rcases h with rfl | rfl <;> rfl
theorem MInv.step {E : Env} (he : EnvOk E) {s : MS} (h : MInv E s) : MInv E (stepS E s) := by
  obtain ⟨i, hc⟩ := h.can he
  unfold stepS
  rw [hc.get]
  simp only
  unfold stepI
  have hr := endsC_range (cs := s.hs.1) (st := s.st) (op := i.op)
  by_cases h1 : endsC s.hs.1 s.st i.op = 1
  · rw [if_pos h1]
    exact ⟨h.reach, h.refs, h.hok, h.hx, h.n, h.rd, by simp⟩
  rw [if_neg h1]
  by_cases h2' : endsC s.hs.1 s.st i.op ≠ 0
  · rw [if_pos h2']
    exact ⟨h.reach, h.refs, h.hok, h.hx, h.n, h.rd, by simp only; omega⟩
  rw [if_neg h2']
  have h2 : endsC s.hs.1 s.st i.op = 0 := by omega
  have h0 : i.op ≠ 0 := by
    have := endsC_halt h1
    omega
  by_cases ht : i.op = 13 ∨ i.op = 23
  · rw [if_pos ht]
    obtain ⟨t1, t2, t3⟩ := h.hh.take (rootsS E s)
    by_cases hn : (takeC (rootsS E s) s.hs).1 < 0
    · rw [if_pos hn]
      exact ⟨h.reach, h.refs, t1.ok, t1.x, t1.len, h.rd, by simp⟩
    · rw [if_neg hn]
      refine go_ok he (s := s) (s' := { s with hs := (takeC (rootsS E s) s.hs).2 }) h hc h0 ⟨h.refs, t1, h.rd⟩ rfl ?_ _ (fun _ => ⟨by omega, t2, take_fresh _ hn⟩)
      rw [← h2]
      exact endsC_take ht
  · rw [if_neg ht]
    exact go_ok he h hc h0 ⟨h.refs, h.hh, h.rd⟩ rfl h2 _ (fun e => absurd e ht)
theorem MInv.coll {E : Env} {s : MS} (h : MInv E s) (m : Nat) : MInv E (collS E m s) := by
  have k := h.hh.units (rootsS E s) m
  exact ⟨h.reach, h.refs, k.ok, k.x, k.len, h.rd, h.oc⟩
theorem decGo_n0 (t : ByteArray) (locals : Nat) : ∀ f p l, decGo t locals f p = some l → ∀ i ∈ l, takesB i.op = false → i.n = 0 := by
  intro f
  induction f with
  | zero => intro p l h; simp [decGo] at h; subst h; intro i hi; simp at hi
  | succ f ih =>
    intro p l h
    simp only [decGo] at h
    by_cases hp : p < t.size
    · rw [if_pos hp] at h
      by_cases hq : (behindP t p locals).1 = 0
      · rw [if_pos hq] at h; cases h
      · rw [if_neg hq] at h
        cases hr : decGo t locals f (behindP t p locals).1 with
        | none => rw [hr] at h; cases h
        | some r =>
          rw [hr] at h
          simp only [Option.map_some, Option.some.injEq] at h
          subst h
          intro i hi ht
          simp only [List.mem_cons] at hi
          rcases hi with rfl | hi
          · show (behindP t p locals).2 = 0
            simp only at ht
            by_cases h24 : 24 < byteAt t p
            · exfalso; apply hq; simp [behindP, behindQ, h24]
            · simp [behindP, behindQ, h24, ht]
          · exact ih _ _ hr i hi ht
    · rw [if_neg hp] at h; simp at h; subst h; intro i hi; simp at hi
theorem code_n0 {s : ByteArray} (h : errOf s = 0) : ∀ i ∈ codeOf s, takesB i.op = false → i.n = 0 := by
  obtain ⟨_, hd, _, _⟩ := errOf_zero h
  exact decGo_n0 _ _ _ _ _ hd
/-- The surroundings of a machine of the image. -/
def envOf (s : ByteArray) (fs : List Fr) (zs : List Int) (n : Nat) : Env := ⟨codeOf s, byteAt s 1, mapsF (codeOf s) fs (byteAt s 1), zs, n⟩
theorem cov_tys {l : List Ins} {L : Nat} {fs : List Fr} (hw : Wf l L) (hinv : SetInv l L fs) (hst : Still l fs) {p : Pt} (hp : Reach l L p) : ∃ m : MP, (mapsF l fs L)[p.at_]? = some m ∧ m.reached = true ∧ m.st = codes p.st ∧ m.lo.length = L ∧ ∀ j, j < L → m.lo.getD j 0 = lk p.lo j ∨ m.lo.getD j 0 = 2 := by
  have hok := reach_ok hw hp
  obtain ⟨f, hf, hc⟩ := still_all hw hinv.ok hst hinv.cov hp
  have hlt := hok.at_
  have hfok := hinv.ok f (List.mem_of_getElem? hf)
  have h4 := hw.loc
  obtain ⟨i, hi⟩ : ∃ i, l[p.at_]? = some i := ⟨_, List.getElem?_eq_getElem hlt⟩
  refine ⟨ptF i.place f L, ?_, ?_, ?_, ?_, ?_⟩
  · unfold mapsF
    rw [List.getElem?_zipWith, hi, hf]
  · unfold ptF; rw [if_pos hc.reached]
  · unfold ptF; rw [if_pos hc.reached]; exact stk_codes hc.sk
  · unfold ptF; rw [if_pos hc.reached]
    have := hfok.lo
    simp only [List.length_take]
    omega
  · intro j hj
    unfold ptF; rw [if_pos hc.reached]
    have := hc.lo j (by omega)
    rw [List.getD_eq_getElem?_getD, List.getElem?_take, if_pos hj, ← List.getD_eq_getElem?_getD]
    exact this
theorem env_okL {l : List Ins} {L : Nat} {fs : List Fr} {zs : List Int} {n : Nat} (hw : Wf l L) (hwt : WT l L) (hn0 : ∀ i ∈ l, takesB i.op = false → i.n = 0) (hinv : SetInv l L fs) (hst : Still l fs) (h1 : 1 ≤ n) (h2 : n ≤ 32) : EnvOk ⟨l, L, mapsF l fs L, zs, n⟩ := by
  have hlen := hinv.len
  refine ⟨hw, hwt, hn0, by simp [mapsF]; omega, ?_, fun p hp => cov_tys hw hinv hst hp, h1, h2⟩
  intro k i m hi hm
  simp only [mapsF] at hi hm
  rw [List.getElem?_zipWith, hi] at hm
  cases hf : fs[k]? with
  | none => rw [hf] at hm; simp at hm
  | some f =>
    rw [hf] at hm
    simp only [Option.some.injEq] at hm
    subst hm
    unfold ptF
    split <;> rfl
theorem env_ok {s : ByteArray} {fs : List Fr} {zs : List Int} {n : Nat} (he : errOf s = 0) (hwt : WT (codeOf s) (byteAt s 1)) (hinv : SetInv (codeOf s) (byteAt s 1) fs) (hst : Still (codeOf s) fs) (h1 : 1 ≤ n) (h2 : n ≤ 32) : EnvOk (envOf s fs zs n) :=
  env_okL (wf_of he) hwt (code_n0 he) hinv hst h1 h2
theorem start_pt {L n : Nat} (h : L ≤ 4) : ptOf (startS L n) = initP L := by
  have hl : flagB (List.replicate L (false, 0)) = (initP L).lo := by
    apply flag_ext
    show _ = tl ((⟨#[105, 105, 105, 105]⟩ : ByteArray).extract 0 L)
    rw [tl_extract]
    match L, h with
    | 0, _ => rfl
    | 1, _ => rfl
    | 2, _ => rfl
    | 3, _ => rfl
    | 4, _ => rfl
  unfold ptOf startS
  rw [hl]
  rfl
theorem start_inv_m {E : Env} (he : EnvOk E) : MInv E (startS E.L E.n) := by
  have h1 := he.n1
  have h2 := he.n32
  refine ⟨?_, ?_, ⟨?_, ?_, ?_, ?_, ?_, ?_⟩, ⟨?_, ?_⟩, ?_, Nat.zero_le _, Nat.zero_le _⟩
  · rw [start_pt he.wf.loc]; exact Reach.init _ _
  · intro x hx hb
    simp only [startS, List.append_nil] at hx
    rw [List.eq_of_mem_replicate hx] at hb
    cases hb
  · simp only [startS, List.length_replicate]; omega
  · simp only [startS, List.length_replicate]; omega
  · intro c hc
    simp only [startS] at hc
    rw [List.eq_of_mem_replicate hc]
    simp only [startS, List.length_replicate]
    omega
  · simp [startS]
  · intro e; simp [startS] at e
  · intro _; rfl
  · intro c hc
    simp only [startS] at hc
    rw [List.eq_of_mem_replicate hc]
    exact .blank
  · intro e; simp [startS] at e
  · simp [startS]
/-- The surroundings of the program's machine. -/
structure KE (K : PK) (E : Env) : Prop where
  l : K.l = E.l
  L : K.L = E.L
  zs : K.zs = E.zs
  ms : mapsF K.l K.fs K.L = E.ms
/-- Nothing but the blocks of F, and new ones, has turned. -/
structure Touch (F : Nat → Prop) (w w' : World) : Prop where
  os : w'.os = w.os
  tape : w'.tape = w.tape
  output : w'.output = w.output
  size : w.heap.size ≤ w'.heap.size
  block : ∀ k, k < w.heap.size → ¬ F k → w'.heap[k]? = w.heap[k]?
theorem Touch.refl (F : Nat → Prop) (w : World) : Touch F w w := ⟨rfl, rfl, rfl, Nat.le_refl _, fun _ _ _ => rfl⟩
theorem Touch.trans {F G : Nat → Prop} {w1 w2 w3 : World} (h : Touch F w1 w2) (g : Touch G w2 w3) (hg : ∀ k, k < w1.heap.size → G k → F k) : Touch F w1 w3 :=
  ⟨g.os.trans h.os, g.tape.trans h.tape, g.output.trans h.output, Nat.le_trans h.size g.size, fun k hk hf => (g.block k (Nat.lt_of_lt_of_le hk h.size) (fun e => hf (hg k hk e))).trans (h.block k hk hf)⟩
theorem Touch.below {F : Nat → Prop} {w w' : World} (h : Below w.heap.size w w') : Touch F w w' := ⟨h.os, h.tape, h.output, h.size, fun k hk _ => h.block k hk⟩
theorem Touch.two {F : Nat → Prop} {a b : Nat} {w w' : World} (h : Two a b w w') (ha : F a) (hb : F b) : Touch F w w' := ⟨h.os, h.tape, h.output, h.size, fun k hk hf => h.block k hk (fun e => hf (e ▸ ha)) (fun e => hf (e ▸ hb))⟩
theorem Touch.mono {F G : Nat → Prop} {w w' : World} (h : Touch F w w') (hg : ∀ k, k < w.heap.size → F k → G k) : Touch G w w' := ⟨h.os, h.tape, h.output, h.size, fun k hk hf => h.block k hk (fun e => hf (hg k hk e))⟩
/-- F and what was new behind it. -/
def Grown (F : Nat → Prop) (w w' : World) (k : Nat) : Prop := F k ∨ (w.heap.size ≤ k ∧ k < w'.heap.size)
/-- The program's machine in memory; its blocks are among F's. -/
def PX (w : World) (K : PK) (F : Nat → Prop) (s : MS) : Prop := ∃ vI vO lo4 st8, PM w K vI vO lo4 st8 s ∧ ∀ k, K.In vO k → F k
theorem PX.keep {w w' : World} {K : PK} {F : Nat → Prop} {s : MS} (h : PX w K F s) (hz : w.heap.size ≤ w'.heap.size) (hk : ∀ k, k < w.heap.size → F k → w'.heap[k]? = w.heap[k]?) : PX w' K F s := by
  obtain ⟨vI, vO, lo4, st8, h1, h2⟩ := h
  exact ⟨vI, vO, lo4, st8, h1.keep hz (fun k hk1 hk2 => hk k hk1 (h2 k hk2)), h2⟩
theorem PX.below {w w' : World} {K : PK} {F : Nat → Prop} {s : MS} (h : PX w K F s) (hb : Below w.heap.size w w') : PX w' K F s := h.keep hb.size (fun k hk _ => hb.block k hk)
theorem PX.mono {w : World} {K : PK} {F G : Nat → Prop} {s : MS} (h : PX w K F s) (hg : ∀ k, F k → G k) : PX w K G s := by
  obtain ⟨vI, vO, lo4, st8, h1, h2⟩ := h
  exact ⟨vI, vO, lo4, st8, h1, fun k hk => hg k (h2 k hk)⟩
theorem slotsF_eq {tys : List Nat} {held : List Int} {ws : List (Bool × Int)} (hl : tys.length = ws.length) (hh : held.take ws.length = ws.map (·.2)) (hle : ws.length ≤ held.length) : slotsF tys held = slotsC tys ws := by
  apply List.ext_getElem
  · simp [slotsF, slotsC]; omega
  · intro k h1 h2
    have hk : k < tys.length := by simpa [slotsF] using h1
    have hkw : k < ws.length := by omega
    have hg : held.getD k 0 = ws[k].2 := by
      have e := congrArg (fun l => l[k]?) hh
      simp only [List.getElem?_take, if_pos hkw, List.getElem?_map, List.getElem?_eq_getElem hkw, Option.map_some] at e
      rw [List.getD_eq_getElem?_getD, e]
      rfl
    simp only [slotsF, slotsC, List.getElem_mapIdx, List.getElem_zipWith]
    unfold slotAt slotV
    rw [hg]
    by_cases e2 : tys[k] = 2
    · rw [if_pos e2, if_neg (by simp [e2])]
    · rw [if_neg e2, if_pos ⟨e2, by omega⟩]
theorem ptF_of {l : List Ins} {fs : List Fr} {L k : Nat} {m : MP} (h : (mapsF l fs L)[k]? = some m) (hr : m.reached = true) : ∃ i f, l[k]? = some i ∧ fs[k]? = some f ∧ m.place = i.place ∧ m.lo = f.lo.take L ∧ m.st = f.stk.take f.depth := by
  unfold mapsF at h
  rw [List.getElem?_zipWith] at h
  cases hi : l[k]? with
  | none => rw [hi] at h; simp at h
  | some i =>
    cases hf : fs[k]? with
    | none => rw [hi, hf] at h; simp at h
    | some f =>
      rw [hi, hf] at h
      simp only [Option.some.injEq] at h
      subst h
      by_cases e : f.reached = true
      · unfold ptF
        rw [if_pos e]
        exact ⟨i, f, rfl, rfl, rfl, rfl, rfl⟩
      · unfold ptF at hr
        rw [if_neg e] at hr
        cases hr
theorem pstate_m {w : World} {K : PK} {E : Env} {vI vO : Value} {lo4 st8 : List Int} {s : MS} (h : PM w K vI vO lo4 st8 s) (hke : KE K E) (he : EnvOk E) (hi : MInv E s) {i : Ins} (hg : E.l[s.at_]? = some i) :
    Calls Tryz.prog 60 #[.pointer (some ⟨K.b, 0, none⟩)] w (PStatePost s.oc s.va i.place s.hs.2.1 s.hs.2.2 (locsS E s) (stkS E s) w) := by
  obtain ⟨m, hm⟩ := hi.tys he
  have hm' := hm.get
  rw [← hke.ms] at hm'
  obtain ⟨i', f, e1, e2, e3, e4, e5⟩ := ptF_of hm' hm.reached
  rw [hke.l, hg] at e1
  cases e1
  have hfo := h.fok f (List.mem_of_getElem? e2)
  have hst := pstate_any h (i := i) (f := f) (by rw [hke.l]; exact hg) e2
  have q1 : slotsF (f.lo.take K.L) lo4 = locsS E s := by
    unfold locsS tysAt
    rw [hm.get]
    simp only
    rw [← e4]
    refine slotsF_eq hm.lol ?_ ?_
    · rw [h.lol]; exact h.lo
    · rw [h.lol, h.l4]; exact h.L4
  have q2 : slotsF (f.stk.take f.depth) st8 = stkS E s := by
    unfold stkS tysAt
    rw [hm.get]
    simp only
    rw [← e5]
    refine slotsF_eq ?_ h.st ?_
    · rw [hm.st, List.length_map]
    · rw [h.l8]; exact h.stl
  rw [q1, q2] at hst
  exact hst
theorem proots_any (b : Nat) (oc va : Int) (pl : Nat) (ph hd : Int) (Q1 Q2 : List (Nat × Int)) (w : World) (h1 : Q1.length ≤ 100) (h2 : Q2.length ≤ 100)
    (hS : Calls Tryz.prog 60 #[.pointer (some ⟨b, 0, none⟩)] w (PStatePost oc va pl ph hd Q1 Q2 w)) :
    Calls Tryz.prog 57 #[.pointer (some ⟨b, 0, none⟩)] w (RootsPost (rootsC (Q1 ++ Q2)) w) := by
  obtain ⟨i0, hi0, hz0, hz1, hz2⟩ := info_parts intInfo
  have HS := hid hS
  clear hS
  go_enter Tryz.func57, Tryz.ntmps57
  go_wp2_with fail
  refine HS.out.mono ?_
  clear HS
  intro x w1 hp
  obtain ⟨hb1, v1, v2, hx, ho1, ho2, _⟩ := hp
  subst x
  have hl1 := LsAt.of_owns ho1
  have hl2 := LsAt.of_owns ho2
  obtain ⟨p1, c1, e1⟩ := hl1.slice
  obtain ⟨p2, c2, e2⟩ := hl2.slice
  subst e1
  subst e2
  have hz1w := hb1.size
  have hst := heap_alloc_new w1 (.cells #[.int .i64 oc, .int .i64 va, .int .i64 pl, .int .i64 ph, .int .i64 hd, .slice p1 Q1.length c1, .slice p2 Q2.length c2] 134)
  have hbW := hb1.alloc hz1w (.cells #[.int .i64 oc, .int .i64 va, .int .i64 pl, .int .i64 ph, .int .i64 hd, .slice p1 Q1.length c1, .slice p2 Q2.length c2] 134)
  have hL1 : LsAt (w1.alloc (.cells #[.int .i64 oc, .int .i64 va, .int .i64 pl, .int .i64 ph, .int .i64 hd, .slice p1 Q1.length c1, .slice p2 Q2.length c2] 134)) (fun g => g < w1.heap.size) (.slice p1 Q1.length c1) Q1.length (Q1.flatMap slCells) := hl1.keep (fun g hg => ⟨hg.2, Below.heap_alloc _ _ _ hg.2⟩)
  have hL2 : LsAt (w1.alloc (.cells #[.int .i64 oc, .int .i64 va, .int .i64 pl, .int .i64 ph, .int .i64 hd, .slice p1 Q1.length c1, .slice p2 Q2.length c2] 134)) (fun g => g < w1.heap.size) (.slice p2 Q2.length c2) Q2.length (Q2.flatMap slCells) := hl2.keep (fun g hg => ⟨hg.2, Below.heap_alloc _ _ _ hg.2⟩)
  clear hb1 hl1 hl2 ho1 ho2
  go_wp2_with fail
  generalize hW : w1.alloc (.cells #[.int .i64 oc, .int .i64 va, .int .i64 pl, .int .i64 ph, .int .i64 hd, .slice p1 Q1.length c1, .slice p2 Q2.length c2] 134) = W at *
  have hzW : W.heap.size = w1.heap.size + 1 := by rw [← hW]; exact alloc_size _ _
  clear hW
  have t5 := cell_of_row W w1.heap.size 5 _ _ _ hst
  have t6 := cell_of_row W w1.heap.size 6 _ _ _ hst
  simp only [List.getElem?_toArray, List.getElem?_cons_zero, List.getElem?_cons_succ] at t5 t6
  generalize hsb : w1.heap.size = sb at *
  have hsbW : sb < W.heap.size := by omega
  have HBW := hid hbW
  have HL1 := hid hL1
  have HL2 := hid hL2
  clear hsb hst hbW hL1 hL2
  go_loopg [4, 14] Q1.length (fun g l x w' => ∃ k : Nat, k ≤ Q1.length ∧ g = Q1.length - k ∧ x = .int .i64 k ∧ w'.ownsRow W.heap.size 3 1 l (rootsC (Q1.take k)).length ((rootsC (Q1.take k)).map (.int .i64)) ∧ Below W.heap.size W w')
  case atStart => exact ⟨0, by omega, by omega, rfl, World.ownsRow_nil _ _ _ _, Below.refl _ _⟩
  case round =>
    obtain ⟨k, hk, hg, rfl, hown, hbel⟩ := hrel
    have hz := hbel.size
    have HB := hid hbel
    rcases Nat.lt_or_ge k Q1.length with hlt | hge
    · have d1 : (k : Int) < (Q1.length : Int) := by omega
      have d0 : (0 : Int) ≤ (k : Int) := by omega
      obtain ⟨g, cap, eg, hgs, hc⟩ := HL1.out.some (by omega)
      cases eg
      have y0 := hc _ _ (flat_at slCells 2 (fun _ => rfl) Q1 k 0 hlt (by omega))
      have y1 := hc _ _ (flat_at slCells 2 (fun _ => rfl) Q1 k 1 hlt (by omega))
      rw [Nat.add_zero] at y0
      rw [← hbel.cell (p := ⟨g, k * 2, none⟩) (Nat.lt_trans hgs hsbW)] at y0
      rw [← hbel.cell (p := ⟨g, k * 2 + 1, none⟩) (Nat.lt_trans hgs hsbW)] at y1
      have HNX := hid (rootsC_next hlt)
      have HLN : Hid ((rootsC (Q1.take k)).length ≤ 100) := hid (by have := rootsC_len (Q1.take k); rw [List.length_take] at this; omega)
      generalize Q1[k] = q at *
      obtain ⟨qt, qv⟩ := q
      simp only at y0 y1
      generalize rootsC (Q1.take k) = R at *
      have hR := HLN.out
      clear hc hbel HLN
      by_cases hq : qt = 1
      · subst hq
        go_wp2_with (at_builtin; go_must (refine wpList_append_lies _ (by rfl) _ _ _ (by rfl) W.heap.size 3 i0 _ 1 8 Tryz.underlying22 hi0 hz0 hz1 hz2 rfl (by omega) _ R.length (R.map (.int .i64)) (by rfl) ((hown.alloc _).alloc _) ⟨wr.heap.size + 1, 0, none⟩ 1 1 [.int .i64 qv] (by rfl) (by rfl) (World.news_of_block (cs := #[.int .i64 qv]) (t := 3) (fr := (0, 0)) (heap_two_new wr _ _)) (by simp [Value.oneCell']) (by omega) (by unfold maxLen; omega) (by omega) (by simp; omega) _ rfl ?_); intro gg gcap w6 hown6 hgrow6 hat6 hlt6)
        go_roundg (Q1.length - (k + 1))
        case measure => omega
        case rel =>
          refine ⟨k + 1, by omega, rfl, by go_num, ?_, ?_⟩
          · rw [HNX.out]
            simpa using hown6
          · exact ((HB.out.alloc hz _).alloc (by simp; omega) _).grown hgrow6 (by simp; omega) (fun j hj => (hown.lt j hj).1)
      · have hq1 : ((qt : Int) == 1) = false := by simp; omega
        go_wp2_with fail
        go_roundg (Q1.length - (k + 1))
        case measure => omega
        case rel =>
          refine ⟨k + 1, by omega, rfl, by go_num, ?_, HB.out.alloc hz _⟩
          rw [HNX.out, if_neg hq, List.append_nil]
          exact hown.alloc _
    · have d1 : ¬ (k : Int) < (Q1.length : Int) := by omega
      rw [List.take_of_length_le hge] at hown
      have HO := hid hown
      clear hown
      have t6' := (hbel.cell (p := ⟨sb, 6, none⟩) hsbW).trans t6
      clear hbel t5 HL1 t6
      go_wp2_with fail
      go_loopg [4, 30] Q2.length (fun g l x w' => ∃ k : Nat, k ≤ Q2.length ∧ g = Q2.length - k ∧ x = .int .i64 k ∧ w'.ownsRow W.heap.size 3 1 l (rootsC Q1 ++ rootsC (Q2.take k)).length ((rootsC Q1 ++ rootsC (Q2.take k)).map (.int .i64)) ∧ Below W.heap.size W w')
      case atStart => exact ⟨0, by omega, by omega, rfl, by simpa [rootsC] using HO.out, HB.out⟩
      case round =>
        clear hk hg HB HO hge d1 hz t6'
        obtain ⟨k, hk, hg, rfl, hown, hbel⟩ := hrel
        have hz := hbel.size
        have HB := hid hbel
        rcases Nat.lt_or_ge k Q2.length with hlt | hge
        · have d1 : (k : Int) < (Q2.length : Int) := by omega
          have d0 : (0 : Int) ≤ (k : Int) := by omega
          obtain ⟨g, cap, eg, hgs, hc⟩ := HL2.out.some (by omega)
          cases eg
          have y0 := hc _ _ (flat_at slCells 2 (fun _ => rfl) Q2 k 0 hlt (by omega))
          have y1 := hc _ _ (flat_at slCells 2 (fun _ => rfl) Q2 k 1 hlt (by omega))
          rw [Nat.add_zero] at y0
          rw [← hbel.cell (p := ⟨g, k * 2, none⟩) (Nat.lt_trans hgs hsbW)] at y0
          rw [← hbel.cell (p := ⟨g, k * 2 + 1, none⟩) (Nat.lt_trans hgs hsbW)] at y1
          have HNX : Hid (rootsC Q1 ++ rootsC (Q2.take (k + 1)) = (rootsC Q1 ++ rootsC (Q2.take k)) ++ (if Q2[k].1 = 1 then [Q2[k].2] else [])) := hid (by rw [rootsC_next hlt, List.append_assoc])
          have HLN : Hid ((rootsC Q1 ++ rootsC (Q2.take k)).length ≤ 200) := hid (by have := rootsC_len (Q2.take k); have := rootsC_len Q1; rw [List.length_take] at *; rw [List.length_append]; omega)
          generalize Q2[k] = q at *
          obtain ⟨qt, qv⟩ := q
          simp only at y0 y1
          generalize rootsC Q1 ++ rootsC (Q2.take k) = R at *
          have hR := HLN.out
          clear hc hbel HLN
          by_cases hq : qt = 1
          · subst hq
            go_wp2_with (at_builtin; go_must (refine wpList_append_lies _ (by rfl) _ _ _ (by rfl) W.heap.size 3 i0 _ 1 8 Tryz.underlying22 hi0 hz0 hz1 hz2 rfl (by omega) _ R.length (R.map (.int .i64)) (by rfl) ((hown.alloc _).alloc _) ⟨wr.heap.size + 1, 0, none⟩ 1 1 [.int .i64 qv] (by rfl) (by rfl) (World.news_of_block (cs := #[.int .i64 qv]) (t := 3) (fr := (0, 0)) (heap_two_new wr _ _)) (by simp [Value.oneCell']) (by omega) (by unfold maxLen; omega) (by omega) (by simp; omega) _ rfl ?_); intro gg gcap w6 hown6 hgrow6 hat6 hlt6)
            go_roundg (Q2.length - (k + 1))
            case measure => omega
            case rel =>
              refine ⟨k + 1, by omega, rfl, by go_num, ?_, ?_⟩
              · rw [HNX.out]
                simpa using hown6
              · exact ((HB.out.alloc hz _).alloc (by simp; omega) _).grown hgrow6 (by simp; omega) (fun j hj => (hown.lt j hj).1)
          · have hq1 : ((qt : Int) == 1) = false := by simp; omega
            go_wp2_with fail
            go_roundg (Q2.length - (k + 1))
            case measure => omega
            case rel =>
              refine ⟨k + 1, by omega, rfl, by go_num, ?_, HB.out.alloc hz _⟩
              rw [HNX.out, if_neg hq, List.append_nil]
              exact hown.alloc _
        · have d1 : ¬ (k : Int) < (Q2.length : Int) := by omega
          rw [List.take_of_length_le hge] at hown
          have HO := hid hown
          clear hown hbel
          go_wp2_with fail
          go_ret
          refine ⟨HBW.out.trans (HB.out.mono HBW.out.size), _, rfl, ?_⟩
          rw [rootsC_append]
          exact owns_mono HO.out HBW.out.size
theorem proots_m {w : World} {K : PK} {E : Env} {vI vO : Value} {lo4 st8 : List Int} {s : MS} (h : PM w K vI vO lo4 st8 s) (hke : KE K E) (he : EnvOk E) (hi : MInv E s) :
    Calls Tryz.prog 57 #[.pointer (some ⟨K.b, 0, none⟩)] w (RootsPost (rootsS E s) w) := by
  obtain ⟨i, hc⟩ := hi.can he
  have h2 := hi.lo he
  have h3 := hi.st he
  have h4 := he.wf.loc
  have h5 : (locsS E s).length ≤ s.lo.length := by unfold locsS slotsC; rw [List.length_zipWith]; omega
  have h6 : (stkS E s).length ≤ s.st.length := by unfold stkS slotsC; rw [List.length_zipWith]; omega
  exact proots_any K.b _ _ _ _ _ _ _ w (by omega) (by omega) (pstate_m h hke he hi hc.get)
/-- The program's heap: its cells in block gC, phase and hand in block b. -/
structure PH (w : World) (b gC : Nat) (cC : CK) (base : Nat) (cs : List Cl) (ph hd : Nat) : Prop where
  c0 : w.cell? ⟨b, 21, none⟩ = some (.slice (some ⟨gC, 0, none⟩) cs.length cC.cap)
  c1 : w.cell? ⟨b, 22, none⟩ = some (.int .i64 ph)
  c2 : w.cell? ⟨b, 23, none⟩ = some (.int .i64 hd)
  f1 : w.frozen? ⟨b, 22, none⟩ = false
  f2 : w.frozen? ⟨b, 23, none⟩ = false
  row : w.ownsRow base 100 5 (.slice (some ⟨gC, 0, none⟩) cs.length cC.cap) cs.length (cs.flatMap clCells)
  ne : b ≠ gC
  blk : w.heap[b]? = some (.cells ((cC.row.setIfInBounds 22 (.int .i64 ph)).setIfInBounds 23 (.int .i64 hd)) cC.ty)
theorem PH.cell {w : World} {b gC : Nat} {cC : CK} {base ph hd : Nat} {cs : List Cl} (h : PH w b gC cC base cs ph hd) {k j : Nat} (hk : k < cs.length) (hj : j < 5) : w.cell? ⟨gC, k * 5 + j, none⟩ = (clCells cs[k])[j]? := by
  rw [World.ownsRow.cellAt h.row (k * 5 + j) (by omega)]
  exact flat_at clCells 5 (fun _ => rfl) cs k j hk hj
theorem PH.frozen {w : World} {b gC : Nat} {cC : CK} {base ph hd : Nat} {cs : List Cl} (h : PH w b gC cC base cs ph hd) (j : Nat) : w.frozen? ⟨gC, j, none⟩ = false := World.ownsRow.frozenAt h.row j
/-- A field of a cell is written. -/
theorem PH.upd {w : World} {b gC : Nat} {cC : CK} {base ph hd k j : Nat} {cs : List Cl} {c : Cl} {v : Value} (h : PH w b gC cC base cs ph hd) (hk : k < cs.length) (hj : j < 5) (e : clCells c = (clCells cs[k]).set j v) : PH (w.setCell ⟨gC, k * 5 + j, none⟩ v) b gC cC base (cs.set k c) ph hd := by
  have hb : (w.setCell ⟨gC, k * 5 + j, none⟩ v).heap[b]? = w.heap[b]? := Below.heap_setCell _ _ _ _ h.ne
  have hc : ∀ o, (w.setCell ⟨gC, k * 5 + j, none⟩ v).cell? ⟨b, o, none⟩ = w.cell? ⟨b, o, none⟩ := fun o => World.cell?_of_block (a := ⟨b, o, none⟩) hb
  have hf : ∀ o, (w.setCell ⟨gC, k * 5 + j, none⟩ v).frozen? ⟨b, o, none⟩ = w.frozen? ⟨b, o, none⟩ := fun o => World.frozen?_of_block (a := ⟨b, o, none⟩) hb
  have hr := owns_cell (n := k * 5 + j) h.row v
  rw [flat_set clCells 5 (fun _ => rfl) cs k j c v hk hj e] at hr
  refine ⟨?_, (hc _).trans h.c1, (hc _).trans h.c2, (hf _).trans h.f1, (hf _).trans h.f2, ?_, h.ne, hb.trans h.blk⟩
  · rw [hc, List.length_set]; exact h.c0
  · rw [List.length_set]; exact hr
theorem PH.below {w w' : World} {b gC : Nat} {cC : CK} {base ph hd : Nat} {cs : List Cl} (h : PH w b gC cC base cs ph hd) (hb : Below w.heap.size w w') : PH w' b gC cC base cs ph hd := by
  have h1 := World.block_lt_of_cell? w _ h.c0
  simp only at h1
  exact ⟨(hb.cell (p := ⟨b, 21, none⟩) h1).trans h.c0, (hb.cell (p := ⟨b, 22, none⟩) h1).trans h.c1, (hb.cell (p := ⟨b, 23, none⟩) h1).trans h.c2, (hb.frozen (p := ⟨b, 22, none⟩) h1).trans h.f1, (hb.frozen (p := ⟨b, 23, none⟩) h1).trans h.f2, owns_keep h.row (fun g hg => hb.block g (h.row.lt g hg).2), h.ne, (hb.block b h1).trans h.blk⟩
theorem PH.drew {w : World} {b gC : Nat} {cC : CK} {base ph hd : Nat} {cs : List Cl} (h : PH w b gC cC base cs ph hd) : PH w.drew b gC cC base cs ph hd := h.below ⟨rfl, rfl, rfl, Nat.le_refl _, fun _ _ => rfl⟩
theorem row_22 (r : Array Value) (a b c : Value) : ((r.setIfInBounds 22 a).setIfInBounds 23 b).setIfInBounds 22 c = (r.setIfInBounds 22 c).setIfInBounds 23 b := by
  apply Array.toList_inj.1
  simp only [Array.toList_setIfInBounds]
  rw [List.set_comm _ _ (by decide), List.set_set]
theorem row_23 (r : Array Value) (a b c : Value) : ((r.setIfInBounds 22 a).setIfInBounds 23 b).setIfInBounds 23 c = (r.setIfInBounds 22 a).setIfInBounds 23 c := by
  apply Array.toList_inj.1
  simp only [Array.toList_setIfInBounds]
  rw [List.set_set]
theorem PH.phase {w : World} {b gC : Nat} {cC : CK} {base ph hd : Nat} {cs : List Cl} (h : PH w b gC cC base cs ph hd) (p : Nat) : PH (w.setCell ⟨b, 22, none⟩ (.int .i64 p)) b gC cC base cs p hd := by
  have hg : (w.setCell ⟨b, 22, none⟩ (.int .i64 (p : Int))).heap[gC]? = w.heap[gC]? := Below.heap_setCell _ _ _ _ (fun e => h.ne e.symm)
  exact ⟨(World.cell?_setCell_other _ _ _ _ (by simp)).trans h.c0, World.cell?_setCell_same _ _ _ h.c1, (World.cell?_setCell_other _ _ _ _ (by simp)).trans h.c2, (World.frozen?_setCell _ _ _ _).trans h.f1, (World.frozen?_setCell _ _ _ _).trans h.f2, owns_keep h.row (fun g e => by
    have : gC = g := by simpa [Value.ownBlock] using e
    subst this; exact hg), h.ne, by rw [← row_22 cC.row (.int .i64 ph) (.int .i64 hd) (.int .i64 p)]; exact setCell_row 22 _ h.blk⟩
theorem PH.hand {w : World} {b gC : Nat} {cC : CK} {base ph hd : Nat} {cs : List Cl} (h : PH w b gC cC base cs ph hd) (p : Nat) : PH (w.setCell ⟨b, 23, none⟩ (.int .i64 p)) b gC cC base cs ph p := by
  have hg : (w.setCell ⟨b, 23, none⟩ (.int .i64 (p : Int))).heap[gC]? = w.heap[gC]? := Below.heap_setCell _ _ _ _ (fun e => h.ne e.symm)
  exact ⟨(World.cell?_setCell_other _ _ _ _ (by simp)).trans h.c0, (World.cell?_setCell_other _ _ _ _ (by simp)).trans h.c1, World.cell?_setCell_same _ _ _ h.c2, (World.frozen?_setCell _ _ _ _).trans h.f1, (World.frozen?_setCell _ _ _ _).trans h.f2, owns_keep h.row (fun g e => by
    have : gC = g := by simpa [Value.ownBlock] using e
    subst this; exact hg), h.ne, by rw [← row_23 cC.row (.int .i64 ph) (.int .i64 hd) (.int .i64 p)]; exact setCell_row 23 _ h.blk⟩
theorem has_any (b gC : Nat) (cC : CK) (base ph hd k : Nat) (cs : List Cl) (r : Int) (w : World) (h : PH w b gC cC base cs ph hd) :
    Calls Tryz.prog 130 #[.pointer (some ⟨b, 21, none⟩), .int .i64 r, .int .i64 k] w fun e w' => e = .returned (.bool (hasL cs r k)) ∧ w' = w := by
  have h0 := h.c0
  by_cases r0 : 0 ≤ r
  · by_cases r1 : r < (cs.length : Int)
    · obtain ⟨q, hq⟩ : ∃ q : Nat, r = (q : Int) := ⟨r.toNat, by omega⟩
      subst hq
      have hql : q < cs.length := by omega
      have k0 := h.cell hql (j := 0) (by omega)
      rw [Nat.add_zero] at k0
      simp only [clCells, List.getElem?_cons_zero] at k0
      have HE : Hid (hasL cs (q : Int) k = (cs[q].col == k)) := hid (by
        unfold hasL
        rw [Int.toNat_natCast, colL_get hql, decide_eq_true r0, decide_eq_true r1]; simp)
      generalize cs[q].col = co at *
      clear h
      by_cases e : co = k
      · have q2 : ((co : Int) == (k : Int)) = true := by simp; omega
        go_enter Tryz.func130, Tryz.ntmps130
        go_wp2_with fail
        go_ret
        exact ⟨by rw [HE.out]; simp [e], rfl⟩
      · have q2 : ((co : Int) == (k : Int)) = false := by simp; omega
        go_enter Tryz.func130, Tryz.ntmps130
        go_wp2_with fail
        go_ret
        exact ⟨by rw [HE.out]; simp [e], rfl⟩
    · have HE : Hid (hasL cs r k = false) := hid (hasL_out (by omega))
      clear h
      go_enter Tryz.func130, Tryz.ntmps130
      go_wp2_with fail
      go_ret
      exact ⟨by rw [HE.out]; rfl, rfl⟩
  · have HE : Hid (hasL cs r k = false) := hid (hasL_neg (by omega))
    clear h
    go_enter Tryz.func130, Tryz.ntmps130
    go_wp2_with fail
    go_ret
    exact ⟨by rw [HE.out]; rfl, rfl⟩
theorem shade_any (b gC : Nat) (cC : CK) (base ph hd : Nat) (cs : List Cl) (r : Int) (w : World) (h : PH w b gC cC base cs ph hd) :
    Calls Tryz.prog 126 #[.pointer (some ⟨b, 21, none⟩), .int .i64 r] w fun e w' => e = .returned (.tuple #[]) ∧ PH w' b gC cC base (shadeL cs r) ph hd ∧ Only gC w w' := by
  have hh := hid (has_any b gC cC base ph hd 1 cs r w h)
  have h0 := h.c0
  cases hb : hasL cs r 1
  · rw [hb] at hh
    have HE : Hid (shadeL cs r = cs) := hid (by unfold shadeL; rw [hb]; simp)
    have H := hid h
    clear h hb
    go_enter Tryz.func126, Tryz.ntmps126
    go_wp2_with fail
    refine hh.out.mono ?_
    clear hh
    rintro x w1 ⟨rfl, rfl⟩
    go_wp2_with fail
    go_end0
    exact ⟨rfl, by rw [HE.out]; exact H.out, Only.refl _ _⟩
  · rw [hb] at hh
    have hb' := hb
    unfold hasL at hb'
    simp only [Bool.and_eq_true, decide_eq_true_eq] at hb'
    obtain ⟨r0, r1, _⟩ := hb'
    obtain ⟨q, hq⟩ : ∃ q : Nat, r = (q : Int) := ⟨r.toNat, by omega⟩
    subst hq
    have hql : q < cs.length := by omega
    have k0 := h.cell hql (j := 0) (by omega)
    have f0 := h.frozen (q * 5 + 0)
    have hu := h.upd (k := q) (j := 0) (c := paintL 2 cs[q]) (v := .int .i64 2) hql (by omega) rfl
    rw [Nat.add_zero] at k0 f0 hu
    simp only [clCells, List.getElem?_cons_zero] at k0
    have HE : Hid (shadeL cs (q : Int) = cs.set q (paintL 2 cs[q])) := hid (by unfold shadeL; rw [hb, if_pos rfl, Int.toNat_natCast, modify_setL hql])
    have HU := hid hu
    clear h hb hu
    go_enter Tryz.func126, Tryz.ntmps126
    go_wp2_with fail
    refine hh.out.mono ?_
    clear hh
    intro x w1 hh1
    obtain ⟨hx, hw⟩ := hh1
    subst x
    subst w1
    go_wp2_with fail
    go_end0
    exact ⟨rfl, by rw [HE.out]; exact HU.out, (Only.refl _ _).set _ _⟩
theorem shadeAll_any (b gC : Nat) (cC : CK) (base ph hd : Nat) (cs : List Cl) (rs : List Int) (v : Value) (w : World) (h : PH w b gC cC base cs ph hd) (hrl : rs.length ≤ 1000) (hv : RefsAt w gC v rs) :
    Calls Tryz.prog 98 #[.pointer (some ⟨b, 21, none⟩), v] w fun e w' => e = .returned (.tuple #[]) ∧ PH w' b gC cC base (shadesL cs rs) ph hd ∧ Only gC w w' := by
  have H := hid h
  have HV := hid hv
  obtain ⟨p0, c0, e0⟩ := hv.slice
  subst e0
  clear h hv
  go_enter Tryz.func98, Tryz.ntmps98
  go_wp2_with fail
  go_loopg [8] rs.length (fun g x w' => ∃ k : Nat, k ≤ rs.length ∧ g = rs.length - k ∧ x = .int .i64 k ∧ PH w' b gC cC base (shadesL cs (rs.take k)) ph hd ∧ Only gC w w')
  case atStart => exact ⟨0, by omega, by omega, rfl, H.out, Only.refl _ _⟩
  case round =>
    obtain ⟨k, hk, hg, rfl, hh, ho⟩ := hrel
    have HH := hid hh
    have HO := hid ho
    rcases Nat.lt_or_ge k rs.length with hlt | hge
    · have d0 : (0 : Int) ≤ (k : Int) := by omega
      have d1 : (k : Int) < (rs.length : Int) := by omega
      rcases HV.out with ⟨_, h0⟩ | ⟨a, ca, ea, hne, _, hca⟩
      · rw [h0] at hlt; simp at hlt
      have x0 := hca k _ (List.getElem?_eq_getElem hlt)
      cases ea
      have hbl : (a.add k).block = a.block := by unfold Addr.add; split <;> rfl
      have x1 : wr.cell? (a.add k) = some (.int .i64 rs[k]) := (World.cell?_of_block (a := a.add k) (ho.block _ (by rw [hbl]; exact hne))).trans x0
      have HT : Hid (rs.take (k + 1) = rs.take k ++ [rs[k]]) := hid (List.take_succ_eq_append_getElem hlt)
      have hsh := hid (shade_any b gC cC base ph hd _ rs[k] wr hh)
      generalize rs[k] = r at *
      clear x0 hbl hh ho hca
      go_wp2_with fail
      refine hsh.out.mono ?_
      clear hsh
      intro x w1 hh1
      obtain ⟨hx, hH, hO⟩ := hh1
      subst x
      have H1 := hid hH
      have O1 := hid hO
      clear hH hO
      go_wp2_with fail
      go_roundg (rs.length - (k + 1))
      case measure => omega
      case rel => exact ⟨k + 1, by omega, rfl, by go_num, by rw [HT.out, shadesL_snoc]; exact H1.out, HO.out.trans O1.out⟩
    · have d1 : ¬ (k : Int) < (rs.length : Int) := by omega
      go_wp2_with fail
      go_end0
      refine ⟨rfl, ?_, HO.out⟩
      have := HH.out
      rw [List.take_of_length_le hge] at this
      exact this
theorem firstL_hit {p : Cl → Bool} {cs : List Cl} {k : Nat} (h : k < cs.length) (hp : p cs[k] = true) : firstL p (cs.drop k) k = k := by
  rw [List.drop_eq_getElem_cons h]; simp [firstL, hp]
theorem firstL_miss {p : Cl → Bool} {cs : List Cl} {k : Nat} (h : k < cs.length) (hp : p cs[k] = false) : firstL p (cs.drop k) k = firstL p (cs.drop (k + 1)) (k + 1) := by
  rw [List.drop_eq_getElem_cons h]; simp [firstL, hp]
def ptrL (gC : Nat) (k : Int) : Value := if k < 0 then .pointer none else .pointer (some ⟨gC, k.toNat * 5, none⟩)
theorem firstGrey_any (b gC : Nat) (cC : CK) (base ph hd : Nat) (cs : List Cl) (w : World) (h : PH w b gC cC base cs ph hd) (hl : cs.length ≤ 1000) :
    Calls Tryz.prog 127 #[.pointer (some ⟨b, 21, none⟩)] w fun e w' => e = .returned (ptrL gC (greyL cs)) ∧ w' = w := by
  have h0 := h.c0
  have H := hid h
  unfold greyL
  clear h
  go_enter Tryz.func127, Tryz.ntmps127
  go_wp2_with fail
  go_loopg [9] cs.length (fun g x w' => ∃ k : Nat, k ≤ cs.length ∧ g = cs.length - k ∧ x = .int .i64 k ∧ w' = w ∧ firstL (fun c => c.col == 2) cs 0 = firstL (fun c => c.col == 2) (cs.drop k) k)
  case atStart => exact ⟨0, by omega, by omega, rfl, rfl, rfl⟩
  case round =>
    obtain ⟨k, hk, hg, rfl, hw, hf⟩ := hrel
    subst hw
    have HF := hid hf
    clear hf
    rcases Nat.lt_or_ge k cs.length with hlt | hge
    · have d0 : (0 : Int) ≤ (k : Int) := by omega
      have d1 : (k : Int) < (cs.length : Int) := by omega
      have c0 := H.out.cell hlt (j := 0) (by omega)
      rw [Nat.add_zero] at c0
      have HH := hid (fun hp => firstL_hit (p := fun c => c.col == 2) hlt hp)
      have HM := hid (fun hp => firstL_miss (p := fun c => c.col == 2) hlt hp)
      generalize cs[k] = c at *
      obtain ⟨co, wk, a, b', n⟩ := c
      simp only [clCells, List.getElem?_cons_zero] at c0
      by_cases h2 : co = 2
      · subst h2
        have HE := hid (HH.out rfl)
        clear HH HM
        go_wp2_with fail
        go_ret
        refine ⟨?_, rfl⟩
        rw [HF.out, HE.out]
        unfold ptrL
        rw [if_neg (by omega), Int.toNat_natCast]
        rfl
      · have q2 : ((co : Int) == 2) = false := by simp; omega
        have HE := hid (HM.out (by simp [h2]))
        clear HH HM
        go_wp2_with fail
        go_roundg (cs.length - (k + 1))
        case measure => omega
        case rel => exact ⟨k + 1, by omega, rfl, by go_num, rfl, by rw [HF.out, HE.out]⟩
    · have d1 : ¬ (k : Int) < (cs.length : Int) := by omega
      go_wp2_with fail
      go_ret
      refine ⟨?_, rfl⟩
      rw [HF.out, List.drop_of_length_le hge]
      rfl
def freeL (cs : List Cl) : Int := firstL (fun c => c.col == 0) cs 0
theorem hasFree_any (b gC : Nat) (cC : CK) (base ph hd : Nat) (cs : List Cl) (w : World) (h : PH w b gC cC base cs ph hd) (hl : cs.length ≤ 1000) :
    Calls Tryz.prog 136 #[.pointer (some ⟨b, 21, none⟩)] w fun e w' => e = .returned (.bool (decide (0 ≤ freeL cs))) ∧ w' = w := by
  have h0 := h.c0
  have H := hid h
  unfold freeL
  clear h
  go_enter Tryz.func136, Tryz.ntmps136
  go_wp2_with fail
  go_loopg [9] cs.length (fun g x w' => ∃ k : Nat, k ≤ cs.length ∧ g = cs.length - k ∧ x = .int .i64 k ∧ w' = w ∧ firstL (fun c => c.col == 0) cs 0 = firstL (fun c => c.col == 0) (cs.drop k) k)
  case atStart => exact ⟨0, by omega, by omega, rfl, rfl, rfl⟩
  case round =>
    obtain ⟨k, hk, hg, rfl, hw, hf⟩ := hrel
    subst hw
    have HF := hid hf
    clear hf
    rcases Nat.lt_or_ge k cs.length with hlt | hge
    · have d0 : (0 : Int) ≤ (k : Int) := by omega
      have d1 : (k : Int) < (cs.length : Int) := by omega
      have c0 := H.out.cell hlt (j := 0) (by omega)
      rw [Nat.add_zero] at c0
      have HH := hid (fun hp => firstL_hit (p := fun c => c.col == 0) hlt hp)
      have HM := hid (fun hp => firstL_miss (p := fun c => c.col == 0) hlt hp)
      generalize cs[k] = c at *
      obtain ⟨co, wk, a, b', n⟩ := c
      simp only [clCells, List.getElem?_cons_zero] at c0
      by_cases h2 : co = 0
      · subst h2
        have HE := hid (HH.out rfl)
        clear HH HM
        go_wp2_with fail
        go_ret
        refine ⟨?_, rfl⟩
        rw [HF.out, HE.out, decide_eq_true (by omega)]
        rfl
      · have q2 : ((co : Int) == 0) = false := by simp; omega
        have HE := hid (HM.out (by simp [h2]))
        clear HH HM
        go_wp2_with fail
        go_roundg (cs.length - (k + 1))
        case measure => omega
        case rel => exact ⟨k + 1, by omega, rfl, by go_num, rfl, by rw [HF.out, HE.out]⟩
    · have d1 : ¬ (k : Int) < (cs.length : Int) := by omega
      go_wp2_with fail
      go_ret
      refine ⟨?_, rfl⟩
      rw [HF.out, List.drop_of_length_le hge]
      rfl
theorem blacken_any (b gC : Nat) (cC : CK) (base ph hd g : Nat) (cs : List Cl) (w : World) (h : PH w b gC cC base cs ph hd) (hg : g < cs.length) :
    Calls Tryz.prog 128 #[.pointer (some ⟨b, 21, none⟩), .pointer (some ⟨gC, g * 5, none⟩)] w fun e w' => e = .returned (.tuple #[]) ∧ PH w' b gC cC base (blackL cs g) ph hd ∧ Only gC w w' := by
  have e1 : cs.getD g zeroL = cs[g] := by rw [List.getD_eq_getElem?_getD, List.getElem?_eq_getElem hg]; rfl
  have HB : Hid (blackL cs g = (if cs[g].weak = true then cs else shadeL (shadeL cs cs[g].a) cs[g].b).modify g (paintL 3)) := hid (by unfold blackL; rw [e1])
  have last : ∀ (W : World) (T : List Cl) (hT : PH W b gC cC base T ph hd) (hgT : g < T.length), (∃ v, W.cell? ⟨gC, g * 5, none⟩ = some v) ∧ W.frozen? ⟨gC, g * 5, none⟩ = false ∧ PH (W.setCell ⟨gC, g * 5, none⟩ (.int .i64 3)) b gC cC base (T.modify g (paintL 3)) ph hd := by
    intro W T hT hgT
    have k0 := hT.cell hgT (j := 0) (by omega)
    have hu := hT.upd (k := g) (j := 0) (c := paintL 3 T[g]) (v := .int .i64 3) hgT (by omega) rfl
    rw [Nat.add_zero] at k0 hu
    rw [modify_setL hgT]
    exact ⟨⟨_, k0⟩, hT.frozen _, hu⟩
  have LA := hid last
  have k1 := h.cell hg (j := 1) (by omega)
  have k2 := h.cell hg (j := 2) (by omega)
  simp only [clCells, List.getElem?_cons_zero, List.getElem?_cons_succ] at k1 k2
  have H := hid h
  clear last e1
  cases hw : cs[g].weak
  · rw [hw] at k1 HB
    simp only [Bool.false_eq_true, if_false] at HB
    have hs1 := hid (shade_any b gC cC base ph hd cs cs[g].a w h)
    have hs2 := hid (fun (W : World) (hW : PH W b gC cC base (shadeL cs cs[g].a) ph hd) => shade_any b gC cC base ph hd _ cs[g].b W hW)
    have hc : Hid (∀ (W : World) (hW : PH W b gC cC base (shadeL cs cs[g].a) ph hd), W.cell? ⟨gC, g * 5 + 3, none⟩ = some (.int .i64 cs[g].b)) := hid (by
      intro W hW
      have hgl : g < (shadeL cs cs[g].a).length := by rw [shadeL_len]; exact hg
      have k3 := hW.cell hgl (j := 3) (by omega)
      rw [k3]
      have : (shadeL cs cs[g].a)[g].b = cs[g].b := by
        unfold shadeL
        split
        · by_cases e : cs[g].a.toNat = g
          · simp [paintL, e]
          · simp [e]
        · rfl
      simp only [clCells, List.getElem?_cons_zero, List.getElem?_cons_succ]
      rw [this])
    have hl2 : g < (shadeL (shadeL cs cs[g].a) cs[g].b).length := by rw [shadeL_len, shadeL_len]; exact hg
    generalize cs[g].a = aa at *
    generalize cs[g].b = bb at *
    clear h hw
    go_enter Tryz.func128, Tryz.ntmps128
    go_wp2_with fail
    refine hs1.out.mono ?_
    clear hs1
    intro x w1 hh
    obtain ⟨hx, hH1, hO1⟩ := hh
    subst x
    have k3 := hc.out w1 hH1
    have hs := hid (hs2.out w1 hH1)
    have HO1 := hid hO1
    clear hs2 hH1 hO1 hc k1 k2
    go_wp2_with fail
    refine hs.out.mono ?_
    clear hs
    intro x w2 hh
    obtain ⟨hx, hH2, hO2⟩ := hh
    subst x
    obtain ⟨⟨v, l1⟩, l2, l3⟩ := LA.out w2 _ hH2 hl2
    have L3 := hid l3
    have HO2 := hid hO2
    clear hH2 hO2 l3 k3
    go_wp2_with fail
    go_end0
    exact ⟨rfl, by rw [HB.out]; exact L3.out, (HO1.out.trans HO2.out).set _ _⟩
  · rw [hw] at k1 HB
    simp only [if_true] at HB
    obtain ⟨⟨v, l1⟩, l2, l3⟩ := LA.out w _ h hg
    have L3 := hid l3
    clear h hw l3
    go_enter Tryz.func128, Tryz.ntmps128
    go_wp2_with fail
    go_end0
    exact ⟨rfl, by rw [HB.out]; exact L3.out, (Only.refl _ _).set _ _⟩
def cutA (c : Cl) : Cl := { c with a := -1 }
def midL (cs : List Cl) (k : Nat) : List Cl := (cs.take k).map (fgL cs) ++ cs.drop k
theorem midL_len (cs : List Cl) (k : Nat) : (midL cs k).length = cs.length := by simp [midL]; omega
theorem midL_get {cs : List Cl} {k : Nat} (h : k < cs.length) : (midL cs k)[k]'(by rw [midL_len]; exact h) = cs[k] := by
  unfold midL
  rw [List.getElem_append_right (by simp; omega)]
  simp [Nat.min_eq_left (Nat.le_of_lt h)]
theorem midL_next {cs : List Cl} {k : Nat} (h : k < cs.length) : midL cs (k + 1) = (midL cs k).set k (fgL cs cs[k]) := by
  unfold midL
  rw [List.take_succ_eq_append_getElem h, List.map_append, List.drop_eq_getElem_cons h, List.set_append_right _ _ (by simp; omega), show k - ((cs.take k).map (fgL cs)).length = 0 by simp; omega, List.set_cons_zero, List.append_assoc]
  rfl
theorem fgL_col (cs : List Cl) (c : Cl) : (fgL cs c).col = c.col := by unfold fgL; split <;> rfl
theorem midL_col (cs : List Cl) (k j : Nat) : colL (midL cs k) j = colL cs j := by
  unfold colL
  congr 1
  rw [← List.getElem?_map, ← List.getElem?_map]
  congr 1
  unfold midL
  rw [List.map_append, List.map_map]
  conv => rhs; rw [← List.take_append_drop k cs, List.map_append]
  congr 1
  apply List.map_congr_left
  intro c _
  exact fgL_col cs c
theorem midL_has (cs : List Cl) (k : Nat) (r : Int) (q : Nat) : hasL (midL cs k) r q = hasL cs r q := by
  unfold hasL
  rw [midL_len, midL_col]
theorem midL_all (cs : List Cl) {k : Nat} (h : cs.length ≤ k) : midL cs k = forgetL cs := by
  unfold midL forgetL
  rw [List.take_of_length_le h, List.drop_of_length_le h, List.append_nil]
theorem forgetWhite_any (b gC : Nat) (cC : CK) (base ph hd : Nat) (cs : List Cl) (w : World) (h : PH w b gC cC base cs ph hd) (hl : cs.length ≤ 1000) :
    Calls Tryz.prog 129 #[.pointer (some ⟨b, 21, none⟩)] w fun e w' => e = .returned (.tuple #[]) ∧ PH w' b gC cC base (forgetL cs) ph hd ∧ Only gC w w' := by
  have h0 := h.c0
  have H := hid h
  clear h
  go_enter Tryz.func129, Tryz.ntmps129
  go_wp2_with fail
  clear h0
  go_loopg [8] cs.length (fun g x w' => ∃ k : Nat, k ≤ cs.length ∧ g = cs.length - k ∧ x = .int .i64 k ∧ PH w' b gC cC base (midL cs k) ph hd ∧ Only gC w w')
  case atStart => exact ⟨0, by omega, by omega, rfl, by unfold midL; simpa using H.out, Only.refl _ _⟩
  case round =>
    obtain ⟨k, hk, hg, rfl, hh, ho⟩ := hrel
    have HH := hid hh
    have HO := hid ho
    have h0 := hh.c0
    rw [midL_len] at h0
    clear ho
    rcases Nat.lt_or_ge k cs.length with hlt | hge
    · have d0 : (0 : Int) ≤ (k : Int) := by omega
      have d1 : (k : Int) < (cs.length : Int) := by omega
      have hml : k < (midL cs k).length := by rw [midL_len]; exact hlt
      have c1 := hh.cell hml (j := 1) (by omega)
      have c2 := hh.cell hml (j := 2) (by omega)
      have f2 := hh.frozen (k * 5 + 2)
      rw [midL_get hlt] at c1 c2
      simp only [clCells, List.getElem?_cons_zero, List.getElem?_cons_succ] at c1 c2
      have HN := hid (midL_next hlt)
      have hhas := hid (has_any b gC cC base ph hd 1 (midL cs k) cs[k].a wr hh)
      rw [midL_has] at hhas
      have HU : Hid (PH (wr.setCell ⟨gC, k * 5 + 2, none⟩ (.int .i64 (-1))) b gC cC base ((midL cs k).set k (cutA cs[k])) ph hd) := hid (hh.upd (k := k) (j := 2) hml (by omega) (by rw [midL_get hlt]; rfl))
      have HK : Hid (PH wr b gC cC base ((midL cs k).set k cs[k]) ph hd) := hid (by
        have e := set_self hml
        rw [midL_get hlt] at e
        rw [e]; exact hh)
      clear hh
      cases hwk : cs[k].weak
      · have HF : Hid (fgL cs cs[k] = cs[k]) := hid (by unfold fgL; rw [hwk]; simp)
        rw [hwk] at c1
        clear hwk hhas
        go_wp2_with fail
        go_roundg (cs.length - (k + 1))
        case measure => omega
        case rel => exact ⟨k + 1, by omega, rfl, by go_num, by rw [HN.out, HF.out]; exact HK.out, HO.out⟩
      · rw [hwk] at c1
        cases hhb : hasL cs cs[k].a 1
        · have HF : Hid (fgL cs cs[k] = cs[k]) := hid (by unfold fgL; rw [hwk, hhb]; simp)
          rw [hhb] at hhas
          clear hwk hhb
          generalize cs[k].a = aa at *
          go_wp2_with fail
          refine hhas.out.mono ?_
          clear hhas
          intro x w1 hh1
          obtain ⟨hx, hw⟩ := hh1
          subst x
          subst w1
          go_wp2_with fail
          go_roundg (cs.length - (k + 1))
          case measure => omega
          case rel => exact ⟨k + 1, by omega, rfl, by go_num, by rw [HN.out, HF.out]; exact HK.out, HO.out⟩
        · have HF : Hid (fgL cs cs[k] = cutA cs[k]) := hid (by unfold fgL cutA; rw [hwk, hhb]; simp)
          rw [hhb] at hhas
          clear hwk hhb
          go_wp2_with fail
          refine hhas.out.mono ?_
          clear hhas
          intro x w1 hh1
          obtain ⟨hx, hw⟩ := hh1
          subst x
          subst w1
          go_wp2_with fail
          go_roundg (cs.length - (k + 1))
          case measure => omega
          case rel => exact ⟨k + 1, by omega, rfl, by go_num, by rw [HN.out, HF.out]; exact HU.out, HO.out.set _ _⟩
    · have d1 : ¬ (k : Int) < (cs.length : Int) := by omega
      go_wp2_with fail
      go_end0
      refine ⟨rfl, ?_, HO.out⟩
      have := HH.out
      rw [midL_all cs hge] at this
      exact this
/-- A whole cell is written. -/
theorem PH.put {w : World} {b gC : Nat} {cC : CK} {base ph hd k : Nat} {cs : List Cl} (h : PH w b gC cC base cs ph hd) (hk : k < cs.length) (co : Nat) (wk : Bool) (a e n : Int) : PH (((((w.setCell ⟨gC, k * 5, none⟩ (.int .i64 co)).setCell ⟨gC, k * 5 + 1, none⟩ (.bool wk)).setCell ⟨gC, k * 5 + 2, none⟩ (.int .i64 a)).setCell ⟨gC, k * 5 + 3, none⟩ (.int .i64 e)).setCell ⟨gC, k * 5 + 4, none⟩ (.int .i64 n)) b gC cC base (cs.set k ⟨co, wk, a, e, n⟩) ph hd := by
  have h0 := h.upd (k := k) (j := 0) (c := ⟨co, cs[k].weak, cs[k].a, cs[k].b, cs[k].num⟩) (v := .int .i64 co) hk (by omega) rfl
  have h1 := h0.upd (k := k) (j := 1) (c := ⟨co, wk, cs[k].a, cs[k].b, cs[k].num⟩) (v := .bool wk) (by simpa using hk) (by omega) (by simp [clCells])
  have h2 := h1.upd (k := k) (j := 2) (c := ⟨co, wk, a, cs[k].b, cs[k].num⟩) (v := .int .i64 a) (by simpa using hk) (by omega) (by simp [clCells])
  have h3 := h2.upd (k := k) (j := 3) (c := ⟨co, wk, a, e, cs[k].num⟩) (v := .int .i64 e) (by simpa using hk) (by omega) (by simp [clCells])
  have h4 := h3.upd (k := k) (j := 4) (c := ⟨co, wk, a, e, n⟩) (v := .int .i64 n) (by simpa using hk) (by omega) (by simp [clCells])
  rw [List.set_set, List.set_set, List.set_set, List.set_set, Nat.add_zero] at h4
  exact h4
theorem Two.put {b gC k : Nat} {w W : World} (h : Two b gC w W) (v0 v1 v2 v3 v4 : Value) : Two b gC w (((((W.setCell ⟨gC, k * 5, none⟩ v0).setCell ⟨gC, k * 5 + 1, none⟩ v1).setCell ⟨gC, k * 5 + 2, none⟩ v2).setCell ⟨gC, k * 5 + 3, none⟩ v3).setCell ⟨gC, k * 5 + 4, none⟩ v4) := ((((h.setB _ _).setB _ _).setB _ _).setB _ _).setB _ _
theorem plainCell_any (w : World) : Calls Tryz.prog 72 #[] w fun e w' => e = .returned (.agg #[.int .i64 0, .bool false, .int .i64 (-1), .int .i64 (-1), .int .i64 0]) ∧ Below w.heap.size w w' := by
  go_enter Tryz.func72, Tryz.ntmps72
  go_wp2_with fail
  refine bodyPost_ret (v := .agg #[.int .i64 0, .bool false, .int .i64 (-1), .int .i64 (-1), .int .i64 0]) (by simp [results, Tryz.results72, go_sem]) rfl ⟨rfl, ?_⟩
  exact (Below.refl _ _).alloc (Nat.le_refl _) _
theorem sweep_any (b gC : Nat) (cC : CK) (base ph hd : Nat) (cs : List Cl) (w : World) (h : PH w b gC cC base cs ph hd) (hl : cs.length ≤ 1000) (hh : hd < cs.length) :
    Calls Tryz.prog 100 #[.pointer (some ⟨b, 21, none⟩)] w fun e w' => e = .returned (.tuple #[]) ∧ PH w' b gC cC base (sweepL cs hd) (if cs.length ≤ hd + 1 then 0 else ph) (if cs.length ≤ hd + 1 then 0 else hd + 1) ∧ Two b gC w w' := by
  have hs1 := hid (has_any b gC cC base ph hd 1 cs hd w h)
  have hs3 := hid (has_any b gC cC base ph hd 3 cs hd w h)
  have hpc := hid (plainCell_any w.drew)
  have h0 := h.c0
  have h2 := h.c2
  have d0 : (0 : Int) ≤ (hd : Int) := by omega
  have d1 : (hd : Int) < (cs.length : Int) := by omega
  have k0 := h.cell hh (j := 0) (by omega)
  have k1 := h.cell hh (j := 1) (by omega)
  have k2 := h.cell hh (j := 2) (by omega)
  have k3 := h.cell hh (j := 3) (by omega)
  have k4 := h.cell hh (j := 4) (by omega)
  simp only [clCells, List.getElem?_cons_zero, List.getElem?_cons_succ] at k0 k1 k2 k3 k4
  rw [Nat.add_zero] at k0
  have H := hid h
  clear h
  have fin : ∀ (W : World) (T : List Cl), PH W b gC cC base T ph hd → T.length = cs.length → W.cell? ⟨b, 21, none⟩ = some (.slice (some ⟨gC, 0, none⟩) cs.length cC.cap) ∧ W.cell? ⟨b, 22, none⟩ = some (.int .i64 ph) ∧ W.cell? ⟨b, 23, none⟩ = some (.int .i64 hd) ∧ W.frozen? ⟨b, 22, none⟩ = false ∧ W.frozen? ⟨b, 23, none⟩ = false ∧ PH (W.drew.setCell ⟨b, 23, none⟩ (.int .i64 (hd + 1 : Nat))) b gC cC base T ph (hd + 1) ∧ PH (((W.drew.setCell ⟨b, 23, none⟩ (.int .i64 (hd + 1 : Nat))).setCell ⟨b, 22, none⟩ (.int .i64 (0 : Nat))).setCell ⟨b, 23, none⟩ (.int .i64 (0 : Nat))) b gC cC base T 0 0 := fun W T hT hlT => ⟨by rw [← hlT]; exact hT.c0, hT.c1, hT.c2, hT.f1, hT.f2, hT.drew.hand (hd + 1), ((hT.drew.hand (hd + 1)).phase 0).hand 0⟩
  have FIN := hid fin
  clear fin
  cases hb1 : hasL cs hd 1
  · rw [hb1] at hs1
    cases hb3 : hasL cs hd 3
    · rw [hb3] at hs3
      have HS : Hid (sweepL cs hd = cs) := hid (by unfold sweepL; rw [hb1, hb3]; rfl)
      obtain ⟨t0, t1, t2, t3, t4, t5, t6⟩ := FIN.out w cs H.out rfl
      have T5 := hid t5
      have T6 := hid t6
      clear t5 t6 FIN hb1 hb3 k0 k1 k2 k3 k4 hpc
      by_cases hend : cs.length ≤ hd + 1
      · have d2 : (cs.length : Int) ≤ (hd : Int) + 1 := by omega
        rw [if_pos hend, if_pos hend]
        clear hend
        go_enter Tryz.func100, Tryz.ntmps100
        go_wp2_with fail
        refine hs1.out.mono ?_
        rintro x w1 ⟨rfl, rfl⟩
        go_wp2_with fail
        refine hs3.out.mono ?_
        rintro x w1 ⟨rfl, rfl⟩
        go_wp2_with fail
        go_region
        go_wp2_with fail
        go_end0
        exact ⟨rfl, by rw [HS.out]; exact T6.out, ((((Two.refl _ _ _).drew).set).set).set⟩
      · have d2 : ¬ (cs.length : Int) ≤ (hd : Int) + 1 := by omega
        rw [if_neg hend, if_neg hend]
        clear hend
        go_enter Tryz.func100, Tryz.ntmps100
        go_wp2_with fail
        refine hs1.out.mono ?_
        rintro x w1 ⟨rfl, rfl⟩
        go_wp2_with fail
        refine hs3.out.mono ?_
        rintro x w1 ⟨rfl, rfl⟩
        go_wp2_with fail
        go_region
        go_wp2_with fail
        go_end0
        exact ⟨rfl, by rw [HS.out]; exact T5.out, ((Two.refl _ _ _).drew).set⟩
    · rw [hb3] at hs3
      have HS : Hid (sweepL cs hd = cs.set hd (paintL 1 cs[hd])) := hid (by unfold sweepL; rw [hb1, hb3]; exact modify_setL hh _)
      have hu := H.out.upd (k := hd) (j := 0) (c := paintL 1 cs[hd]) (v := .int .i64 1) hh (by omega) rfl
      have f0 := H.out.frozen (hd * 5 + 0)
      rw [Nat.add_zero] at hu f0
      obtain ⟨t0, t1, t2, t3, t4, t5, t6⟩ := FIN.out _ _ hu (by simp)
      have T5 := hid t5
      have T6 := hid t6
      clear t5 t6 FIN hb1 hb3 k1 k2 k3 k4 hpc hu
      by_cases hend : cs.length ≤ hd + 1
      · have d2 : (cs.length : Int) ≤ (hd : Int) + 1 := by omega
        rw [if_pos hend, if_pos hend]
        clear hend
        go_enter Tryz.func100, Tryz.ntmps100
        go_wp2_with fail
        refine hs1.out.mono ?_
        rintro x w1 ⟨rfl, rfl⟩
        go_wp2_with fail
        refine hs3.out.mono ?_
        rintro x w1 ⟨rfl, rfl⟩
        go_wp2_with fail
        go_region
        go_wp2_with fail
        go_end0
        exact ⟨rfl, by rw [HS.out]; exact T6.out, ((((Two.refl _ _ _).setB _ _).drew.set).set).set⟩
      · have d2 : ¬ (cs.length : Int) ≤ (hd : Int) + 1 := by omega
        rw [if_neg hend, if_neg hend]
        clear hend
        go_enter Tryz.func100, Tryz.ntmps100
        go_wp2_with fail
        refine hs1.out.mono ?_
        rintro x w1 ⟨rfl, rfl⟩
        go_wp2_with fail
        refine hs3.out.mono ?_
        rintro x w1 ⟨rfl, rfl⟩
        go_wp2_with fail
        go_region
        go_wp2_with fail
        go_end0
        exact ⟨rfl, by rw [HS.out]; exact T5.out, (((Two.refl _ _ _).setB _ _).drew).set⟩
  · rw [hb1] at hs1
    have HS : Hid (sweepL cs hd = cs.set hd ⟨0, false, -1, -1, 0⟩) := hid (by unfold sweepL; rw [hb1]; rfl)
    have PUT : Hid (∀ w9, Below w.drew.heap.size w.drew w9 → PH (((((w9.setCell ⟨gC, hd * 5, none⟩ (.int .i64 0)).setCell ⟨gC, hd * 5 + 1, none⟩ (.bool false)).setCell ⟨gC, hd * 5 + 2, none⟩ (.int .i64 (-1))).setCell ⟨gC, hd * 5 + 3, none⟩ (.int .i64 (-1))).setCell ⟨gC, hd * 5 + 4, none⟩ (.int .i64 0)) b gC cC base (cs.set hd ⟨0, false, -1, -1, 0⟩) ph hd ∧ Two b gC w (((((w9.setCell ⟨gC, hd * 5, none⟩ (.int .i64 0)).setCell ⟨gC, hd * 5 + 1, none⟩ (.bool false)).setCell ⟨gC, hd * 5 + 2, none⟩ (.int .i64 (-1))).setCell ⟨gC, hd * 5 + 3, none⟩ (.int .i64 (-1))).setCell ⟨gC, hd * 5 + 4, none⟩ (.int .i64 0))) := hid (fun w9 hb9 => ⟨(H.out.drew.below hb9).put hh 0 false (-1) (-1) 0, ((Two.refl _ _ _).drew.trans (Two.of_below hb9)).put _ _ _ _ _⟩)
    clear hb1 hs3 k0 k1 k2 k3 k4
    by_cases hend : cs.length ≤ hd + 1
    · have d2 : (cs.length : Int) ≤ (hd : Int) + 1 := by omega
      rw [if_pos hend, if_pos hend]
      clear hend
      go_enter Tryz.func100, Tryz.ntmps100
      go_wp2_with fail
      refine hs1.out.mono ?_
      clear hs1
      intro x w1 hh1
      obtain ⟨hx, hw⟩ := hh1
      subst x
      subst w1
      go_wp2_with fail
      go_region_law ((go_simp; go_at_call 72; refine hpc.out.mono ?_; intro x w9 hh9; obtain ⟨hx9, hB9⟩ := hh9; subst hx9; have P9 := H.out.drew.below hB9; have z0 := P9.c0; have z1 := P9.cell hh (j := 0) (by omega); have z2 := P9.cell hh (j := 1) (by omega); have z3 := P9.cell hh (j := 2) (by omega); have z4 := P9.cell hh (j := 3) (by omega); have z5 := P9.cell hh (j := 4) (by omega); have g0 := P9.frozen (hd * 5 + 0); have g1 := P9.frozen (hd * 5 + 1); have g2 := P9.frozen (hd * 5 + 2); have g3 := P9.frozen (hd * 5 + 3); have g4 := P9.frozen (hd * 5 + 4); rw [Nat.add_zero] at z1 g0; simp only [clCells, List.getElem?_cons_zero, List.getElem?_cons_succ] at z1 z2 z3 z4 z5; have HB9 := hid hB9; clear P9 hB9; dsimp only))
      all_goals
        obtain ⟨hP, hT⟩ := PUT.out w9 HB9.out
        clear z0 z1 z2 z3 z4 z5 g0 g1 g2 g3 g4 h0 h2 hpc
        generalize ((((w9.setCell ⟨gC, hd * 5, none⟩ (.int .i64 0)).setCell ⟨gC, hd * 5 + 1, none⟩ (.bool false)).setCell ⟨gC, hd * 5 + 2, none⟩ (.int .i64 (-1))).setCell ⟨gC, hd * 5 + 3, none⟩ (.int .i64 (-1))).setCell ⟨gC, hd * 5 + 4, none⟩ (.int .i64 0) = W at *
        obtain ⟨t0, t1, t2, t3, t4, t5, t6⟩ := FIN.out _ _ hP (by simp)
        have T6 := hid t6
        have HT := hid hT
        clear t5 t6 FIN hP hT PUT
        go_wp2_with fail
        go_region
        go_wp2_with fail
        go_end0
        exact ⟨rfl, by rw [HS.out]; exact T6.out, ((HT.out.drew.set).set).set⟩
    · have d2 : ¬ (cs.length : Int) ≤ (hd : Int) + 1 := by omega
      rw [if_neg hend, if_neg hend]
      clear hend
      go_enter Tryz.func100, Tryz.ntmps100
      go_wp2_with fail
      refine hs1.out.mono ?_
      clear hs1
      intro x w1 hh1
      obtain ⟨hx, hw⟩ := hh1
      subst x
      subst w1
      go_wp2_with fail
      go_region_law ((go_simp; go_at_call 72; refine hpc.out.mono ?_; intro x w9 hh9; obtain ⟨hx9, hB9⟩ := hh9; subst hx9; have P9 := H.out.drew.below hB9; have z0 := P9.c0; have z1 := P9.cell hh (j := 0) (by omega); have z2 := P9.cell hh (j := 1) (by omega); have z3 := P9.cell hh (j := 2) (by omega); have z4 := P9.cell hh (j := 3) (by omega); have z5 := P9.cell hh (j := 4) (by omega); have g0 := P9.frozen (hd * 5 + 0); have g1 := P9.frozen (hd * 5 + 1); have g2 := P9.frozen (hd * 5 + 2); have g3 := P9.frozen (hd * 5 + 3); have g4 := P9.frozen (hd * 5 + 4); rw [Nat.add_zero] at z1 g0; simp only [clCells, List.getElem?_cons_zero, List.getElem?_cons_succ] at z1 z2 z3 z4 z5; have HB9 := hid hB9; clear P9 hB9; dsimp only))
      all_goals
        obtain ⟨hP, hT⟩ := PUT.out w9 HB9.out
        clear z0 z1 z2 z3 z4 z5 g0 g1 g2 g3 g4 h0 h2 hpc
        generalize ((((w9.setCell ⟨gC, hd * 5, none⟩ (.int .i64 0)).setCell ⟨gC, hd * 5 + 1, none⟩ (.bool false)).setCell ⟨gC, hd * 5 + 2, none⟩ (.int .i64 (-1))).setCell ⟨gC, hd * 5 + 3, none⟩ (.int .i64 (-1))).setCell ⟨gC, hd * 5 + 4, none⟩ (.int .i64 0) = W at *
        obtain ⟨t0, t1, t2, t3, t4, t5, t6⟩ := FIN.out _ _ hP (by simp)
        have T5 := hid t5
        have HT := hid hT
        clear t5 t6 FIN hP hT PUT
        go_wp2_with fail
        go_region
        go_wp2_with fail
        go_end0
        exact ⟨rfl, by rw [HS.out]; exact T5.out, HT.out.drew.set⟩
theorem greyL_lt {cs : List Cl} (h : 0 ≤ greyL cs) : (greyL cs).toNat < cs.length := by
  have aux : ∀ (l : List Cl) (k : Nat), firstL (fun c => c.col == 2) l k = -1 ∨ firstL (fun c => c.col == 2) l k < (k : Int) + l.length := by
    intro l
    induction l with
    | nil => intro k; exact .inl rfl
    | cons c r ih =>
      intro k
      simp only [firstL]
      split
      · right; simp; omega
      · rcases ih (k + 1) with e | e
        · exact .inl e
        · right; simp; omega
  unfold greyL at *
  rcases aux cs 0 with e | e
  · omega
  · omega
def markPh (cs : List Cl) (ph hd : Nat) (rs : List Int) : List Cl × Nat × Nat :=
  if 0 ≤ greyL cs then (blackL cs (greyL cs).toNat, ph, hd)
  else if greyL (shadesL cs rs) < 0 then (forgetL (shadesL cs rs), 2, 0) else (shadesL cs rs, ph, hd)
def PUnitPost (b gC : Nat) (cC : CK) (base : Nat) (r : List Cl × Nat × Nat) (w : World) (e : Ending) (w' : World) : Prop :=
  e = .returned (.tuple #[]) ∧ PH w' b gC cC base r.1 r.2.1 r.2.2 ∧ Two b gC w w'
theorem mark_any (b gC : Nat) (cC : CK) (base ph hd : Nat) (cs : List Cl) (rs : List Int) (v : Value) (w : World) (h : PH w b gC cC base cs ph hd) (hl : cs.length ≤ 1000) (hrl : rs.length ≤ 1000) (hv : RefsAt w gC v rs) :
    Calls Tryz.prog 99 #[.pointer (some ⟨b, 21, none⟩), v] w (PUnitPost b gC cC base (markPh cs ph hd rs) w) := by
  have hfg := hid (firstGrey_any b gC cC base ph hd cs w h hl)
  obtain ⟨p0, c0, e0⟩ := hv.slice
  by_cases hg : 0 ≤ greyL cs
  · have hgl := greyL_lt hg
    have HE : Hid (markPh cs ph hd rs = (blackL cs (greyL cs).toNat, ph, hd)) := hid (if_pos hg)
    have hbk := hid (blacken_any b gC cC base ph hd (greyL cs).toNat cs w h hgl)
    rw [show ptrL gC (greyL cs) = .pointer (some ⟨gC, (greyL cs).toNat * 5, none⟩) from if_neg (by omega)] at hfg
    subst e0
    generalize (greyL cs).toNat = g at *
    clear h hv hg
    go_enter Tryz.func99, Tryz.ntmps99
    go_wp2_with fail
    refine hfg.out.mono ?_
    clear hfg
    intro x w1 hh1
    obtain ⟨hx, hw⟩ := hh1
    subst x
    subst w1
    go_wp2_with fail
    refine hbk.out.mono ?_
    clear hbk
    intro x w1 hh1
    obtain ⟨hx, hH, hO⟩ := hh1
    subst x
    have HH := hid hH
    have HO := hid hO
    clear hH hO
    go_wp2_with fail
    go_end0
    exact ⟨rfl, by rw [HE.out]; exact HH.out, (Two.of_only HO.out).widen⟩
  · rw [show ptrL gC (greyL cs) = .pointer none from if_pos (by omega)] at hfg
    have hsa := hid (shadeAll_any b gC cC base ph hd cs rs v w h hrl hv)
    have hfg2 := hid (fun (W : World) (hW : PH W b gC cC base (shadesL cs rs) ph hd) => firstGrey_any b gC cC base ph hd (shadesL cs rs) W hW (by rw [shadesL_len]; exact hl))
    subst e0
    by_cases hg2 : 0 ≤ greyL (shadesL cs rs)
    · have HE : Hid (markPh cs ph hd rs = (shadesL cs rs, ph, hd)) := hid (by unfold markPh; rw [if_neg hg, if_neg (by omega)])
      rw [show ptrL gC (greyL (shadesL cs rs)) = .pointer (some ⟨gC, (greyL (shadesL cs rs)).toNat * 5, none⟩) from if_neg (by omega)] at hfg2
      generalize (greyL (shadesL cs rs)).toNat = g at *
      generalize shadesL cs rs = T at *
      clear h hv hg hg2
      go_enter Tryz.func99, Tryz.ntmps99
      go_wp2_with fail
      refine hfg.out.mono ?_
      clear hfg
      intro x w1 hh1
      obtain ⟨hx, hw⟩ := hh1
      subst x
      subst w1
      go_wp2_with fail
      refine hsa.out.mono ?_
      clear hsa
      intro x w1 hh1
      obtain ⟨hx, hH, hO⟩ := hh1
      subst x
      have hf3 := hid (hfg2.out w1 hH)
      have HH := hid hH
      have HO := hid hO
      clear hH hO hfg2
      go_wp2_with fail
      refine hf3.out.mono ?_
      clear hf3
      intro x w2 hh1
      obtain ⟨hx, hw⟩ := hh1
      subst x
      subst w2
      go_wp2_with fail
      go_end0
      exact ⟨rfl, by rw [HE.out]; exact HH.out, (Two.of_only HO.out).widen⟩
    · have HE : Hid (markPh cs ph hd rs = (forgetL (shadesL cs rs), 2, 0)) := hid (by unfold markPh; rw [if_neg hg, if_pos (by omega)])
      rw [show ptrL gC (greyL (shadesL cs rs)) = .pointer none from if_pos (by omega)] at hfg2
      have hfw := hid (fun (W : World) (hW : PH W b gC cC base (shadesL cs rs) ph hd) => forgetWhite_any b gC cC base ph hd (shadesL cs rs) W hW (by rw [shadesL_len]; exact hl))
      generalize shadesL cs rs = T at *
      clear h hv hg hg2
      go_enter Tryz.func99, Tryz.ntmps99
      go_wp2_with fail
      refine hfg.out.mono ?_
      clear hfg
      intro x w1 hh1
      obtain ⟨hx, hw⟩ := hh1
      subst x
      subst w1
      go_wp2_with fail
      refine hsa.out.mono ?_
      clear hsa
      intro x w1 hh1
      obtain ⟨hx, hH, hO⟩ := hh1
      subst x
      have hf3 := hid (hfg2.out w1 hH)
      have hf4 := hid (hfw.out w1 hH)
      have HO := hid hO
      clear hH hO hfg2 hfw
      go_wp2_with fail
      refine hf3.out.mono ?_
      clear hf3
      intro x w2 hh1
      obtain ⟨hx, hw⟩ := hh1
      subst x
      subst w2
      go_wp2_with fail
      refine hf4.out.mono ?_
      clear hf4
      intro x w2 hh1
      obtain ⟨hx, hH, hO⟩ := hh1
      subst x
      have a1 := hH.c1
      have a2 := hH.c2
      have b1 := hH.f1
      have b2 := hH.f2
      have HF := hid ((hH.phase 2).hand 0)
      have HO2 := hid hO
      clear hH hO
      go_wp2_with fail
      go_end0
      exact ⟨rfl, by rw [HE.out]; exact HF.out, ((Two.of_only (HO.out.trans HO2.out)).widen.set).set⟩
theorem punit_any (b gC : Nat) (cC : CK) (base ph hd : Nat) (cs : List Cl) (rs : List Int) (v : Value) (w : World) (h : PH w b gC cC base cs ph hd) (hl : cs.length ≤ 1000) (hrl : rs.length ≤ 1000) (hv : RefsAt w gC v rs) (hp : ph ≤ 2) (hh : ph = 2 → hd < cs.length) :
    Calls Tryz.prog 58 #[.pointer (some ⟨b, 21, none⟩), v] w (PUnitPost b gC cC base (unitL cs ph hd rs) w) := by
  obtain ⟨p0, c0, e0⟩ := hv.slice
  have h1 := h.c1
  by_cases e1 : ph = 0
  · subst e1
    have HE : Hid (unitL cs 0 hd rs = (shadesL cs rs, 1, hd)) := hid rfl
    have hsa := hid (shadeAll_any b gC cC base 0 hd cs rs v w h hrl hv)
    subst e0
    clear h hv hh
    go_enter Tryz.func58, Tryz.ntmps58
    go_wp2_with fail
    refine hsa.out.mono ?_
    clear hsa
    intro x w1 hh1
    obtain ⟨hx, hH, hO⟩ := hh1
    subst x
    have a1 := hH.c1
    have b1 := hH.f1
    have HF := hid (hH.phase 1)
    have HO := hid hO
    clear hH hO
    go_wp2_with fail
    go_end0
    exact ⟨rfl, by rw [HE.out]; exact HF.out, (Two.of_only HO.out).widen.set⟩
  by_cases e2 : ph = 2
  · subst e2
    have hlt := hh rfl
    have HE : Hid (unitL cs 2 hd rs = (sweepL cs hd, (if cs.length ≤ hd + 1 then 0 else 2), (if cs.length ≤ hd + 1 then 0 else hd + 1))) := hid (by
      unfold unitL
      rw [if_neg (by decide), if_pos rfl]
      split <;> rfl)
    have hsw := hid (sweep_any b gC cC base 2 hd cs w h hl hlt)
    subst e0
    clear h hv hh
    go_enter Tryz.func58, Tryz.ntmps58
    go_wp2_with fail
    refine hsw.out.mono ?_
    clear hsw
    intro x w1 hh1
    obtain ⟨hx, hH, hO⟩ := hh1
    subst x
    have HH := hid hH
    have HO := hid hO
    clear hH hO
    go_wp2_with fail
    go_end0
    exact ⟨rfl, by rw [HE.out]; exact HH.out, HO.out⟩
  · have e3 : ph = 1 := by omega
    subst e3
    have HE : Hid (unitL cs 1 hd rs = markPh cs 1 hd rs) := hid rfl
    have hmk := hid (mark_any b gC cC base 1 hd cs rs v w h hl hrl hv)
    subst e0
    clear h hv hh e1 e2
    go_enter Tryz.func58, Tryz.ntmps58
    go_wp2_with fail
    refine hmk.out.mono ?_
    clear hmk
    intro x w1 hh1
    obtain ⟨hx, hH, hO⟩ := hh1
    subst x
    have HH := hid hH
    have HO := hid hO
    clear hH hO
    go_wp2_with fail
    go_end0
    exact ⟨rfl, by rw [HE.out]; exact HH.out, HO.out⟩
/-- The program's heap in memory, in the words of the reference's cells. -/
def PHR (w : World) (b gC : Nat) (cC : CK) (base : Nat) (h : HSt) : Prop := PH w b gC cC base (h.1.map toldC) h.2.1 h.2.2
theorem punit_t (b gC : Nat) (cC : CK) (base n : Nat) (hs : HSt) (rs : List Int) (v : Value) (w : World) (h : PHR w b gC cC base hs) (hk : HOk n hs) (hrl : rs.length ≤ 1000) (hv : RefsAt w gC v rs) :
    Calls Tryz.prog 58 #[.pointer (some ⟨b, 21, none⟩), v] w fun e w' => e = .returned (.tuple #[]) ∧ PHR w' b gC cC base (stepC rs hs) ∧ Two b gC w w' := by
  have hl := hk.ok.len
  refine (punit_any b gC cC base _ _ _ rs v w h (by simp; omega) hrl hv hk.ok.phz (fun e => by simpa using hk.ok.hand e)).mono ?_
  rintro x w' ⟨h1, h2, h3⟩
  rw [told_unit hk.ok hk.x rs] at h2
  exact ⟨h1, h2, h3⟩
theorem finish_any (b gC : Nat) (cC : CK) (base n : Nat) (hs : HSt) (rs : List Int) (v : Value) (w : World) (h : PHR w b gC cC base hs) (hk : HOk n hs) (hrl : rs.length ≤ 1000) (hv : RefsAt w gC v rs) (hvb : ∀ a n c, v = .slice (some a) n c → a.block ≠ b) :
    Calls Tryz.prog 137 #[.pointer (some ⟨b, 21, none⟩), v] w fun e w' => e = .returned (.tuple #[]) ∧ PHR w' b gC cC base (idleC rs hs) ∧ Two b gC w w' := by
  have HV := hid hv
  have HVB := hid hvb
  have HK := hid hk
  have H := hid h
  obtain ⟨p0, c0, e0⟩ := hv.slice
  subst e0
  clear h hv hk hvb
  go_enter Tryz.func137, Tryz.ntmps137
  go_wp2_with fail
  go_loopg [] (muC hs) (fun g w' => ∃ q : HSt, g = muC q ∧ PHR w' b gC cC base q ∧ HOk n q ∧ idleC rs hs = idleC rs q ∧ Two b gC w w')
  case atStart => exact ⟨hs, rfl, H.out, HK.out, rfl, Two.refl _ _ _⟩
  case round =>
    obtain ⟨q, hg, hh, hkq, hid1, ht⟩ := hrel
    have HI := hid hid1
    have HT := hid ht
    have c1 := hh.c1
    by_cases e0 : q.2.1 = 0
    · have HE := hid (idleC_zero (rs := rs) e0)
      have HH := hid hh
      rw [e0] at c1
      clear hid1 ht hh hkq e0
      go_wp2_with fail
      go_end0
      exact ⟨rfl, by rw [HI.out, HE.out]; exact HH.out, HT.out⟩
    · have q1 : ((q.2.1 : Int) != 0) = true := by simp; omega
      have hmu := mu_dec hkq.ok e0 rs
      have HE := hid (idleC_step (rs := rs) hkq.ok e0)
      have hun := hid (punit_t b gC cC base n q rs _ wr hh hkq hrl (HV.out.two HVB.out ht))
      have HKQ := hid (hkq.unit rs)
      generalize q.2.1 = ph at *
      clear hid1 ht hh hkq e0
      go_wp2_with fail
      refine hun.out.mono ?_
      clear hun
      intro x w1 hh1
      obtain ⟨hx, hH, hO⟩ := hh1
      subst x
      have HH := hid hH
      have HO := hid hO
      clear hH hO
      go_wp2_with fail
      go_roundg (muC (stepC rs q))
      case measure => omega
      case rel => exact ⟨stepC rs q, rfl, HH.out, HKQ.out, HI.out.trans HE.out, HT.out.trans HO.out⟩
/-- The heap with room made. -/
def roomC (rs : List Int) (h : HSt) : HSt := if 0 ≤ lowC h then h else if 0 ≤ lowC (idleC rs h) then idleC rs h else idleC rs (stepC rs (idleC rs h))
theorem takeC_room (rs : List Int) (h : HSt) : takeC rs h = if 0 ≤ lowC (roomC rs h) then beginC (roomC rs h) else (-1, roomC rs h) := by
  unfold takeC roomC
  by_cases h1 : 0 ≤ lowC h
  · rw [if_pos h1, if_pos h1, if_pos h1]
  rw [if_neg h1, if_neg h1]
  by_cases h2 : 0 ≤ lowC (idleC rs h)
  · rw [if_pos h2, if_pos h2, if_pos h2]
  rw [if_neg h2, if_neg h2]
theorem HOk.room {n : Nat} {h : HSt} (k : HOk n h) (rs : List Int) : HOk n (roomC rs h) := by
  unfold roomC
  split
  · exact k
  split
  · exact k.idle rs
  · exact ((k.idle rs).unit rs).idle rs
theorem freeL_told (h : HSt) : freeL (h.1.map toldC) = lowC h := by
  unfold freeL lowC
  rw [told_first]
  congr 1
  funext c
  obtain ⟨u, r, k, wk, a, b, n⟩ := c
  cases u <;> cases r <;> cases k <;> rfl
theorem makeRoom_any (b gC : Nat) (cC : CK) (base n : Nat) (hs : HSt) (rs : List Int) (v : Value) (w : World) (h : PHR w b gC cC base hs) (hk : HOk n hs) (hrl : rs.length ≤ 1000) (hv : RefsAt w gC v rs) (hvb : ∀ a n c, v = .slice (some a) n c → a.block ≠ b) :
    Calls Tryz.prog 115 #[.pointer (some ⟨b, 21, none⟩), v] w fun e w' => e = .returned (.tuple #[]) ∧ PHR w' b gC cC base (roomC rs hs) ∧ Two b gC w w' := by
  have free : ∀ (W : World) (q : HSt), PHR W b gC cC base q → HOk n q → Calls Tryz.prog 136 #[.pointer (some ⟨b, 21, none⟩)] W fun e w' => e = .returned (.bool (decide (0 ≤ lowC q))) ∧ w' = W := by
    intro W q hW hq
    have := hasFree_any b gC cC base _ _ _ W hW (by have := hq.ok.len; simp; omega)
    rw [freeL_told] at this
    exact this
  have f1 := hid (free w hs h hk)
  have f2 := hid (fun (W : World) (hW : PHR W b gC cC base (idleC rs hs)) => free W _ hW (hk.idle rs))
  have g1 := hid (finish_any b gC cC base n hs rs v w h hk hrl hv hvb)
  have u1 := hid (fun (W : World) (hW : PHR W b gC cC base (idleC rs hs)) (ht : Two b gC w W) => punit_t b gC cC base n _ rs v W hW (hk.idle rs) hrl (hv.two hvb ht))
  have g2 := hid (fun (W : World) (hW : PHR W b gC cC base (stepC rs (idleC rs hs))) (ht : Two b gC w W) => finish_any b gC cC base n _ rs v W hW ((hk.idle rs).unit rs) hrl (hv.two hvb ht) hvb)
  have H := hid h
  obtain ⟨p0, c0, e0⟩ := hv.slice
  subst e0
  clear hv hvb h hk free
  by_cases l1 : 0 ≤ lowC hs
  · have HE : Hid (roomC rs hs = hs) := hid (if_pos l1)
    rw [decide_eq_true l1] at f1
    clear l1 f2 g1 u1 g2
    go_enter Tryz.func115, Tryz.ntmps115
    go_wp2_with fail
    refine f1.out.mono ?_
    clear f1
    intro x w1 hh1
    obtain ⟨hx, hw⟩ := hh1
    subst x
    subst w1
    go_wp2_with fail
    exact bodyPost_ret (v := .tuple #[]) (by simp [results, Tryz.results115, go_sem]) rfl ⟨rfl, by rw [HE.out]; exact H.out, Two.refl _ _ _⟩
  · rw [decide_eq_false l1] at f1
    by_cases l2 : 0 ≤ lowC (idleC rs hs)
    · have HE : Hid (roomC rs hs = idleC rs hs) := hid (by unfold roomC; rw [if_neg l1, if_pos l2])
      rw [decide_eq_true l2] at f2
      generalize idleC rs hs = q1 at *
      clear l1 l2 u1 g2
      go_enter Tryz.func115, Tryz.ntmps115
      go_wp2_with fail
      refine f1.out.mono ?_
      clear f1
      intro x w1 hh1
      obtain ⟨hx, hw⟩ := hh1
      subst x
      subst w1
      go_wp2_with fail
      refine g1.out.mono ?_
      clear g1
      intro x w1 hh1
      obtain ⟨hx, hH, hT⟩ := hh1
      subst x
      have f3 := hid (f2.out w1 hH)
      have HH := hid hH
      have HT := hid hT
      clear f2 hH hT
      go_wp2_with fail
      refine f3.out.mono ?_
      clear f3
      intro x w2 hh1
      obtain ⟨hx, hw⟩ := hh1
      subst x
      subst w2
      go_wp2_with fail
      exact bodyPost_ret (v := .tuple #[]) (by simp [results, Tryz.results115, go_sem]) rfl ⟨rfl, by rw [HE.out]; exact HH.out, HT.out⟩
    · have HE : Hid (roomC rs hs = idleC rs (stepC rs (idleC rs hs))) := hid (by unfold roomC; rw [if_neg l1, if_neg l2])
      rw [decide_eq_false l2] at f2
      generalize idleC rs (stepC rs (idleC rs hs)) = q3 at *
      generalize stepC rs (idleC rs hs) = q2 at *
      generalize idleC rs hs = q1 at *
      clear l1 l2
      go_enter Tryz.func115, Tryz.ntmps115
      go_wp2_with fail
      refine f1.out.mono ?_
      clear f1
      intro x w1 hh1
      obtain ⟨hx, hw⟩ := hh1
      subst x
      subst w1
      go_wp2_with fail
      refine g1.out.mono ?_
      clear g1
      intro x w1 hh1
      obtain ⟨hx, hH, hT⟩ := hh1
      subst x
      have f3 := hid (f2.out w1 hH)
      have u2 := hid (u1.out w1 hH hT)
      have HT := hid hT
      clear f2 u1 hH hT
      go_wp2_with fail
      refine f3.out.mono ?_
      clear f3
      intro x w2 hh1
      obtain ⟨hx, hw⟩ := hh1
      subst x
      subst w2
      go_wp2_with fail
      refine u2.out.mono ?_
      clear u2
      intro x w2 hh1
      obtain ⟨hx, hH, hT⟩ := hh1
      subst x
      have ht2 := HT.out.trans hT
      have g3 := hid (g2.out w2 hH ht2)
      have HT2 := hid ht2
      clear g2 hH hT ht2
      go_wp2_with fail
      refine g3.out.mono ?_
      clear g3
      intro x w3 hh1
      obtain ⟨hx, hH, hT⟩ := hh1
      subst x
      have HH := hid hH
      have HT3 := hid hT
      clear hH hT
      go_wp2_with fail
      go_end0
      exact ⟨rfl, by rw [HE.out]; exact HH.out, HT2.out.trans HT3.out⟩
def colFor (ph hd k : Nat) : Nat := if ph = 1 then 3 else if ph = 2 ∧ hd ≤ k then 3 else 1
theorem colourFor_any (b gC : Nat) (cC : CK) (base ph hd k : Nat) (cs : List Cl) (w : World) (h : PH w b gC cC base cs ph hd) :
    Calls Tryz.prog 141 #[.pointer (some ⟨b, 21, none⟩), .int .i64 k] w fun e w' => e = .returned (.int .i64 (colFor ph hd k : Nat)) ∧ w' = w := by
  have h1 := h.c1
  have h2 := h.c2
  clear h
  unfold colFor
  by_cases e1 : ph = 1
  · subst e1
    rw [if_pos rfl]
    go_enter Tryz.func141, Tryz.ntmps141
    go_wp2_with fail
    go_ret
    exact ⟨rfl, rfl⟩
  · have q1 : ((ph : Int) == 1) = false := by simp; omega
    rw [if_neg e1]
    by_cases e2 : ph = 2
    · subst e2
      by_cases e3 : hd ≤ k
      · have d3 : (hd : Int) ≤ (k : Int) := by omega
        rw [if_pos ⟨rfl, e3⟩]
        go_enter Tryz.func141, Tryz.ntmps141
        go_wp2_with fail
        go_ret
        exact ⟨rfl, rfl⟩
      · have d3 : ¬ (hd : Int) ≤ (k : Int) := by omega
        rw [if_neg (fun h => e3 h.2)]
        go_enter Tryz.func141, Tryz.ntmps141
        go_wp2_with fail
        go_ret
        exact ⟨rfl, rfl⟩
    · have q2 : ((ph : Int) == 2) = false := by simp; omega
      rw [if_neg (fun h => e2 h.1)]
      go_enter Tryz.func141, Tryz.ntmps141
      go_wp2_with fail
      go_ret
      exact ⟨rfl, rfl⟩
def PTakePost (b gC : Nat) (cC : CK) (base ph hd : Nat) (cs : List Cl) (wk : Bool) (a e n : Int) (w : World) (x : Ending) (w' : World) : Prop :=
  (freeL cs < 0 ∧ x = .returned (.tuple #[.int .i64 0, .bool false]) ∧ PH w' b gC cC base cs ph hd ∧ Two b gC w w') ∨
  (0 ≤ freeL cs ∧ x = .returned (.tuple #[.int .i64 (freeL cs), .bool true]) ∧ PH w' b gC cC base (cs.set (freeL cs).toNat ⟨colFor ph hd (freeL cs).toNat, wk, a, e, n⟩) ph hd ∧ Two b gC w w')
theorem ptake_any (b gC : Nat) (cC : CK) (base ph hd co : Nat) (wk : Bool) (a e n : Int) (cs : List Cl) (w : World) (h : PH w b gC cC base cs ph hd) (hl : cs.length ≤ 1000) :
    Calls Tryz.prog 138 #[.pointer (some ⟨b, 21, none⟩), .agg #[.int .i64 co, .bool wk, .int .i64 a, .int .i64 e, .int .i64 n]] w (PTakePost b gC cC base ph hd cs wk a e n w) := by
  have hbz := World.block_lt_of_cell? w _ h.c0
  have hgz := (h.row.lt gC rfl).2
  have h0 := h.c0
  have H := hid h
  simp only at hbz
  clear h
  go_enter Tryz.func138, Tryz.ntmps138
  go_wp2_with fail
  clear h0
  go_loopg [12] cs.length (fun g x w' => ∃ k : Nat, k ≤ cs.length ∧ g = cs.length - k ∧ x = .int .i64 k ∧ w' = w.alloc (.cells #[.int .i64 co, .bool wk, .int .i64 a, .int .i64 e, .int .i64 n] 100) ∧ freeL cs = firstL (fun c => c.col == 0) (cs.drop k) k)
  case atStart => exact ⟨0, by omega, by omega, rfl, rfl, rfl⟩
  case round =>
    obtain ⟨k, hk, hg, rfl, hw, hf⟩ := hrel
    have hb1 : Below w.heap.size w wr := by rw [hw]; exact (Below.refl _ _).alloc (Nat.le_refl _) _
    have hP := H.out.below hb1
    have hbox : wr.heap[w.heap.size]? = some (.cells #[.int .i64 co, .bool wk, .int .i64 a, .int .i64 e, .int .i64 n] 100) := by rw [hw]; exact heap_alloc_new _ _
    have hsz : wr.heap.size = w.heap.size + 1 := by rw [hw]; simp
    have HW := hid hw
    clear hw
    have h0 := hP.c0
    have HF := hid hf
    clear hf
    rcases Nat.lt_or_ge k cs.length with hlt | hge
    · have d0 : (0 : Int) ≤ (k : Int) := by omega
      have d1 : (k : Int) < (cs.length : Int) := by omega
      have c0 := hP.cell hlt (j := 0) (by omega)
      rw [Nat.add_zero] at c0
      have HH := hid (fun hp => firstL_hit (p := fun c => c.col == 0) hlt hp)
      have HM := hid (fun hp => firstL_miss (p := fun c => c.col == 0) hlt hp)
      simp only [clCells, List.getElem?_cons_zero] at c0
      by_cases h2 : cs[k].col = 0
      · rw [h2] at c0
        have HE : Hid (freeL cs = (k : Int)) := hid (HF.out.trans (HH.out (by simp [h2])))
        have b0 := cell_of_row wr w.heap.size 0 _ _ _ hbox
        have g0 := frozen_of_row wr w.heap.size 0 _ _ hbox
        have hcf := hid (colourFor_any b gC cC base ph hd k cs wr hP)
        have hbx2 := setCell_row (t := 100) 0 (.int .i64 (colFor ph hd k : Nat)) hbox
        have hP2 : PH (wr.setCell ⟨w.heap.size, 0, none⟩ (.int .i64 (colFor ph hd k : Nat))) b gC cC base cs ph hd := H.out.below (hb1.setCell (Nat.le_refl _) _)
        have hT2 : Two b gC w (wr.setCell ⟨w.heap.size, 0, none⟩ (.int .i64 (colFor ph hd k : Nat))) := Two.of_below (hb1.setCell (Nat.le_refl _) _)
        simp only [List.getElem?_toArray, List.getElem?_cons_zero] at b0
        have HP2 := hid hP2
        have HT2 := hid hT2
        have HBX := hid hbx2
        clear HH HM h2 hP hbox hP2 hT2 hbx2 hb1
        go_wp2_with fail
        refine hcf.out.mono ?_
        clear hcf
        intro x w1 hh1
        obtain ⟨hx, hw⟩ := hh1
        subst x
        subst w1
        go_wp2_with fail
        clear h0 c0 b0 g0
        generalize hW2 : wr.setCell ⟨w.heap.size, 0, none⟩ (.int .i64 (colFor ph hd k : Nat)) = W2 at *
        clear hW2
        have z0 := HP2.out.c0
        have z1 := HP2.out.cell hlt (j := 0) (by omega)
        have z2 := HP2.out.cell hlt (j := 1) (by omega)
        have z3 := HP2.out.cell hlt (j := 2) (by omega)
        have z4 := HP2.out.cell hlt (j := 3) (by omega)
        have z5 := HP2.out.cell hlt (j := 4) (by omega)
        have g0 := HP2.out.frozen (k * 5 + 0)
        have g1 := HP2.out.frozen (k * 5 + 1)
        have g2 := HP2.out.frozen (k * 5 + 2)
        have g3 := HP2.out.frozen (k * 5 + 3)
        have g4 := HP2.out.frozen (k * 5 + 4)
        rw [Nat.add_zero] at z1 g0
        simp only [clCells, List.getElem?_cons_zero, List.getElem?_cons_succ] at z1 z2 z3 z4 z5
        have y0 := cell_of_row W2 w.heap.size 0 _ _ _ HBX.out
        have y1 := cell_of_row W2 w.heap.size 1 _ _ _ HBX.out
        have y2 := cell_of_row W2 w.heap.size 2 _ _ _ HBX.out
        have y3 := cell_of_row W2 w.heap.size 3 _ _ _ HBX.out
        have y4 := cell_of_row W2 w.heap.size 4 _ _ _ HBX.out
        simp only [List.setIfInBounds_toArray, List.getElem?_toArray, List.set_cons_zero, List.getElem?_cons_zero, List.getElem?_cons_succ] at y0 y1 y2 y3 y4
        have HPUT := hid (HP2.out.put hlt (colFor ph hd k) wk a e n)
        have HTW := hid (HT2.out.put (k := k) (.int .i64 (colFor ph hd k : Nat)) (.bool wk) (.int .i64 a) (.int .i64 e) (.int .i64 n))
        go_region
        go_wp2_with fail
        refine bodyPost_ret (v := .tuple #[.int .i64 k, .bool true]) (by simp [results, Tryz.results138, go_sem]) rfl (.inr ⟨by rw [HE.out]; omega, by rw [HE.out], ?_, HTW.out.drew⟩)
        rw [HE.out, Int.toNat_natCast]
        exact HPUT.out.drew
      · have q2 : ((cs[k].col : Int) == 0) = false := by simp; omega
        have HE := hid (HM.out (by simp [h2]))
        clear HH HM h2 hP hbox hb1
        go_wp2_with fail
        go_roundg (cs.length - (k + 1))
        case measure => omega
        case rel => exact ⟨k + 1, by omega, rfl, by go_num, HW.out, by rw [HF.out, HE.out]⟩
    · have d1 : ¬ (k : Int) < (cs.length : Int) := by omega
      have HP := hid hP
      have HB1 := hid hb1
      clear hP hbox hb1
      go_wp2_with fail
      refine bodyPost_ret (v := .tuple #[.int .i64 0, .bool false]) (by simp [results, Tryz.results138, go_sem]) rfl (.inl ⟨?_, rfl, HP.out, Two.of_below HB1.out⟩)
      rw [HF.out, List.drop_of_length_le hge]
      simp [firstL]
theorem colFor_told (ph hd k : Nat) : toldC (freshC (doneB ph hd k)) = ⟨colFor ph hd k, false, -1, -1, 0⟩ := by
  unfold toldC freshC doneB colFor
  by_cases e1 : ph = 1
  · subst e1; simp [colR]
  · rw [if_neg e1]
    by_cases e2 : ph = 2 ∧ hd ≤ k
    · rw [if_pos e2]; simp [colR, e2.1, e2.2]
    · rw [if_neg e2]
      have : (ph == 1 || (ph == 2 && decide (hd ≤ k))) = false := by
        simp only [Bool.or_eq_false_iff, beq_eq_false_iff_ne, Bool.and_eq_false_iff, decide_eq_false_iff_not]
        refine ⟨e1, ?_⟩
        by_cases e3 : ph = 2
        · right; exact fun h => e2 ⟨e3, h⟩
        · left; exact e3
      rw [this]
      rfl
theorem PHR.of {w : World} {b gC : Nat} {cC : CK} {base : Nat} {cs : List Cl} {cs' : List RC} {ph hd : Nat} (h : PH w b gC cC base cs ph hd) (e : cs = cs'.map toldC) : PHR w b gC cC base (cs', ph, hd) := by
  subst e; exact h
def TakeP (b gC : Nat) (cC : CK) (base : Nat) (hs : HSt) (f : RC → RC) (w : World) (x : Ending) (w' : World) : Prop :=
  (lowC hs < 0 ∧ x = .returned (.tuple #[.int .i64 0, .bool false]) ∧ PHR w' b gC cC base hs ∧ Two b gC w w') ∨
  (0 ≤ lowC hs ∧ x = .returned (.tuple #[.int .i64 (lowC hs), .bool true]) ∧ PHR w' b gC cC base ((beginC hs).2.1.modify (lowC hs).toNat f, hs.2) ∧ Two b gC w w')
theorem takePlain_any (b gC : Nat) (cC : CK) (base n : Nat) (hs : HSt) (w : World) (h : PHR w b gC cC base hs) (hk : HOk n hs) :
    Calls Tryz.prog 117 #[.pointer (some ⟨b, 21, none⟩)] w (TakeP b gC cC base hs id w) := by
  have hpc := hid (plainCell_any w)
  have hl : (hs.1.map toldC).length ≤ 1000 := by have := hk.ok.len; simp; omega
  have htk := hid (fun (W : World) (hB : Below w.heap.size w W) => ptake_any b gC cC base _ _ 0 false (-1) (-1) 0 _ W (h.below hB) hl)
  have post : ∀ (W w' : World) (x : Ending), Below w.heap.size w W → PTakePost b gC cC base hs.2.1 hs.2.2 (hs.1.map toldC) false (-1) (-1) 0 W x w' → TakeP b gC cC base hs id w x w' := by
    intro W w' x hB hp
    unfold PTakePost at hp
    rw [freeL_told] at hp
    rcases hp with ⟨p1, p2, p3, p4⟩ | ⟨p1, p2, p3, p4⟩
    · exact .inl ⟨p1, p2, p3, (Two.of_below hB).trans p4⟩
    · refine .inr ⟨p1, p2, PHR.of p3 ?_, (Two.of_below hB).trans p4⟩
      rw [List.modify_id]
      show _ = (hs.1.set (lowC hs).toNat (freshC (doneB hs.2.1 hs.2.2 (lowC hs).toNat))).map toldC
      rw [List.map_set, colFor_told]
  have POST := hid post
  clear h hk hl post
  go_enter Tryz.func117, Tryz.ntmps117
  go_wp2_with fail
  refine hpc.out.mono ?_
  clear hpc
  intro x w1 hh1
  obtain ⟨hx, hB⟩ := hh1
  subst x
  have ht := hid (htk.out w1 hB)
  have HB := hid hB
  clear htk hB
  go_wp2_with fail
  refine ht.out.mono ?_
  clear ht
  intro x w2 hh1
  have HP := hid (POST.out w1 w2 x HB.out hh1)
  clear POST
  rcases hh1 with ⟨_, hx, _⟩ | ⟨_, hx, _⟩
  · subst x
    go_wp2_with fail
    exact bodyPost_ret (v := .tuple #[.int .i64 0, .bool false]) (by simp [results, Tryz.results117, go_sem]) rfl HP.out
  · subst x
    go_wp2_with fail
    exact bodyPost_ret (by simp [results, Tryz.results117, go_sem]) rfl HP.out
theorem takeWeak_any (b gC : Nat) (cC : CK) (base n : Nat) (hs : HSt) (r : Int) (w : World) (h : PHR w b gC cC base hs) (hk : HOk n hs) :
    Calls Tryz.prog 116 #[.pointer (some ⟨b, 21, none⟩), .int .i64 r] w (TakeP b gC cC base hs (weakS r) w) := by
  have hl : (hs.1.map toldC).length ≤ 1000 := by have := hk.ok.len; simp; omega
  have hB : Below w.heap.size w w := Below.refl _ _
  have htk := hid (ptake_any b gC cC base _ _ 0 true r (-1) 0 _ _ h hl)
  have post : ∀ (W w' : World) (x : Ending), Below w.heap.size w W → PTakePost b gC cC base hs.2.1 hs.2.2 (hs.1.map toldC) true r (-1) 0 W x w' → TakeP b gC cC base hs (weakS r) w x w' := by
    intro W w' x hB hp
    unfold PTakePost at hp
    rw [freeL_told] at hp
    rcases hp with ⟨p1, p2, p3, p4⟩ | ⟨p1, p2, p3, p4⟩
    · exact .inl ⟨p1, p2, p3, (Two.of_below hB).trans p4⟩
    · refine .inr ⟨p1, p2, PHR.of p3 ?_, (Two.of_below hB).trans p4⟩
      obtain ⟨hlt, _⟩ := lowC_at p1
      have e := colFor_told hs.2.1 hs.2.2 (lowC hs).toNat
      show _ = ((hs.1.set (lowC hs).toNat (freshC (doneB hs.2.1 hs.2.2 (lowC hs).toNat))).modify (lowC hs).toNat (weakS r)).map toldC
      rw [modify_set (by simpa using hlt), List.set_set, List.getElem_set_self, List.map_set]
      congr 1
      injection e with e1
      show _ = toldC (weakS r _)
      unfold toldC weakS
      rw [← e1]
      rfl
  have POST := hid post
  have HB := hid hB
  clear h hk hl post hB
  go_enter Tryz.func116, Tryz.ntmps116
  go_wp2_with fail
  refine htk.out.mono ?_
  clear htk
  intro x w2 hh1
  have HP := hid (POST.out _ w2 x HB.out hh1)
  clear POST
  rcases hh1 with ⟨_, hx, _⟩ | ⟨_, hx, _⟩
  · subst x
    go_wp2_with fail
    exact bodyPost_ret (v := .tuple #[.int .i64 0, .bool false]) (by simp [results, Tryz.results116, go_sem]) rfl HP.out
  · subst x
    go_wp2_with fail
    exact bodyPost_ret (by simp [results, Tryz.results116, go_sem]) rfl HP.out
theorem wantsC_cases (cs : List RC) (r : Int) (b : Bool) (hr : r < (cs.length : Int)) : (r < 0 ∧ wantsC cs r b = 2) ∨ (∃ q : Nat, ∃ hq : q < cs.length, r = (q : Int) ∧ cs[q].weak ≠ b ∧ wantsC cs r b = 4) ∨ (∃ q : Nat, ∃ hq : q < cs.length, r = (q : Int) ∧ cs[q].weak = b ∧ wantsC cs r b = 0) := by
  by_cases h0 : r < 0
  · exact .inl ⟨h0, if_pos h0⟩
  · obtain ⟨q, rfl⟩ : ∃ q : Nat, r = (q : Int) := ⟨r.toNat, by omega⟩
    have hq : q < cs.length := by omega
    by_cases hb : cs[q].weak = b
    · refine .inr (.inr ⟨q, hq, rfl, hb, ?_⟩)
      unfold wantsC
      rw [if_neg h0, Int.toNat_natCast, List.getElem?_eq_getElem hq, if_pos (by simpa using hb)]
    · refine .inr (.inl ⟨q, hq, rfl, hb, ?_⟩)
      unfold wantsC
      rw [if_neg h0, Int.toNat_natCast, List.getElem?_eq_getElem hq, if_neg (by simpa using hb)]
theorem PHR.cell {w : World} {b gC : Nat} {cC : CK} {base : Nat} {hs : HSt} (h : PHR w b gC cC base hs) {k j : Nat} (hk : k < hs.1.length) (hj : j < 5) : w.cell? ⟨gC, k * 5 + j, none⟩ = (clCells (toldC hs.1[k]))[j]? := by
  have := PH.cell h (k := k) (j := j) (by simpa using hk) hj
  rw [List.getElem_map] at this
  exact this
theorem PHR.c0 {w : World} {b gC : Nat} {cC : CK} {base : Nat} {hs : HSt} (h : PHR w b gC cC base hs) : w.cell? ⟨b, 21, none⟩ = some (.slice (some ⟨gC, 0, none⟩) hs.1.length cC.cap) := by
  have := PH.c0 h
  rw [List.length_map] at this
  exact this
def findV (gC : Nat) (r q : Int) : Value := if q = 0 then .pointer (some ⟨gC, r.toNat * 5, none⟩) else .pointer none
theorem pfind_any (b gC : Nat) (cC : CK) (base : Nat) (hs : HSt) (r : Int) (wk : Bool) (w : World) (h : PHR w b gC cC base hs) (hr : r < (hs.1.length : Int)) :
    Calls Tryz.prog 139 #[.pointer (some ⟨b, 21, none⟩), .int .i64 r, .bool wk] w fun e w' => e = .returned (.tuple #[findV gC r (wantsC hs.1 r wk), .int .i64 (wantsC hs.1 r wk)]) ∧ w' = w := by
  have h0 := h.c0
  rcases wantsC_cases hs.1 r wk hr with ⟨hn, hw⟩ | ⟨q, hq, rfl, hne, hw⟩ | ⟨q, hq, rfl, he, hw⟩
  · rw [hw]
    clear h hw
    go_enter Tryz.func139, Tryz.ntmps139
    go_wp2_with fail
    exact bodyPost_ret (v := .tuple #[.pointer none, .int .i64 2]) (by simp [results, Tryz.results139, go_sem]) rfl ⟨rfl, rfl⟩
  · rw [hw]
    have k1 := h.cell hq (j := 1) (by omega)
    simp only [toldC, clCells, List.getElem?_cons_zero, List.getElem?_cons_succ] at k1
    generalize hs.1[q].weak = u at *
    have hu : u = !wk := by revert hne; cases u <;> cases wk <;> simp
    rw [hu] at k1
    have d0 : ¬ (q : Int) < 0 := by omega
    have d2 : (0 : Int) ≤ (q : Int) := by omega
    clear h hw hne hu
    cases wk <;>
    (go_enter Tryz.func139, Tryz.ntmps139
     go_wp2_with fail
     exact bodyPost_ret (v := .tuple #[.pointer none, .int .i64 4]) (by simp [results, Tryz.results139, go_sem]) rfl ⟨rfl, rfl⟩)
  · rw [hw]
    have k1 := h.cell hq (j := 1) (by omega)
    simp only [toldC, clCells, List.getElem?_cons_zero, List.getElem?_cons_succ] at k1
    rw [he] at k1
    have d0 : ¬ (q : Int) < 0 := by omega
    have d2 : (0 : Int) ≤ (q : Int) := by omega
    clear h hw he
    go_enter Tryz.func139, Tryz.ntmps139
    go_wp2_with fail
    exact bodyPost_ret (v := .tuple #[.pointer (some ⟨gC, q * 5, none⟩), .int .i64 0]) (by simp [results, Tryz.results139, go_sem]) rfl ⟨rfl, rfl⟩
theorem pget_any (b gC : Nat) (cC : CK) (base : Nat) (hs : HSt) (r : Int) (n : Nat) (w : World) (h : PHR w b gC cC base hs) (hr : r < (hs.1.length : Int)) :
    Calls Tryz.prog 118 #[.pointer (some ⟨b, 21, none⟩), .int .i64 r, .int .i64 (n : Nat)] w fun e w' => e = .returned (.tuple #[.int .i64 (if wantsC hs.1 r false = 0 then (if n = 0 then (cellAt hs.1 r).a else (cellAt hs.1 r).b) else 0), .int .i64 (wantsC hs.1 r false)]) ∧ w' = w := by
  rcases wantsC_cases hs.1 r false hr with ⟨hn, hw⟩ | ⟨q, hq, rfl, hne, hw⟩ | ⟨q, hq, rfl, he, hw⟩
  · clear hn
    have hf := hid (pfind_any b gC cC base hs _ false w h hr)
    rw [hw] at hf
    rw [hw, if_neg (by decide)]
    rw [show findV gC _ (2 : Int) = .pointer none from if_neg (by decide)] at hf
    clear h hw
    go_enter Tryz.func118, Tryz.ntmps118
    go_wp2_with fail
    refine hf.out.mono ?_
    clear hf
    intro x w1 hh1
    obtain ⟨hx, hw⟩ := hh1
    subst x
    subst w1
    go_wp2_with fail
    exact bodyPost_ret (v := .tuple #[.int .i64 0, .int .i64 2]) (by simp [results, Tryz.results118, go_sem]) rfl ⟨rfl, rfl⟩
  · clear hne
    have hf := hid (pfind_any b gC cC base hs _ false w h hr)
    rw [hw] at hf
    rw [hw, if_neg (by decide)]
    rw [show findV gC _ (4 : Int) = .pointer none from if_neg (by decide)] at hf
    clear h hw
    go_enter Tryz.func118, Tryz.ntmps118
    go_wp2_with fail
    refine hf.out.mono ?_
    clear hf
    intro x w1 hh1
    obtain ⟨hx, hw⟩ := hh1
    subst x
    subst w1
    go_wp2_with fail
    exact bodyPost_ret (v := .tuple #[.int .i64 0, .int .i64 4]) (by simp [results, Tryz.results118, go_sem]) rfl ⟨rfl, rfl⟩
  · have hf := hid (pfind_any b gC cC base hs _ false w h hr)
    rw [hw] at hf
    rw [hw, if_pos rfl]
    rw [show findV gC (q : Int) (0 : Int) = .pointer (some ⟨gC, q * 5, none⟩) from rfl] at hf
    have k2 := h.cell hq (j := 2) (by omega)
    have k3 := h.cell hq (j := 3) (by omega)
    have k4 := h.cell hq (j := 4) (by omega)
    have hca : cellAt hs.1 (q : Int) = hs.1[q] := by unfold cellAt; rw [Int.toNat_natCast, List.getD_eq_getElem?_getD, List.getElem?_eq_getElem hq]; rfl
    rw [hca]
    clear hca
    simp only [toldC, clCells, List.getElem?_cons_zero, List.getElem?_cons_succ] at k2 k3 k4
    generalize hs.1[q].a = aa at *
    generalize hs.1[q].b = bb at *
    generalize hs.1[q].num = nn at *
    by_cases e0 : n = 0
    · have q0 : ((n : Int) == 0) = true := by simp; omega
      rw [if_pos e0]
      clear h hw he
      go_enter Tryz.func118, Tryz.ntmps118
      go_wp2_with fail
      refine hf.out.mono ?_
      clear hf
      intro x w1 hh1
      obtain ⟨hx, hw⟩ := hh1
      subst x
      subst w1
      go_wp2_with fail
      exact bodyPost_ret (v := .tuple #[.int .i64 aa, .int .i64 0]) (by simp [results, Tryz.results118, go_sem]) rfl ⟨rfl, rfl⟩
    · have q0 : ((n : Int) == 0) = false := by simp; omega
      rw [if_neg e0]
      clear h hw he
      go_enter Tryz.func118, Tryz.ntmps118
      go_wp2_with fail
      refine hf.out.mono ?_
      clear hf
      intro x w1 hh1
      obtain ⟨hx, hw⟩ := hh1
      subst x
      subst w1
      go_wp2_with fail
      exact bodyPost_ret (v := .tuple #[.int .i64 bb, .int .i64 0]) (by simp [results, Tryz.results118, go_sem]) rfl ⟨rfl, rfl⟩
theorem pnumber_any (b gC : Nat) (cC : CK) (base : Nat) (hs : HSt) (r : Int) (w : World) (h : PHR w b gC cC base hs) (hr : r < (hs.1.length : Int)) :
    Calls Tryz.prog 119 #[.pointer (some ⟨b, 21, none⟩), .int .i64 r] w fun e w' => e = .returned (.tuple #[.int .i64 (if wantsC hs.1 r false = 0 then ((cellAt hs.1 r).num) else 0), .int .i64 (wantsC hs.1 r false)]) ∧ w' = w := by
  rcases wantsC_cases hs.1 r false hr with ⟨hn, hw⟩ | ⟨q, hq, rfl, hne, hw⟩ | ⟨q, hq, rfl, he, hw⟩
  · clear hn
    have hf := hid (pfind_any b gC cC base hs _ false w h hr)
    rw [hw] at hf
    rw [hw, if_neg (by decide)]
    rw [show findV gC _ (2 : Int) = .pointer none from if_neg (by decide)] at hf
    clear h hw
    go_enter Tryz.func119, Tryz.ntmps119
    go_wp2_with fail
    refine hf.out.mono ?_
    clear hf
    intro x w1 hh1
    obtain ⟨hx, hw⟩ := hh1
    subst x
    subst w1
    go_wp2_with fail
    exact bodyPost_ret (v := .tuple #[.int .i64 0, .int .i64 2]) (by simp [results, Tryz.results119, go_sem]) rfl ⟨rfl, rfl⟩
  · clear hne
    have hf := hid (pfind_any b gC cC base hs _ false w h hr)
    rw [hw] at hf
    rw [hw, if_neg (by decide)]
    rw [show findV gC _ (4 : Int) = .pointer none from if_neg (by decide)] at hf
    clear h hw
    go_enter Tryz.func119, Tryz.ntmps119
    go_wp2_with fail
    refine hf.out.mono ?_
    clear hf
    intro x w1 hh1
    obtain ⟨hx, hw⟩ := hh1
    subst x
    subst w1
    go_wp2_with fail
    exact bodyPost_ret (v := .tuple #[.int .i64 0, .int .i64 4]) (by simp [results, Tryz.results119, go_sem]) rfl ⟨rfl, rfl⟩
  · have hf := hid (pfind_any b gC cC base hs _ false w h hr)
    rw [hw] at hf
    rw [hw, if_pos rfl]
    rw [show findV gC (q : Int) (0 : Int) = .pointer (some ⟨gC, q * 5, none⟩) from rfl] at hf
    have k2 := h.cell hq (j := 2) (by omega)
    have k3 := h.cell hq (j := 3) (by omega)
    have k4 := h.cell hq (j := 4) (by omega)
    have hca : cellAt hs.1 (q : Int) = hs.1[q] := by unfold cellAt; rw [Int.toNat_natCast, List.getD_eq_getElem?_getD, List.getElem?_eq_getElem hq]; rfl
    rw [hca]
    clear hca
    simp only [toldC, clCells, List.getElem?_cons_zero, List.getElem?_cons_succ] at k2 k3 k4
    generalize hs.1[q].a = aa at *
    generalize hs.1[q].b = bb at *
    generalize hs.1[q].num = nn at *
    clear h hw he
    go_enter Tryz.func119, Tryz.ntmps119
    go_wp2_with fail
    refine hf.out.mono ?_
    clear hf
    intro x w1 hh1
    obtain ⟨hx, hw⟩ := hh1
    subst x
    subst w1
    go_wp2_with fail
    exact bodyPost_ret (v := .tuple #[.int .i64 nn, .int .i64 0]) (by simp [results, Tryz.results119, go_sem]) rfl ⟨rfl, rfl⟩
theorem ppeek_any (b gC : Nat) (cC : CK) (base : Nat) (hs : HSt) (r : Int) (w : World) (h : PHR w b gC cC base hs) (hr : r < (hs.1.length : Int)) :
    Calls Tryz.prog 120 #[.pointer (some ⟨b, 21, none⟩), .int .i64 r] w fun e w' => e = .returned (.tuple #[.int .i64 (if wantsC hs.1 r true = 0 then ((cellAt hs.1 r).a) else 0), .int .i64 (wantsC hs.1 r true)]) ∧ w' = w := by
  rcases wantsC_cases hs.1 r true hr with ⟨hn, hw⟩ | ⟨q, hq, rfl, hne, hw⟩ | ⟨q, hq, rfl, he, hw⟩
  · clear hn
    have hf := hid (pfind_any b gC cC base hs _ true w h hr)
    rw [hw] at hf
    rw [hw, if_neg (by decide)]
    rw [show findV gC _ (2 : Int) = .pointer none from if_neg (by decide)] at hf
    clear h hw
    go_enter Tryz.func120, Tryz.ntmps120
    go_wp2_with fail
    refine hf.out.mono ?_
    clear hf
    intro x w1 hh1
    obtain ⟨hx, hw⟩ := hh1
    subst x
    subst w1
    go_wp2_with fail
    exact bodyPost_ret (v := .tuple #[.int .i64 0, .int .i64 2]) (by simp [results, Tryz.results120, go_sem]) rfl ⟨rfl, rfl⟩
  · clear hne
    have hf := hid (pfind_any b gC cC base hs _ true w h hr)
    rw [hw] at hf
    rw [hw, if_neg (by decide)]
    rw [show findV gC _ (4 : Int) = .pointer none from if_neg (by decide)] at hf
    clear h hw
    go_enter Tryz.func120, Tryz.ntmps120
    go_wp2_with fail
    refine hf.out.mono ?_
    clear hf
    intro x w1 hh1
    obtain ⟨hx, hw⟩ := hh1
    subst x
    subst w1
    go_wp2_with fail
    exact bodyPost_ret (v := .tuple #[.int .i64 0, .int .i64 4]) (by simp [results, Tryz.results120, go_sem]) rfl ⟨rfl, rfl⟩
  · have hf := hid (pfind_any b gC cC base hs _ true w h hr)
    rw [hw] at hf
    rw [hw, if_pos rfl]
    rw [show findV gC (q : Int) (0 : Int) = .pointer (some ⟨gC, q * 5, none⟩) from rfl] at hf
    have k2 := h.cell hq (j := 2) (by omega)
    have k3 := h.cell hq (j := 3) (by omega)
    have k4 := h.cell hq (j := 4) (by omega)
    have hca : cellAt hs.1 (q : Int) = hs.1[q] := by unfold cellAt; rw [Int.toNat_natCast, List.getD_eq_getElem?_getD, List.getElem?_eq_getElem hq]; rfl
    rw [hca]
    clear hca
    simp only [toldC, clCells, List.getElem?_cons_zero, List.getElem?_cons_succ] at k2 k3 k4
    generalize hs.1[q].a = aa at *
    generalize hs.1[q].b = bb at *
    generalize hs.1[q].num = nn at *
    clear h hw he
    go_enter Tryz.func120, Tryz.ntmps120
    go_wp2_with fail
    refine hf.out.mono ?_
    clear hf
    intro x w1 hh1
    obtain ⟨hx, hw⟩ := hh1
    subst x
    subst w1
    go_wp2_with fail
    exact bodyPost_ret (v := .tuple #[.int .i64 aa, .int .i64 0]) (by simp [results, Tryz.results120, go_sem]) rfl ⟨rfl, rfl⟩
def setABL (n : Nat) (v : Int) (c : Cl) : Cl := if n = 0 then { c with a := v } else { c with b := v }
theorem told_setAB (n : Nat) (v : Int) (c : RC) : toldC (setAB n v c) = setABL n v (toldC c) := by
  unfold setAB setABL
  split <;> rfl
theorem modL_comm {T : List Cl} {r q : Nat} {f g : Cl → Cl} (h : ∀ c, f (g c) = g (f c)) : (T.modify r f).modify q g = (T.modify q g).modify r f := by
  apply List.ext_getElem?
  intro j
  simp only [List.getElem?_modify]
  cases T[j]? with
  | none => rfl
  | some c =>
    by_cases h1 : r = j <;> by_cases h2 : q = j <;> simp [h1, h2, h]
theorem shade_set {T : List Cl} {r n : Nat} {v s : Int} : shadeL (T.modify r (setABL n v)) s = (shadeL T s).modify r (setABL n v) := by
  have hh : hasL (T.modify r (setABL n v)) s 1 = hasL T s 1 := by
    unfold hasL
    rw [List.length_modify]
    have : colL (T.modify r (setABL n v)) s.toNat = colL T s.toNat := by
      unfold colL
      congr 1
      rw [List.getElem?_modify]
      cases T[s.toNat]? with
      | none => rfl
      | some c =>
        by_cases e : r = s.toNat
        · simp only [if_pos e, Option.map_eq_map, Option.map_some]
          unfold setABL
          split <;> rfl
        · simp [e]
    rw [this]
  unfold shadeL
  rw [hh]
  split
  · refine modL_comm (fun c => ?_)
    unfold setABL paintL
    split <;> rfl
  · rfl
theorem told_modify {cs : List RC} {r : Nat} {f : RC → RC} {g : Cl → Cl} (h : ∀ c, toldC (f c) = g (toldC c)) : (cs.modify r f).map toldC = (cs.map toldC).modify r g := by
  apply List.ext_getElem?
  intro j
  rw [List.getElem?_map, List.getElem?_modify, List.getElem?_modify, List.getElem?_map]
  cases cs[j]? with
  | none => rfl
  | some c => by_cases e : r = j <;> simp [e, h]
theorem told_store (cs : List RC) (ph r n : Nat) (v : Int) : (storeC cs ph r n v).map toldC = (if ph = 1 then shadeL (cs.map toldC) v else cs.map toldC).modify r (setABL n v) := by
  unfold storeC
  by_cases e : ph = 1
  · rw [if_pos e, if_pos e, reachC_one, ← told_shade, told_modify (told_setAB n v), shade_set]
  · rw [if_neg e, if_neg e, told_modify (told_setAB n v)]
def setPost (hs : HSt) (r : Int) (n : Nat) (s : Int) : HSt := if wantsC hs.1 r false = 0 then (storeC hs.1 hs.2.1 r.toNat n s, hs.2) else hs
theorem PH.setAB {w : World} {b gC : Nat} {cC : CK} {base ph hd q n : Nat} {T : List Cl} {s : Int} (h : PH w b gC cC base T ph hd) (hq : q < T.length) :
    (∃ v, w.cell? ⟨gC, q * 5 + (if n = 0 then 2 else 3), none⟩ = some v) ∧ w.frozen? ⟨gC, q * 5 + (if n = 0 then 2 else 3), none⟩ = false ∧ PH (w.setCell ⟨gC, q * 5 + (if n = 0 then 2 else 3), none⟩ (.int .i64 s)) b gC cC base (T.modify q (setABL n s)) ph hd := by
  rw [modify_setL hq]
  unfold setABL
  by_cases e : n = 0
  · rw [if_pos e, if_pos e]
    exact ⟨⟨_, h.cell hq (j := 2) (by omega)⟩, h.frozen _, h.upd hq (by omega) rfl⟩
  · rw [if_neg e, if_neg e]
    exact ⟨⟨_, h.cell hq (j := 3) (by omega)⟩, h.frozen _, h.upd hq (by omega) rfl⟩
theorem pset_any (b gC : Nat) (cC : CK) (base : Nat) (hs : HSt) (r : Int) (n : Nat) (s : Int) (w : World) (h : PHR w b gC cC base hs) (hr : r < (hs.1.length : Int)) :
    Calls Tryz.prog 121 #[.pointer (some ⟨b, 21, none⟩), .int .i64 r, .int .i64 n, .int .i64 s] w fun e w' => e = .returned (.int .i64 (wantsC hs.1 r false)) ∧ PHR w' b gC cC base (setPost hs r n s) ∧ Only gC w w' := by
  unfold setPost
  have H := hid h
  have hf := hid (pfind_any b gC cC base hs r false w h hr)
  rcases wantsC_cases hs.1 r false hr with ⟨hn, hw⟩ | ⟨q, hq, rfl, hne, hw⟩ | ⟨q, hq, rfl, he, hw⟩
  · rw [hw] at hf
    rw [hw, if_neg (by decide)]
    rw [show findV gC _ (2 : Int) = .pointer none from if_neg (by decide)] at hf
    clear h hw hn
    go_enter Tryz.func121, Tryz.ntmps121
    go_wp2_with fail
    refine hf.out.mono ?_
    clear hf
    intro x w1 hh1
    obtain ⟨hx, hw⟩ := hh1
    subst x
    subst w1
    go_wp2_with fail
    go_ret
    exact ⟨rfl, H.out, Only.refl _ _⟩
  · rw [hw] at hf
    rw [hw, if_neg (by decide)]
    rw [show findV gC _ (4 : Int) = .pointer none from if_neg (by decide)] at hf
    clear h hw hne
    go_enter Tryz.func121, Tryz.ntmps121
    go_wp2_with fail
    refine hf.out.mono ?_
    clear hf
    intro x w1 hh1
    obtain ⟨hx, hw⟩ := hh1
    subst x
    subst w1
    go_wp2_with fail
    go_ret
    exact ⟨rfl, H.out, Only.refl _ _⟩
  · rw [hw] at hf
    rw [hw, if_pos rfl]
    rw [show findV gC (q : Int) (0 : Int) = .pointer (some ⟨gC, q * 5, none⟩) from rfl] at hf
    rw [Int.toNat_natCast]
    have h1 := PH.c1 h
    have hT : q < (hs.1.map toldC).length := by simpa using hq
    have HE := hid (told_store hs.1 hs.2.1 q n s)
    by_cases e1 : hs.2.1 = 1
    · have q1 : ((hs.2.1 : Int) == 1) = true := by simp; omega
      rw [if_pos e1] at HE
      have hsh := hid (shade_any b gC cC base _ _ _ s w h)
      have hT2 : q < (shadeL (hs.1.map toldC) s).length := by rw [shadeL_len]; exact hT
      by_cases en : n = 0
      · have qn : ((n : Int) == 0) = true := by simp; omega
        have SET := hid (fun (W : World) (hW : PH W b gC cC base (shadeL (hs.1.map toldC) s) hs.2.1 hs.2.2) => PH.setAB (n := n) (s := s) hW hT2)
        rw [if_pos en] at SET
        clear h hw he e1 en
        go_enter Tryz.func121, Tryz.ntmps121
        go_wp2_with fail
        refine hf.out.mono ?_
        clear hf
        intro x w1 hh1
        obtain ⟨hx, hw⟩ := hh1
        subst x
        subst w1
        go_wp2_with fail
        refine hsh.out.mono ?_
        clear hsh
        intro x w1 hh1
        obtain ⟨hx, hH, hO⟩ := hh1
        subst x
        obtain ⟨⟨v, a1⟩, a2, a3⟩ := SET.out w1 hH
        have A3 := hid a3
        have HO := hid hO
        clear hH hO a3 SET
        go_wp2_with fail
        go_ret
        exact ⟨rfl, PHR.of A3.out HE.out.symm, HO.out.set _ _⟩
      · have qn : ((n : Int) == 0) = false := by simp; omega
        have SET := hid (fun (W : World) (hW : PH W b gC cC base (shadeL (hs.1.map toldC) s) hs.2.1 hs.2.2) => PH.setAB (n := n) (s := s) hW hT2)
        rw [if_neg en] at SET
        clear h hw he e1 en
        go_enter Tryz.func121, Tryz.ntmps121
        go_wp2_with fail
        refine hf.out.mono ?_
        clear hf
        intro x w1 hh1
        obtain ⟨hx, hw⟩ := hh1
        subst x
        subst w1
        go_wp2_with fail
        refine hsh.out.mono ?_
        clear hsh
        intro x w1 hh1
        obtain ⟨hx, hH, hO⟩ := hh1
        subst x
        obtain ⟨⟨v, a1⟩, a2, a3⟩ := SET.out w1 hH
        have A3 := hid a3
        have HO := hid hO
        clear hH hO a3 SET
        go_wp2_with fail
        go_ret
        exact ⟨rfl, PHR.of A3.out HE.out.symm, HO.out.set _ _⟩
    · have q1 : ((hs.2.1 : Int) == 1) = false := by simp; omega
      rw [if_neg e1] at HE
      obtain ⟨⟨v, a1⟩, a2, a3⟩ := PH.setAB (n := n) (s := s) h hT
      by_cases en : n = 0
      · have qn : ((n : Int) == 0) = true := by simp; omega
        rw [if_pos en] at a1 a2 a3
        have A3 := hid a3
        clear h hw he e1 en a3
        go_enter Tryz.func121, Tryz.ntmps121
        go_wp2_with fail
        refine hf.out.mono ?_
        clear hf
        intro x w1 hh1
        obtain ⟨hx, hw⟩ := hh1
        subst x
        subst w1
        go_wp2_with fail
        go_ret
        exact ⟨rfl, PHR.of A3.out HE.out.symm, (Only.refl _ _).set _ _⟩
      · have qn : ((n : Int) == 0) = false := by simp; omega
        rw [if_neg en] at a1 a2 a3
        have A3 := hid a3
        clear h hw he e1 en a3
        go_enter Tryz.func121, Tryz.ntmps121
        go_wp2_with fail
        refine hf.out.mono ?_
        clear hf
        intro x w1 hh1
        obtain ⟨hx, hw⟩ := hh1
        subst x
        subst w1
        go_wp2_with fail
        go_ret
        exact ⟨rfl, PHR.of A3.out HE.out.symm, (Only.refl _ _).set _ _⟩
def notePost (hs : HSt) (r : Int) (v : Int) : HSt := if wantsC hs.1 r false = 0 then (hs.1.modify r.toNat (noteS v), hs.2) else hs
def noteL (v : Int) (c : Cl) : Cl := { c with num := v }
theorem pnote_any (b gC : Nat) (cC : CK) (base : Nat) (hs : HSt) (r : Int) (s : Int) (w : World) (h : PHR w b gC cC base hs) (hr : r < (hs.1.length : Int)) :
    Calls Tryz.prog 122 #[.pointer (some ⟨b, 21, none⟩), .int .i64 r, .int .i64 s] w fun e w' => e = .returned (.int .i64 (wantsC hs.1 r false)) ∧ PHR w' b gC cC base (notePost hs r s) ∧ Only gC w w' := by
  unfold notePost
  have H := hid h
  have hf := hid (pfind_any b gC cC base hs r false w h hr)
  rcases wantsC_cases hs.1 r false hr with ⟨hn, hw⟩ | ⟨q, hq, rfl, hne, hw⟩ | ⟨q, hq, rfl, he, hw⟩
  · rw [hw] at hf
    rw [hw, if_neg (by decide)]
    rw [show findV gC _ (2 : Int) = .pointer none from if_neg (by decide)] at hf
    clear h hw hn
    go_enter Tryz.func122, Tryz.ntmps122
    go_wp2_with fail
    refine hf.out.mono ?_
    clear hf
    intro x w1 hh1
    obtain ⟨hx, hw⟩ := hh1
    subst x
    subst w1
    go_wp2_with fail
    go_ret
    exact ⟨rfl, H.out, Only.refl _ _⟩
  · rw [hw] at hf
    rw [hw, if_neg (by decide)]
    rw [show findV gC _ (4 : Int) = .pointer none from if_neg (by decide)] at hf
    clear h hw hne
    go_enter Tryz.func122, Tryz.ntmps122
    go_wp2_with fail
    refine hf.out.mono ?_
    clear hf
    intro x w1 hh1
    obtain ⟨hx, hw⟩ := hh1
    subst x
    subst w1
    go_wp2_with fail
    go_ret
    exact ⟨rfl, H.out, Only.refl _ _⟩
  · rw [hw] at hf
    rw [hw, if_pos rfl]
    rw [show findV gC (q : Int) (0 : Int) = .pointer (some ⟨gC, q * 5, none⟩) from rfl] at hf
    rw [Int.toNat_natCast]
    have hT : q < (hs.1.map toldC).length := by simpa using hq
    have k4 := h.cell hq (j := 4) (by omega)
    have f4 := PH.frozen h (q * 5 + 4)
    simp only [toldC, clCells, List.getElem?_cons_zero, List.getElem?_cons_succ] at k4
    have HE : Hid ((hs.1.modify q (noteS s)).map toldC = (hs.1.map toldC).modify q (noteL s)) := hid (told_modify (fun _ => rfl))
    have hu := PH.upd h (k := q) (j := 4) (c := noteL s (hs.1.map toldC)[q]) (v := .int .i64 s) hT (by omega) rfl
    rw [← modify_setL hT] at hu
    have HU := hid hu
    clear h hw he hu
    go_enter Tryz.func122, Tryz.ntmps122
    go_wp2_with fail
    refine hf.out.mono ?_
    clear hf
    intro x w1 hh1
    obtain ⟨hx, hw⟩ := hh1
    subst x
    subst w1
    go_wp2_with fail
    go_ret
    exact ⟨rfl, PHR.of HU.out HE.out.symm, (Only.refl _ _).set _ _⟩
def PK.ck (K : PK) (vI vO : Value) (lo4 st8 : List Int) (s : MS) : CK := ⟨K.cC, (K.row vI vO lo4 st8 s).toArray, 74⟩
theorem row_hs {K : PK} {vI vO : Value} {lo4 st8 : List Int} {s : MS} (h4 : lo4.length = 4) (h8 : st8.length = 8) (h : HSt) (hl : h.1.length = s.hs.1.length) : (((K.row vI vO lo4 st8 s).toArray.setIfInBounds 22 (.int .i64 h.2.1)).setIfInBounds 23 (.int .i64 h.2.2)) = (K.row vI vO lo4 st8 { s with hs := h }).toArray := by
  obtain ⟨x0, x1, x2, x3, rfl⟩ := fourZ h4
  obtain ⟨t0, t1, t2, t3, t4, t5, t6, t7, rfl⟩ := eightZ h8
  simp only [PK.row, List.map_cons, List.map_nil, List.cons_append, List.nil_append, List.setIfInBounds_toArray, List.set_cons_zero, List.set_cons_succ, hl]
theorem PM.phr {w : World} {K : PK} {vI vO : Value} {lo4 st8 : List Int} {s : MS} (h : PM w K vI vO lo4 st8 s) : PHR w K.b K.gC (K.ck vI vO lo4 st8 s) K.A s.hs := by
  have m21 := h.get 21
  have m22 := h.get 22
  have m23 := h.get 23
  have e := row_hs (K := K) (vI := vI) (vO := vO) h.l4 h.l8 (s := s) s.hs rfl
  have f22 := frozen_of_row w K.b 22 _ _ h.row
  have f23 := frozen_of_row w K.b 23 _ _ h.row
  have hrow := h.row
  have hc := h.cells
  have hne := h.ne3
  obtain ⟨x0, x1, x2, x3, rfl⟩ := fourZ h.l4
  obtain ⟨t0, t1, t2, t3, t4, t5, t6, t7, rfl⟩ := eightZ h.l8
  simp only [PK.row, List.map_cons, List.map_nil, List.cons_append, List.nil_append, List.getElem?_cons_zero, List.getElem?_cons_succ] at m21 m22 m23
  refine ⟨?_, m22, m23, f22, f23, ?_, hne, ?_⟩
  · rw [List.length_map]; exact m21
  · rw [List.length_map]; exact hc
  · show w.heap[K.b]? = _
    rw [hrow]
    unfold PK.ck
    simp only
    rw [e]
theorem PM.of_phr {w w' : World} {K : PK} {vI vO : Value} {lo4 st8 : List Int} {s : MS} (h : PM w K vI vO lo4 st8 s) {h' : HSt} (hp : PHR w' K.b K.gC (K.ck vI vO lo4 st8 s) K.A h') (hl : h'.1.length = s.hs.1.length) (ht : Two K.b K.gC w w') : PM w' K vI vO lo4 st8 { s with hs := h' } := by
  have z := h.z
  have b1 := h.b1
  have b2 := h.b2
  have c1 := h.c1
  have c2 := h.c2
  have hin : ∀ k, k < K.B4 → k ≠ K.b → k ≠ K.gC → w'.heap[k]? = w.heap[k]? := fun k hk h1 h2 => ht.block k (by omega) h1 h2
  have hrow : w'.heap[K.b]? = some (.cells (K.row vI vO lo4 st8 { s with hs := h' }).toArray 74) := by
    have := hp.blk
    unfold PK.ck at this
    simp only at this
    rw [row_hs h.l4 h.l8 h' hl] at this
    exact this
  have hcells := hp.row
  rw [List.length_map] at hcells
  exact { h with
    row := hrow
    z := by have := ht.size; omega
    code := h.code.same (hin _ h.g2 (fun e => h.ne1 e.symm) (fun e => h.ne4 e.symm))
    frames := (hin _ h.f2 (fun e => h.ne2 e.symm) (fun e => h.ne5 e.symm)).trans h.frames
    cells := hcells
    inp := h.inp.same (fun a n c e => hin _ (h.inb a n c e).2.1 (h.inb a n c e).2.2.1 (h.inb a n c e).2.2.2.1)
    out := owns_keep h.out (fun g hg => ht.block g (h.out.lt g hg).2 (by have := (h.out.lt g hg).1; omega) (by have := (h.out.lt g hg).1; omega)) }
/-- What Collect answers. -/
def PCollPost (K : PK) (F : Nat → Prop) (s' : MS) (w : World) (e : Ending) (w' : World) : Prop :=
  e = .returned (.tuple #[.int .i64 s'.hs.2.1, .int .i64 0]) ∧ PX w' K F s' ∧ Touch F w w'
theorem unitsFit_any (u : Int) (w : World) : Calls Tryz.prog 44 #[.int .i64 u] w fun e w' => e = .returned (.bool (decide (0 ≤ u) && decide (u ≤ 1000))) ∧ w' = w := by
  by_cases h0 : 0 ≤ u
  · by_cases h1 : u ≤ 1000
    · rw [decide_eq_true h0, decide_eq_true h1]
      go_enter Tryz.func44, Tryz.ntmps44
      go_wp2_with fail
      go_ret
      exact ⟨rfl, rfl⟩
    · rw [decide_eq_true h0, decide_eq_false h1]
      go_enter Tryz.func44, Tryz.ntmps44
      go_wp2_with fail
      go_ret
      exact ⟨rfl, rfl⟩
  · rw [decide_eq_false h0]
    go_enter Tryz.func44, Tryz.ntmps44
    go_wp2_with fail
    go_ret
    exact ⟨rfl, rfl⟩
theorem pcollect_bad (b : Nat) (u : Int) (w : World) (hu : u < 0 ∨ 1000 < u) : Calls Tryz.prog 35 #[.pointer (some ⟨b, 0, none⟩), .int .i64 u] w fun e w' => e = .returned (.tuple #[.int .i64 0, .int .i64 8]) ∧ w' = w := by
  have hf := hid (unitsFit_any u w)
  have e : (decide (0 ≤ u) && decide (u ≤ 1000)) = false := by
    rcases hu with h | h
    · rw [decide_eq_false (by omega)]; rfl
    · rw [decide_eq_false (p := u ≤ 1000) (by omega)]; simp
  rw [e] at hf
  clear hu e
  go_enter Tryz.func35, Tryz.ntmps35
  go_wp2_with fail
  refine hf.out.mono ?_
  clear hf
  intro x w1 hh
  obtain ⟨hx, hw⟩ := hh
  subst x
  subst w1
  go_wp2_with fail
  exact bodyPost_ret (v := .tuple #[.int .i64 0, .int .i64 8]) (by simp [results, Tryz.results35, go_sem]) rfl ⟨rfl, rfl⟩
theorem pcollect_hs (b gC : Nat) (cC : CK) (base N : Nat) (hs : HSt) (rs : List Int) (n : Nat) (w : World) (hn : n ≤ 1000) (h : PHR w b gC cC base hs) (hk : HOk N hs) (hrl : rs.length ≤ 1000)
    (hR : Calls Tryz.prog 57 #[.pointer (some ⟨b, 0, none⟩)] w (RootsPost rs w)) :
    Calls Tryz.prog 35 #[.pointer (some ⟨b, 0, none⟩), .int .i64 n] w fun e w' => e = .returned (.tuple #[.int .i64 (unitsC rs n hs).2.1, .int .i64 0]) ∧ PHR w' b gC cC base (unitsC rs n hs) ∧ Two b gC w w' := by
  have hf := hid (unitsFit_any n w)
  rw [show (decide ((0 : Int) ≤ (n : Int)) && decide ((n : Int) ≤ 1000)) = true by simp; omega] at hf
  have hbz := World.block_lt_of_cell? w _ h.c0
  have hgz := (h.row.lt gC rfl).2
  simp only at hbz
  have H := hid h
  have HK := hid hk
  have HR := hid hR
  clear h hk hR
  go_enter Tryz.func35, Tryz.ntmps35
  go_wp2_with fail
  refine hf.out.mono ?_
  clear hf
  intro x w1 hh
  obtain ⟨hx, hw⟩ := hh
  subst x
  subst w1
  go_wp2_with fail
  refine HR.out.mono ?_
  clear HR
  intro x w1 hh
  obtain ⟨hb1, v, hx, ho⟩ := hh
  subst x
  have hrf := refs_of ho hgz
  obtain ⟨p0, c0, e0⟩ := hrf.1.slice
  have hvb : ∀ a n c, v = .slice (some a) n c → a.block ≠ b := fun a n c e => by have := hrf.2 a n c e; omega
  have HV := hid hrf.1
  have HVB := hid hvb
  have HP1 := hid (PH.below H.out hb1)
  have HB1 := hid hb1
  subst e0
  clear hb1 ho hrf hvb
  go_wp2_with fail
  go_loopg [7] n (fun g x w' => ∃ k : Nat, k ≤ n ∧ g = n - k ∧ x = .int .i64 k ∧ PHR w' b gC cC base (unitsC rs k hs) ∧ Two b gC w1 w')
  case atStart => exact ⟨0, by omega, by omega, rfl, HP1.out, Two.refl _ _ _⟩
  case round =>
    obtain ⟨k, hk, hg, rfl, hh, ht⟩ := hrel
    have HT := hid ht
    have HH := hid hh
    rcases Nat.lt_or_ge k n with hlt | hge
    · have d1 : (k : Int) < (n : Int) := by omega
      have hun := hid (punit_t b gC cC base N _ rs _ wr hh (HK.out.units rs k) hrl (HV.out.two HVB.out ht))
      clear hh ht
      go_wp2_with fail
      refine hun.out.mono ?_
      clear hun
      intro x w2 hh1
      obtain ⟨hx, hH, hO⟩ := hh1
      subst x
      have HH2 := hid hH
      have HO := hid hO
      clear hH hO
      go_wp2_with fail
      go_roundg (n - (k + 1))
      case measure => omega
      case rel => exact ⟨k + 1, by omega, rfl, by go_num, HH2.out, HT.out.trans HO.out⟩
    · have d1 : ¬ (k : Int) < (n : Int) := by omega
      have hkn : k = n := by omega
      subst hkn
      have hph := hid (pphase_any b 21 _ wr hh.c1)
      clear hh ht
      go_wp2_with fail
      refine hph.out.mono ?_
      clear hph
      intro x w2 hh1
      obtain ⟨hx, hw⟩ := hh1
      subst x
      subst w2
      go_wp2_with fail
      exact bodyPost_ret (v := .tuple #[.int .i64 (unitsC rs k hs).2.1, .int .i64 0]) (by simp [results, Tryz.results35, go_sem]) rfl ⟨rfl, HH.out, (Two.of_below HB1.out).trans HT.out⟩
theorem pcollect_x {w : World} {K : PK} {E : Env} {F : Nat → Prop} {s : MS} (h : PX w K F s) (hke : KE K E) (he : EnvOk E) (hi : MInv E s) (n : Nat) (hn : n ≤ 1000) :
    Calls Tryz.prog 35 #[.pointer (some ⟨K.b, 0, none⟩), .int .i64 n] w (PCollPost K F (collS E n s) w) := by
  obtain ⟨vI, vO, lo4, st8, hm, hF⟩ := h
  refine (pcollect_hs K.b K.gC _ K.A E.n s.hs (rootsS E s) n w hn hm.phr hi.hh (hi.rootsLen he) (proots_m hm hke he hi)).mono ?_
  rintro e w' ⟨h1, h2, h3⟩
  refine ⟨h1, ⟨vI, vO, lo4, st8, hm.of_phr h2 (unitsC_len _ _ _) h3, hF⟩, Touch.two h3 (hF _ (.inl ⟨hm.b1, hm.b2⟩)) (hF _ (.inl ⟨hm.c1, hm.c2⟩))⟩
end Go.Proofs.YtdmdpindonghdaaGreatDoor
