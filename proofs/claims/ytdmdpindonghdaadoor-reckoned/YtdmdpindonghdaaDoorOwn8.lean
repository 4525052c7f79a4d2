/- tintkeep.Reckoned is true of all raw bytes, lists of inputs, numbers of cells and lists of units: a Run of straight code on numbers, built out of raw bytes, lets out and halts with what is reckoned there; conditions: the two listed variables hold what the program's text lays in them. -/
import Derived.Test.YtdmdpindonghdaaDoorRows
import Derived.Test.YtdmdpindonghdaaDoorTie
import Derived.Test.YtdmdpindonghdaaDoorCards
import Derived.Test.YtdmdpindonghdaaDoorOwn7
import Derived.WalkKit
import Derived.WalkSmall
import Derived.Deep.AppendLies
import Derived.Deep.DeepMust
import Derived.Deep.LoopGhost
import Derived.WalkSpells
import Derived.WalkLawsBesides
import Derived.BigRegion
import Derived.Deep.QuietTactic
import Derived.BigQuiet
import Derived.Deep.RegionHeld3
import Derived.OwnWalk
import Derived.Laws.StructEq
import Derived.Deep.RegionLaw
import Derived.Deep.DeepCutAuto
import Derived.Laws.MakeOwn
import Derived.Laws.IdiomCopy
import Derived.Laws.BytesArg
import Derived.ProofKit
import Derived.OpenShut
import Derived.Lay
import Derived.SevenTiedAt
import Derived.Stop.Joined
import Derived.Carry
import Derived.Deep.SlicePairs
namespace Go.Proofs.YtdmdpindonghdaaDoor
open Go.RowKit
/-- From cells to cells, by units: what is not to be freed was there, as it is. -/
def UK (T : List Cl) (ph hd : Nat) (T' : List Cl) (ph' hd' : Nat) : Prop := ∀ (k : Nat) (c' : Cl), T'[k]? = some c' → Alive T' ph' hd' k → Alive T ph hd k ∧ ∃ c, T[k]? = some c ∧ c'.weak = c.weak ∧ (c'.a = c.a ∨ c'.a = -1) ∧ (c'.b = c.b ∨ c'.b = -1)
theorem UK.refl (T : List Cl) (ph hd : Nat) : UK T ph hd T ph hd := fun _ c' h1 h2 => ⟨h2, c', h1, rfl, .inl rfl, .inl rfl⟩
theorem UK.trans {T T' T'' : List Cl} {ph ph' ph'' hd hd' hd'' : Nat} (h : UK T ph hd T' ph' hd') (h' : UK T' ph' hd' T'' ph'' hd'') : UK T ph hd T'' ph'' hd'' := by
  intro k c'' h1 h2
  obtain ⟨a1, c', b1, b2, b3, b4⟩ := h' k c'' h1 h2
  obtain ⟨a2, c, d1, d2, d3, d4⟩ := h k c' b1 a1
  refine ⟨a2, c, d1, b2.trans d2, ?_, ?_⟩
  · rcases b3 with e | e
    · rw [e]; exact d3
    · exact .inr e
  · rcases b4 with e | e
    · rw [e]; exact d4
    · exact .inr e
theorem UK.paint {T T' : List Cl} {ph ph' hd hd' : Nat} (h : Paint T T') (h2 : ph ≠ 2) (hc : ∀ k, colL T k = 0 → colL T' k = 0) : UK T ph hd T' ph' hd' := by
  intro k c' h1 ha
  obtain ⟨c, e1, e2⟩ := h.get k c' h1
  refine ⟨⟨fun e => ha.1 (hc k e), fun e => h2 e.1⟩, c, e1, ?_, ?_, ?_⟩
  · rw [e2]
  · rw [e2]; exact .inl rfl
  · rw [e2]; exact .inl rfl
theorem shades_zero (T : List Cl) (rs : List Int) (k : Nat) (h : colL T k = 0) : colL (shadesL T rs) k = 0 := by
  rw [shades_colL, if_neg (fun e => by omega)]
  exact h
theorem black_zero {T : List Cl} {g : Nat} {c : Cl} (hg : T[g]? = some c) (h2 : c.col = 2) (k : Nat) (h : colL T k = 0) : colL (blackL T g) k = 0 := by
  have hlt := (List.getElem?_eq_some_iff.1 hg).1
  have hne : k ≠ g := fun e => by rw [e, colL_some hg] at h; omega
  unfold blackL
  have hs : ∀ (U : List Cl) (r : Int), colL U k = 0 → colL (shadeL U r) k = 0 := fun U r hU => by
    rw [shade_colL, if_neg (fun e => by omega)]; exact hU
  split
  · rw [colL_paint _ _ _ _ hlt, if_neg hne]; exact h
  · rw [colL_paint _ _ _ _ (by rw [shadeL_len, shadeL_len]; exact hlt), if_neg hne]
    exact hs _ _ (hs _ _ h)
theorem UK.forget (T : List Cl) (hd : Nat) : UK T 1 hd (forgetL T) 2 0 := by
  intro k c' h1 ha
  obtain ⟨c, e1, rfl⟩ := forget_get h1
  obtain ⟨_, q2, q3, _, q5, _⟩ := fgL_all T c
  refine ⟨⟨?_, by omega⟩, c, e1, q2, q5, .inl q3⟩
  have := ha.1
  rw [forget_colL] at this
  exact this
theorem UK.sweep {T : List Cl} {hd ph' hd' : Nat} (hh : hd < T.length) (hph : (ph' = 2 ∧ hd' = hd + 1) ∨ (ph' = 0 ∧ hd' = 0 ∧ hd + 1 = T.length)) (hng : ∀ c ∈ T, c.col ≤ 3 ∧ c.col ≠ 2) : UK T 2 hd (sweepL T hd) ph' hd' := by
  intro k c' h1 ha
  have ha1 := ha.1
  have ha2 := ha.2
  rw [sweep_colL hh] at ha1 ha2
  rw [sweep_get hh] at h1
  obtain ⟨g1, g2⟩ := hng T[hd] (List.getElem_mem hh)
  by_cases e : k = hd
  · subst e
    rw [if_pos rfl] at h1 ha1
    by_cases c1 : T[k].col = 1
    · rw [if_pos c1] at ha1; exact absurd rfl ha1
    rw [if_neg c1] at h1 ha1
    by_cases c3 : T[k].col = 3
    · rw [if_pos c3] at h1
      cases h1
      refine ⟨⟨?_, ?_⟩, T[k], List.getElem?_eq_getElem hh, rfl, .inl rfl, .inl rfl⟩
      · rw [colL_some (List.getElem?_eq_getElem hh)]; omega
      · rw [colL_some (List.getElem?_eq_getElem hh)]; omega
    · rw [if_neg c3] at ha1
      omega
  · rw [if_neg e] at h1 ha1 ha2
    refine ⟨⟨ha1, ?_⟩, c', h1, rfl, .inl rfl, .inl rfl⟩
    rintro ⟨_, q2, q3⟩
    have hk := (List.getElem?_eq_some_iff.1 h1).1
    rcases hph with ⟨p1, p2⟩ | ⟨p1, p2, p3⟩
    · exact ha2 ⟨p1, by omega, q3⟩
    · omega
theorem GInv.uk {T : List Cl} {ph hd : Nat} {rs : List Int} (h : GInv T ph hd rs) (h2 : ph ≤ 2) (hh : ph = 2 → hd < T.length) : UK T ph hd (unitL T ph hd rs).1 (unitL T ph hd rs).2.1 (unitL T ph hd rs).2.2 := by
  unfold unitL
  by_cases e0 : ph = 0
  · rw [if_pos e0]
    exact UK.paint (shades_paint rs T) (by omega) (fun k => shades_zero T rs k)
  rw [if_neg e0]
  by_cases e2 : ph = 2
  · rw [if_pos e2]
    subst e2
    have hlt := hh rfl
    have hng : ∀ c ∈ T, c.col ≤ 3 ∧ c.col ≠ 2 := fun c hc => ⟨h.col3 c hc, h.nogrey rfl c hc⟩
    split
    · exact UK.sweep hlt (.inr ⟨rfl, rfl, by omega⟩) hng
    · exact UK.sweep hlt (.inl ⟨rfl, rfl⟩) hng
  rw [if_neg e2]
  have e1 : ph = 1 := by omega
  subst e1
  by_cases hg : 0 ≤ greyL T
  · rw [if_pos hg]
    obtain ⟨c, hc, hc2⟩ := greyL_pos hg
    exact UK.paint (black_paint T _) (by omega) (fun k => black_zero hc hc2 k)
  rw [if_neg hg]
  have hs : UK T 1 hd (shadesL T rs) 1 hd := UK.paint (shades_paint rs T) (by omega) (fun k => shades_zero T rs k)
  by_cases hg2 : greyL (shadesL T rs) < 0
  · rw [if_pos hg2]
    exact hs.trans (UK.forget _ _)
  · rw [if_neg hg2]
    exact hs
def UKH (h h' : HSt) : Prop := UK (h.1.map toldC) h.2.1 h.2.2 (h'.1.map toldC) h'.2.1 h'.2.2
theorem UKH.refl (h : HSt) : UKH h h := UK.refl _ _ _
theorem UKH.trans {h h' h'' : HSt} (a : UKH h h') (b : UKH h' h'') : UKH h h'' := UK.trans a b
theorem GH.uk {n : Nat} {h : HSt} {rs : List Int} (k : GH n h rs) : UKH h (stepC rs h) := by
  unfold UKH
  have hu := told_unit k.ok.ok k.ok.x rs
  have := k.g.uk k.ok.ok.phz (by simpa using k.ok.ok.hand)
  rw [hu] at this
  exact this
theorem GH.uks {n : Nat} {h : HSt} {rs : List Int} (k : GH n h rs) : ∀ m, UKH h (unitsC rs m h)
  | 0 => UKH.refl _
  | m + 1 => (GH.uks k m).trans (k.units m).uk
theorem GH.ukIdle {n : Nat} {h : HSt} {rs : List Int} (k : GH n h rs) : UKH h (idleC rs h) := by
  have := idleC_ind (rs := rs) (P := fun h' => GH n h' rs ∧ UKH h h') (fun _ q => ⟨q.1.unit, q.2.trans q.1.uk⟩) (⟨k, UKH.refl h⟩ : GH n h rs ∧ UKH h h)
  exact this.2
theorem GH.ukRoom {n : Nat} {h : HSt} {rs : List Int} (k : GH n h rs) : UKH h (roomC rs h) := by
  unfold roomC
  split
  · exact UKH.refl _
  split
  · exact k.ukIdle
  · exact (k.ukIdle.trans k.idle.uk).trans k.idle.unit.ukIdle
/-- A cell's number, of this kind. -/
def KindR (h : HSt) (wk : Bool) (r : Int) : Prop := 0 ≤ r ∧ ∃ c, h.1[r.toNat]? = some c ∧ c.weak = wk
/-- Cells that are not to be freed refer to plain ones. -/
def KI (h : HSt) : Prop := ∀ (k : Nat) (c : RC), h.1[k]? = some c → AliveH h k → ∀ j : Nat, (c.a = (j : Int) ∨ c.b = (j : Int)) → KindR h false j
theorem told_get {h : HSt} {k : Nat} {c' : Cl} (hc : (h.1.map toldC)[k]? = some c') : ∃ c, h.1[k]? = some c ∧ c' = toldC c := by
  rw [List.getElem?_map] at hc
  cases hk : h.1[k]? with
  | none => rw [hk] at hc; cases hc
  | some c => rw [hk] at hc; exact ⟨c, rfl, (Option.some.inj hc).symm⟩
theorem UKH.get {h h' : HSt} (u : UKH h h') {k : Nat} {c' : RC} (hc : h'.1[k]? = some c') (ha : AliveH h' k) : AliveH h k ∧ ∃ c, h.1[k]? = some c ∧ c'.weak = c.weak ∧ (c'.a = c.a ∨ c'.a = -1) ∧ (c'.b = c.b ∨ c'.b = -1) := by
  obtain ⟨a, c, e1, e2, e3, e4⟩ := u k (toldC c') (told_at hc) ha
  obtain ⟨d, f1, f2⟩ := told_get e1
  subst f2
  exact ⟨a, d, f1, e2, e3, e4⟩
theorem UKH.kind {h h' : HSt} (u : UKH h h') {wk : Bool} {r : Int} (hr : KindR h wk r) (hl : h'.1.length = h.1.length) (ha : ∀ k : Nat, r = (k : Int) → AliveH h' k) : KindR h' wk r := by
  obtain ⟨h0, c, hc, hw⟩ := hr
  have hlt := (List.getElem?_eq_some_iff.1 hc).1
  obtain ⟨c', hc'⟩ : ∃ c', h'.1[r.toNat]? = some c' := ⟨_, List.getElem?_eq_getElem (by omega)⟩
  obtain ⟨_, d, f1, f2, _⟩ := u.get hc' (ha r.toNat (by omega))
  rw [hc] at f1
  cases f1
  exact ⟨h0, c', hc', f2.trans hw⟩
theorem KI.uk {h h' : HSt} (q : KI h) (u : UKH h h') (hl : h'.1.length = h.1.length) (g : GInvH h') : KI h' := by
  intro k c' hc ha j hj
  obtain ⟨a, c, e1, _, e3, e4⟩ := u.get hc ha
  refine u.kind (q k c e1 a j ?_) hl (fun i hi => ?_)
  · rcases hj with hj | hj
    · rcases e3 with e | e
      · exact .inl (e ▸ hj)
      · omega
    · rcases e4 with e | e
      · exact .inr (e ▸ hj)
      · omega
  · obtain rfl : j = i := by omega
    exact g.refs hc ha hj
/-- A cell is written that was free, or one whose references are plain. -/
theorem KI.put {h h' : HSt} (q : KI h) {r : Nat} (hsame : ∀ k, k ≠ r → (∀ c', h'.1[k]? = some c' → ∃ c, h.1[k]? = some c ∧ c'.weak = c.weak ∧ c'.a = c.a ∧ c'.b = c.b) ∧ (∀ c, h.1[k]? = some c → ∃ c', h'.1[k]? = some c' ∧ c'.weak = c.weak) ∧ (AliveH h' k → AliveH h k))
    (hr : ∀ c', h'.1[r]? = some c' → ∀ j : Nat, (c'.a = (j : Int) ∨ c'.b = (j : Int)) → KindR h' false j)
    (hn : ∀ k c, h.1[k]? = some c → k ≠ r → AliveH h k → (c.a = (r : Int) ∨ c.b = (r : Int)) → KindR h' false r) : KI h' := by
  intro k c' hc ha j hj
  by_cases e : k = r
  · subst e
    exact hr c' hc j hj
  obtain ⟨h1, _, h3⟩ := hsame k e
  obtain ⟨c, e1, e2, e3, e4⟩ := h1 c' hc
  rw [e3, e4] at hj
  by_cases ej : j = r
  · subst ej
    exact hn k c e1 e (h3 ha) hj
  obtain ⟨_, d, hd, hw⟩ := q k c e1 (h3 ha) j hj
  obtain ⟨d', f1, f2⟩ := (hsame j ej).2.1 d (by simpa using hd)
  exact ⟨by omega, d', by simpa using f1, f2.trans hw⟩
end Go.Proofs.YtdmdpindonghdaaDoor
namespace Go.Proofs.YtdmdpindonghdaaDoor
open Go.RowKit
/-- What is known of a word: (0, 0) nothing; (1, 0) a plain cell or None, (2, 0) a weak one or None; (3, 0) a plain cell, (4, 0) a weak one; (5, 0) None; (6, n) what local n holds; (7, n) 0 just if local n is not None. -/
def resA (lo : List (Nat × Nat)) (v : Nat × Nat) : Nat × Nat := if v.1 = 6 then lo.getD v.2 (0, 0) else if v.1 = 7 then (0, 0) else v
def isPl (v : Nat × Nat) : Bool := v.1 == 1 || v.1 == 3 || v.1 == 5
def isWk (v : Nat × Nat) : Bool := v.1 == 2 || v.1 == 4 || v.1 == 5
def knowA (v : Nat × Nat) : Nat × Nat := if v.1 = 1 then (3, 0) else if v.1 = 2 then (4, 0) else v
def storeA (lo : List (Nat × Nat)) (n : Nat) (v : Nat × Nat) (r : List (Nat × Nat)) : Option (List (Nat × Nat) × List (Nat × Nat)) :=
  if n = 0 then some (lo.set 0 (0, 0), r.map (resA lo))
  else if n = 3 then (if isWk (resA lo v) = true then some (lo.set 3 (2, 0), r.map (resA lo)) else none)
  else if isPl (resA lo v) = true then some (lo.set n (1, 0), r.map (resA lo)) else none
def loadA (lo st : List (Nat × Nat)) (n : Nat) : Option (List (Nat × Nat) × List (Nat × Nat)) :=
  if n < lo.length then (if lo.getD n (0, 0) = (3, 0) then some (lo.set n (1, 0), (3, 0) :: st) else if lo.getD n (0, 0) = (4, 0) then some (lo.set n (2, 0), (4, 0) :: st) else some (lo, (6, n) :: st)) else none
/-- What is known behind an instruction. -/
def opA (lo st : List (Nat × Nat)) (op n : Nat) : Option (List (Nat × Nat) × List (Nat × Nat)) :=
  if op = 1 ∨ op = 21 then some (lo, (0, 0) :: st)
  else if op = 7 then loadA lo st n
  else if op = 12 then some (lo, (5, 0) :: st)
  else if op = 13 then some (lo, (3, 0) :: st)
  else match st with
  | [] => none
  | v :: r =>
    if op = 8 then storeA lo n v r
    else if op = 9 then some (lo, v :: v :: r)
    else if op = 22 then some (lo, r)
    else if op = 20 then (if v.1 = 7 then some (lo.set v.2 (knowA (lo.getD v.2 (0, 0))), r) else none)
    else if op = 23 then (if isPl (resA lo v) = true then some (lo, (4, 0) :: r) else none)
    else if op = 14 then (if v = (3, 0) then some (lo, (1, 0) :: r) else none)
    else if op = 24 then (if v = (4, 0) ∧ n = 0 then some (lo, (1, 0) :: r) else none)
    else if op = 16 then (if v = (3, 0) then some (lo, (0, 0) :: r) else none)
    else match r with
    | [] => none
    | u :: r =>
      if op = 2 then some (lo, (0, 0) :: r)
      else if op = 18 then (if v = (5, 0) ∧ u.1 = 6 then some (lo, (7, u.2) :: r) else some (lo, (0, 0) :: r))
      else if op = 17 then (if u = (3, 0) then some (lo, r) else none)
      else if op = 15 then (if u = (3, 0) ∧ isPl (resA lo v) = true then some (lo, r) else none)
      else none
def runA (A : List (Nat × Nat) × List (Nat × Nat)) : List (Nat × Nat) → Option (List (Nat × Nat) × List (Nat × Nat))
  | [] => some A
  | x :: r => (opA A.1 A.2 x.1 x.2).bind fun B => runA B r
theorem runA_append (a b : List (Nat × Nat)) : ∀ A, runA A (a ++ b) = (runA A a).bind fun B => runA B b := by
  induction a with
  | nil => intro A; rfl
  | cons x r ih =>
    intro A
    simp only [List.cons_append, runA]
    cases opA A.1 A.2 x.1 x.2 with
    | none => rfl
    | some B => exact ih B
def topA : List (Nat × Nat) × List (Nat × Nat) := ([(0, 0), (1, 0), (1, 0), (2, 0)], [])
def iniA : List (Nat × Nat) × List (Nat × Nat) := ([(0, 0), (0, 0), (0, 0), (0, 0)], [])
def kn (n : Nat) : List (Nat × Nat) × List (Nat × Nat) := (topA.1.set n (knowA (topA.1.getD n (0, 0))), [])
def bodyA (c : Nat) (weak : Bool) : Bool := if (bodyC c weak).1 = 0 then decide (runA topA (bodyC c weak).2 = some topA) else decide (runA (kn (bodyC c weak).1) (bodyC c weak).2 = some topA)
theorem bodyA_all : (List.range 256).all (fun c => bodyA c true && bodyA c false) = true := by kernel_rfl
theorem bodyA_ok (c : Nat) (hc : c < 256) (weak : Bool) : bodyA c weak = true := by
  have h := List.all_eq_true.1 bodyA_all c (List.mem_range.2 hc)
  rw [Bool.and_eq_true] at h
  cases weak
  · exact h.2
  · exact h.1
theorem unlA (n : Nat) (h : n = 1 ∨ n = 2 ∨ n = 3) : runA topA [(7, n), (12, 0), (18, 0)] = some (topA.1, [(7, n)]) := by
  rcases h with rfl | rfl | rfl <;> kernel_rfl
theorem brA (n t : Nat) : runA (topA.1, [(7, n)]) [(20, t)] = some (kn n) := by
  simp only [runA, opA]
  rfl
structure BldA (cs : List (Nat × Nat)) : Prop where
  run : runA iniA cs = some topA
  aim : ∀ a t b, cs = a ++ (20, t) :: b → ∃ a' b' m, cs = a' ++ b' ∧ t = csize a' ∧ runA iniA a' = some topA ∧ runA iniA a = some (topA.1, [(7, m)])
theorem BldA.start : BldA proC := by
  refine ⟨by kernel_rfl, ?_⟩
  intro a t b h
  exfalso
  have : (20, t) ∈ proC := by rw [h]; simp
  simp [proC] at this
structure PieceA (at_ : Nat) (cs : List (Nat × Nat)) : Prop where
  run : runA topA cs = some topA
  aim : ∀ a t b, cs = a ++ (20, t) :: b → t = at_ + csize cs ∧ ∃ m, runA topA a = some (topA.1, [(7, m)])
theorem piece_A (c : Nat) (hc : c < 256) (at_ : Nat) (weak : Bool) : PieceA at_ (pieceC c at_ weak) := by
  have h := body_ok c hc weak
  have hA := bodyA_ok c hc weak
  unfold bodyOk at h
  unfold bodyA at hA
  simp only [Bool.and_eq_true, decide_eq_true_eq] at h
  obtain ⟨⟨⟨⟨⟨_, h2⟩, _⟩, _⟩, h5⟩, _⟩ := h
  unfold pieceC
  generalize (bodyC c weak).1 = n at *
  generalize (bodyC c weak).2 = cs at *
  split
  · rename_i hn
    rw [if_pos hn, decide_eq_true_eq] at hA
    exact ⟨hA, fun a t b he => (no_branch h2 he).elim⟩
  · rename_i hn
    rw [if_neg hn, decide_eq_true_eq] at hA
    have hsz : csize (unlC n at_ cs) = 6 + csize cs := by
      unfold unlC
      rw [csize_append]
      have : csize [(7, n), (12, 0), (18, 0), (20, at_ + 6 + csize cs)] = 6 := rfl
      omega
    refine ⟨?_, ?_⟩
    · unfold unlC
      rw [show [(7, n), (12, 0), (18, 0), (20, at_ + 6 + csize cs)] = [(7, n), (12, 0), (18, 0)] ++ [(20, at_ + 6 + csize cs)] from rfl, List.append_assoc, runA_append, unlA n (by omega), Option.bind_some, runA_append, brA, Option.bind_some]
      exact hA
    · intro a t b he
      unfold unlC at he
      match a, he with
      | [], he => simp at he
      | [_], he => simp at he
      | [_, _], he => simp at he
      | [a0, a1, a2], he =>
        simp only [List.cons_append, List.nil_append, List.cons.injEq, Prod.mk.injEq, true_and] at he
        obtain ⟨rfl, rfl, rfl, ht, _⟩ := he
        exact ⟨by rw [hsz]; omega, n, unlA n (by omega)⟩
      | a0 :: a1 :: a2 :: a3 :: ar, he =>
        simp only [List.cons_append, List.nil_append, List.cons.injEq] at he
        exact (no_branch h2 he.2.2.2.2).elim
theorem BldA.more {cs p : List (Nat × Nat)} (h : BldA cs) (hp : PieceA (csize cs) p) : BldA (cs ++ p) := by
  have hrun : runA iniA (cs ++ p) = some topA := by rw [runA_append, h.run]; exact hp.run
  refine ⟨hrun, ?_⟩
  intro a t b he
  rcases List.append_eq_append_iff.1 he with ⟨a', e1, e2⟩ | ⟨c', e1, e2⟩
  · obtain ⟨q1, m, q2⟩ := hp.aim a' t b e2
    refine ⟨cs ++ p, [], m, by simp, by rw [csize_append]; exact q1, hrun, ?_⟩
    rw [e1, runA_append, h.run]
    exact q2
  · match c', e1, e2 with
    | [], e1, e2 =>
      simp only [List.append_nil] at e1
      simp only [List.nil_append] at e2
      obtain ⟨q1, m, q2⟩ := hp.aim [] t b (by simpa using e2.symm)
      refine ⟨cs ++ p, [], m, by simp, by rw [csize_append]; exact q1, hrun, ?_⟩
      rw [← e1, h.run]
      exact q2
    | y :: c', e1, e2 =>
      simp only [List.cons_append, List.cons.injEq] at e2
      obtain ⟨rfl, e2⟩ := e2
      obtain ⟨a2, b2, m, q1, q2, q3, q4⟩ := h.aim a t c' e1
      exact ⟨a2, b2 ++ p, m, by rw [q1]; simp, q2, q3, q4⟩
theorem bgo_A (weak : Bool) (r : List UInt8) : ∀ cs, BldA cs → BldA (bgo weak cs r) := by
  induction r with
  | nil => intro cs h; exact h
  | cons c r ih =>
    intro cs h
    unfold bgo
    split
    · exact ih _ (h.more (piece_A c.toNat (UInt8.toNat_lt c) (csize cs) weak))
    · exact h
/-- What is known at each instruction of code. -/
structure AbsOk (l : List Ins) (T : Nat → List (Nat × Nat) × List (Nat × Nat)) : Prop where
  init : T 0 = iniA
  fall : ∀ k i, l[k]? = some i → i.op ≠ 19 → opA (T k).1 (T k).2 i.op i.n = some (T (k + 1))
  br : ∀ k i, l[k]? = some i → i.op = 20 → (∃ m, T k = (topA.1, [(7, m)])) ∧ T (findP i.n l 0).toNat = topA
  jmp : ∀ k i, l[k]? = some i → i.op = 19 → T k = topA ∧ T (findP i.n l 0).toNat = topA
theorem BldA.abs {cs : List (Nat × Nat)} (h : BldA cs) (h0 : Bld cs) : AbsOk (placed 0 (cs ++ [(19, 9)])) (fun k => (runA iniA (cs.take k)).getD iniA) := by
  obtain ⟨r6, h6⟩ := h0.six
  have hfind9 : findP 9 (placed 0 (cs ++ [(19, 9)])) 0 = 6 := by
    rw [← h6]
    cases r6 with
    | nil => exact findP_placed proC (19, 9) [] 0 0
    | cons y r6 => rw [List.append_assoc]; exact findP_placed proC y (r6 ++ [(19, 9)]) 0 0
  have hpro : runA iniA proC = some topA := by kernel_rfl
  have hfind : ∀ a' b', cs = a' ++ b' → findP (csize a') (placed 0 (cs ++ [(19, 9)])) 0 = (a'.length : Int) := by
    intro a' b' he
    rw [he, List.append_assoc]
    cases b' with
    | nil => have := findP_placed a' (19, 9) [] 0 0; simpa using this
    | cons y b' => have := findP_placed a' y (b' ++ [(19, 9)]) 0 0; simpa using this
  have hT : ∀ k, ∃ p, runA iniA (cs.take k) = some p := by
    intro k
    have hr := h.run
    rw [← List.take_append_drop k cs, runA_append] at hr
    cases hq : runA iniA (cs.take k) with
    | none => rw [hq] at hr; simp at hr
    | some p => exact ⟨p, rfl⟩
  have hj : ∀ k i, (placed 0 (cs ++ [(19, 9)]))[k]? = some i → (k < cs.length ∧ ∃ x, cs[k]? = some x ∧ i.op = x.1 ∧ i.n = x.2) ∨ (k = cs.length ∧ i.op = 19 ∧ i.n = 9) := by
    intro k i hi
    rw [placed_at] at hi
    rcases Nat.lt_or_ge k cs.length with hk | hk
    · left
      refine ⟨hk, cs[k], List.getElem?_eq_getElem hk, ?_⟩
      rw [List.getElem?_append_left hk, List.getElem?_eq_getElem hk] at hi
      simp only [Option.map_some, Option.some.injEq, Nat.zero_add] at hi
      rw [← hi]
      exact ⟨rfl, rfl⟩
    · right
      rw [List.getElem?_append_right hk] at hi
      rcases Nat.eq_or_lt_of_le hk with e | hlt
      · rw [← e] at hi
        simp only [Nat.sub_self, List.getElem?_cons_zero, Option.map_some, Option.some.injEq] at hi
        rw [← hi]
        exact ⟨e.symm, rfl, rfl⟩
      · have : ([(19, 9)] : List (Nat × Nat))[k - cs.length]? = none := by rw [List.getElem?_eq_none]; simp; omega
        rw [this] at hi
        simp at hi
  have hsplit : ∀ k (hk : k < cs.length), cs = cs.take k ++ cs[k] :: cs.drop (k + 1) := by
    intro k hk
    rw [List.getElem_cons_drop]
    exact (List.take_append_drop k cs).symm
  refine ⟨by simp [runA], ?_, ?_, ?_⟩
  · intro k i hi h19
    rcases hj k i hi with ⟨hk, x, hx, i1, i2⟩ | ⟨_, i1, _⟩
    · obtain ⟨p, hp⟩ := hT k
      obtain ⟨p', hp'⟩ := hT (k + 1)
      have hxk : cs[k] = x := by rw [List.getElem?_eq_getElem hk] at hx; exact Option.some.inj hx
      simp only [hp, hp', Option.getD_some, i1, i2]
      rw [List.take_succ_eq_append_getElem hk, hxk, runA_append, hp, Option.bind_some] at hp'
      simp only [runA] at hp'
      cases ho : opA p.1 p.2 x.1 x.2 with
      | none => rw [ho] at hp'; cases hp'
      | some B => rw [ho] at hp'; exact hp'
    · exact absurd i1 h19
  · intro k i hi h20
    rcases hj k i hi with ⟨hk, x, hx, i1, i2⟩ | ⟨_, i1, _⟩
    · have hxk : cs[k] = x := by rw [List.getElem?_eq_getElem hk] at hx; exact Option.some.inj hx
      obtain ⟨x1, x2⟩ := x
      simp only at i1 i2
      obtain rfl : x1 = 20 := by omega
      obtain ⟨a', b', m, q1, q2, q3, q4⟩ := h.aim (cs.take k) x2 (cs.drop (k + 1)) (by rw [← hxk]; exact hsplit k hk)
      have hf := hfind a' b' q1
      have htk : cs.take a'.length = a' := by rw [q1]; simp
      refine ⟨⟨m, by simp only [q4, Option.getD_some]⟩, ?_⟩
      rw [i2, q2, hf]
      simp only [Int.toNat_natCast, htk, q3, Option.getD_some]
    · omega
  · intro k i hi h19
    rcases hj k i hi with ⟨hk, x, hx, i1, _⟩ | ⟨hk, _, i2⟩
    · have hop : x.1 ≠ 0 ∧ x.1 ≠ 19 := by
        have := List.all_eq_true.1 h0.ends x (List.mem_of_getElem? hx)
        simpa using this
      omega
    · rw [hk, i2, hfind9]
      have : cs.take 6 = proC := by rw [← h6]; rfl
      simp only [List.take_length, h.run, Option.getD_some, Int.reduceToNat, this, hpro, and_self]
theorem built_abs (raw : ByteArray) (weak : Bool) : ∃ T, AbsOk (codeOf (builtS raw weak)) T := by
  obtain ⟨h1, _⟩ := bgo_ok weak raw.data.toList proC Bld.start (by decide)
  rw [(built_ok raw weak).2.1]
  exact ⟨_, (bgo_A weak raw.data.toList proC BldA.start).abs h1⟩
end Go.Proofs.YtdmdpindonghdaaDoor
namespace Go.Proofs.YtdmdpindonghdaaDoor
open Go.RowKit
structure HV (h : HSt) (lo : List (Bool × Int)) (v : Nat × Nat) (x : Bool × Int) : Prop where
  p : v.1 = 1 → x.1 = true ∧ (x.2 = -1 ∨ KindR h false x.2)
  w : v.1 = 2 → x.1 = true ∧ (x.2 = -1 ∨ KindR h true x.2)
  pn : v.1 = 3 → x.1 = true ∧ KindR h false x.2
  wn : v.1 = 4 → x.1 = true ∧ KindR h true x.2
  nu : v.1 = 5 → x = (true, -1)
  lc : v.1 = 6 → lo[v.2]? = some x
  ts : v.1 = 7 → ∃ y, lo[v.2]? = some y ∧ (x.2 = 0 → y.2 ≠ -1)
theorem HV.any (h : HSt) (lo : List (Bool × Int)) (x : Bool × Int) : HV h lo (0, 0) x := by constructor <;> intro e <;> simp at e
theorem HV.mkP {h : HSt} {x : Bool × Int} (h1 : x.1 = true) (h2 : x.2 = -1 ∨ KindR h false x.2) (lo : List (Bool × Int)) : HV h lo (1, 0) x :=
  ⟨fun _ => ⟨h1, h2⟩, fun e => by simp at e, fun e => by simp at e, fun e => by simp at e, fun e => by simp at e, fun e => by simp at e, fun e => by simp at e⟩
theorem HV.mkW {h : HSt} {x : Bool × Int} (h1 : x.1 = true) (h2 : x.2 = -1 ∨ KindR h true x.2) (lo : List (Bool × Int)) : HV h lo (2, 0) x :=
  ⟨fun e => by simp at e, fun _ => ⟨h1, h2⟩, fun e => by simp at e, fun e => by simp at e, fun e => by simp at e, fun e => by simp at e, fun e => by simp at e⟩
theorem HV.mkPN {h : HSt} {x : Bool × Int} (h1 : x.1 = true) (h2 : KindR h false x.2) (lo : List (Bool × Int)) : HV h lo (3, 0) x :=
  ⟨fun e => by simp at e, fun e => by simp at e, fun _ => ⟨h1, h2⟩, fun e => by simp at e, fun e => by simp at e, fun e => by simp at e, fun e => by simp at e⟩
theorem HV.mkWN {h : HSt} {x : Bool × Int} (h1 : x.1 = true) (h2 : KindR h true x.2) (lo : List (Bool × Int)) : HV h lo (4, 0) x :=
  ⟨fun e => by simp at e, fun e => by simp at e, fun e => by simp at e, fun _ => ⟨h1, h2⟩, fun e => by simp at e, fun e => by simp at e, fun e => by simp at e⟩
theorem HV.mkN (h : HSt) (lo : List (Bool × Int)) : HV h lo (5, 0) (true, -1) :=
  ⟨fun e => by simp at e, fun e => by simp at e, fun e => by simp at e, fun e => by simp at e, fun _ => rfl, fun e => by simp at e, fun e => by simp at e⟩
theorem HV.mkL {h : HSt} {lo : List (Bool × Int)} {n : Nat} {x : Bool × Int} (h1 : lo[n]? = some x) : HV h lo (6, n) x :=
  ⟨fun e => by simp at e, fun e => by simp at e, fun e => by simp at e, fun e => by simp at e, fun e => by simp at e, fun _ => h1, fun e => by simp at e⟩
theorem HV.mkT {h : HSt} {lo : List (Bool × Int)} {n : Nat} {x y : Bool × Int} (h1 : lo[n]? = some y) (h2 : x.2 = 0 → y.2 ≠ -1) : HV h lo (7, n) x :=
  ⟨fun e => by simp at e, fun e => by simp at e, fun e => by simp at e, fun e => by simp at e, fun e => by simp at e, fun e => by simp at e, fun _ => ⟨y, h1, h2⟩⟩
theorem HV.free {h : HSt} {lo : List (Bool × Int)} {v : Nat × Nat} {x : Bool × Int} (q : HV h lo v x) (hv : v.1 ≤ 5) (lo' : List (Bool × Int)) : HV h lo' v x :=
  ⟨q.p, q.w, q.pn, q.wn, q.nu, fun e => by omega, fun e => by omega⟩
theorem HV.heap {h h' : HSt} {lo : List (Bool × Int)} {v : Nat × Nat} {x : Bool × Int} (q : HV h lo v x) (hk : x.1 = true → ∀ wk, KindR h wk x.2 → KindR h' wk x.2) : HV h' lo v x :=
  ⟨fun e => ⟨(q.p e).1, (q.p e).2.imp id (hk (q.p e).1 _)⟩, fun e => ⟨(q.w e).1, (q.w e).2.imp id (hk (q.w e).1 _)⟩, fun e => ⟨(q.pn e).1, hk (q.pn e).1 _ (q.pn e).2⟩, fun e => ⟨(q.wn e).1, hk (q.wn e).1 _ (q.wn e).2⟩, q.nu, q.lc, q.ts⟩
/-- What is known holds of a machine. -/
structure HA (lo st : List (Nat × Nat)) (s : MS) : Prop where
  lol : lo.length = s.lo.length
  lo : ∀ (n : Nat) (v : Nat × Nat) (x : Bool × Int), lo[n]? = some v → s.lo[n]? = some x → v.1 ≤ 4 ∧ HV s.hs s.lo v x
  stl : st.length = s.st.length
  st : ∀ (j : Nat) (v : Nat × Nat), st[j]? = some v → HV s.hs s.lo v (lastW s.st j)
theorem lastW_top (st : List (Bool × Int)) (x : Bool × Int) : lastW (st ++ [x]) 0 = x := by
  unfold lastW
  simp
theorem lastW_under (st : List (Bool × Int)) (x : Bool × Int) {j : Nat} (h : j < st.length) : lastW (st ++ [x]) (j + 1) = lastW st j := by
  unfold lastW
  rw [List.length_append, List.length_singleton, List.getElem?_append_left (by omega)]
  congr 2
  omega
theorem lastW_take (st : List (Bool × Int)) {j k : Nat} (h : j + k < st.length) : lastW (st.take (st.length - k)) j = lastW st (j + k) := by
  unfold lastW
  rw [List.length_take, Nat.min_eq_left (by omega), List.getElem?_take_of_lt (by omega)]
  congr 2
  omega
theorem HA.push {lo st : List (Nat × Nat)} {s : MS} (h : HA lo st s) {v : Nat × Nat} {x : Bool × Int} (hv : HV s.hs s.lo v x) : HA lo (v :: st) { s with st := s.st ++ [x] } := by
  refine ⟨h.lol, h.lo, by simp [h.stl], ?_⟩
  intro j u hu
  cases j with
  | zero =>
    simp only [List.getElem?_cons_zero, Option.some.injEq] at hu
    subst hu
    simp only [lastW_top]
    exact hv
  | succ j =>
    simp only [List.getElem?_cons_succ] at hu
    have hj := (List.getElem?_eq_some_iff.1 hu).1
    simp only
    rw [lastW_under _ _ (by rw [← h.stl]; exact hj)]
    exact h.st j u hu
theorem HA.cut {lo st : List (Nat × Nat)} {s : MS} (h : HA lo st s) (k : Nat) (hk : k ≤ st.length) : HA lo (st.drop k) { s with st := cutS s k } := by
  have hl := h.stl
  refine ⟨h.lol, h.lo, by simp only [cutS, List.length_drop, List.length_take]; omega, ?_⟩
  intro j u hu
  rw [List.getElem?_drop] at hu
  have hj := (List.getElem?_eq_some_iff.1 hu).1
  simp only [cutS]
  rw [lastW_take _ (by omega), Nat.add_comm]
  exact h.st _ u hu
theorem HA.heap {lo st : List (Nat × Nat)} {s : MS} (h : HA lo st s) {h' : HSt} (hk : ∀ x ∈ s.lo ++ s.st, x.1 = true → ∀ wk, KindR s.hs wk x.2 → KindR h' wk x.2) : HA lo st { s with hs := h' } := by
  refine ⟨h.lol, fun n v x h1 h2 => ⟨(h.lo n v x h1 h2).1, (h.lo n v x h1 h2).2.heap (hk x (List.mem_append_left _ (List.mem_of_getElem? h2)))⟩, h.stl, ?_⟩
  intro j u hu
  have hj := (List.getElem?_eq_some_iff.1 hu).1
  exact (h.st j u hu).heap (hk _ (List.mem_append_right _ (lastW_mem (by rw [← h.stl]; exact hj))))
theorem HA.res {lo st : List (Nat × Nat)} {s : MS} (h : HA lo st s) {v : Nat × Nat} {x : Bool × Int} (hv : HV s.hs s.lo v x) (lo' : List (Bool × Int)) : HV s.hs lo' (resA lo v) x := by
  unfold resA
  split
  · rename_i e
    have h1 := hv.lc e
    have hl := (List.getElem?_eq_some_iff.1 h1).1
    rw [List.getD_eq_getElem?_getD, List.getElem?_eq_getElem (by rw [h.lol]; exact hl), Option.getD_some]
    obtain ⟨q1, q2⟩ := h.lo v.2 _ x (List.getElem?_eq_getElem (by rw [h.lol]; exact hl)) h1
    exact q2.free (by omega) lo'
  · split
    · exact HV.any _ _ _
    · exact ⟨hv.p, hv.w, hv.pn, hv.wn, hv.nu, fun e => by omega, fun e => by omega⟩
theorem HV.pl {h : HSt} {lo : List (Bool × Int)} {v : Nat × Nat} {x : Bool × Int} (q : HV h lo v x) (hv : isPl v = true) : x.1 = true ∧ (x.2 = -1 ∨ KindR h false x.2) := by
  unfold isPl at hv
  simp only [Bool.or_eq_true, beq_iff_eq] at hv
  rcases hv with (e | e) | e
  · exact q.p e
  · exact ⟨(q.pn e).1, .inr (q.pn e).2⟩
  · rw [q.nu e]; exact ⟨rfl, .inl rfl⟩
theorem HV.wk {h : HSt} {lo : List (Bool × Int)} {v : Nat × Nat} {x : Bool × Int} (q : HV h lo v x) (hv : isWk v = true) : x.1 = true ∧ (x.2 = -1 ∨ KindR h true x.2) := by
  unfold isWk at hv
  simp only [Bool.or_eq_true, beq_iff_eq] at hv
  rcases hv with (e | e) | e
  · exact q.w e
  · exact ⟨(q.wn e).1, .inr (q.wn e).2⟩
  · rw [q.nu e]; exact ⟨rfl, .inl rfl⟩
theorem HA.locals {lo st : List (Nat × Nat)} {s : MS} (h : HA lo st s) {n : Nat} {w : Nat × Nat} (hw : w.1 ≤ 4) (hx : ∀ x, s.lo[n]? = some x → HV s.hs s.lo w x) : HA (lo.set n w) st s := by
  refine ⟨by rw [List.length_set]; exact h.lol, ?_, h.stl, h.st⟩
  intro m v x h1 h2
  rw [List.getElem?_set] at h1
  split at h1
  · rename_i e
    subst e
    split at h1
    · cases h1
      exact ⟨hw, hx x h2⟩
    · cases h1
  · exact h.lo m v x h1 h2
theorem HA.load {lo st lo' st' : List (Nat × Nat)} {s : MS} (h : HA lo st s) {n : Nat} (ho : loadA lo st n = some (lo', st')) : HA lo' st' { s with st := s.st ++ [s.lo.getD n (false, 0)] } := by
  unfold loadA at ho
  split at ho
  · rename_i hn
    have hn' : n < s.lo.length := by rw [← h.lol]; exact hn
    have e : s.lo.getD n (false, 0) = s.lo[n] := by rw [List.getD_eq_getElem?_getD, List.getElem?_eq_getElem hn']; rfl
    have ev : lo.getD n (0, 0) = lo[n] := by rw [List.getD_eq_getElem?_getD, List.getElem?_eq_getElem hn]; rfl
    obtain ⟨q1, q2⟩ := h.lo n lo[n] s.lo[n] (List.getElem?_eq_getElem hn) (List.getElem?_eq_getElem hn')
    rw [e]
    rw [ev] at ho
    split at ho
    · rename_i e3
      cases ho
      rw [e3] at q2
      refine HA.push (h.locals (by simp) (fun x hx => ?_)) q2
      rw [List.getElem?_eq_getElem hn'] at hx
      cases hx
      exact HV.mkP (q2.pn rfl).1 (.inr (q2.pn rfl).2) _
    split at ho
    · rename_i _ e4
      cases ho
      rw [e4] at q2
      refine HA.push (h.locals (by simp) (fun x hx => ?_)) q2
      rw [List.getElem?_eq_getElem hn'] at hx
      cases hx
      exact HV.mkW (q2.wn rfl).1 (.inr (q2.wn rfl).2) _
    · cases ho
      exact h.push (HV.mkL (List.getElem?_eq_getElem hn'))
  · cases ho
theorem HA.store {lo r lo' st' : List (Nat × Nat)} {v : Nat × Nat} {s : MS} (h : HA lo (v :: r) s) {n : Nat} (ho : storeA lo n v r = some (lo', st')) : HA lo' st' { s with lo := s.lo.set n (lastW s.st 0), st := cutS s 1 } := by
  have hv := h.st 0 v rfl
  have hres := h.res hv s.lo
  have main : ∀ w : Nat × Nat, w.1 ≤ 4 → HV s.hs [] w (lastW s.st 0) → HA (lo.set n w) (r.map (resA lo)) { s with lo := s.lo.set n (lastW s.st 0), st := cutS s 1 } := by
    intro w hw hx
    have hc := h.cut 1 (by simp)
    refine ⟨by simp [h.lol], ?_, by have := hc.stl; simpa using this, ?_⟩
    · intro m u x h1 h2
      simp only at h2
      rw [List.getElem?_set] at h1 h2
      split at h1
      · rename_i e
        subst e
        rw [if_pos rfl] at h2
        split at h1
        · cases h1
          split at h2
          · cases h2
            exact ⟨hw, hx.free (by omega) _⟩
          · cases h2
        · cases h1
      · rename_i e
        rw [if_neg e] at h2
        obtain ⟨q1, q2⟩ := h.lo m u x h1 h2
        exact ⟨q1, q2.free (by omega) _⟩
    · intro j u hu
      rw [List.getElem?_map] at hu
      cases hj : r[j]? with
      | none => rw [hj] at hu; cases hu
      | some u0 =>
        rw [hj] at hu
        cases hu
        exact h.res (hc.st j u0 hj) _
  unfold storeA at ho
  split at ho
  · rename_i e
    subst e
    cases ho
    exact main (0, 0) (by simp) (HV.any _ _ _)
  split at ho
  · rename_i e
    subst e
    split at ho
    · rename_i hk
      cases ho
      obtain ⟨a1, a2⟩ := hres.wk hk
      exact main (2, 0) (by simp) (HV.mkW a1 a2 _)
    · cases ho
  split at ho
  · rename_i hk
    cases ho
    obtain ⟨a1, a2⟩ := hres.pl hk
    exact main (1, 0) (by simp) (HV.mkP a1 a2 _)
  · cases ho
/-- Behind a branch that is not taken. -/
theorem HA.fall {lo r : List (Nat × Nat)} {v : Nat × Nat} {s : MS} (h : HA lo (v :: r) s) (hv : v.1 = 7) (hz : (lastW s.st 0).2 = 0) : HA (lo.set v.2 (knowA (lo.getD v.2 (0, 0)))) r { s with st := cutS s 1 } := by
  obtain ⟨y, h1, h2⟩ := (h.st 0 v rfl).ts hv
  have hc := h.cut 1 (by simp)
  have hn := (List.getElem?_eq_some_iff.1 h1).1
  have hn' : v.2 < lo.length := by rw [h.lol]; exact hn
  have ev : lo.getD v.2 (0, 0) = lo[v.2] := by rw [List.getD_eq_getElem?_getD, List.getElem?_eq_getElem hn']; rfl
  obtain ⟨q1, q2⟩ := h.lo v.2 lo[v.2] y (List.getElem?_eq_getElem hn') h1
  rw [ev]
  refine HA.locals hc ?_ (fun x hx => ?_)
  · unfold knowA
    split
    · simp
    split
    · simp
    · exact q1
  · simp only at hx
    rw [h1] at hx
    cases hx
    have hy := h2 hz
    unfold knowA
    split
    · rename_i e
      obtain ⟨a1, a2⟩ := q2.p e
      exact HV.mkPN a1 (a2.resolve_left hy) _
    split
    · rename_i e
      obtain ⟨a1, a2⟩ := q2.w e
      exact HV.mkWN a1 (a2.resolve_left hy) _
    · exact q2
theorem wantsC_of {h : HSt} {wk : Bool} {r : Int} (q : KindR h wk r) : wantsC h.1 r wk = 0 := by
  obtain ⟨h0, c, hc, hw⟩ := q
  unfold wantsC
  rw [if_neg (by omega), hc, Option.map_some, hw, if_pos rfl]
end Go.Proofs.YtdmdpindonghdaaDoor
namespace Go.Proofs.YtdmdpindonghdaaDoor
open Go.RowKit
/-- What straight code has come to: the stack (its top last), local 0, what came out, how many inputs were read. -/
structure Sx where
  st : List Int
  loc : Int
  out : List Int
  rd : Nat
def lastZ (st : List Int) (j : Nat) : Int := (st[st.length - 1 - j]?).getD 0
def cutZ (st : List Int) (k : Nat) : List Int := st.take (st.length - k)
def exI (zs : List Int) (op n : Nat) (q : Sx) : Sx :=
  if op = 1 then { q with st := q.st ++ [((n : Int) + 128) % 256 - 128] }
  else if op = 2 ∨ op = 3 ∨ op = 4 ∨ op = 5 ∨ op = 6 then { q with st := cutZ q.st 2 ++ [sumC op (lastZ q.st 1) (lastZ q.st 0)] }
  else if op = 7 then { q with st := q.st ++ [q.loc] }
  else if op = 8 then { q with loc := lastZ q.st 0, st := cutZ q.st 1 }
  else if op = 9 then { q with st := q.st ++ [lastZ q.st 0] }
  else if op = 10 then { q with st := cutZ q.st 1 }
  else if op = 11 then { q with st := cutZ q.st 2 ++ [lastZ q.st 0, lastZ q.st 1] }
  else if op = 21 then (if q.rd < zs.length then { q with rd := q.rd + 1, st := q.st ++ [zs.getD q.rd 0] } else { q with st := q.st ++ [0] })
  else if op = 22 then { q with out := q.out ++ [lastZ q.st 0], st := cutZ q.st 1 }
  else q
/-- An instruction that may follow. -/
def may (op n : Nat) (q : Sx) : Prop :=
  (op = 1 ∧ n < 256 ∧ q.st.length < 8) ∨ ((op = 7 ∨ op = 21) ∧ n = 0 ∧ q.st.length < 8) ∨ (op = 9 ∧ n = 0 ∧ 0 < q.st.length ∧ q.st.length < 8) ∨ ((op = 8 ∨ op = 10 ∨ op = 22) ∧ n = 0 ∧ 0 < q.st.length) ∨ ((op = 2 ∨ op = 3 ∨ op = 4 ∨ op = 6 ∨ op = 11) ∧ n = 0 ∧ 2 ≤ q.st.length) ∨ (op = 5 ∧ n = 0 ∧ 2 ≤ q.st.length ∧ lastZ q.st 0 ≠ 0)
def zeroX : Sx := ⟨[], 0, [], 0⟩
def Rk (zs : List Int) (cs : List (Nat × Nat)) (q : Sx) : Prop :=
  ∀ P : List (Nat × Nat) → Sx → Prop, P [] zeroX → (∀ (cs : List (Nat × Nat)) (q : Sx) (op n : Nat), P cs q → may op n q → P (cs ++ [(op, n)]) (exI zs op n q)) → P cs q
theorem Rk.nil {zs : List Int} : Rk zs [] zeroX := fun _ h0 _ => h0
theorem Rk.snoc {zs : List Int} (cs : List (Nat × Nat)) (q : Sx) (op n : Nat) (h : Rk zs cs q) (h1 : may op n q) : Rk zs (cs ++ [(op, n)]) (exI zs op n q) := fun P q0 q1 => q1 cs q op n (h P q0 q1) h1
theorem Rk.ind {zs : List Int} {motive : (cs : List (Nat × Nat)) → (q : Sx) → Rk zs cs q → Prop} (nil : motive [] zeroX Rk.nil) (snoc : ∀ (cs : List (Nat × Nat)) (q : Sx) (op n : Nat) (h : Rk zs cs q) (h1 : may op n q), motive cs q h → motive (cs ++ [(op, n)]) (exI zs op n q) (Rk.snoc cs q op n h h1)) {cs : List (Nat × Nat)} {q : Sx} (t : Rk zs cs q) : motive cs q t := by
  have h := t (fun cs q => ∃ x : Rk zs cs q, motive cs q x) ⟨.nil, nil⟩ (fun cs q op n hk h1 => hk.elim (fun x hx => ⟨.snoc cs q op n x h1, snoc cs q op n x h1 hx⟩))
  exact h.elim (fun _ hx => hx)
theorem Rk.cas {zs : List Int} {motive : (cs : List (Nat × Nat)) → (q : Sx) → Rk zs cs q → Prop} (nil : motive [] zeroX Rk.nil) (snoc : ∀ (cs : List (Nat × Nat)) (q : Sx) (op n : Nat) (h : Rk zs cs q) (h1 : may op n q), motive (cs ++ [(op, n)]) (exI zs op n q) (Rk.snoc cs q op n h h1)) {cs : List (Nat × Nat)} {q : Sx} (t : Rk zs cs q) : motive cs q t :=
  Rk.ind (motive := motive) nil (fun cs q op n h h1 _ => snoc cs q op n h h1) t
/-- How deep the stack is behind an instruction. -/
def depI (op d : Nat) : Nat := if op = 1 ∨ op = 7 ∨ op = 9 ∨ op = 21 then d + 1 else if op = 8 ∨ op = 10 ∨ op = 22 then d - 1 else if op = 11 then d else d - 1
theorem exI_len {zs : List Int} {op n : Nat} {q : Sx} (h : may op n q) : (exI zs op n q).st.length = depI op q.st.length := by
  unfold may at h
  unfold exI depI cutZ
  rcases h with ⟨rfl, _, _⟩ | ⟨rfl | rfl, _, _⟩ | ⟨rfl, _, _⟩ | ⟨rfl | rfl | rfl, _, h⟩ | ⟨rfl | rfl | rfl | rfl | rfl, _, h⟩ | ⟨rfl, _, h, _⟩
  all_goals simp
  all_goals first | done | (split <;> simp) | omega
theorem Rk.le {zs : List Int} {cs : List (Nat × Nat)} {q : Sx} (h : Rk zs cs q) : q.st.length ≤ 8 := by
  induction h using Rk.ind with
  | nil => simp [zeroX]
  | snoc cs q op n _ hm ih =>
    rw [exI_len hm]
    unfold may at hm
    unfold depI
    rcases hm with ⟨rfl, _, _⟩ | ⟨rfl | rfl, _, _⟩ | ⟨rfl, _, _⟩ | ⟨rfl | rfl | rfl, _, h⟩ | ⟨rfl | rfl | rfl | rfl | rfl, _, h⟩ | ⟨rfl, _, h, _⟩
    all_goals simp
    all_goals omega
theorem Rk.take {zs : List Int} {cs : List (Nat × Nat)} {q : Sx} (h : Rk zs cs q) : ∃ f : Nat → Sx, (∀ k, k ≤ cs.length → Rk zs (cs.take k) (f k)) ∧ (∀ k x, cs[k]? = some x → may x.1 x.2 (f k) ∧ f (k + 1) = exI zs x.1 x.2 (f k)) ∧ f cs.length = q := by
  induction h using Rk.ind with
  | nil => exact ⟨fun _ => zeroX, fun k hk => by simp at hk; subst hk; exact .nil, fun k x hx => by simp at hx, rfl⟩
  | snoc cs q op n hr hm ih =>
    obtain ⟨f, h1, h2, h3⟩ := ih
    refine ⟨fun k => if k ≤ cs.length then f k else exI zs op n q, fun k hk => ?_, fun k x hx => ?_, ?_⟩
    · rw [List.length_append, List.length_singleton] at hk
      by_cases e : k ≤ cs.length
      · simp only [if_pos e]
        rw [List.take_append_of_le_length e]
        exact h1 k e
      · simp only [if_neg e]
        have : k = (cs ++ [(op, n)]).length := by simp; omega
        rw [this, List.take_length]
        exact .snoc cs q op n hr hm
    · rcases Nat.lt_or_ge k cs.length with e | e
      · rw [List.getElem?_append_left e] at hx
        simp only [if_pos (Nat.le_of_lt e), if_pos (show k + 1 ≤ cs.length from e)]
        exact h2 k x hx
      · rw [List.getElem?_append_right e] at hx
        have e' : k = cs.length := by
          have := (List.getElem?_eq_some_iff.1 hx).1
          simp at this
          omega
        subst e'
        simp at hx
        subst hx
        simp only [Nat.le_refl, if_true, h3]
        rw [if_neg (by omega)]
        exact ⟨hm, rfl⟩
    · simp only [List.length_append, List.length_singleton]
      rw [if_neg (by omega)]
def lo1 : ByteArray := ⟨#[105]⟩
def stN (d : Nat) : ByteArray := ⟨(List.replicate d 105).toArray⟩
def opsN : List (Nat × Nat) := [(1, 0), (7, 0), (21, 0), (9, 1), (8, 1), (10, 1), (22, 1), (2, 2), (3, 2), (4, 2), (6, 2), (11, 2), (5, 2)]
theorem aft_all : (List.range 9).all (fun d => opsN.all (fun x => decide (d < x.2) || decide (afterV lo1 (stN d) x.1 0 = (lo1, stN (depI x.1 d), true)))) = true := by kernel_rfl
theorem aft_num {op n : Nat} {q : Sx} (h : may op n q) (h8 : q.st.length ≤ 8) : afterV lo1 (stN q.st.length) op n = (lo1, stN (depI op q.st.length), true) := by
  have key : ∀ x ∈ opsN, x.2 ≤ q.st.length → afterV lo1 (stN q.st.length) x.1 0 = (lo1, stN (depI x.1 q.st.length), true) := by
    intro x hx hd
    have h1 := List.all_eq_true.1 aft_all q.st.length (List.mem_range.2 (by omega))
    have h2 := List.all_eq_true.1 h1 x hx
    simp only [Bool.or_eq_true, decide_eq_true_eq] at h2
    rcases h2 with h2 | h2
    · omega
    · exact h2
  unfold may at h
  rcases h with ⟨rfl, _, _⟩ | ⟨rfl | rfl, rfl, _⟩ | ⟨rfl, rfl, h, _⟩ | ⟨rfl | rfl | rfl, rfl, h⟩ | ⟨rfl | rfl | rfl | rfl | rfl, rfl, h⟩ | ⟨rfl, rfl, h, _⟩
  · have e : afterV lo1 (stN q.st.length) 1 n = afterV lo1 (stN q.st.length) 1 0 := by simp only [afterV, reduceIte, Nat.reduceEqDiff]
    rw [e]
    exact key (1, 0) (by simp [opsN]) (by simp)
  · exact key (7, 0) (by simp [opsN]) (by simp)
  · exact key (21, 0) (by simp [opsN]) (by simp)
  · exact key (9, 1) (by simp [opsN]) h
  · exact key (8, 1) (by simp [opsN]) h
  · exact key (10, 1) (by simp [opsN]) h
  · exact key (22, 1) (by simp [opsN]) h
  · exact key (2, 2) (by simp [opsN]) h
  · exact key (3, 2) (by simp [opsN]) h
  · exact key (4, 2) (by simp [opsN]) h
  · exact key (6, 2) (by simp [opsN]) h
  · exact key (11, 2) (by simp [opsN]) h
  · exact key (5, 2) (by simp [opsN]) h
theorem may_ops {op n : Nat} {q : Sx} (h : may op n q) : goodI 1 (op, n) = true ∧ op ≠ 0 ∧ op ≠ 19 ∧ op ≠ 20 ∧ op ≠ 13 ∧ op ≠ 23 ∧ isJump op = false := by
  unfold may at h
  rcases h with ⟨rfl, hn, _⟩ | ⟨rfl | rfl, rfl, _⟩ | ⟨rfl, rfl, h, _⟩ | ⟨rfl | rfl | rfl, rfl, h⟩ | ⟨rfl | rfl | rfl | rfl | rfl, rfl, h⟩ | ⟨rfl, rfl, h, _⟩
  · refine ⟨?_, by omega, by omega, by omega, by omega, by omega, rfl⟩
    simp [goodI, badN, takesB]
    exact hn
  all_goals exact ⟨by decide, by omega, by omega, by omega, by omega, by omega, rfl⟩
/-- The types at each instruction of straight code. -/
theorem Rk.typ {zs : List Int} {cs : List (Nat × Nat)} {q : Sx} (h : Rk zs cs q) (h0 : 0 < q.st.length) : ∃ T, Typ (placed 0 (cs ++ [(0, 0)])) 1 T := by
  obtain ⟨f, f1, f2, f3⟩ := h.take
  have hf0 : f 0 = zeroX := by
    have := f1 0 (by omega)
    rw [List.take_zero] at this
    generalize hq : f 0 = q0 at *
    generalize hc : ([] : List (Nat × Nat)) = c0 at this
    cases this using Rk.cas with
    | nil => rfl
    | snoc cs q op n _ _ => simp at hc
  refine ⟨fun k => (lo1, stN (f k).st.length), ?_, by rw [placed_len]; simp, ?_⟩
  · rw [hf0]; rfl
  · intro k i hi
    rw [placed_at] at hi
    rw [placed_len, List.length_append, List.length_singleton]
    rcases Nat.lt_or_ge k cs.length with hk | hk
    · rw [List.getElem?_append_left hk, List.getElem?_eq_getElem hk] at hi
      simp only [Option.map_some, Option.some.injEq] at hi
      obtain ⟨m1, m2⟩ := f2 k cs[k] (List.getElem?_eq_getElem hk)
      have a := aft_num m1 (f1 k (by omega)).le
      obtain ⟨_, o1, o2, o3, _, _, o4⟩ := may_ops m1
      have hl := exI_len (zs := zs) m1
      have hle := (f1 (k + 1) (by omega)).le
      subst hi
      simp only
      rw [a, m2, hl]
      refine ⟨rfl, ?_, fun e => ?_, fun _ => ⟨by omega, rfl⟩⟩
      · rw [m2, hl] at hle
        simp [stN, ByteArray.size]
        exact hle
      · rw [o4] at e; cases e
    · have e : k = cs.length := by
        rw [List.getElem?_append_right hk] at hi
        have h2 : k - cs.length < 1 := by
          cases hx : ([(0, 0)] : List (Nat × Nat))[k - cs.length]? with
          | none => rw [hx] at hi; cases hi
          | some y =>
            have := (List.getElem?_eq_some_iff.1 hx).1
            simpa using this
        omega
      subst e
      rw [List.getElem?_append_right (Nat.le_refl _)] at hi
      simp only [Nat.sub_self, List.getElem?_cons_zero, Option.map_some, Option.some.injEq] at hi
      subst hi
      simp only [f3]
      have h8 := h.le
      have key : ∀ d, 0 < d → d ≤ 8 → (afterV lo1 (stN d) 0 0).2.2 = true ∧ (afterV lo1 (stN d) 0 0).2.1.size ≤ 8 := by
        have hall : (List.range 9).all (fun d => decide (d = 0) || (afterV lo1 (stN d) 0 0).2.2 && decide ((afterV lo1 (stN d) 0 0).2.1.size ≤ 8)) = true := by kernel_rfl
        intro d hd hd8
        have := List.all_eq_true.1 hall d (List.mem_range.2 (by omega))
        simp only [Bool.or_eq_true, Bool.and_eq_true, decide_eq_true_eq] at this
        rcases this with e | e
        · omega
        · exact e
      obtain ⟨a1, a2⟩ := key _ h0 h8
      exact ⟨a1, a2, fun e => by (simp [isJump] at e), fun e => absurd rfl e.1⟩
theorem Rk.img {zs : List Int} {cs : List (Nat × Nat)} {q : Sx} (h : Rk zs cs q) (h0 : 0 < q.st.length) (hz : csize cs ≤ 119) {x : ByteArray} (hx : x.data.toList = imgC 1 (cs ++ [(0, 0)])) : errOf x = 0 ∧ codeOf x = placed 0 (cs ++ [(0, 0)]) ∧ byteAt x 1 = 1 ∧ WT (codeOf x) (byteAt x 1) := by
  obtain ⟨f, f1, f2, f3⟩ := h.take
  have hall : ∀ x ∈ cs, goodI 1 x = true ∧ isJump x.1 = false := fun x hx => by
    obtain ⟨k, hk, e⟩ := List.getElem_of_mem hx
    obtain ⟨m1, _⟩ := f2 k x (by rw [List.getElem?_eq_getElem hk, e])
    obtain ⟨a, _, _, _, _, _, b⟩ := may_ops m1
    exact ⟨a, b⟩
  have hsz : csize (cs ++ [(0, 0)]) = csize cs + 1 := by rw [csize_append]; rfl
  obtain ⟨T, hT⟩ := h.typ h0
  have hj : jumpsOk (placed 0 (cs ++ [(0, 0)])) = true := by
    unfold jumpsOk
    rw [List.all_eq_true]
    intro i hi
    obtain ⟨k, hk, rfl⟩ := List.getElem_of_mem hi
    have hg : (placed 0 (cs ++ [(0, 0)]))[k]? = some (placed 0 (cs ++ [(0, 0)]))[k] := List.getElem?_eq_getElem hk
    rw [placed_at] at hg
    cases hc : (cs ++ [(0, 0)])[k]? with
    | none => rw [hc] at hg; cases hg
    | some y =>
      rw [hc] at hg
      simp only [Option.map_some, Option.some.injEq] at hg
      rw [← hg]
      have : isJump y.1 = false := by
        rcases List.mem_append.1 (List.mem_of_getElem? hc) with e | e
        · exact (hall y e).2
        · rw [List.mem_singleton.1 e]; rfl
      simp [this]
  have he : endsOk (placed 0 (cs ++ [(0, 0)])) = true := by
    unfold endsOk lastOp
    have : (placed 0 (cs ++ [(0, 0)])).getLast? = some ⟨0, 0, csize cs⟩ := by
      rw [List.getLast?_eq_getElem?, placed_at, placed_len, List.length_append, List.length_singleton, Nat.add_sub_cancel, List.getElem?_append_right (Nat.le_refl _)]
      simp
    rw [this]
    rfl
  obtain ⟨a1, a2, a3⟩ := img_code hx (by omega) (by omega) (by omega) (by
    rw [List.all_append, List.all_eq_true.2 (fun x hx => (hall x hx).1)]
    rfl) hj he
  exact ⟨a1, a2, a3, by rw [a2, a3]; exact hT.wt⟩
/-- A machine of straight code. -/
def toMS (q : Sx) (k : Nat) (hs : HSt) : MS := ⟨k, [(false, q.loc)], q.st.map (fun v => (false, v)), q.rd, q.out, 0, 0, hs⟩
theorem lastW_num (st : List Int) {j : Nat} (h : j < st.length) : lastW (st.map (fun v => ((false, v) : Bool × Int))) j = (false, lastZ st j) := by
  unfold lastW lastZ
  rw [List.length_map, List.getElem?_map, List.getElem?_eq_getElem (by omega)]
  rfl
theorem cut_num (q : Sx) (k m : Nat) (hs : HSt) : cutS (toMS q k hs) m = (cutZ q.st m).map (fun v => (false, v)) := by
  unfold cutS cutZ toMS
  simp
theorem step_num {E : Env} {op n pl k : Nat} {q : Sx} {hs : HSt} (hm : may op n q) (hg : E.l[k]? = some ⟨op, n, pl⟩) : stepS E (toMS q k hs) = toMS (exI E.zs op n q) (k + 1) hs := by
  have h1 : stepS E (toMS q k hs) = stepI E ⟨op, n, pl⟩ (toMS q k hs) := by unfold stepS; rw [show (toMS q k hs).at_ = k from rfl, hg]
  obtain ⟨_, o0, o19, o20, o13, o23, _⟩ := may_ops hm
  have hst : (toMS q k hs).st = q.st.map (fun v => (false, v)) := rfl
  have hl : ∀ {j : Nat}, j < q.st.length → lastW (toMS q k hs).st j = (false, lastZ q.st j) := fun hj => lastW_num q.st hj
  have hends : endsC (toMS q k hs).hs.1 (toMS q k hs).st op = 0 := by
    unfold may at hm
    unfold endsC
    rcases hm with ⟨rfl, hn, _⟩ | ⟨rfl | rfl, rfl, _⟩ | ⟨rfl, rfl, h, _⟩ | ⟨rfl | rfl | rfl, rfl, h⟩ | ⟨rfl | rfl | rfl | rfl | rfl, rfl, h⟩ | ⟨rfl, rfl, h, hne⟩
    all_goals first | (simp; done) | skip
    rw [hl (by omega)]
    simp [hne]
  rw [h1, step_go (i := ⟨op, n, pl⟩) hends o13 o23]
  have hto : toS E ⟨op, n, pl⟩ (toMS q k hs) = k + 1 := by
    unfold toS
    rw [if_neg (fun e => e.elim (fun e => o19 e) (fun e => o20 e.1))]
    rfl
  unfold goS
  rw [hto]
  have key : doesS E ⟨op, n, pl⟩ (-1) (toMS q k hs) = toMS (exI E.zs op n q) k hs := by
    unfold may at hm
    rcases hm with ⟨rfl, hn, _⟩ | ⟨rfl | rfl, rfl, _⟩ | ⟨rfl, rfl, h, _⟩ | ⟨rfl | rfl | rfl, rfl, h⟩ | ⟨rfl | rfl | rfl | rfl | rfl, rfl, h⟩ | ⟨rfl, rfl, h, hne⟩
    · simp [doesS, exI, toMS]
    · simp [doesS, exI, toMS]
    · simp only [doesS, exI, reduceIte, Nat.reduceEqDiff, or_self]
      show (if q.rd < E.zs.length then _ else _) = _
      split <;> simp [toMS]
    · simp only [doesS, exI, reduceIte, Nat.reduceEqDiff, or_self, hl h]
      simp [toMS]
    · simp only [doesS, exI, reduceIte, Nat.reduceEqDiff, or_self, hl h, cut_num]
      simp [toMS]
    · simp only [doesS, exI, reduceIte, Nat.reduceEqDiff, or_self, true_or, cut_num]
      simp [toMS]
    · simp only [doesS, exI, reduceIte, Nat.reduceEqDiff, or_self, hl h, cut_num]
      simp [toMS]
    all_goals try simp only [doesS, exI, reduceIte, Nat.reduceEqDiff, or_self, or_true, true_or, hl (show 1 < q.st.length by omega), hl (show 0 < q.st.length by omega), cut_num]
    all_goals simp [toMS]
  rw [key]
  rfl
theorem pre_num (E : Env) (us : List Int) (k : Nat) (q : Sx) (hs : HSt) : ∃ hs', preS E us k (toMS q k hs) = toMS q k hs' := by
  unfold preS
  split
  · exact ⟨hs, rfl⟩
  · exact ⟨_, rfl⟩
theorem start_num (n : Nat) : startS 1 n = toMS zeroX 0 (startS 1 n).hs := rfl
/-- A run of straight code. -/
theorem Rk.run {zs : List Int} {cs : List (Nat × Nat)} {q : Sx} (h : Rk zs cs q) (h0 : 0 < q.st.length) {E : Env} (hl : E.l = placed 0 (cs ++ [(0, 0)])) (hz : E.zs = zs) (us : List Int) (n f : Nat) (hf : cs.length + 1 ≤ f) :
    (runS E us f 0 (startS 1 n)).2.oc = 1 ∧ (runS E us f 0 (startS 1 n)).2.va = lastZ q.st 0 ∧ (runS E us f 0 (startS 1 n)).2.out = q.out := by
  obtain ⟨g, f1, f2, f3⟩ := h.take
  have hf0 : g 0 = zeroX := by
    have := f1 0 (by omega)
    rw [List.take_zero] at this
    generalize hq : g 0 = q0 at *
    generalize hc : ([] : List (Nat × Nat)) = c0 at this
    cases this using Rk.cas with
    | nil => rfl
    | snoc cs q op n _ _ => simp at hc
  have hrun : ∀ k, k ≤ cs.length → ∃ hs, runS E us f 0 (startS 1 n) = runS E us (f - k) k (toMS (g k) k hs) := by
    intro k
    induction k with
    | zero => intro _; exact ⟨_, by rw [hf0]; rfl⟩
    | succ k ih =>
      intro hk
      obtain ⟨hs, e⟩ := ih (by omega)
      obtain ⟨m1, m2⟩ := f2 k cs[k] (List.getElem?_eq_getElem hk)
      obtain ⟨hs', e'⟩ := pre_num E us k (g k) hs
      refine ⟨hs', ?_⟩
      rw [e, show f - k = (f - (k + 1)) + 1 by omega]
      have hget : E.l[k]? = some ⟨cs[k].1, cs[k].2, 0 + csize ((cs ++ [(0, 0)]).take k)⟩ := by
        rw [hl, placed_at, List.getElem?_append_left hk, List.getElem?_eq_getElem hk]
        rfl
      simp only [runS]
      rw [if_pos (show (toMS (g k) k hs).oc = 0 from rfl), e', step_num m1 hget, hz, ← m2]
  obtain ⟨hs, e⟩ := hrun cs.length (Nat.le_refl _)
  obtain ⟨hs', e'⟩ := pre_num E us cs.length (g cs.length) hs
  have hget : E.l[cs.length]? = some ⟨0, 0, 0 + csize ((cs ++ [(0, 0)]).take cs.length)⟩ := by
    rw [hl, placed_at, List.getElem?_append_right (Nat.le_refl _)]
    simp
  rw [e, show f - cs.length = (f - (cs.length + 1)) + 1 by omega]
  simp only [runS]
  rw [if_pos (show (toMS (g cs.length) cs.length hs).oc = 0 from rfl), e', f3]
  have hst : stepS E (toMS q cs.length hs') = { toMS q cs.length hs' with oc := 1, va := (lastW (toMS q cs.length hs').st 0).2 } := by
    unfold stepS
    rw [show (toMS q cs.length hs').at_ = cs.length from rfl, hget]
    exact step_halt rfl
  rw [hst, show lastW (toMS q cs.length hs').st 0 = (false, lastZ q.st 0) from lastW_num q.st h0]
  have hd : ∀ (m k : Nat) (t : MS), t.oc ≠ 0 → runS E us m k t = (k, t) := fun m k t ht => by
    cases m with
    | zero => rfl
    | succ m => simp only [runS, if_neg ht]
  rw [hd _ _ _ (by simp)]
  exact ⟨rfl, rfl, rfl⟩
end Go.Proofs.YtdmdpindonghdaaDoor
namespace Go.Proofs.YtdmdpindonghdaaDoor
open Go.RowKit
set_option maxRecDepth 100000 in
set_option maxHeartbeats 1000000 in
theorem sameK_any (l : List Int) (va vb : Value) (w : World) (ha : ZsAt w va l) (hb : ZsAt w vb l) (hl : l.length ≤ 17592186044416) :
    Calls Tryd.prog 26 #[va, vb] w fun e w' => e = .returned (.bool true) ∧ ∃ n, w' = w.drewN n := by
  obtain ⟨pa, ca, ea⟩ := ha.slice
  obtain ⟨pb, cb, eb⟩ := hb.slice
  subst ea
  subst eb
  have HA := hid ha
  have HB := hid hb
  clear ha hb
  go_enter Tryd.func26, Tryd.ntmps26
  go_wp2_with fail
  go_loopg [5] l.length (fun gk x w' => ∃ k : Nat, k ≤ l.length ∧ gk = l.length - k ∧ x = .int .i64 k ∧ ∃ n, w' = w.drewN n)
  case atStart => exact ⟨0, by omega, by omega, rfl, 0, rfl⟩
  case round =>
    obtain ⟨k, hk, hgk, rfl, n, rfl⟩ := hrel
    rcases Nat.lt_or_ge k l.length with hlt | hge
    · have d0 : (0 : Int) ≤ (k : Int) := by omega
      have d1 : (k : Int) < (l.length : Int) := by omega
      have d2 : (k : Int) + 1 ≤ 17592186044416 := by omega
      have hk2 : l[k]? = some l[k] := List.getElem?_eq_getElem hlt
      rcases HA.out with ⟨_, h0⟩ | ⟨ga, c1, e1, hca⟩
      · rw [h0] at hlt; simp at hlt
      rcases HB.out with ⟨_, h0⟩ | ⟨gb, c2, e2, hcb⟩
      · rw [h0] at hlt; simp at hlt
      have x1 := hca k _ hk2
      have x2 := hcb k _ hk2
      cases e1
      cases e2
      generalize l[k] = c at *
      have hne : (c != c) = false := by simp
      clear hca hcb hk2
      go_wp2_with fail
      go_quiet (fail)
      go_wp2_with fail
      go_roundg (l.length - (k + 1))
      case measure => omega
      case rel => exact ⟨k + 1, by omega, rfl, by go_num, ⟨_, rfl⟩⟩
    · have d1 : ¬ (k : Int) < (l.length : Int) := by omega
      go_wp2_with fail
      go_ret
      exact ⟨rfl, n, rfl⟩
def clipN (us : List Int) : List Int := us.map (fun u => (pickN u 100 : Int))
set_option maxRecDepth 100000 in
set_option maxHeartbeats 1000000 in
theorem clipped_any (vu : Value) (us : List Int) (w : World) (hu : ArgInts w vu us) (hl : us.length ≤ 17592186043904) (hr : ∀ u ∈ us, -9223372036854775808 ≤ u ∧ u ≤ 9223372036854775807) :
    Calls Tryd.prog 24 #[vu] w fun e w' => Below w.heap.size w w' ∧ ∃ v, e = .returned v ∧ w'.ownsRow w.heap.size 3 1 v us.length ((clipN us).map (.int .i64)) := by
  obtain ⟨i0, hi0, hz0, hz1, hz2⟩ := info_parts intInfo
  have HU := hid hu
  obtain ⟨p0, c0, e0⟩ := hu.slice
  subst e0
  have HR := hid hr
  clear hu hr
  go_enter Tryd.func24, Tryd.ntmps24
  go_wp2_with fail
  go_loopg [3, 4] us.length (fun g l x w' => ∃ k : Nat, k ≤ us.length ∧ g = us.length - k ∧ x = .int .i64 k ∧ w'.ownsRow w.heap.size 3 1 l k ((clipN (us.take k)).map (.int .i64)) ∧ Below w.heap.size w w')
  case atStart => exact ⟨0, by omega, by omega, rfl, World.ownsRow_nil _ _ _ _, Below.refl _ _⟩
  case round =>
    obtain ⟨k, hk, hg, rfl, hown, hbel⟩ := hrel
    have hz := hbel.size
    have HB := hid hbel
    rcases Nat.lt_or_ge k us.length with hlt | hge
    · have d1 : (k : Int) < (us.length : Int) := by omega
      have d0 : (0 : Int) ≤ (k : Int) := by omega
      have d2 : (k : Int) + 1 ≤ 17592186044416 := by omega
      rcases (HU.out.keep hbel) with ⟨_, h0⟩ | ⟨a, cap, hv, hcell, _⟩
      · rw [h0] at hlt; simp at hlt
      cases hv
      have y0 := hcell k us[k] (List.getElem?_eq_getElem hlt)
      obtain ⟨m1, m2⟩ := HR.out us[k] (List.getElem_mem hlt)
      have hp := hid (pick_any us[k] 100 wr m1 m2 (by omega) (by omega))
      have HNX : Hid ((clipN (us.take (k + 1))).map (Value.int .i64) = (clipN (us.take k)).map (Value.int .i64) ++ [.int .i64 (pickN us[k] 100)]) := hid (by
        unfold clipN
        rw [List.take_succ_eq_append_getElem hlt, List.map_append, List.map_append]
        rfl)
      clear hcell hbel m1 m2
      generalize us[k] = u at *
      generalize (clipN (us.take k)).map (Value.int .i64) = R at *
      go_wp2_with fail
      refine hp.out.mono ?_
      clear hp
      intro e w5 hh
      obtain ⟨hx, hw⟩ := hh
      subst e
      subst w5
      generalize ((pickN u 100 : Nat) : Int) = qv at *
      go_wp2_with (at_builtin; go_must (refine wpList_append_lies _ (by rfl) _ _ _ (by rfl) w.heap.size 3 i0 _ 1 8 Tryd.underlying33 hi0 hz0 hz1 hz2 rfl (by omega) _ k R (by rfl) (hown.alloc _) ⟨wr.heap.size, 0, none⟩ 1 1 [.int .i64 qv] (by rfl) (by rfl) (World.news_of_block (cs := #[.int .i64 qv]) (t := 3) (fr := (0, 0)) (heap_alloc_new wr _)) (by simp [Value.oneCell']) (by omega) (by unfold maxLen; omega) (by omega) (by simp; omega) _ rfl ?_); intro gg gcap w6 hown6 hgrow6 hat6 hlt6)
      go_roundg (us.length - (k + 1))
      case measure => omega
      case rel =>
        refine ⟨k + 1, by omega, rfl, by go_num, ?_, ?_⟩
        · rw [HNX.out]
          exact hown6
        · exact (HB.out.alloc hz _).grown hgrow6 (by simp; omega) (fun j hj => (hown.lt j hj).1)
    · have d1 : ¬ (k : Int) < (us.length : Int) := by omega
      have hke : k = us.length := by omega
      have HO : Hid (wr.ownsRow w.heap.size 3 1 u3 us.length ((clipN us).map (.int .i64))) := hid (by
        rw [List.take_of_length_le (by omega), hke] at hown
        exact hown)
      clear hown hbel hke
      go_wp2_with fail
      go_ret
      exact ⟨HB.out, _, rfl, HO.out⟩
end Go.Proofs.YtdmdpindonghdaaDoor
namespace Go.Proofs.YtdmdpindonghdaaDoor
open Go.RowKit
theorem clip_fits (us : List Int) : (clipN us).all fitsB = true := by
  rw [List.all_eq_true]
  intro x hx
  obtain ⟨u, _, rfl⟩ := List.mem_map.1 hx
  have := pickN_lt u (n := 100) (by omega)
  unfold fitsB
  simp only [Bool.and_eq_true, decide_eq_true_eq]
  omega
theorem clip_len (us : List Int) : (clipN us).length = us.length := by simp [clipN]
theorem zsK_owns {w : World} {base : Nat} {v : Value} {o : List Int} (h : w.ownsRow base 3 1 v o.length (o.map (.int .i64))) : ZsAt w v o := by
  rcases h.2 with ⟨h1, h2⟩ | ⟨g, cap, cur, hv, hg, hh, h3, h4, h5, h6⟩
  · exact .inl ⟨h1, List.length_eq_zero_iff.1 h2⟩
  · refine .inr ⟨⟨g, 0, none⟩, cap, hv, fun j x hj => ?_⟩
    have hjl := (List.getElem?_eq_some_iff.1 hj).1
    rw [addr_add, cell_of_row w g j _ _ _ hh]
    rw [Nat.mul_one] at h6
    have : (cur.toList.take o.length)[j]? = (o.map (Value.int .i64))[j]? := by rw [h6]
    rw [List.getElem?_take, if_pos hjl, List.getElem?_map, hj, Array.getElem?_toList] at this
    exact this
theorem zsK_below {w w' : World} {v : Value} {zs : List Int} (h : ZsAt w v zs) (hb : Below w.heap.size w w') : ZsAt w' v zs := by
  rcases h with h | ⟨a, cap, hv, hc⟩
  · exact .inl h
  · exact .inr ⟨a, cap, hv, fun j x hj => (hb.cell (p := a.add j) (World.block_lt_of_cell? w _ (hc j x hj))).trans (hc j x hj)⟩
theorem argsK_owns {w : World} {base : Nat} {v : Value} {o : List Int} (h : w.ownsRow base 3 1 v o.length (o.map (.int .i64))) : ArgInts w v o := by
  rcases zsK_owns h with h1 | ⟨a, cap, hv, hc⟩
  · exact .inl h1
  · refine .inr ⟨a, cap, hv, hc, fun hp => ?_⟩
    have hx : o[0]? = some o[0] := List.getElem?_eq_getElem hp
    have := World.block_lt_of_cell? w _ (hc 0 _ hx)
    rw [addK_block] at this
    exact this
/-- The program's machine lies above B, and not where n2 ≤ k < N. -/
def PN (B n2 N : Nat) (W : World) (K : PK) (t : MS) : Prop := ∃ F, PX W K F t ∧ (∀ k, F k → B ≤ k ∧ (k < n2 ∨ N ≤ k)) ∧ B ≤ n2 ∧ n2 ≤ N ∧ N ≤ W.heap.size
def KeepN (n2 N : Nat) (w w' : World) : Prop := ∀ k, n2 ≤ k → k < N → w'.heap[k]? = w.heap[k]?
theorem PN.next {B n2 N : Nat} {w w' : World} {K : PK} {F : Nat → Prop} {t : MS} (hF : ∀ k, F k → B ≤ k ∧ (k < n2 ∨ N ≤ k)) (h1 : B ≤ n2) (h2 : n2 ≤ N) (h3 : N ≤ w.heap.size) (hp : PX w' K (Grown F w w') t) (ht : Touch F w w') : PN B n2 N w' K t ∧ KeepN n2 N w w' ∧ Below B w w' := by
  refine ⟨⟨_, hp, ?_, h1, h2, Nat.le_trans h3 ht.size⟩, fun k hk1 hk2 => ht.block k (by omega) (fun hf => by have := (hF k hf).2; omega), ht.sub (fun k hk => (hF k hk).1) (by omega)⟩
  rintro k (h | h)
  · exact hF k h
  · exact ⟨by omega, .inr (by omega)⟩
theorem pn_step {B n2 N : Nat} {w : World} {K : PK} {E : Env} {s : MS} (h : PN B n2 N w K s) (hke : KE K E) (he : EnvOk E) (hi : MInv E s) (hoc : s.oc = 0) (hz : E.zs.length ≤ 64) (hlen : s.out.length ≤ 8796093022208) :
    Calls Tryd.prog 50 #[.pointer (some ⟨K.b, 0, none⟩)] w fun e w' => e = .returned (.tuple #[.int .i64 (stepS E s).oc, .int .i64 0]) ∧ PN B n2 N w' K (stepS E s) ∧ KeepN n2 N w w' ∧ Below B w w' := by
  obtain ⟨F, h1, h2, h3, h4, h5⟩ := h
  refine (pstep_x h1 hke he hi hoc hz hlen).mono ?_
  rintro e w' ⟨a, b, c⟩
  exact ⟨a, PN.next h2 h3 h4 h5 b c⟩
theorem pn_coll {B n2 N : Nat} {w : World} {K : PK} {E : Env} {s : MS} (h : PN B n2 N w K s) (hke : KE K E) (he : EnvOk E) (hi : MInv E s) (n : Nat) (hn : n ≤ 1000) :
    Calls Tryd.prog 52 #[.pointer (some ⟨K.b, 0, none⟩), .int .i64 n] w fun e w' => e = .returned (.tuple #[.int .i64 (collS E n s).hs.2.1, .int .i64 0]) ∧ PN B n2 N w' K (collS E n s) ∧ KeepN n2 N w w' ∧ Below B w w' := by
  obtain ⟨F, h1, h2, h3, h4, h5⟩ := h
  refine (pcollect_x h1 hke he hi n hn).mono ?_
  rintro e w' ⟨a, b, c⟩
  exact ⟨a, PN.next h2 h3 h4 h5 (b.mono (fun _ h => .inl h)) c⟩
theorem PN.of {B : Nat} {w W : World} {K : PK} {s : MS} (h : PR B w K s) (hb : Below w.heap.size w W) : PN B w.heap.size W.heap.size W K s := by
  obtain ⟨F, h1, h2, h3⟩ := h
  exact ⟨_, h1.bound.below hb, fun k hk => ⟨h2 k hk.1, .inl hk.2⟩, h3, hb.size, Nat.le_refl _⟩
/-- Numbers in memory between n2 and N. -/
def ArgN (n2 N : Nat) (w : World) (v : Value) (zs : List Int) : Prop := ArgInts w v zs ∧ ∀ a n c, v = .slice (some a) n c → 0 < n → n2 ≤ a.block ∧ a.block < N
theorem ArgN.keep {n2 N : Nat} {w w' : World} {v : Value} {zs : List Int} (h : ArgN n2 N w v zs) (hk : KeepN n2 N w w') (hz : w.heap.size ≤ w'.heap.size) : ArgN n2 N w' v zs := by
  refine ⟨?_, h.2⟩
  rcases h.1 with h1 | ⟨a, cap, hv, hc, hl⟩
  · exact .inl h1
  · refine .inr ⟨a, cap, hv, fun j x hj => ?_, fun hp => Nat.lt_of_lt_of_le (hl hp) hz⟩
    have hz : 0 < zs.length := by have := (List.getElem?_eq_some_iff.1 hj).1; omega
    obtain ⟨g1, g2⟩ := h.2 a _ _ hv hz
    exact (World.cell?_of_block (a := a.add j) (by rw [addK_block]; exact hk _ g1 g2)).trans (hc j x hj)
theorem KeepN.trans {n2 N : Nat} {w w' w'' : World} (h : KeepN n2 N w w') (h' : KeepN n2 N w' w'') : KeepN n2 N w w'' := fun k a b => (h' k a b).trans (h k a b)
/-- What the loop of steps by hand comes to. -/
theorem run_done (E : Env) (us : List Int) (f k : Nat) (t : MS) (h : t.oc ≠ 0) : runS E us f k t = (k, t) := by
  cases f with
  | zero => rfl
  | succ f => simp only [runS, if_neg h]
end Go.Proofs.YtdmdpindonghdaaDoor
namespace Go.Proofs.YtdmdpindonghdaaDoor
open Go.RowKit
theorem conv1 (w : World) (a0 : Int) : (convert 101 9 (.slice (some ⟨w.heap.size, 0, none⟩) 1 1)).run Tryd.prog (w.alloc (.cells #[.int .u8 a0] 5)) = .ok (.string (strOfNums [a0])) (w.alloc (.cells #[.int .u8 a0] 5)) := by
  refine run_convert_bytes_arg (P := Tryd.prog) _ 101 5 Tryd.underlying101 Tryd.underlying5 w.heap.size 0 1 1 [a0] rfl (fun i hi => ?_) 9 Tryd.underlying9
  rw [Nat.zero_add, cell_of_row _ w.heap.size i _ _ _ (heap_alloc_new w (.cells #[.int .u8 a0] 5))]
  exact conv_get [a0] i hi
theorem conv1d (w : World) (a0 : Int) : (convert 101 9 (.slice (some ⟨w.heap.size, 0, none⟩) 1 1)).run Tryd.prog (w.alloc (.cells #[.int .u8 a0] 5)).drew = .ok (.string (strOfNums [a0])) (w.alloc (.cells #[.int .u8 a0] 5)).drew := conv1 w.drew a0
attribute [local go_sem] conv1 conv1d
def smRow (tx : ByteArray) (vS vO vI : Value) (loc : Int) (rd : Nat) : Array Value := #[.string tx, vS, .int .i64 loc, vO, vI, .int .i64 rd]
/-- A Sum in memory. -/
structure SmAt (w : World) (b base : Nat) (tx : ByteArray) (vS vO vI : Value) (zs : List Int) (q : Sx) : Prop where
  row : w.heap[b]? = some (.cells (smRow tx vS vO vI q.loc q.rd) 42)
  st : w.ownsRow base 3 1 vS q.st.length (q.st.map (.int .i64))
  out : w.ownsRow base 3 1 vO q.out.length (q.out.map (.int .i64))
  sb : vS.ownBlock ≠ some b
  ob : vO.ownBlock ≠ some b
  so : ∀ g, vS.ownBlock = some g → vO.ownBlock ≠ some g
  bb : base ≤ b
  inp : ArgInts w vI zs
  inb : ∀ a n c, vI = .slice (some a) n c → 0 < n → a.block < base
theorem ArgInts.under {w w' : World} {v : Value} {zs : List Int} {base : Nat} (h : ArgInts w v zs) (hb : ∀ a n c, v = .slice (some a) n c → 0 < n → a.block < base) (hB : Below base w w') : ArgInts w' v zs := by
  rcases h with h | ⟨a, cap, hv, hc, hl⟩
  · exact .inl h
  · refine .inr ⟨a, cap, hv, fun j x hj => ?_, fun h0 => Nat.lt_of_lt_of_le (hl h0) hB.size⟩
    have h0 : 0 < zs.length := by have := (List.getElem?_eq_some_iff.1 hj).1; omega
    exact (hB.cell (p := a.add j) (by rw [addK_block]; exact hb a _ _ hv h0)).trans (hc j x hj)
theorem SmAt.below {w w' : World} {b base : Nat} {tx : ByteArray} {vS vO vI : Value} {zs : List Int} {q : Sx} (h : SmAt w b base tx vS vO vI zs q) (hb : Below w.heap.size w w') : SmAt w' b base tx vS vO vI zs q :=
  ⟨(hb.block b (Array.getElem?_eq_some_iff.1 h.row).1).trans h.row, owns_keep h.st (fun g hg => hb.block g (h.st.lt g hg).2), owns_keep h.out (fun g hg => hb.block g (h.out.lt g hg).2), h.sb, h.ob, h.so, h.bb, h.inp.keep hb, h.inb⟩
theorem SmAt.lt {w : World} {b base : Nat} {tx : ByteArray} {vS vO vI : Value} {zs : List Int} {q : Sx} (h : SmAt w b base tx vS vO vI zs q) : b < w.heap.size := (Array.getElem?_eq_some_iff.1 h.row).1
/-- A field of the box is written: nothing else turns. -/
theorem SmAt.field {w : World} {b base : Nat} {tx : ByteArray} {vS vO vI : Value} {zs : List Int} {q : Sx} (h : SmAt w b base tx vS vO vI zs q) (j : Nat) (v : Value) {tx' : ByteArray} {loc' : Int} {rd' : Nat} (hr : (smRow tx vS vO vI q.loc q.rd).setIfInBounds j v = smRow tx' vS vO vI loc' rd') :
    SmAt (w.setCell ⟨b, j, none⟩ v) b base tx' vS vO vI zs { q with loc := loc', rd := rd' } ∧ Below base w (w.setCell ⟨b, j, none⟩ v) := by
  have ho : Only b w (w.setCell ⟨b, j, none⟩ v) := (Only.refl _ _).set _ _
  have hB : Below base w (w.setCell ⟨b, j, none⟩ v) := ⟨ho.os, ho.tape, ho.output, by rw [ho.size]; exact Nat.le_refl _, fun k hk => ho.block k (by have := h.bb; omega)⟩
  refine ⟨⟨?_, owns_keep h.st (fun g hg => ho.block g (fun e => h.sb (by rw [hg, e]))), owns_keep h.out (fun g hg => ho.block g (fun e => h.ob (by rw [hg, e]))), h.sb, h.ob, h.so, h.bb, h.inp.under h.inb hB, h.inb⟩, hB⟩
  have := setCell_row j v h.row
  rw [this, hr]
def SmPost (b base : Nat) (tx : ByteArray) (vI : Value) (zs : List Int) (q : Sx) (w : World) (e : Ending) (w' : World) : Prop := e = .returned (.tuple #[]) ∧ ∃ vS vO, SmAt w' b base tx vS vO vI zs q ∧ Below base w w'
def SmPostC (b base : Nat) (tx : ByteArray) (vS vO vI : Value) (zs : List Int) (q : Sx) (w : World) (e : Ending) (w' : World) : Prop := e = .returned (.tuple #[]) ∧ SmAt w' b base tx vS vO vI zs q ∧ Below base w w'
theorem SmAt.cells {w : World} {b base : Nat} {tx : ByteArray} {vS vO vI : Value} {zs : List Int} {q : Sx} (h : SmAt w b base tx vS vO vI zs q) : w.cell? ⟨b, 0, none⟩ = some (.string tx) ∧ w.cell? ⟨b, 1, none⟩ = some vS ∧ w.cell? ⟨b, 2, none⟩ = some (.int .i64 q.loc) ∧ w.cell? ⟨b, 3, none⟩ = some vO ∧ w.cell? ⟨b, 4, none⟩ = some vI ∧ w.cell? ⟨b, 5, none⟩ = some (.int .i64 q.rd) := by
  refine ⟨?_, ?_, ?_, ?_, ?_, ?_⟩
  all_goals rw [cell_of_row w b _ _ _ _ h.row]; rfl
theorem SmAt.frz {w : World} {b base : Nat} {tx : ByteArray} {vS vO vI : Value} {zs : List Int} {q : Sx} (h : SmAt w b base tx vS vO vI zs q) (j : Nat) : w.frozen? ⟨b, j, none⟩ = false := frozen_of_row w b j _ _ h.row
set_option maxRecDepth 100000 in
set_option maxHeartbeats 1000000 in
theorem sumCode_any (op : Nat) {w : World} {b base : Nat} {tx : ByteArray} {vS vO vI : Value} {zs : List Int} {q : Sx} (h : SmAt w b base tx vS vO vI zs q) (hz : tx.size ≤ 1000) :
    Calls Tryd.prog 23 #[.pointer (some ⟨b, 0, none⟩), .int .u8 op] w (SmPostC b base (tx ++ strOfNums [(op : Int)]) vS vO vI zs q w) := by
  obtain ⟨x0, _⟩ := h.cells
  have f0 := h.frz 0
  have hlt := h.lt
  have hf := h.field 0 (.string (tx ++ strOfNums [(op : Int)])) (tx' := tx ++ strOfNums [(op : Int)]) (loc' := q.loc) (rd' := q.rd) (by simp [smRow])
  have hb1 : Below (w.setCell ⟨b, 0, none⟩ (.string (tx ++ strOfNums [(op : Int)]))).heap.size (w.setCell ⟨b, 0, none⟩ (.string (tx ++ strOfNums [(op : Int)]))) (((w.setCell ⟨b, 0, none⟩ (.string (tx ++ strOfNums [(op : Int)]))).alloc (.cells #[.int .u8 op] 5)).drew) := ((Below.refl _ _).alloc (Nat.le_refl _) _).drew
  have HF : Hid (SmPostC b base (tx ++ strOfNums [(op : Int)]) vS vO vI zs q w (.returned (.tuple #[])) (((w.setCell ⟨b, 0, none⟩ (.string (tx ++ strOfNums [(op : Int)]))).alloc (.cells #[.int .u8 op] 5)).drew)) := hid ⟨rfl, hf.1.below hb1, hf.2.trans (hb1.mono (by have := hf.1.lt; have := h.bb; omega))⟩
  have hsz : ¬ 9223372036854775807 < tx.size + (strOfNums [(op : Int)]).size := by rw [strOfNums_size]; simp only [List.length_cons, List.length_nil]; omega
  clear h hf hb1
  go_enter Tryd.func23, Tryd.ntmps23
  go_wp2_with fail
  go_region
  all_goals go_end0
  all_goals exact HF.out
end Go.Proofs.YtdmdpindonghdaaDoor
namespace Go.Proofs.YtdmdpindonghdaaDoor
open Go.RowKit
theorem below_dnA (w : World) (m : Nat) : Below w.heap.size w (w.drewN m) := ⟨rfl, rfl, rfl, Nat.le_refl _, fun _ _ => rfl⟩
theorem grown_below {w w6 : World} {o : Obj} {base : Nat} {own : Option Nat} (hg : (w.alloc o).grownBy w6 own) (hb : base ≤ w.heap.size) (ho : ∀ g, own = some g → base ≤ g) : Below base w w6 :=
  ⟨hg.os, hg.tape, hg.output, by have := hg.size; rw [alloc_size] at this; omega, fun k hk => by
    rw [hg.block k (by rw [alloc_size]; omega) (fun e => by have := ho k e.symm; omega)]
    exact heap_alloc_old _ _ (by omega)⟩
theorem SmAt.push {w w6 : World} {b base gg gcap : Nat} {tx : ByteArray} {vS vO vI : Value} {zs : List Int} {q : Sx} {o : Obj} {v : Int} (h : SmAt w b base tx vS vO vI zs q) (hgrow : (w.alloc o).grownBy w6 vS.ownBlock)
    (hown : w6.ownsRow base 3 1 (.slice (some ⟨gg, 0, none⟩) (q.st.length + 1) gcap) (q.st.length + 1) (q.st.map (.int .i64) ++ [.int .i64 v])) (hat : vS.ownBlock = some gg ∨ gg = (w.alloc o).heap.size) :
    SmAt (w6.setCell ⟨b, 1, none⟩ (.slice (some ⟨gg, 0, none⟩) (q.st.length + 1) gcap)) b base tx (.slice (some ⟨gg, 0, none⟩) (q.st.length + 1) gcap) vO vI zs { q with st := q.st ++ [v] } ∧ Below base w (w6.setCell ⟨b, 1, none⟩ (.slice (some ⟨gg, 0, none⟩) (q.st.length + 1) gcap)) := by
  have hlt := h.lt
  have hbb := h.bb
  have hB6 := grown_below hgrow (by omega) (fun g e => (h.st.lt g e).1)
  have hblk : ∀ k, k < w.heap.size → vS.ownBlock ≠ some k → w6.heap[k]? = w.heap[k]? := fun k hk hn => by
    rw [hgrow.block k (by rw [alloc_size]; omega) (fun e => hn e.symm)]
    exact heap_alloc_old _ _ hk
  have ho : Only b w6 (w6.setCell ⟨b, 1, none⟩ (.slice (some ⟨gg, 0, none⟩) (q.st.length + 1) gcap)) := (Only.refl _ _).set _ _
  have hgb : gg ≠ b := fun e => by
    rcases hat with h1 | h1
    · exact h.sb (by rw [h1, e])
    · rw [alloc_size] at h1; omega
  have hB7 : Below base w6 (w6.setCell ⟨b, 1, none⟩ (.slice (some ⟨gg, 0, none⟩) (q.st.length + 1) gcap)) := ⟨ho.os, ho.tape, ho.output, by rw [ho.size]; exact Nat.le_refl _, fun k hk => ho.block k (by omega)⟩
  have hB := hB6.trans hB7
  refine ⟨⟨?_, ?_, ?_, ?_, h.ob, ?_, hbb, h.inp.under h.inb hB, h.inb⟩, hB⟩
  · have := setCell_row 1 (.slice (some ⟨gg, 0, none⟩) (q.st.length + 1) gcap) ((hblk b hlt h.sb).trans h.row)
    rw [this]
    simp [smRow]
  · have h1 := owns_keep hown (w' := w6.setCell ⟨b, 1, none⟩ (.slice (some ⟨gg, 0, none⟩) (q.st.length + 1) gcap)) (fun g hg => ho.block g (by
      simp only [Value.ownBlock, Option.some.injEq] at hg
      rw [← hg]; exact hgb))
    simpa using h1
  · refine owns_keep h.out (fun g hg => (ho.block g (fun e => h.ob (by rw [hg, e]))).trans (hblk g (h.out.lt g hg).2 (fun e => h.so g e hg)))
  · simp only [Value.ownBlock, ne_eq, Option.some.injEq]; exact hgb
  · intro g hg hg2
    simp only [Value.ownBlock, Option.some.injEq] at hg
    subst hg
    rcases hat with h1 | h1
    · exact h.so gg h1 hg2
    · have := (h.out.lt gg hg2).2
      rw [alloc_size] at h1; omega
theorem SmAt.pushO {w w6 : World} {b base gg gcap : Nat} {tx : ByteArray} {vS vO vI : Value} {zs : List Int} {q : Sx} {o : Obj} {v : Int} (h : SmAt w b base tx vS vO vI zs q) (hgrow : (w.alloc o).grownBy w6 vO.ownBlock)
    (hown : w6.ownsRow base 3 1 (.slice (some ⟨gg, 0, none⟩) (q.out.length + 1) gcap) (q.out.length + 1) (q.out.map (.int .i64) ++ [.int .i64 v])) (hat : vO.ownBlock = some gg ∨ gg = (w.alloc o).heap.size) :
    SmAt (w6.setCell ⟨b, 3, none⟩ (.slice (some ⟨gg, 0, none⟩) (q.out.length + 1) gcap)) b base tx vS (.slice (some ⟨gg, 0, none⟩) (q.out.length + 1) gcap) vI zs { q with out := q.out ++ [v] } ∧ Below base w (w6.setCell ⟨b, 3, none⟩ (.slice (some ⟨gg, 0, none⟩) (q.out.length + 1) gcap)) := by
  have hlt := h.lt
  have hbb := h.bb
  have hB6 := grown_below hgrow (by omega) (fun g e => (h.out.lt g e).1)
  have hblk : ∀ k, k < w.heap.size → vO.ownBlock ≠ some k → w6.heap[k]? = w.heap[k]? := fun k hk hn => by
    rw [hgrow.block k (by rw [alloc_size]; omega) (fun e => hn e.symm)]
    exact heap_alloc_old _ _ hk
  have ho : Only b w6 (w6.setCell ⟨b, 3, none⟩ (.slice (some ⟨gg, 0, none⟩) (q.out.length + 1) gcap)) := (Only.refl _ _).set _ _
  have hgb : gg ≠ b := fun e => by
    rcases hat with h1 | h1
    · exact h.ob (by rw [h1, e])
    · rw [alloc_size] at h1; omega
  have hB7 : Below base w6 (w6.setCell ⟨b, 3, none⟩ (.slice (some ⟨gg, 0, none⟩) (q.out.length + 1) gcap)) := ⟨ho.os, ho.tape, ho.output, by rw [ho.size]; exact Nat.le_refl _, fun k hk => ho.block k (by omega)⟩
  have hB := hB6.trans hB7
  refine ⟨⟨?_, ?_, ?_, h.sb, ?_, ?_, hbb, h.inp.under h.inb hB, h.inb⟩, hB⟩
  · have := setCell_row 3 (.slice (some ⟨gg, 0, none⟩) (q.out.length + 1) gcap) ((hblk b hlt h.ob).trans h.row)
    rw [this]
    simp [smRow]
  · refine owns_keep h.st (fun g hg => (ho.block g (fun e => h.sb (by rw [hg, e]))).trans (hblk g (h.st.lt g hg).2 (h.so g hg)))
  · have h1 := owns_keep hown (w' := w6.setCell ⟨b, 3, none⟩ (.slice (some ⟨gg, 0, none⟩) (q.out.length + 1) gcap)) (fun g hg => ho.block g (by
      simp only [Value.ownBlock, Option.some.injEq] at hg
      rw [← hg]; exact hgb))
    simpa using h1
  · simp only [Value.ownBlock, ne_eq, Option.some.injEq]; exact hgb
  · intro g hg hg2
    simp only [Value.ownBlock, Option.some.injEq] at hg2
    subst hg2
    rcases hat with h1 | h1
    · exact h.so gg hg h1
    · have := (h.st.lt gg hg).2
      rw [alloc_size] at h1; omega
theorem SmAt.sSlice {w : World} {b base : Nat} {tx : ByteArray} {vS vO vI : Value} {zs : List Int} {q : Sx} (h : SmAt w b base tx vS vO vI zs q) : ∃ p c, vS = .slice p q.st.length c := owns_slice h.st
set_option maxRecDepth 100000 in
set_option maxHeartbeats 4000000 in
theorem more_byte (k c : Nat) {w : World} {b base : Nat} {tx : ByteArray} {vS vO vI : Value} {zs : List Int} {q : Sx} (h : SmAt w b base tx vS vO vI zs q) (hz : tx.size ≤ 990) (hk : k = 0 ∨ k = 1) (hc : c < 256) (hl : q.st.length < 8) :
    Calls Tryd.prog 20 #[.pointer (some ⟨b, 0, none⟩), .int .i64 k, .int .i64 c] w (SmPost b base (tx ++ strOfNums [1] ++ strOfNums [(c : Int)]) vI zs { q with st := q.st ++ [((c : Int) + 128) % 256 - 128] } w) := by
  obtain ⟨pS, cS, eS⟩ := h.sSlice
  subst eS
  have x1 := h.cells.2.1
  have d1 : ¬ (8 : Int) ≤ (q.st.length : Int) := by omega
  have hz2 : (tx ++ strOfNums [1]).size ≤ 1000 := by
    rw [ByteArray.size_append, strOfNums_size]
    simp only [List.length_cons, List.length_nil]
    omega
  have c1 := hid (show Calls Tryd.prog 23 #[.pointer (some ⟨b, 0, none⟩), .int .u8 1] w (SmPostC b base (tx ++ strOfNums [1]) (.slice pS q.st.length cS) vO vI zs q w) from sumCode_any 1 h (by omega))
  have c2 := hid (fun (W : World) (hW : SmAt W b base (tx ++ strOfNums [1]) (.slice pS q.st.length cS) vO vI zs q) => sumCode_any c hW hz2)
  obtain ⟨i0', hi0, hz0, hz1, hz3⟩ := info_parts intInfo
  have c256 : (c : Int) < 256 := by omega
  clear h
  rcases Nat.lt_or_ge 127 c with hb | hb
  · rw [show ((c : Int) + 128) % 256 - 128 = (c : Int) - 256 by omega]
    have e1 : (127 : Int) < (c : Int) := by omega
    rcases hk with rfl | rfl
    all_goals
      go_enter Tryd.func20, Tryd.ntmps20
      go_wp2_with fail
      refine c1.out.mono ?_
      clear c1
      intro e w2 hh
      obtain ⟨hx, hS2, hB2⟩ := hh
      subst e
      have c3 := hid (c2.out w2 hS2)
      clear c2 hS2
      have HB2 := hid hB2
      clear hB2 x1
      go_wp2_with fail
      refine c3.out.mono ?_
      clear c3
      intro e w3 hh
      obtain ⟨hx, hS3, hB3⟩ := hh
      subst e
      have HB := hid (HB2.out.trans hB3)
      clear hB3 HB2
      obtain ⟨x1', f1'⟩ : w3.cell? ⟨b, 1, none⟩ = some (.slice pS q.st.length cS) ∧ w3.frozen? ⟨b, 1, none⟩ = false := ⟨hS3.cells.2.1, hS3.frz 1⟩
      have hown := hS3.st
      have hlt := hS3.lt
      have hbb := hS3.bb
      have hfar : some b ≠ (Value.slice pS q.st.length cS).ownBlock := fun e => hS3.sb e.symm
      have HS := hid hS3
      clear hS3
      go_wp2_with (at_builtin; go_must (refine wpList_append_lies _ (by rfl) _ _ _ (by rfl) base 3 i0' _ 1 8 Tryd.underlying33 hi0 hz0 hz1 hz3 rfl (by omega) _ q.st.length (q.st.map (.int .i64)) (by rfl) (hown.alloc _) ⟨w3.heap.size, 0, none⟩ 1 1 [.int .i64 ((c : Int) - 256)] (by rfl) (by rfl) (World.news_of_block (cs := #[.int .i64 ((c : Int) - 256)]) (t := 3) (fr := (0, 0)) (heap_alloc_new w3 _)) (by simp [Value.oneCell']) (by omega) (by unfold maxLen; omega) (by omega) (by simp; omega) _ rfl ?_); intro gg gcap w6 hown6 hgrow6 hat6 hlt6; have s2 := (hgrow6.cell_far ⟨b, 1, none⟩ (by simp; omega) hfar); have s3 := (hgrow6.frozen_far ⟨b, 1, none⟩ (by simp; omega) hfar))
      have HFN := hid (HS.out.push hgrow6 hown6 hat6)
      go_end0
      exact ⟨rfl, _, _, HFN.out.1, HB.out.trans HFN.out.2⟩
  · rw [show ((c : Int) + 128) % 256 - 128 = (c : Int) by omega]
    have e1 : ¬ (127 : Int) < (c : Int) := by omega
    rcases hk with rfl | rfl
    all_goals
      go_enter Tryd.func20, Tryd.ntmps20
      go_wp2_with fail
      refine c1.out.mono ?_
      clear c1
      intro e w2 hh
      obtain ⟨hx, hS2, hB2⟩ := hh
      subst e
      have c3 := hid (c2.out w2 hS2)
      clear c2 hS2
      have HB2 := hid hB2
      clear hB2 x1
      go_wp2_with fail
      refine c3.out.mono ?_
      clear c3
      intro e w3 hh
      obtain ⟨hx, hS3, hB3⟩ := hh
      subst e
      have HB := hid (HB2.out.trans hB3)
      clear hB3 HB2
      obtain ⟨x1', f1'⟩ : w3.cell? ⟨b, 1, none⟩ = some (.slice pS q.st.length cS) ∧ w3.frozen? ⟨b, 1, none⟩ = false := ⟨hS3.cells.2.1, hS3.frz 1⟩
      have hown := hS3.st
      have hlt := hS3.lt
      have hbb := hS3.bb
      have hfar : some b ≠ (Value.slice pS q.st.length cS).ownBlock := fun e => hS3.sb e.symm
      have HS := hid hS3
      clear hS3
      go_wp2_with (at_builtin; go_must (refine wpList_append_lies _ (by rfl) _ _ _ (by rfl) base 3 i0' _ 1 8 Tryd.underlying33 hi0 hz0 hz1 hz3 rfl (by omega) _ q.st.length (q.st.map (.int .i64)) (by rfl) (hown.alloc _) ⟨w3.heap.size, 0, none⟩ 1 1 [.int .i64 ((c : Int))] (by rfl) (by rfl) (World.news_of_block (cs := #[.int .i64 ((c : Int))]) (t := 3) (fr := (0, 0)) (heap_alloc_new w3 _)) (by simp [Value.oneCell']) (by omega) (by unfold maxLen; omega) (by omega) (by simp; omega) _ rfl ?_); intro gg gcap w6 hown6 hgrow6 hat6 hlt6; have s2 := (hgrow6.cell_far ⟨b, 1, none⟩ (by simp; omega) hfar); have s3 := (hgrow6.frozen_far ⟨b, 1, none⟩ (by simp; omega) hfar))
      have HFN := hid (HS.out.push hgrow6 hown6 hat6)
      go_end0
      exact ⟨rfl, _, _, HFN.out.1, HB.out.trans HFN.out.2⟩
set_option maxRecDepth 100000 in
set_option maxHeartbeats 4000000 in
theorem more_load {w : World} {b base : Nat} {tx : ByteArray} {vS vO vI : Value} {zs : List Int} {q : Sx} (h : SmAt w b base tx vS vO vI zs q) (hz : tx.size ≤ 990) (hl : q.st.length < 8) (c : Int) :
    Calls Tryd.prog 20 #[.pointer (some ⟨b, 0, none⟩), .int .i64 8, .int .i64 c] w (SmPost b base (tx ++ strOfNums [7] ++ strOfNums [0]) vI zs { q with st := q.st ++ [q.loc] } w) := by
  obtain ⟨pS, cS, eS⟩ := h.sSlice
  subst eS
  have x1 := h.cells.2.1
  have x2 := h.cells.2.2.1
  have d1 : ¬ (8 : Int) ≤ (q.st.length : Int) := by omega
  have hz2 : (tx ++ strOfNums [7]).size ≤ 1000 := by
    rw [ByteArray.size_append, strOfNums_size]
    simp only [List.length_cons, List.length_nil]
    omega
  have c1 := hid (show Calls Tryd.prog 23 #[.pointer (some ⟨b, 0, none⟩), .int .u8 7] w (SmPostC b base (tx ++ strOfNums [7]) (.slice pS q.st.length cS) vO vI zs q w) from sumCode_any 7 h (by omega))
  have c2 := hid (fun (W : World) (hW : SmAt W b base (tx ++ strOfNums [7]) (.slice pS q.st.length cS) vO vI zs q) => (show Calls Tryd.prog 23 #[.pointer (some ⟨b, 0, none⟩), .int .u8 0] W (SmPostC b base (tx ++ strOfNums [7] ++ strOfNums [0]) (.slice pS q.st.length cS) vO vI zs q W) from sumCode_any 0 hW hz2))
  obtain ⟨i0', hi0, hz0, hz1, hz3⟩ := info_parts intInfo
  clear h
  go_enter Tryd.func20, Tryd.ntmps20
  go_wp2_with fail
  refine c1.out.mono ?_
  clear c1
  intro e w2 hh
  obtain ⟨hx, hS2, hB2⟩ := hh
  subst e
  have c3 := hid (c2.out w2 hS2)
  clear c2 hS2
  have HB2 := hid hB2
  clear hB2 x1 x2
  go_wp2_with fail
  refine c3.out.mono ?_
  clear c3
  intro e w3 hh
  obtain ⟨hx, hS3, hB3⟩ := hh
  subst e
  have HB := hid (HB2.out.trans hB3)
  clear hB3 HB2
  obtain ⟨x1', f1'⟩ : w3.cell? ⟨b, 1, none⟩ = some (.slice pS q.st.length cS) ∧ w3.frozen? ⟨b, 1, none⟩ = false := ⟨hS3.cells.2.1, hS3.frz 1⟩
  have hown := hS3.st
  have hlt := hS3.lt
  have hbb := hS3.bb
  have hfar : some b ≠ (Value.slice pS q.st.length cS).ownBlock := fun e => hS3.sb e.symm
  have HS := hid hS3
  clear hS3
  go_wp2_with (at_builtin; go_must (refine wpList_append_lies _ (by rfl) _ _ _ (by rfl) base 3 i0' _ 1 8 Tryd.underlying33 hi0 hz0 hz1 hz3 rfl (by omega) _ q.st.length (q.st.map (.int .i64)) (by rfl) (hown.alloc _) ⟨w3.heap.size, 0, none⟩ 1 1 [.int .i64 (q.loc)] (by rfl) (by rfl) (World.news_of_block (cs := #[.int .i64 (q.loc)]) (t := 3) (fr := (0, 0)) (heap_alloc_new w3 _)) (by simp [Value.oneCell']) (by omega) (by unfold maxLen; omega) (by omega) (by simp; omega) _ rfl ?_); intro gg gcap w6 hown6 hgrow6 hat6 hlt6; have s2 := (hgrow6.cell_far ⟨b, 1, none⟩ (by simp; omega) hfar); have s3 := (hgrow6.frozen_far ⟨b, 1, none⟩ (by simp; omega) hfar))
  have HFN := hid (HS.out.push hgrow6 hown6 hat6)
  go_end0
  exact ⟨rfl, _, _, HFN.out.1, HB.out.trans HFN.out.2⟩
set_option maxRecDepth 100000 in
set_option maxHeartbeats 4000000 in
theorem more_full (k c : Int) {w : World} {b base : Nat} {tx : ByteArray} {vS vO vI : Value} {zs : List Int} {q : Sx} (h : SmAt w b base tx vS vO vI zs q) (hl : 8 ≤ q.st.length) (hl2 : q.st.length ≤ 100) :
    Calls Tryd.prog 20 #[.pointer (some ⟨b, 0, none⟩), .int .i64 k, .int .i64 c] w (SmPost b base tx vI zs q w) := by
  obtain ⟨pS, cS, eS⟩ := h.sSlice
  subst eS
  have x1 := h.cells.2.1
  have d1 : (8 : Int) ≤ (q.st.length : Int) := by omega
  have HF : Hid (SmPost b base tx vI zs q w (.returned (.tuple #[])) w) := hid ⟨rfl, _, _, h, Below.refl _ _⟩
  clear h
  go_enter Tryd.func20, Tryd.ntmps20
  go_wp2_with fail
  go_end0
  exact HF.out
set_option maxRecDepth 100000 in
set_option maxHeartbeats 4000000 in
theorem more_in0 {w : World} {b base : Nat} {tx : ByteArray} {vS vO vI : Value} {zs : List Int} {q : Sx} (h : SmAt w b base tx vS vO vI zs q) (hz : tx.size ≤ 990) (hl : q.st.length < 8) (c : Int) (hrd : ¬ q.rd < zs.length) :
    Calls Tryd.prog 20 #[.pointer (some ⟨b, 0, none⟩), .int .i64 9, .int .i64 c] w (SmPost b base (tx ++ strOfNums [21]) vI zs { q with st := q.st ++ [0] } w) := by
  obtain ⟨pS, cS, eS⟩ := h.sSlice
  subst eS
  obtain ⟨pI, cI, eI⟩ := h.inp.slice
  subst eI
  have x1 := h.cells.2.1
  have x4 := h.cells.2.2.2.2.1
  have x5 := h.cells.2.2.2.2.2
  have d1 : ¬ (8 : Int) ≤ (q.st.length : Int) := by omega
  have d2 : ¬ (q.rd : Int) < (zs.length : Int) := by omega
  have c1 := hid (fun (W : World) (hW : SmAt W b base tx (.slice pS q.st.length cS) vO (.slice pI zs.length cI) zs q) => (show Calls Tryd.prog 23 #[.pointer (some ⟨b, 0, none⟩), .int .u8 21] W (SmPostC b base (tx ++ strOfNums [21]) (.slice pS q.st.length cS) vO (.slice pI zs.length cI) zs q W) from sumCode_any 21 hW (by omega)))
  have HH := hid h
  have hbase : base ≤ w.heap.size := by have := h.lt; have := h.bb; omega
  obtain ⟨i0', hi0, hz0, hz1, hz3⟩ := info_parts intInfo
  clear h
  go_enter Tryd.func20, Tryd.ntmps20
  go_wp2_with fail
  go_quiet (fail)
  go_wp2_with fail
  refine (c1.out _ (HH.out.below (below_dnA _ _))).mono ?_
  clear c1
  intro e w3 hh
  obtain ⟨hx, hS3, hB3⟩ := hh
  subst e
  have HB := hid (((below_dnA _ _).mono hbase).trans hB3)
  clear hB3 x1 x4 x5 HH
  obtain ⟨x1', f1'⟩ : w3.cell? ⟨b, 1, none⟩ = some (.slice pS q.st.length cS) ∧ w3.frozen? ⟨b, 1, none⟩ = false := ⟨hS3.cells.2.1, hS3.frz 1⟩
  have hown := hS3.st
  have hlt := hS3.lt
  have hbb := hS3.bb
  have hfar : some b ≠ (Value.slice pS q.st.length cS).ownBlock := fun e => hS3.sb e.symm
  have HS := hid hS3
  clear hS3
  go_wp2_with (at_builtin; go_must (refine wpList_append_lies _ (by rfl) _ _ _ (by rfl) base 3 i0' _ 1 8 Tryd.underlying33 hi0 hz0 hz1 hz3 rfl (by omega) _ q.st.length (q.st.map (.int .i64)) (by rfl) (hown.alloc _) ⟨w3.heap.size, 0, none⟩ 1 1 [.int .i64 (0)] (by rfl) (by rfl) (World.news_of_block (cs := #[.int .i64 (0)]) (t := 3) (fr := (0, 0)) (heap_alloc_new w3 _)) (by simp [Value.oneCell']) (by omega) (by unfold maxLen; omega) (by omega) (by simp; omega) _ rfl ?_); intro gg gcap w6 hown6 hgrow6 hat6 hlt6; have s2 := (hgrow6.cell_far ⟨b, 1, none⟩ (by simp; omega) hfar); have s3 := (hgrow6.frozen_far ⟨b, 1, none⟩ (by simp; omega) hfar))
  have HFN := hid (HS.out.push hgrow6 hown6 hat6)
  go_end0
  exact ⟨rfl, _, _, HFN.out.1, HB.out.trans HFN.out.2⟩
set_option maxRecDepth 100000 in
set_option maxHeartbeats 4000000 in
theorem more_in1 {w : World} {b base : Nat} {tx : ByteArray} {vS vO vI : Value} {zs : List Int} {q : Sx} (h : SmAt w b base tx vS vO vI zs q) (hz : tx.size ≤ 990) (hl : q.st.length < 8) (c : Int) (hrd : q.rd < zs.length) (hzl : zs.length ≤ 1000) :
    Calls Tryd.prog 20 #[.pointer (some ⟨b, 0, none⟩), .int .i64 9, .int .i64 c] w (SmPost b base (tx ++ strOfNums [21]) vI zs { q with rd := q.rd + 1, st := q.st ++ [zs.getD q.rd 0] } w) := by
  obtain ⟨pS, cS, eS⟩ := h.sSlice
  subst eS
  obtain ⟨pI, cI, eI⟩ := h.inp.slice
  subst eI
  have x1 := h.cells.2.1
  have x4 := h.cells.2.2.2.2.1
  have x5 := h.cells.2.2.2.2.2
  have f5 := h.frz 5
  have d1 : ¬ (8 : Int) ≤ (q.st.length : Int) := by omega
  have d2 : (q.rd : Int) < (zs.length : Int) := by omega
  have d3 : (0 : Int) ≤ (q.rd : Int) := by omega
  have d4 : (q.rd : Int) + 1 ≤ 17592186044416 := by omega
  have HFL := hid (fun (m : Nat) => ((h.below (below_dnA w m)).field 5 (.int .i64 ((q.rd : Int) + 1)) (tx' := tx) (loc' := q.loc) (rd' := q.rd + 1) (by simp [smRow])).1)
  have hbase : base ≤ w.heap.size := by have := h.lt; have := h.bb; omega
  have HFB := hid (fun (m : Nat) => ((below_dnA w m).mono hbase).trans ((h.below (below_dnA w m)).field 5 (.int .i64 ((q.rd : Int) + 1)) (tx' := tx) (loc' := q.loc) (rd' := q.rd + 1) (by simp [smRow])).2)
  have c1 := hid (fun (W : World) (hW : SmAt W b base tx (.slice pS q.st.length cS) vO (.slice pI zs.length cI) zs { q with rd := q.rd + 1 }) => (show Calls Tryd.prog 23 #[.pointer (some ⟨b, 0, none⟩), .int .u8 21] W (SmPostC b base (tx ++ strOfNums [21]) (.slice pS q.st.length cS) vO (.slice pI zs.length cI) zs { q with rd := q.rd + 1 } W) from sumCode_any 21 hW (by omega)))
  rcases h.inp with ⟨_, h0⟩ | ⟨a, cap, hv, hcell, _⟩
  · rw [h0] at hrd; simp at hrd
  cases hv
  have y0 := hcell q.rd zs[q.rd] (List.getElem?_eq_getElem hrd)
  have hgd : zs.getD q.rd 0 = zs[q.rd] := by rw [List.getD_eq_getElem?_getD, List.getElem?_eq_getElem hrd]; rfl
  rw [hgd]
  obtain ⟨i0', hi0, hz0, hz1, hz3⟩ := info_parts intInfo
  clear h hcell hgd
  generalize zs[q.rd] = zv at *
  go_enter Tryd.func20, Tryd.ntmps20
  go_wp2_with fail
  go_quiet (fail)
  go_wp2_with fail
  go_quiet (fail)
  go_wp2_with fail
  refine (c1.out _ (HFL.out _)).mono ?_
  clear c1
  intro e w3 hh
  obtain ⟨hx, hS3, hB3⟩ := hh
  subst e
  have HB := hid ((HFB.out _).trans hB3)
  clear hB3 x1 x4 x5 y0 HFL HFB
  obtain ⟨x1', f1'⟩ : w3.cell? ⟨b, 1, none⟩ = some (.slice pS q.st.length cS) ∧ w3.frozen? ⟨b, 1, none⟩ = false := ⟨hS3.cells.2.1, hS3.frz 1⟩
  have hown := hS3.st
  have hlt := hS3.lt
  have hbb := hS3.bb
  have hfar : some b ≠ (Value.slice pS q.st.length cS).ownBlock := fun e => hS3.sb e.symm
  have HS := hid hS3
  clear hS3
  go_wp2_with (at_builtin; go_must (refine wpList_append_lies _ (by rfl) _ _ _ (by rfl) base 3 i0' _ 1 8 Tryd.underlying33 hi0 hz0 hz1 hz3 rfl (by omega) _ q.st.length (q.st.map (.int .i64)) (by rfl) (hown.alloc _) ⟨w3.heap.size, 0, none⟩ 1 1 [.int .i64 (zv)] (by rfl) (by rfl) (World.news_of_block (cs := #[.int .i64 (zv)]) (t := 3) (fr := (0, 0)) (heap_alloc_new w3 _)) (by simp [Value.oneCell']) (by omega) (by unfold maxLen; omega) (by omega) (by simp; omega) _ rfl ?_); intro gg gcap w6 hown6 hgrow6 hat6 hlt6; have s2 := (hgrow6.cell_far ⟨b, 1, none⟩ (by simp; omega) hfar); have s3 := (hgrow6.frozen_far ⟨b, 1, none⟩ (by simp; omega) hfar))
  have HFN := hid (HS.out.push hgrow6 hown6 hat6)
  go_end0
  exact ⟨rfl, _, _, HFN.out.1, HB.out.trans HFN.out.2⟩
end Go.Proofs.YtdmdpindonghdaaDoor
namespace Go.Proofs.YtdmdpindonghdaaDoor
open Go.RowKit
/-- A stack that has two numbers, in memory. -/
structure Tops (w : World) (q : Sx) (g cS n n1 n2 : Nat) : Prop where
  nn : q.st.length = n
  e1 : n = n1 + 1
  x1 : w.cell? ⟨g, n1, none⟩ = some (.int .i64 (lastZ q.st 0))
  f1 : w.frozen? ⟨g, n1, none⟩ = false
  x2 : n1 = n2 + 1 → w.cell? ⟨g, n2, none⟩ = some (.int .i64 (lastZ q.st 1))
  f2 : w.frozen? ⟨g, n2, none⟩ = false
  cap : n ≤ cS
  capm : cS ≤ maxLen
theorem SmAt.tops {w : World} {b base : Nat} {tx : ByteArray} {vS vO vI : Value} {zs : List Int} {q : Sx} (h : SmAt w b base tx vS vO vI zs q) {n1 : Nat} (hn : q.st.length = n1 + 1) : ∃ g cS, vS = .slice (some ⟨g, 0, none⟩) q.st.length cS ∧ ∀ n2, Tops w q g cS q.st.length n1 n2 := by
  rcases h.st.2 with ⟨_, h2⟩ | ⟨g, cap, cur, hv, hg, hh, r1, r2, r3, r4⟩
  · omega
  refine ⟨g, cap, hv, fun n2 => ⟨rfl, hn, ?_, frozen_of_row w g n1 _ _ hh, fun e => ?_, frozen_of_row w g n2 _ _ hh, r1, r2⟩⟩
  · rw [cell_of_row w g n1 _ _ _ hh]
    have : (cur.toList.take (q.st.length * 1))[n1]? = (q.st.map (Value.int .i64))[n1]? := by rw [r4]
    rw [List.getElem?_take, if_pos (by omega), Array.getElem?_toList, List.getElem?_map] at this
    rw [this]
    unfold lastZ
    rw [show q.st.length - 1 - 0 = n1 by omega, List.getElem?_eq_getElem (by omega)]
    rfl
  · rw [cell_of_row w g n2 _ _ _ hh]
    have : (cur.toList.take (q.st.length * 1))[n2]? = (q.st.map (Value.int .i64))[n2]? := by rw [r4]
    rw [List.getElem?_take, if_pos (by omega), Array.getElem?_toList, List.getElem?_map] at this
    rw [this]
    unfold lastZ
    rw [show q.st.length - 1 - 1 = n2 by omega, List.getElem?_eq_getElem (by omega)]
    rfl
theorem owns_put2 {w : World} {base g cap N : Nat} {e : TypeId} {xs : List Int} (h : w.ownsRow base e 1 (.slice (some ⟨g, 0, none⟩) N cap) N (xs.map (.int .i64))) (n : Nat) (v : Int) : (w.setCell ⟨g, n, none⟩ (.int .i64 v)).ownsRow base e 1 (.slice (some ⟨g, 0, none⟩) N cap) N ((xs.set n v).map (.int .i64)) := by
  have h1 := h.1
  refine ⟨by simpa using h1, ?_⟩
  rcases h.2 with ⟨h2, _⟩ | ⟨g', cap', cur, hv, hg, hh, r1, r2, r3, r4⟩
  · cases h2
  · cases hv
    refine .inr ⟨g, cap, cur.setIfInBounds n (.int .i64 v), rfl, hg, setCell_row n _ hh, r1, r2, by simpa using r3, ?_⟩
    rw [Array.toList_setIfInBounds, List.take_set, r4, List.map_set]
theorem owns_cut {w : World} {base g cap N : Nat} {e : TypeId} {xs : List Int} (h : w.ownsRow base e 1 (.slice (some ⟨g, 0, none⟩) N cap) N (xs.map (.int .i64))) {k : Nat} (hk : k ≤ N) : w.ownsRow base e 1 (.slice (some ⟨g, 0, none⟩) k cap) k ((xs.take k).map (.int .i64)) := by
  have h1 := h.1
  rw [List.length_map] at h1
  refine ⟨by rw [List.length_map, List.length_take]; omega, ?_⟩
  rcases h.2 with ⟨h2, _⟩ | ⟨g', cap', cur, hv, hg, hh, r1, r2, r3, r4⟩
  · cases h2
  · cases hv
    refine .inr ⟨g, cap, cur, rfl, hg, hh, by omega, r2, r3, ?_⟩
    rw [List.map_take, ← r4, List.take_take]
    congr 1
    omega
/-- The stack is cut. -/
theorem SmAt.cut {w : World} {b base g cS : Nat} {tx : ByteArray} {vO vI : Value} {zs : List Int} {q : Sx} (h : SmAt w b base tx (.slice (some ⟨g, 0, none⟩) q.st.length cS) vO vI zs q) (k : Nat) (hk : k ≤ q.st.length) :
    SmAt (w.setCell ⟨b, 1, none⟩ (.slice (some ⟨g, 0, none⟩) k cS)) b base tx (.slice (some ⟨g, 0, none⟩) k cS) vO vI zs { q with st := q.st.take k } ∧ Below base w (w.setCell ⟨b, 1, none⟩ (.slice (some ⟨g, 0, none⟩) k cS)) := by
  have ho : Only b w (w.setCell ⟨b, 1, none⟩ (.slice (some ⟨g, 0, none⟩) k cS)) := (Only.refl _ _).set _ _
  have hB : Below base w (w.setCell ⟨b, 1, none⟩ (.slice (some ⟨g, 0, none⟩) k cS)) := ⟨ho.os, ho.tape, ho.output, by rw [ho.size]; exact Nat.le_refl _, fun j hj => ho.block j (by have := h.bb; omega)⟩
  refine ⟨⟨?_, ?_, owns_keep h.out (fun g' hg => ho.block g' (fun e => h.ob (by rw [hg, e]))), h.sb, h.ob, h.so, h.bb, h.inp.under h.inb hB, h.inb⟩, hB⟩
  · have := setCell_row 1 (.slice (some ⟨g, 0, none⟩) k cS) h.row
    rw [this]
    simp [smRow]
  · have h1 := owns_cut (owns_keep h.st (w' := w.setCell ⟨b, 1, none⟩ (.slice (some ⟨g, 0, none⟩) k cS)) (fun g' hg => ho.block g' (fun e => h.sb (by rw [hg, e])))) hk
    simpa [hk] using h1
/-- A number of the stack is written. -/
theorem SmAt.poke {w : World} {b base g cS : Nat} {tx : ByteArray} {vO vI : Value} {zs : List Int} {q : Sx} (h : SmAt w b base tx (.slice (some ⟨g, 0, none⟩) q.st.length cS) vO vI zs q) (j : Nat) (v : Int) :
    SmAt (w.setCell ⟨g, j, none⟩ (.int .i64 v)) b base tx (.slice (some ⟨g, 0, none⟩) q.st.length cS) vO vI zs { q with st := q.st.set j v } ∧ Below base w (w.setCell ⟨g, j, none⟩ (.int .i64 v)) := by
  have ho : Only g w (w.setCell ⟨g, j, none⟩ (.int .i64 v)) := (Only.refl _ _).set _ _
  have hg := (h.st.lt g rfl).1
  have hB : Below base w (w.setCell ⟨g, j, none⟩ (.int .i64 v)) := ⟨ho.os, ho.tape, ho.output, by rw [ho.size]; exact Nat.le_refl _, fun k hk => ho.block k (by omega)⟩
  refine ⟨⟨(ho.block b (fun e => h.sb (by rw [e]; rfl))).trans h.row, ?_, owns_keep h.out (fun g' hg' => ho.block g' (fun e => h.so g' (by rw [e]; rfl) hg')), h.sb, h.ob, h.so, h.bb, h.inp.under h.inb hB, h.inb⟩, hB⟩
  have h1 := owns_put2 h.st j v
  simpa using h1
theorem SmAt.fin2 {w : World} {b base g cS : Nat} {tx : ByteArray} {vO vI : Value} {zs : List Int} {q : Sx} {n n1 n2 : Nat} (hn : q.st.length = n) (h : SmAt w b base tx (.slice (some ⟨g, 0, none⟩) n cS) vO vI zs q) (e1 : n = n1 + 1) (e2 : n1 = n2 + 1) (v : Int) :
    SmAt ((w.setCell ⟨b, 1, none⟩ (.slice (some ⟨g, 0, none⟩) n1 cS)).setCell ⟨g, n2, none⟩ (.int .i64 v)) b base tx (.slice (some ⟨g, 0, none⟩) n1 cS) vO vI zs { q with st := cutZ q.st 2 ++ [v] } ∧ Below base w ((w.setCell ⟨b, 1, none⟩ (.slice (some ⟨g, 0, none⟩) n1 cS)).setCell ⟨g, n2, none⟩ (.int .i64 v)) := by
  subst hn
  obtain ⟨h1, b1⟩ := h.cut n1 (by omega)
  have hl : (q.st.take n1).length = n1 := by rw [List.length_take]; omega
  obtain ⟨h2, b2⟩ := SmAt.poke (q := { q with st := q.st.take n1 }) (by simp only [hl]; exact h1) n2 v
  simp only [hl] at h2
  refine ⟨?_, b1.trans b2⟩
  have : (q.st.take n1).set n2 v = cutZ q.st 2 ++ [v] := by
    unfold cutZ
    rw [show q.st.length - 2 = n2 by omega, e2]
    apply List.ext_getElem
    · simp; omega
    · intro j a1 a2
      rw [List.getElem_set]
      split
      · rename_i e
        subst e
        rw [List.getElem_append_right (by simp; omega)]
        simp
      · rename_i e
        rw [List.length_set, List.length_take] at a1
        rw [List.getElem_append_left (by rw [List.length_take]; omega), List.getElem_take, List.getElem_take]
  rw [this] at h2
  exact h2
theorem SmAt.swap2 {w : World} {b base g cS : Nat} {tx : ByteArray} {vO vI : Value} {zs : List Int} {q : Sx} {n n1 n2 : Nat} (hn : q.st.length = n) (h : SmAt w b base tx (.slice (some ⟨g, 0, none⟩) n cS) vO vI zs q) (e1 : n = n1 + 1) (e2 : n1 = n2 + 1) (x y : Int) :
    SmAt ((w.setCell ⟨g, n2, none⟩ (.int .i64 y)).setCell ⟨g, n1, none⟩ (.int .i64 x)) b base tx (.slice (some ⟨g, 0, none⟩) n cS) vO vI zs { q with st := cutZ q.st 2 ++ [y, x] } ∧ Below base w ((w.setCell ⟨g, n2, none⟩ (.int .i64 y)).setCell ⟨g, n1, none⟩ (.int .i64 x)) := by
  subst hn
  obtain ⟨h1, b1⟩ := h.poke n2 y
  obtain ⟨h2, b2⟩ := SmAt.poke (q := { q with st := q.st.set n2 y }) (by simp only [List.length_set]; exact h1) n1 x
  simp only [List.length_set] at h2
  refine ⟨?_, b1.trans b2⟩
  have : (q.st.set n2 y).set n1 x = cutZ q.st 2 ++ [y, x] := by
    unfold cutZ
    rw [show q.st.length - 2 = n2 by omega]
    apply List.ext_getElem
    · simp; omega
    · intro j a1 a2
      rw [List.length_set, List.length_set] at a1
      rw [List.getElem_set, List.getElem_set]
      rcases Nat.lt_trichotomy j n2 with e | e | e
      · rw [if_neg (by omega), if_neg (by omega), List.getElem_append_left (by rw [List.length_take]; omega), List.getElem_take]
      · subst e
        rw [if_neg (by omega), if_pos rfl, List.getElem_append_right (by simp; omega)]
        simp [show min j q.st.length = j by omega]
      · obtain rfl : j = n1 := by omega
        rw [if_pos rfl, List.getElem_append_right (by simp; omega)]
        simp [show min n2 q.st.length = n2 by omega, show j - n2 = 1 by omega]
  rw [this] at h2
  exact h2
set_option maxRecDepth 100000 in
set_option maxHeartbeats 4000000 in
theorem two_add {w : World} {b base : Nat} {tx : ByteArray} {vS vO vI : Value} {zs : List Int} {q : Sx} (h : SmAt w b base tx vS vO vI zs q) (hz : tx.size ≤ 990) (hl : 2 ≤ q.st.length) (hl2 : q.st.length ≤ 8) :
    Calls Tryd.prog 21 #[.pointer (some ⟨b, 0, none⟩), .int .i64 2] w (SmPost b base (tx ++ strOfNums [2]) vI zs { q with st := cutZ q.st 2 ++ [sumC 2 (lastZ q.st 1) (lastZ q.st 0)] } w) := by
  obtain ⟨n1, hn1⟩ : ∃ n1, q.st.length = n1 + 1 := ⟨q.st.length - 1, by omega⟩
  obtain ⟨n2, hn2⟩ : ∃ n2, n1 = n2 + 1 := ⟨n1 - 1, by omega⟩
  obtain ⟨g, cS, eS, htp⟩ := h.tops hn1
  obtain ⟨t0, t1, x1, f1, x2', f2, t3, t4⟩ := htp n2
  have x2 := x2' hn2
  obtain ⟨n, hn⟩ : ∃ n, q.st.length = n := ⟨_, rfl⟩
  rw [hn] at eS t1 t3 hl hl2
  subst eS
  have z1 := h.cells.2.1
  have z2 := h.frz 1
  have hgb : b ≠ g := fun e => h.sb (by rw [e]; rfl)
  have hgb' : g ≠ b := fun e => hgb e.symm
  have d1 : ¬ (n : Int) < 2 := by omega
  have d2 : (n : Int) - 1 = (n1 : Int) := by omega
  have d3 : (n : Int) - 2 = (n2 : Int) := by omega
  have d4 : (0 : Int) ≤ (n1 : Int) := by omega
  have d5 : (n1 : Int) < (n : Int) := by omega
  have d6 : (0 : Int) ≤ (n2 : Int) := by omega
  have d7 : (n2 : Int) < (n : Int) := by omega
  have d8 : (n2 : Int) < (n1 : Int) := by omega
  have d9 : (n1 : Int) ≤ (cS : Int) := by omega
  obtain ⟨y, hy⟩ : ∃ y, y = lastZ q.st 0 := ⟨_, rfl⟩
  obtain ⟨x, hx⟩ : ∃ x, x = lastZ q.st 1 := ⟨_, rfl⟩
  rw [← hy] at x1
  rw [← hx] at x2
  rw [← hx, ← hy]
  have c1 := hid (show Calls Tryd.prog 23 #[.pointer (some ⟨b, 0, none⟩), .int .u8 2] w (SmPostC b base (tx ++ strOfNums [2]) (.slice (some ⟨g, 0, none⟩) n cS) vO vI zs q w) from sumCode_any 2 h (by omega))
  have hn1' : n = n1 + 1 := by omega
  have hv : IntKind.i64.wrap (x + y) = sumC 2 x y := by rw [IntKind.wrap_i64]; simp [sumC, wrap64]
  have HN := hid (⟨hn1, hn1', hn2, t1⟩ : q.st.length = n1 + 1 ∧ n = n1 + 1 ∧ n1 = n2 + 1 ∧ n = n1 + 1)
  have HHN := hid hn
  clear h hn1 hn1' hn2 t0 t1 x2' hy hx htp hn
  go_enter Tryd.func21, Tryd.ntmps21
  go_wp2_with fail
  refine c1.out.mono ?_
  clear c1
  intro e w3 hh
  obtain ⟨hx9, hS3, hB3⟩ := hh
  subst e
  have z1' := hS3.cells.2.1
  have z2' := hS3.frz 1
  obtain ⟨cur3, hc3⟩ : ∃ cur, w3.heap[g]? = some (.cells cur 3) := by
    rcases hS3.st.2 with ⟨h2, _⟩ | ⟨g', cap', cur, hv, hg, hh, _⟩
    · cases h2
    · cases hv
      exact ⟨cur, hh⟩
  have f1' := frozen_of_row w3 g n1 _ _ hc3
  have f2' := frozen_of_row w3 g n2 _ _ hc3
  have x1' : ∃ u, w3.cell? ⟨g, n1, none⟩ = some u := by
    obtain ⟨g9, c9, e9, h9⟩ := hS3.tops HN.out.1
    rw [HHN.out] at e9
    cases e9
    exact ⟨_, (h9 n2).x1⟩
  have x2' : ∃ u, w3.cell? ⟨g, n2, none⟩ = some u := by
    obtain ⟨g9, c9, e9, h9⟩ := hS3.tops HN.out.1
    rw [HHN.out] at e9
    cases e9
    exact ⟨_, (h9 n2).x2 HN.out.2.2.1⟩
  obtain ⟨u1, x1'⟩ := x1'
  obtain ⟨u2, x2'⟩ := x2'
  have HS := hid hS3
  have HB := hid hB3
  clear hS3 hB3 hc3 z1 z2 x1 x2 f1 f2
  go_wp2_with fail
  have HF := hid (HS.out.fin2 HHN.out HN.out.2.1 HN.out.2.2.1 (sumC 2 x y))
  go_end0
  exact ⟨rfl, _, _, HF.out.1, HB.out.trans HF.out.2⟩
set_option maxRecDepth 100000 in
set_option maxHeartbeats 4000000 in
theorem two_sub {w : World} {b base : Nat} {tx : ByteArray} {vS vO vI : Value} {zs : List Int} {q : Sx} (h : SmAt w b base tx vS vO vI zs q) (hz : tx.size ≤ 990) (hl : 2 ≤ q.st.length) (hl2 : q.st.length ≤ 8) :
    Calls Tryd.prog 21 #[.pointer (some ⟨b, 0, none⟩), .int .i64 3] w (SmPost b base (tx ++ strOfNums [3]) vI zs { q with st := cutZ q.st 2 ++ [sumC 3 (lastZ q.st 1) (lastZ q.st 0)] } w) := by
  obtain ⟨n1, hn1⟩ : ∃ n1, q.st.length = n1 + 1 := ⟨q.st.length - 1, by omega⟩
  obtain ⟨n2, hn2⟩ : ∃ n2, n1 = n2 + 1 := ⟨n1 - 1, by omega⟩
  obtain ⟨g, cS, eS, htp⟩ := h.tops hn1
  obtain ⟨t0, t1, x1, f1, x2', f2, t3, t4⟩ := htp n2
  have x2 := x2' hn2
  obtain ⟨n, hn⟩ : ∃ n, q.st.length = n := ⟨_, rfl⟩
  rw [hn] at eS t1 t3 hl hl2
  subst eS
  have z1 := h.cells.2.1
  have z2 := h.frz 1
  have hgb : b ≠ g := fun e => h.sb (by rw [e]; rfl)
  have hgb' : g ≠ b := fun e => hgb e.symm
  have d1 : ¬ (n : Int) < 2 := by omega
  have d2 : (n : Int) - 1 = (n1 : Int) := by omega
  have d3 : (n : Int) - 2 = (n2 : Int) := by omega
  have d4 : (0 : Int) ≤ (n1 : Int) := by omega
  have d5 : (n1 : Int) < (n : Int) := by omega
  have d6 : (0 : Int) ≤ (n2 : Int) := by omega
  have d7 : (n2 : Int) < (n : Int) := by omega
  have d8 : (n2 : Int) < (n1 : Int) := by omega
  have d9 : (n1 : Int) ≤ (cS : Int) := by omega
  obtain ⟨y, hy⟩ : ∃ y, y = lastZ q.st 0 := ⟨_, rfl⟩
  obtain ⟨x, hx⟩ : ∃ x, x = lastZ q.st 1 := ⟨_, rfl⟩
  rw [← hy] at x1
  rw [← hx] at x2
  rw [← hx, ← hy]
  have c1 := hid (show Calls Tryd.prog 23 #[.pointer (some ⟨b, 0, none⟩), .int .u8 3] w (SmPostC b base (tx ++ strOfNums [3]) (.slice (some ⟨g, 0, none⟩) n cS) vO vI zs q w) from sumCode_any 3 h (by omega))
  have hn1' : n = n1 + 1 := by omega
  have hv : IntKind.i64.wrap (x - y) = sumC 3 x y := by rw [IntKind.wrap_i64]; simp [sumC, wrap64]
  have HN := hid (⟨hn1, hn1', hn2, t1⟩ : q.st.length = n1 + 1 ∧ n = n1 + 1 ∧ n1 = n2 + 1 ∧ n = n1 + 1)
  have HHN := hid hn
  clear h hn1 hn1' hn2 t0 t1 x2' hy hx htp hn
  go_enter Tryd.func21, Tryd.ntmps21
  go_wp2_with fail
  refine c1.out.mono ?_
  clear c1
  intro e w3 hh
  obtain ⟨hx9, hS3, hB3⟩ := hh
  subst e
  have z1' := hS3.cells.2.1
  have z2' := hS3.frz 1
  obtain ⟨cur3, hc3⟩ : ∃ cur, w3.heap[g]? = some (.cells cur 3) := by
    rcases hS3.st.2 with ⟨h2, _⟩ | ⟨g', cap', cur, hv, hg, hh, _⟩
    · cases h2
    · cases hv
      exact ⟨cur, hh⟩
  have f1' := frozen_of_row w3 g n1 _ _ hc3
  have f2' := frozen_of_row w3 g n2 _ _ hc3
  have x1' : ∃ u, w3.cell? ⟨g, n1, none⟩ = some u := by
    obtain ⟨g9, c9, e9, h9⟩ := hS3.tops HN.out.1
    rw [HHN.out] at e9
    cases e9
    exact ⟨_, (h9 n2).x1⟩
  have x2' : ∃ u, w3.cell? ⟨g, n2, none⟩ = some u := by
    obtain ⟨g9, c9, e9, h9⟩ := hS3.tops HN.out.1
    rw [HHN.out] at e9
    cases e9
    exact ⟨_, (h9 n2).x2 HN.out.2.2.1⟩
  obtain ⟨u1, x1'⟩ := x1'
  obtain ⟨u2, x2'⟩ := x2'
  have HS := hid hS3
  have HB := hid hB3
  clear hS3 hB3 hc3 z1 z2 x1 x2 f1 f2
  go_wp2_with fail
  have HF := hid (HS.out.fin2 HHN.out HN.out.2.1 HN.out.2.2.1 (sumC 3 x y))
  go_end0
  exact ⟨rfl, _, _, HF.out.1, HB.out.trans HF.out.2⟩
set_option maxRecDepth 100000 in
set_option maxHeartbeats 4000000 in
theorem two_mul {w : World} {b base : Nat} {tx : ByteArray} {vS vO vI : Value} {zs : List Int} {q : Sx} (h : SmAt w b base tx vS vO vI zs q) (hz : tx.size ≤ 990) (hl : 2 ≤ q.st.length) (hl2 : q.st.length ≤ 8) :
    Calls Tryd.prog 21 #[.pointer (some ⟨b, 0, none⟩), .int .i64 4] w (SmPost b base (tx ++ strOfNums [4]) vI zs { q with st := cutZ q.st 2 ++ [sumC 4 (lastZ q.st 1) (lastZ q.st 0)] } w) := by
  obtain ⟨n1, hn1⟩ : ∃ n1, q.st.length = n1 + 1 := ⟨q.st.length - 1, by omega⟩
  obtain ⟨n2, hn2⟩ : ∃ n2, n1 = n2 + 1 := ⟨n1 - 1, by omega⟩
  obtain ⟨g, cS, eS, htp⟩ := h.tops hn1
  obtain ⟨t0, t1, x1, f1, x2', f2, t3, t4⟩ := htp n2
  have x2 := x2' hn2
  obtain ⟨n, hn⟩ : ∃ n, q.st.length = n := ⟨_, rfl⟩
  rw [hn] at eS t1 t3 hl hl2
  subst eS
  have z1 := h.cells.2.1
  have z2 := h.frz 1
  have hgb : b ≠ g := fun e => h.sb (by rw [e]; rfl)
  have hgb' : g ≠ b := fun e => hgb e.symm
  have d1 : ¬ (n : Int) < 2 := by omega
  have d2 : (n : Int) - 1 = (n1 : Int) := by omega
  have d3 : (n : Int) - 2 = (n2 : Int) := by omega
  have d4 : (0 : Int) ≤ (n1 : Int) := by omega
  have d5 : (n1 : Int) < (n : Int) := by omega
  have d6 : (0 : Int) ≤ (n2 : Int) := by omega
  have d7 : (n2 : Int) < (n : Int) := by omega
  have d8 : (n2 : Int) < (n1 : Int) := by omega
  have d9 : (n1 : Int) ≤ (cS : Int) := by omega
  obtain ⟨y, hy⟩ : ∃ y, y = lastZ q.st 0 := ⟨_, rfl⟩
  obtain ⟨x, hx⟩ : ∃ x, x = lastZ q.st 1 := ⟨_, rfl⟩
  rw [← hy] at x1
  rw [← hx] at x2
  rw [← hx, ← hy]
  have c1 := hid (show Calls Tryd.prog 23 #[.pointer (some ⟨b, 0, none⟩), .int .u8 4] w (SmPostC b base (tx ++ strOfNums [4]) (.slice (some ⟨g, 0, none⟩) n cS) vO vI zs q w) from sumCode_any 4 h (by omega))
  have hn1' : n = n1 + 1 := by omega
  have hv : IntKind.i64.wrap (x * y) = sumC 4 x y := by rw [IntKind.wrap_i64]; simp [sumC, wrap64]
  have HN := hid (⟨hn1, hn1', hn2, t1⟩ : q.st.length = n1 + 1 ∧ n = n1 + 1 ∧ n1 = n2 + 1 ∧ n = n1 + 1)
  have HHN := hid hn
  clear h hn1 hn1' hn2 t0 t1 x2' hy hx htp hn
  go_enter Tryd.func21, Tryd.ntmps21
  go_wp2_with fail
  refine c1.out.mono ?_
  clear c1
  intro e w3 hh
  obtain ⟨hx9, hS3, hB3⟩ := hh
  subst e
  have z1' := hS3.cells.2.1
  have z2' := hS3.frz 1
  obtain ⟨cur3, hc3⟩ : ∃ cur, w3.heap[g]? = some (.cells cur 3) := by
    rcases hS3.st.2 with ⟨h2, _⟩ | ⟨g', cap', cur, hv, hg, hh, _⟩
    · cases h2
    · cases hv
      exact ⟨cur, hh⟩
  have f1' := frozen_of_row w3 g n1 _ _ hc3
  have f2' := frozen_of_row w3 g n2 _ _ hc3
  have x1' : ∃ u, w3.cell? ⟨g, n1, none⟩ = some u := by
    obtain ⟨g9, c9, e9, h9⟩ := hS3.tops HN.out.1
    rw [HHN.out] at e9
    cases e9
    exact ⟨_, (h9 n2).x1⟩
  have x2' : ∃ u, w3.cell? ⟨g, n2, none⟩ = some u := by
    obtain ⟨g9, c9, e9, h9⟩ := hS3.tops HN.out.1
    rw [HHN.out] at e9
    cases e9
    exact ⟨_, (h9 n2).x2 HN.out.2.2.1⟩
  obtain ⟨u1, x1'⟩ := x1'
  obtain ⟨u2, x2'⟩ := x2'
  have HS := hid hS3
  have HB := hid hB3
  clear hS3 hB3 hc3 z1 z2 x1 x2 f1 f2
  go_wp2_with fail
  have HF := hid (HS.out.fin2 HHN.out HN.out.2.1 HN.out.2.2.1 (sumC 4 x y))
  go_end0
  exact ⟨rfl, _, _, HF.out.1, HB.out.trans HF.out.2⟩
set_option maxRecDepth 100000 in
set_option maxHeartbeats 4000000 in
theorem two_swap {w : World} {b base : Nat} {tx : ByteArray} {vS vO vI : Value} {zs : List Int} {q : Sx} (h : SmAt w b base tx vS vO vI zs q) (hz : tx.size ≤ 990) (hl : 2 ≤ q.st.length) (hl2 : q.st.length ≤ 8) :
    Calls Tryd.prog 21 #[.pointer (some ⟨b, 0, none⟩), .int .i64 7] w (SmPost b base (tx ++ strOfNums [11]) vI zs { q with st := cutZ q.st 2 ++ [lastZ q.st 0, lastZ q.st 1] } w) := by
  obtain ⟨n1, hn1⟩ : ∃ n1, q.st.length = n1 + 1 := ⟨q.st.length - 1, by omega⟩
  obtain ⟨n2, hn2⟩ : ∃ n2, n1 = n2 + 1 := ⟨n1 - 1, by omega⟩
  obtain ⟨g, cS, eS, htp⟩ := h.tops hn1
  obtain ⟨t0, t1, x1, f1, x2', f2, t3, t4⟩ := htp n2
  have x2 := x2' hn2
  obtain ⟨n, hn⟩ : ∃ n, q.st.length = n := ⟨_, rfl⟩
  rw [hn] at eS t1 t3 hl hl2
  subst eS
  have z1 := h.cells.2.1
  have z2 := h.frz 1
  have hgb : b ≠ g := fun e => h.sb (by rw [e]; rfl)
  have hgb' : g ≠ b := fun e => hgb e.symm
  have d1 : ¬ (n : Int) < 2 := by omega
  have d2 : (n : Int) - 1 = (n1 : Int) := by omega
  have d3 : (n : Int) - 2 = (n2 : Int) := by omega
  have d4 : (0 : Int) ≤ (n1 : Int) := by omega
  have d5 : (n1 : Int) < (n : Int) := by omega
  have d6 : (0 : Int) ≤ (n2 : Int) := by omega
  have d7 : (n2 : Int) < (n : Int) := by omega
  have d8 : (n2 : Int) < (n1 : Int) := by omega
  have d9 : (n1 : Int) ≤ (cS : Int) := by omega
  obtain ⟨y, hy⟩ : ∃ y, y = lastZ q.st 0 := ⟨_, rfl⟩
  obtain ⟨x, hx⟩ : ∃ x, x = lastZ q.st 1 := ⟨_, rfl⟩
  rw [← hy] at x1
  rw [← hx] at x2
  rw [← hx, ← hy]
  have c1 := hid (show Calls Tryd.prog 23 #[.pointer (some ⟨b, 0, none⟩), .int .u8 11] w (SmPostC b base (tx ++ strOfNums [11]) (.slice (some ⟨g, 0, none⟩) n cS) vO vI zs q w) from sumCode_any 11 h (by omega))
  have hn1' : n = n1 + 1 := by omega
  have HN := hid (⟨hn1, hn1', hn2, t1⟩ : q.st.length = n1 + 1 ∧ n = n1 + 1 ∧ n1 = n2 + 1 ∧ n = n1 + 1)
  have HHN := hid hn
  clear h hn1 hn1' hn2 t0 t1 x2' hy hx htp hn
  go_enter Tryd.func21, Tryd.ntmps21
  go_wp2_with fail
  refine c1.out.mono ?_
  clear c1
  intro e w3 hh
  obtain ⟨hx9, hS3, hB3⟩ := hh
  subst e
  have z1' := hS3.cells.2.1
  have z2' := hS3.frz 1
  obtain ⟨cur3, hc3⟩ : ∃ cur, w3.heap[g]? = some (.cells cur 3) := by
    rcases hS3.st.2 with ⟨h2, _⟩ | ⟨g', cap', cur, hv, hg, hh, _⟩
    · cases h2
    · cases hv
      exact ⟨cur, hh⟩
  have f1' := frozen_of_row w3 g n1 _ _ hc3
  have f2' := frozen_of_row w3 g n2 _ _ hc3
  have x1' : ∃ u, w3.cell? ⟨g, n1, none⟩ = some u := by
    obtain ⟨g9, c9, e9, h9⟩ := hS3.tops HN.out.1
    rw [HHN.out] at e9
    cases e9
    exact ⟨_, (h9 n2).x1⟩
  have x2' : ∃ u, w3.cell? ⟨g, n2, none⟩ = some u := by
    obtain ⟨g9, c9, e9, h9⟩ := hS3.tops HN.out.1
    rw [HHN.out] at e9
    cases e9
    exact ⟨_, (h9 n2).x2 HN.out.2.2.1⟩
  obtain ⟨u1, x1'⟩ := x1'
  obtain ⟨u2, x2'⟩ := x2'
  have HS := hid hS3
  have HB := hid hB3
  clear hS3 hB3 hc3 z1 z2 x1 x2 f1 f2
  go_wp2_with fail
  have HF := hid (HS.out.swap2 HHN.out HN.out.2.1 HN.out.2.2.1 x y)
  go_end0
  exact ⟨rfl, _, _, HF.out.1, HB.out.trans HF.out.2⟩
set_option maxRecDepth 100000 in
set_option maxHeartbeats 4000000 in
theorem two_less1 {w : World} {b base : Nat} {tx : ByteArray} {vS vO vI : Value} {zs : List Int} {q : Sx} (h : SmAt w b base tx vS vO vI zs q) (hz : tx.size ≤ 990) (hl : 2 ≤ q.st.length) (hl2 : q.st.length ≤ 8) (hlt : lastZ q.st 1 < lastZ q.st 0) :
    Calls Tryd.prog 21 #[.pointer (some ⟨b, 0, none⟩), .int .i64 5] w (SmPost b base (tx ++ strOfNums [6]) vI zs { q with st := cutZ q.st 2 ++ [sumC 6 (lastZ q.st 1) (lastZ q.st 0)] } w) := by
  obtain ⟨n1, hn1⟩ : ∃ n1, q.st.length = n1 + 1 := ⟨q.st.length - 1, by omega⟩
  obtain ⟨n2, hn2⟩ : ∃ n2, n1 = n2 + 1 := ⟨n1 - 1, by omega⟩
  obtain ⟨g, cS, eS, htp⟩ := h.tops hn1
  obtain ⟨t0, t1, x1, f1, x2', f2, t3, t4⟩ := htp n2
  have x2 := x2' hn2
  obtain ⟨n, hn⟩ : ∃ n, q.st.length = n := ⟨_, rfl⟩
  rw [hn] at eS t1 t3 hl hl2
  subst eS
  have z1 := h.cells.2.1
  have z2 := h.frz 1
  have hgb : b ≠ g := fun e => h.sb (by rw [e]; rfl)
  have hgb' : g ≠ b := fun e => hgb e.symm
  have d1 : ¬ (n : Int) < 2 := by omega
  have d2 : (n : Int) - 1 = (n1 : Int) := by omega
  have d3 : (n : Int) - 2 = (n2 : Int) := by omega
  have d4 : (0 : Int) ≤ (n1 : Int) := by omega
  have d5 : (n1 : Int) < (n : Int) := by omega
  have d6 : (0 : Int) ≤ (n2 : Int) := by omega
  have d7 : (n2 : Int) < (n : Int) := by omega
  have d8 : (n2 : Int) < (n1 : Int) := by omega
  have d9 : (n1 : Int) ≤ (cS : Int) := by omega
  obtain ⟨y, hy⟩ : ∃ y, y = lastZ q.st 0 := ⟨_, rfl⟩
  obtain ⟨x, hx⟩ : ∃ x, x = lastZ q.st 1 := ⟨_, rfl⟩
  rw [← hy] at x1
  rw [← hx] at x2
  rw [← hx, ← hy]
  rw [← hx, ← hy] at hlt
  rw [show sumC 6 x y = 1 by simp [sumC, hlt]]
  have c1 := hid (show Calls Tryd.prog 23 #[.pointer (some ⟨b, 0, none⟩), .int .u8 6] w (SmPostC b base (tx ++ strOfNums [6]) (.slice (some ⟨g, 0, none⟩) n cS) vO vI zs q w) from sumCode_any 6 h (by omega))
  have hn1' : n = n1 + 1 := by omega
  have HN := hid (⟨hn1, hn1', hn2, t1⟩ : q.st.length = n1 + 1 ∧ n = n1 + 1 ∧ n1 = n2 + 1 ∧ n = n1 + 1)
  have HHN := hid hn
  clear h hn1 hn1' hn2 t0 t1 x2' hy hx htp hn
  go_enter Tryd.func21, Tryd.ntmps21
  go_wp2_with fail
  refine c1.out.mono ?_
  clear c1
  intro e w3 hh
  obtain ⟨hx9, hS3, hB3⟩ := hh
  subst e
  have z1' := hS3.cells.2.1
  have z2' := hS3.frz 1
  obtain ⟨cur3, hc3⟩ : ∃ cur, w3.heap[g]? = some (.cells cur 3) := by
    rcases hS3.st.2 with ⟨h2, _⟩ | ⟨g', cap', cur, hv, hg, hh, _⟩
    · cases h2
    · cases hv
      exact ⟨cur, hh⟩
  have f1' := frozen_of_row w3 g n1 _ _ hc3
  have f2' := frozen_of_row w3 g n2 _ _ hc3
  have x1' : ∃ u, w3.cell? ⟨g, n1, none⟩ = some u := by
    obtain ⟨g9, c9, e9, h9⟩ := hS3.tops HN.out.1
    rw [HHN.out] at e9
    cases e9
    exact ⟨_, (h9 n2).x1⟩
  have x2' : ∃ u, w3.cell? ⟨g, n2, none⟩ = some u := by
    obtain ⟨g9, c9, e9, h9⟩ := hS3.tops HN.out.1
    rw [HHN.out] at e9
    cases e9
    exact ⟨_, (h9 n2).x2 HN.out.2.2.1⟩
  obtain ⟨u1, x1'⟩ := x1'
  obtain ⟨u2, x2'⟩ := x2'
  have HS := hid hS3
  have HB := hid hB3
  clear hS3 hB3 hc3 z1 z2 x1 x2 f1 f2
  go_wp2_with fail
  have HF := hid (HS.out.fin2 HHN.out HN.out.2.1 HN.out.2.2.1 (1))
  go_end0
  exact ⟨rfl, _, _, HF.out.1, HB.out.trans HF.out.2⟩
set_option maxRecDepth 100000 in
set_option maxHeartbeats 4000000 in
theorem two_less0 {w : World} {b base : Nat} {tx : ByteArray} {vS vO vI : Value} {zs : List Int} {q : Sx} (h : SmAt w b base tx vS vO vI zs q) (hz : tx.size ≤ 990) (hl : 2 ≤ q.st.length) (hl2 : q.st.length ≤ 8) (hlt : ¬ lastZ q.st 1 < lastZ q.st 0) :
    Calls Tryd.prog 21 #[.pointer (some ⟨b, 0, none⟩), .int .i64 5] w (SmPost b base (tx ++ strOfNums [6]) vI zs { q with st := cutZ q.st 2 ++ [sumC 6 (lastZ q.st 1) (lastZ q.st 0)] } w) := by
  obtain ⟨n1, hn1⟩ : ∃ n1, q.st.length = n1 + 1 := ⟨q.st.length - 1, by omega⟩
  obtain ⟨n2, hn2⟩ : ∃ n2, n1 = n2 + 1 := ⟨n1 - 1, by omega⟩
  obtain ⟨g, cS, eS, htp⟩ := h.tops hn1
  obtain ⟨t0, t1, x1, f1, x2', f2, t3, t4⟩ := htp n2
  have x2 := x2' hn2
  obtain ⟨n, hn⟩ : ∃ n, q.st.length = n := ⟨_, rfl⟩
  rw [hn] at eS t1 t3 hl hl2
  subst eS
  have z1 := h.cells.2.1
  have z2 := h.frz 1
  have hgb : b ≠ g := fun e => h.sb (by rw [e]; rfl)
  have hgb' : g ≠ b := fun e => hgb e.symm
  have d1 : ¬ (n : Int) < 2 := by omega
  have d2 : (n : Int) - 1 = (n1 : Int) := by omega
  have d3 : (n : Int) - 2 = (n2 : Int) := by omega
  have d4 : (0 : Int) ≤ (n1 : Int) := by omega
  have d5 : (n1 : Int) < (n : Int) := by omega
  have d6 : (0 : Int) ≤ (n2 : Int) := by omega
  have d7 : (n2 : Int) < (n : Int) := by omega
  have d8 : (n2 : Int) < (n1 : Int) := by omega
  have d9 : (n1 : Int) ≤ (cS : Int) := by omega
  obtain ⟨y, hy⟩ : ∃ y, y = lastZ q.st 0 := ⟨_, rfl⟩
  obtain ⟨x, hx⟩ : ∃ x, x = lastZ q.st 1 := ⟨_, rfl⟩
  rw [← hy] at x1
  rw [← hx] at x2
  rw [← hx, ← hy]
  rw [← hx, ← hy] at hlt
  rw [show sumC 6 x y = 0 by simp [sumC, hlt]]
  have c1 := hid (show Calls Tryd.prog 23 #[.pointer (some ⟨b, 0, none⟩), .int .u8 6] w (SmPostC b base (tx ++ strOfNums [6]) (.slice (some ⟨g, 0, none⟩) n cS) vO vI zs q w) from sumCode_any 6 h (by omega))
  have hn1' : n = n1 + 1 := by omega
  have HN := hid (⟨hn1, hn1', hn2, t1⟩ : q.st.length = n1 + 1 ∧ n = n1 + 1 ∧ n1 = n2 + 1 ∧ n = n1 + 1)
  have HHN := hid hn
  clear h hn1 hn1' hn2 t0 t1 x2' hy hx htp hn
  go_enter Tryd.func21, Tryd.ntmps21
  go_wp2_with fail
  refine c1.out.mono ?_
  clear c1
  intro e w3 hh
  obtain ⟨hx9, hS3, hB3⟩ := hh
  subst e
  have z1' := hS3.cells.2.1
  have z2' := hS3.frz 1
  obtain ⟨cur3, hc3⟩ : ∃ cur, w3.heap[g]? = some (.cells cur 3) := by
    rcases hS3.st.2 with ⟨h2, _⟩ | ⟨g', cap', cur, hv, hg, hh, _⟩
    · cases h2
    · cases hv
      exact ⟨cur, hh⟩
  have f1' := frozen_of_row w3 g n1 _ _ hc3
  have f2' := frozen_of_row w3 g n2 _ _ hc3
  have x1' : ∃ u, w3.cell? ⟨g, n1, none⟩ = some u := by
    obtain ⟨g9, c9, e9, h9⟩ := hS3.tops HN.out.1
    rw [HHN.out] at e9
    cases e9
    exact ⟨_, (h9 n2).x1⟩
  have x2' : ∃ u, w3.cell? ⟨g, n2, none⟩ = some u := by
    obtain ⟨g9, c9, e9, h9⟩ := hS3.tops HN.out.1
    rw [HHN.out] at e9
    cases e9
    exact ⟨_, (h9 n2).x2 HN.out.2.2.1⟩
  obtain ⟨u1, x1'⟩ := x1'
  obtain ⟨u2, x2'⟩ := x2'
  have HS := hid hS3
  have HB := hid hB3
  clear hS3 hB3 hc3 z1 z2 x1 x2 f1 f2
  go_wp2_with fail
  have HF := hid (HS.out.fin2 HHN.out HN.out.2.1 HN.out.2.2.1 (0))
  go_end0
  exact ⟨rfl, _, _, HF.out.1, HB.out.trans HF.out.2⟩
set_option maxRecDepth 100000 in
set_option maxHeartbeats 4000000 in
theorem two_div {w : World} {b base : Nat} {tx : ByteArray} {vS vO vI : Value} {zs : List Int} {q : Sx} (h : SmAt w b base tx vS vO vI zs q) (hz : tx.size ≤ 990) (hl : 2 ≤ q.st.length) (hl2 : q.st.length ≤ 8) (hne : lastZ q.st 0 ≠ 0) :
    Calls Tryd.prog 21 #[.pointer (some ⟨b, 0, none⟩), .int .i64 6] w (SmPost b base (tx ++ strOfNums [5]) vI zs { q with st := cutZ q.st 2 ++ [sumC 5 (lastZ q.st 1) (lastZ q.st 0)] } w) := by
  obtain ⟨n1, hn1⟩ : ∃ n1, q.st.length = n1 + 1 := ⟨q.st.length - 1, by omega⟩
  obtain ⟨n2, hn2⟩ : ∃ n2, n1 = n2 + 1 := ⟨n1 - 1, by omega⟩
  obtain ⟨g, cS, eS, htp⟩ := h.tops hn1
  obtain ⟨t0, t1, x1, f1, x2', f2, t3, t4⟩ := htp n2
  have x2 := x2' hn2
  obtain ⟨n, hn⟩ : ∃ n, q.st.length = n := ⟨_, rfl⟩
  rw [hn] at eS t1 t3 hl hl2
  subst eS
  have z1 := h.cells.2.1
  have z2 := h.frz 1
  have hgb : b ≠ g := fun e => h.sb (by rw [e]; rfl)
  have hgb' : g ≠ b := fun e => hgb e.symm
  have d1 : ¬ (n : Int) < 2 := by omega
  have d2 : (n : Int) - 1 = (n1 : Int) := by omega
  have d3 : (n : Int) - 2 = (n2 : Int) := by omega
  have d4 : (0 : Int) ≤ (n1 : Int) := by omega
  have d5 : (n1 : Int) < (n : Int) := by omega
  have d6 : (0 : Int) ≤ (n2 : Int) := by omega
  have d7 : (n2 : Int) < (n : Int) := by omega
  have d8 : (n2 : Int) < (n1 : Int) := by omega
  have d9 : (n1 : Int) ≤ (cS : Int) := by omega
  obtain ⟨y, hy⟩ : ∃ y, y = lastZ q.st 0 := ⟨_, rfl⟩
  obtain ⟨x, hx⟩ : ∃ x, x = lastZ q.st 1 := ⟨_, rfl⟩
  rw [← hy] at x1
  rw [← hx] at x2
  rw [← hx, ← hy]
  rw [← hy] at hne
  have hne2 : (y == 0) = false := by simp [hne]
  have c1 := hid (show Calls Tryd.prog 23 #[.pointer (some ⟨b, 0, none⟩), .int .u8 5] w (SmPostC b base (tx ++ strOfNums [5]) (.slice (some ⟨g, 0, none⟩) n cS) vO vI zs q w) from sumCode_any 5 h (by omega))
  have hn1' : n = n1 + 1 := by omega
  have hv : IntKind.i64.wrap (x.tdiv y) = sumC 5 x y := by rw [IntKind.wrap_i64]; simp [sumC, wrap64]
  have HN := hid (⟨hn1, hn1', hn2, t1⟩ : q.st.length = n1 + 1 ∧ n = n1 + 1 ∧ n1 = n2 + 1 ∧ n = n1 + 1)
  have HHN := hid hn
  clear h hn1 hn1' hn2 t0 t1 x2' hy hx htp hn
  go_enter Tryd.func21, Tryd.ntmps21
  go_wp2_with fail
  refine c1.out.mono ?_
  clear c1
  intro e w3 hh
  obtain ⟨hx9, hS3, hB3⟩ := hh
  subst e
  have z1' := hS3.cells.2.1
  have z2' := hS3.frz 1
  obtain ⟨cur3, hc3⟩ : ∃ cur, w3.heap[g]? = some (.cells cur 3) := by
    rcases hS3.st.2 with ⟨h2, _⟩ | ⟨g', cap', cur, hv, hg, hh, _⟩
    · cases h2
    · cases hv
      exact ⟨cur, hh⟩
  have f1' := frozen_of_row w3 g n1 _ _ hc3
  have f2' := frozen_of_row w3 g n2 _ _ hc3
  have x1' : ∃ u, w3.cell? ⟨g, n1, none⟩ = some u := by
    obtain ⟨g9, c9, e9, h9⟩ := hS3.tops HN.out.1
    rw [HHN.out] at e9
    cases e9
    exact ⟨_, (h9 n2).x1⟩
  have x2' : ∃ u, w3.cell? ⟨g, n2, none⟩ = some u := by
    obtain ⟨g9, c9, e9, h9⟩ := hS3.tops HN.out.1
    rw [HHN.out] at e9
    cases e9
    exact ⟨_, (h9 n2).x2 HN.out.2.2.1⟩
  obtain ⟨u1, x1'⟩ := x1'
  obtain ⟨u2, x2'⟩ := x2'
  have HS := hid hS3
  have HB := hid hB3
  clear hS3 hB3 hc3 z1 z2 x1 x2 f1 f2
  go_wp2_with fail
  have HF := hid (HS.out.fin2 HHN.out HN.out.2.1 HN.out.2.2.1 (sumC 5 x y))
  go_end0
  exact ⟨rfl, _, _, HF.out.1, HB.out.trans HF.out.2⟩
end Go.Proofs.YtdmdpindonghdaaDoor
namespace Go.Proofs.YtdmdpindonghdaaDoor
open Go.RowKit
theorem cutZ_take (st : List Int) {n n1 : Nat} (hn : st.length = n) (e1 : n = n1 + 1) : st.take n1 = cutZ st 1 := by
  unfold cutZ
  rw [show st.length - 1 = n1 by omega]
theorem SmAt.fin1 {w : World} {b base g cS : Nat} {tx : ByteArray} {vO vI : Value} {zs : List Int} {q : Sx} {n n1 : Nat} (hn : q.st.length = n) (h : SmAt w b base tx (.slice (some ⟨g, 0, none⟩) n cS) vO vI zs q) (e1 : n = n1 + 1) :
    SmAt (w.setCell ⟨b, 1, none⟩ (.slice (some ⟨g, 0, none⟩) n1 cS)) b base tx (.slice (some ⟨g, 0, none⟩) n1 cS) vO vI zs { q with st := cutZ q.st 1 } ∧ Below base w (w.setCell ⟨b, 1, none⟩ (.slice (some ⟨g, 0, none⟩) n1 cS)) := by
  have e := cutZ_take q.st hn e1
  subst hn
  have := h.cut n1 (by omega)
  rw [e] at this
  exact this
set_option maxRecDepth 100000 in
set_option maxHeartbeats 4000000 in
theorem two_few (k : Int) {w : World} {b base : Nat} {tx : ByteArray} {vS vO vI : Value} {zs : List Int} {q : Sx} (h : SmAt w b base tx vS vO vI zs q) (hl : q.st.length < 2) :
    Calls Tryd.prog 21 #[.pointer (some ⟨b, 0, none⟩), .int .i64 k] w (SmPost b base tx vI zs q w) := by
  obtain ⟨pS, cS, eS⟩ := h.sSlice
  subst eS
  have x1 := h.cells.2.1
  have d1 : (q.st.length : Int) < 2 := by omega
  have HF : Hid (SmPost b base tx vI zs q w (.returned (.tuple #[])) w) := hid ⟨rfl, _, _, h, Below.refl _ _⟩
  have hl8 : q.st.length ≤ 8 := by omega
  clear h
  go_enter Tryd.func21, Tryd.ntmps21
  go_wp2_with fail
  go_end0
  exact HF.out
set_option maxRecDepth 100000 in
set_option maxHeartbeats 4000000 in
theorem two_zero {w : World} {b base : Nat} {tx : ByteArray} {vS vO vI : Value} {zs : List Int} {q : Sx} (h : SmAt w b base tx vS vO vI zs q) (hl : 2 ≤ q.st.length) (hl2 : q.st.length ≤ 8) (h0 : lastZ q.st 0 = 0) :
    Calls Tryd.prog 21 #[.pointer (some ⟨b, 0, none⟩), .int .i64 6] w (SmPost b base tx vI zs q w) := by
  have HF : Hid (SmPost b base tx vI zs q w (.returned (.tuple #[])) w) := hid ⟨rfl, _, _, h, Below.refl _ _⟩
  obtain ⟨n1, hn1⟩ : ∃ n1, q.st.length = n1 + 1 := ⟨q.st.length - 1, by omega⟩
  obtain ⟨g, cS, eS, htp⟩ := h.tops hn1
  obtain ⟨t0, t1, x1, f1, x2', f2, t3, t4⟩ := htp 0
  obtain ⟨n, hn⟩ : ∃ n, q.st.length = n := ⟨_, rfl⟩
  rw [hn] at eS t1 t3 hl hl2
  subst eS
  have z1 := h.cells.2.1
  have z2 := h.frz 1
  have hgb : b ≠ g := fun e => h.sb (by rw [e]; rfl)
  have hgb' : g ≠ b := fun e => hgb e.symm
  have d1 : ¬ (n : Int) < 2 := by omega
  have d2 : (n : Int) - 1 = (n1 : Int) := by omega
  have d4 : (0 : Int) ≤ (n1 : Int) := by omega
  have d5 : (n1 : Int) < (n : Int) := by omega
  have d9 : (n1 : Int) ≤ (cS : Int) := by omega
  have d0 : ((n : Int) == 0) = false := by simp; omega
  obtain ⟨y, hy⟩ : ∃ y, y = lastZ q.st 0 := ⟨_, rfl⟩
  rw [← hy] at x1
  rw [hy, h0] at x1
  clear h hn1 t0 t1 x2' hy htp hn
  go_enter Tryd.func21, Tryd.ntmps21
  go_wp2_with fail
  go_end0
  exact HF.out
set_option maxRecDepth 100000 in
set_option maxHeartbeats 4000000 in
theorem top_none (k : Int) {w : World} {b base : Nat} {tx : ByteArray} {vS vO vI : Value} {zs : List Int} {q : Sx} (h : SmAt w b base tx vS vO vI zs q) (hl : q.st.length = 0) :
    Calls Tryd.prog 22 #[.pointer (some ⟨b, 0, none⟩), .int .i64 k] w (SmPost b base tx vI zs q w) := by
  obtain ⟨pS, cS, eS⟩ := h.sSlice
  rw [hl] at eS
  subst eS
  have x1 := h.cells.2.1
  have HF : Hid (SmPost b base tx vI zs q w (.returned (.tuple #[])) w) := hid ⟨rfl, _, _, h, Below.refl _ _⟩
  clear h hl
  go_enter Tryd.func22, Tryd.ntmps22
  go_wp2_with fail
  go_end0
  exact HF.out
set_option maxRecDepth 100000 in
set_option maxHeartbeats 4000000 in
theorem top_full {w : World} {b base : Nat} {tx : ByteArray} {vS vO vI : Value} {zs : List Int} {q : Sx} (h : SmAt w b base tx vS vO vI zs q) (hl : 8 ≤ q.st.length) (hl2 : q.st.length ≤ 8) :
    Calls Tryd.prog 22 #[.pointer (some ⟨b, 0, none⟩), .int .i64 10] w (SmPost b base tx vI zs q w) := by
  obtain ⟨pS, cS, eS⟩ := h.sSlice
  rw [show q.st.length = 8 by omega] at eS
  subst eS
  have x1 := h.cells.2.1
  have HF : Hid (SmPost b base tx vI zs q w (.returned (.tuple #[])) w) := hid ⟨rfl, _, _, h, Below.refl _ _⟩
  clear h hl hl2
  go_enter Tryd.func22, Tryd.ntmps22
  go_wp2_with fail
  go_end0
  exact HF.out
set_option maxRecDepth 100000 in
set_option maxHeartbeats 4000000 in
theorem top_drop {w : World} {b base : Nat} {tx : ByteArray} {vS vO vI : Value} {zs : List Int} {q : Sx} (h : SmAt w b base tx vS vO vI zs q) (hz : tx.size ≤ 990) (hl : 0 < q.st.length) (hl2 : q.st.length ≤ 8) :
    Calls Tryd.prog 22 #[.pointer (some ⟨b, 0, none⟩), .int .i64 13] w (SmPost b base (tx ++ strOfNums [10]) vI zs { q with st := cutZ q.st 1 } w) := by
  obtain ⟨n1, hn1⟩ : ∃ n1, q.st.length = n1 + 1 := ⟨q.st.length - 1, by omega⟩
  obtain ⟨g, cS, eS, htp⟩ := h.tops hn1
  obtain ⟨t0, t1, x1, f1, x2', f2, t3, t4⟩ := htp 0
  obtain ⟨n, hn⟩ : ∃ n, q.st.length = n := ⟨_, rfl⟩
  rw [hn] at eS t1 t3 hl hl2
  subst eS
  have z1 := h.cells.2.1
  have z2 := h.frz 1
  have hgb : b ≠ g := fun e => h.sb (by rw [e]; rfl)
  have hgb' : g ≠ b := fun e => hgb e.symm
  have d2 : (n : Int) - 1 = (n1 : Int) := by omega
  have d4 : (0 : Int) ≤ (n1 : Int) := by omega
  have d5 : (n1 : Int) < (n : Int) := by omega
  have d9 : (n1 : Int) ≤ (cS : Int) := by omega
  have d0 : ((n : Int) == 0) = false := by simp; omega
  obtain ⟨y, hy⟩ : ∃ y, y = lastZ q.st 0 := ⟨_, rfl⟩
  rw [← hy] at x1
  have HH := h
  have c1 := hid (show Calls Tryd.prog 23 #[.pointer (some ⟨b, 0, none⟩), .int .u8 10] w (SmPostC b base (tx ++ strOfNums [10]) (.slice (some ⟨g, 0, none⟩) n cS) vO vI zs q w) from sumCode_any 10 HH (by first | omega | exact hz2))
  have hn1' : n = n1 + 1 := by omega
  have HN := hid hn1'
  have HHN := hid hn
  clear HH h hn1 hn1' t0 t1 x2' hy htp hn
  go_enter Tryd.func22, Tryd.ntmps22
  go_wp2_with fail
  refine c1.out.mono ?_
  clear c1
  intro e w3 hh
  obtain ⟨hx9, hS3, hB3⟩ := hh
  subst e
  have z1' := hS3.cells.2.1
  have z2' := hS3.frz 1
  have HS := hid hS3
  have HB := hid hB3
  clear hS3 hB3 z1 z2 x1 f1 f2
  go_wp2_with fail
  have HF := hid (HS.out.fin1 HHN.out HN.out)
  go_end0
  exact ⟨rfl, _, _, HF.out.1, HB.out.trans HF.out.2⟩
set_option maxRecDepth 100000 in
set_option maxHeartbeats 4000000 in
theorem top_store {w : World} {b base : Nat} {tx : ByteArray} {vS vO vI : Value} {zs : List Int} {q : Sx} (h : SmAt w b base tx vS vO vI zs q) (hz : tx.size ≤ 990) (hl : 0 < q.st.length) (hl2 : q.st.length ≤ 8) :
    Calls Tryd.prog 22 #[.pointer (some ⟨b, 0, none⟩), .int .i64 11] w (SmPost b base (tx ++ strOfNums [8] ++ strOfNums [0]) vI zs { q with loc := lastZ q.st 0, st := cutZ q.st 1 } w) := by
  obtain ⟨n1, hn1⟩ : ∃ n1, q.st.length = n1 + 1 := ⟨q.st.length - 1, by omega⟩
  obtain ⟨g, cS, eS, htp⟩ := h.tops hn1
  obtain ⟨t0, t1, x1, f1, x2', f2, t3, t4⟩ := htp 0
  obtain ⟨n, hn⟩ : ∃ n, q.st.length = n := ⟨_, rfl⟩
  rw [hn] at eS t1 t3 hl hl2
  subst eS
  have z1 := h.cells.2.1
  have z2 := h.frz 1
  have hgb : b ≠ g := fun e => h.sb (by rw [e]; rfl)
  have hgb' : g ≠ b := fun e => hgb e.symm
  have d2 : (n : Int) - 1 = (n1 : Int) := by omega
  have d4 : (0 : Int) ≤ (n1 : Int) := by omega
  have d5 : (n1 : Int) < (n : Int) := by omega
  have d9 : (n1 : Int) ≤ (cS : Int) := by omega
  have d0 : ((n : Int) == 0) = false := by simp; omega
  obtain ⟨y, hy⟩ : ∃ y, y = lastZ q.st 0 := ⟨_, rfl⟩
  rw [← hy] at x1
  rw [← hy]
  have y2 := h.frz 2
  have y3 := h.cells.2.2.1
  have hf := h.field 2 (.int .i64 y) (tx' := tx) (loc' := y) (rd' := q.rd) (by simp [smRow])
  have hz2 : (tx ++ strOfNums [8]).size ≤ 1000 := by
    rw [ByteArray.size_append, strOfNums_size]
    simp only [List.length_cons, List.length_nil]
    omega
  have HH := hf.1
  have c1 := hid (show Calls Tryd.prog 23 #[.pointer (some ⟨b, 0, none⟩), .int .u8 8] (w.setCell ⟨b, 2, none⟩ (.int .i64 y)) (SmPostC b base (tx ++ strOfNums [8]) (.slice (some ⟨g, 0, none⟩) n cS) vO vI zs { q with loc := y } (w.setCell ⟨b, 2, none⟩ (.int .i64 y))) from sumCode_any 8 HH (by first | omega | exact hz2))
  have HB0 := hid hf.2
  clear HH
  have c2 := hid (fun (W : World) (HH : SmAt W b base (tx ++ strOfNums [8]) (.slice (some ⟨g, 0, none⟩) n cS) vO vI zs { q with loc := y }) => (show Calls Tryd.prog 23 #[.pointer (some ⟨b, 0, none⟩), .int .u8 0] W (SmPostC b base (tx ++ strOfNums [8] ++ strOfNums [0]) (.slice (some ⟨g, 0, none⟩) n cS) vO vI zs { q with loc := y } W) from sumCode_any 0 HH (by first | omega | exact hz2)))
  have hn1' : n = n1 + 1 := by omega
  have HN := hid hn1'
  have HHN := hid hn
  clear h hn1 hn1' t0 t1 x2' hy htp hn hf
  go_enter Tryd.func22, Tryd.ntmps22
  go_wp2_with fail
  refine c1.out.mono ?_
  clear c1
  intro e w2 hh
  obtain ⟨hx9, hS2, hB2⟩ := hh
  subst e
  have c3 := hid (c2.out w2 hS2)
  have HB2 := hid (HB0.out.trans hB2)
  clear hS2 hB2 z1 z2 x1 f1 f2 HB0 c2 y2 y3
  go_wp2_with fail
  refine c3.out.mono ?_
  clear c3
  intro e w3 hh
  obtain ⟨hx9, hS3, hB3⟩ := hh
  subst e
  have z1' := hS3.cells.2.1
  have z2' := hS3.frz 1
  have HS := hid hS3
  have HB := hid (HB2.out.trans hB3)
  clear hS3 hB3 HB2
  go_wp2_with fail
  have HF := hid (SmAt.fin1 (q := { q with loc := y }) HHN.out HS.out HN.out)
  go_end0
  exact ⟨rfl, _, _, HF.out.1, HB.out.trans HF.out.2⟩
set_option maxRecDepth 100000 in
set_option maxHeartbeats 4000000 in
theorem top_dup {w : World} {b base : Nat} {tx : ByteArray} {vS vO vI : Value} {zs : List Int} {q : Sx} (h : SmAt w b base tx vS vO vI zs q) (hz : tx.size ≤ 990) (hl : 0 < q.st.length) (hl2 : q.st.length < 8) :
    Calls Tryd.prog 22 #[.pointer (some ⟨b, 0, none⟩), .int .i64 10] w (SmPost b base (tx ++ strOfNums [9]) vI zs { q with st := q.st ++ [lastZ q.st 0] } w) := by
  obtain ⟨n1, hn1⟩ : ∃ n1, q.st.length = n1 + 1 := ⟨q.st.length - 1, by omega⟩
  obtain ⟨g, cS, eS, htp⟩ := h.tops hn1
  obtain ⟨t0, t1, x1, f1, x2', f2, t3, t4⟩ := htp 0
  obtain ⟨n, hn⟩ : ∃ n, q.st.length = n := ⟨_, rfl⟩
  rw [hn] at eS t1 t3 hl hl2
  subst eS
  have z1 := h.cells.2.1
  have z2 := h.frz 1
  have hgb : b ≠ g := fun e => h.sb (by rw [e]; rfl)
  have hgb' : g ≠ b := fun e => hgb e.symm
  have d2 : (n : Int) - 1 = (n1 : Int) := by omega
  have d4 : (0 : Int) ≤ (n1 : Int) := by omega
  have d5 : (n1 : Int) < (n : Int) := by omega
  have d9 : (n1 : Int) ≤ (cS : Int) := by omega
  have d0 : ((n : Int) == 0) = false := by simp; omega
  obtain ⟨y, hy⟩ : ∃ y, y = lastZ q.st 0 := ⟨_, rfl⟩
  rw [← hy] at x1
  rw [← hy]
  have d8 : ¬ (8 : Int) ≤ (n : Int) := by omega
  have c1 := hid (fun (W : World) (vS' : Value) (HH : SmAt W b base tx vS' vO vI zs { q with st := q.st ++ [y] }) => (show Calls Tryd.prog 23 #[.pointer (some ⟨b, 0, none⟩), .int .u8 9] W (SmPostC b base (tx ++ strOfNums [9]) vS' vO vI zs { q with st := q.st ++ [y] } W) from sumCode_any 9 HH (by first | omega | exact hz2)))
  have hown := h.st
  rw [hn] at hown
  have hlt := h.lt
  have hbb := h.bb
  have hfar : some b ≠ (Value.slice (some ⟨g, 0, none⟩) n cS).ownBlock := fun e => h.sb e.symm
  obtain ⟨i0', hi0, hz0, hz1, hz3⟩ := info_parts intInfo
  have HS := hid h
  have HHN := hid hn
  clear h hn1 t0 t1 x2' hy htp hn
  go_enter Tryd.func22, Tryd.ntmps22
  go_wp2_with (at_builtin; go_must (refine wpList_append_lies _ (by rfl) _ _ _ (by rfl) base 3 i0' _ 1 8 Tryd.underlying33 hi0 hz0 hz1 hz3 rfl (by omega) _ n (q.st.map (.int .i64)) (by rfl) (hown.alloc _) ⟨w.heap.size, 0, none⟩ 1 1 [.int .i64 y] (by rfl) (by rfl) (World.news_of_block (cs := #[.int .i64 y]) (t := 3) (fr := (0, 0)) (heap_alloc_new w _)) (by simp [Value.oneCell']) (by omega) (by unfold maxLen; omega) (by omega) (by simp; omega) _ rfl ?_); intro gg gcap w6 hown6 hgrow6 hat6 hlt6; have s2 := (hgrow6.cell_far ⟨b, 1, none⟩ (by simp; omega) hfar); have s3 := (hgrow6.frozen_far ⟨b, 1, none⟩ (by simp; omega) hfar))
  rw [← HHN.out] at hown6
  have HFN := hid (HS.out.push (by simpa only [HHN.out] using hgrow6) hown6 hat6)
  rw [HHN.out] at HFN
  refine (c1.out _ _ HFN.out.1).mono ?_
  intro e w7 hh
  obtain ⟨hx9, hS7, hB7⟩ := hh
  subst e
  have HS7 := hid hS7
  have HB7 := hid (HFN.out.2.trans hB7)
  clear hS7 hB7 HFN hown6 hgrow6 hat6 hlt6 s2 s3
  go_wp2_with fail
  go_end0
  exact ⟨rfl, _, _, HS7.out, HB7.out⟩
set_option maxRecDepth 100000 in
set_option maxHeartbeats 4000000 in
theorem top_out {w : World} {b base : Nat} {tx : ByteArray} {vS vO vI : Value} {zs : List Int} {q : Sx} (h : SmAt w b base tx vS vO vI zs q) (hz : tx.size ≤ 990) (hl : 0 < q.st.length) (hl2 : q.st.length ≤ 8) (hol : q.out.length ≤ 1000) :
    Calls Tryd.prog 22 #[.pointer (some ⟨b, 0, none⟩), .int .i64 12] w (SmPost b base (tx ++ strOfNums [22]) vI zs { q with out := q.out ++ [lastZ q.st 0], st := cutZ q.st 1 } w) := by
  obtain ⟨n1, hn1⟩ : ∃ n1, q.st.length = n1 + 1 := ⟨q.st.length - 1, by omega⟩
  obtain ⟨g, cS, eS, htp⟩ := h.tops hn1
  obtain ⟨t0, t1, x1, f1, x2', f2, t3, t4⟩ := htp 0
  obtain ⟨n, hn⟩ : ∃ n, q.st.length = n := ⟨_, rfl⟩
  rw [hn] at eS t1 t3 hl hl2
  subst eS
  have z1 := h.cells.2.1
  have z2 := h.frz 1
  have hgb : b ≠ g := fun e => h.sb (by rw [e]; rfl)
  have hgb' : g ≠ b := fun e => hgb e.symm
  have d2 : (n : Int) - 1 = (n1 : Int) := by omega
  have d4 : (0 : Int) ≤ (n1 : Int) := by omega
  have d5 : (n1 : Int) < (n : Int) := by omega
  have d9 : (n1 : Int) ≤ (cS : Int) := by omega
  have d0 : ((n : Int) == 0) = false := by simp; omega
  obtain ⟨y, hy⟩ : ∃ y, y = lastZ q.st 0 := ⟨_, rfl⟩
  rw [← hy] at x1
  rw [← hy]
  obtain ⟨pO, cO, eO⟩ := owns_slice h.out
  subst eO
  have y3 := h.cells.2.2.2.1
  have y4 := h.frz 3
  have c1 := hid (fun (W : World) (vO' : Value) (HH : SmAt W b base tx (.slice (some ⟨g, 0, none⟩) n cS) vO' vI zs { q with out := q.out ++ [y] }) => (show Calls Tryd.prog 23 #[.pointer (some ⟨b, 0, none⟩), .int .u8 22] W (SmPostC b base (tx ++ strOfNums [22]) (.slice (some ⟨g, 0, none⟩) n cS) vO' vI zs { q with out := q.out ++ [y] } W) from sumCode_any 22 HH (by first | omega | exact hz2)))
  have hown := h.out
  have hlt := h.lt
  have hbb := h.bb
  have hfar : some b ≠ (Value.slice pO q.out.length cO).ownBlock := fun e => h.ob e.symm
  obtain ⟨i0', hi0, hz0, hz1, hz3⟩ := info_parts intInfo
  have HS := hid h
  have hn1' : n = n1 + 1 := by omega
  have HN := hid hn1'
  have HHN := hid hn
  clear h hn1 t0 t1 x2' hy htp hn hn1'
  go_enter Tryd.func22, Tryd.ntmps22
  go_wp2_with (at_builtin; go_must (refine wpList_append_lies _ (by rfl) _ _ _ (by rfl) base 3 i0' _ 1 8 Tryd.underlying33 hi0 hz0 hz1 hz3 rfl (by omega) _ q.out.length (q.out.map (.int .i64)) (by rfl) (hown.alloc _) ⟨w.heap.size, 0, none⟩ 1 1 [.int .i64 y] (by rfl) (by rfl) (World.news_of_block (cs := #[.int .i64 y]) (t := 3) (fr := (0, 0)) (heap_alloc_new w _)) (by simp [Value.oneCell']) (by omega) (by unfold maxLen; omega) (by omega) (by simp; omega) _ rfl ?_); intro gg gcap w6 hown6 hgrow6 hat6 hlt6; have s2 := (hgrow6.cell_far ⟨b, 3, none⟩ (by simp; omega) hfar); have s3 := (hgrow6.frozen_far ⟨b, 3, none⟩ (by simp; omega) hfar))
  have HFN := hid (HS.out.pushO hgrow6 hown6 hat6)
  refine (c1.out _ _ HFN.out.1).mono ?_
  intro e w7 hh
  obtain ⟨hx9, hS7, hB7⟩ := hh
  subst e
  have z1' := hS7.cells.2.1
  have z2' := hS7.frz 1
  have HS7 := hid hS7
  have HB7 := hid (HFN.out.2.trans hB7)
  clear hS7 hB7 HFN hown6 hgrow6 hat6 hlt6 s2 s3 z1 z2 x1 f1 f2 y3 y4
  go_wp2_with fail
  have HF := hid (SmAt.fin1 (q := { q with out := q.out ++ [y] }) HHN.out HS7.out HN.out)
  go_end0
  exact ⟨rfl, _, _, HF.out.1, HB7.out.trans HF.out.2⟩
end Go.Proofs.YtdmdpindonghdaaDoor
namespace Go.Proofs.YtdmdpindonghdaaDoor
open Go.RowKit
theorem strC1 (op : Nat) (h : takesB op = false) : strC [(op, 0)] = strOfNums [(op : Int)] := by
  unfold strC strOfNums bytesC
  simp [encI, h]
theorem strC2 (op n : Nat) (h : takesB op = true) : strC [(op, n)] = strOfNums [(op : Int)] ++ strOfNums [(n : Int)] := by
  apply bytes_ext
  unfold strC strOfNums bytesC
  simp [encI, h]
theorem Rk.outs {zs : List Int} {cs : List (Nat × Nat)} {q : Sx} (h : Rk zs cs q) : q.out.length ≤ cs.length := by
  induction h using Rk.ind with
  | nil => simp [zeroX]
  | snoc cs q op n _ hm ih =>
    rw [List.length_append, List.length_singleton]
    unfold exI
    repeat' split
    all_goals try simp
    all_goals omega
theorem len_csize : ∀ cs : List (Nat × Nat), cs.length ≤ csize cs
  | [] => by simp [csize]
  | x :: r => by
    have := len_csize r
    have := esz_pos x.1
    simp only [List.length_cons, csize]
    omega
/-- Straight code, and the Sum in memory that tells of it. -/
structure SumIs (w : World) (b base : Nat) (vI : Value) (zs : List Int) (cs : List (Nat × Nat)) (q : Sx) : Prop where
  mem : ∃ vS vO, SmAt w b base (strC cs) vS vO vI zs q
  rk : Rk zs cs q
def SumNext (b base : Nat) (vI : Value) (zs : List Int) (cs : List (Nat × Nat)) (w : World) (e : Ending) (w' : World) : Prop := e = .returned (.tuple #[]) ∧ ∃ cs' q', SumIs w' b base vI zs cs' q' ∧ csize cs' ≤ csize cs + 2 ∧ Below base w w'
theorem SumNext.of {b base : Nat} {tx : ByteArray} {vI : Value} {zs : List Int} {cs : List (Nat × Nat)} {q q' : Sx} {op n : Nat} {w : World} {e : Ending} {w' : World} (hr : Rk zs cs q) (hm : may op n q) (hq : exI zs op n q = q') (ht : strC (cs ++ [(op, n)]) = tx) (h : SmPost b base tx vI zs q' w e w') : SumNext b base vI zs cs w e w' := by
  obtain ⟨h1, vS, vO, h2, h3⟩ := h
  subst hq
  subst ht
  refine ⟨h1, cs ++ [(op, n)], _, ⟨⟨vS, vO, h2⟩, .snoc cs q op n hr hm⟩, ?_, h3⟩
  rw [csize_append]
  have : esz op ≤ 2 := by unfold esz; split <;> omega
  show csize cs + (esz op + 0) ≤ _
  omega
theorem SumNext.same {b base : Nat} {vI : Value} {zs : List Int} {cs : List (Nat × Nat)} {q : Sx} {w : World} {e : Ending} {w' : World} (hr : Rk zs cs q) (h : SmPost b base (strC cs) vI zs q w e w') : SumNext b base vI zs cs w e w' := by
  obtain ⟨h1, vS, vO, h2, h3⟩ := h
  exact ⟨h1, cs, q, ⟨⟨vS, vO, h2⟩, hr⟩, by omega, h3⟩
theorem more_any (k c : Nat) {w : World} {b base : Nat} {vI : Value} {zs : List Int} {cs : List (Nat × Nat)} {q : Sx} (h : SumIs w b base vI zs cs q) (hz : csize cs ≤ 900) (hk : k = 0 ∨ k = 1 ∨ k = 8 ∨ k = 9) (hc : c < 256) (hzl : zs.length ≤ 1000) :
    Calls Tryd.prog 20 #[.pointer (some ⟨b, 0, none⟩), .int .i64 k, .int .i64 c] w (SumNext b base vI zs cs w) := by
  obtain ⟨vS, vO, hm⟩ := h.mem
  have hle := h.rk.le
  have hs : (strC cs).size ≤ 990 := by rw [strC_size]; omega
  rcases Nat.lt_or_ge q.st.length 8 with hl | hl
  · rcases hk with rfl | rfl | rfl | rfl
    · exact (more_byte 0 c hm hs (.inl rfl) hc hl).mono (fun e w' => SumNext.of (op := 1) (n := c) h.rk (.inl ⟨rfl, hc, hl⟩) (by simp [exI]) (by rw [strC_append, strC2 1 c rfl, ByteArray.append_assoc]; rfl))
    · exact (more_byte 1 c hm hs (.inr rfl) hc hl).mono (fun e w' => SumNext.of (op := 1) (n := c) h.rk (.inl ⟨rfl, hc, hl⟩) (by simp [exI]) (by rw [strC_append, strC2 1 c rfl, ByteArray.append_assoc]; rfl))
    · exact (more_load hm hs hl c).mono (fun e w' => SumNext.of (op := 7) (n := 0) h.rk (.inr (.inl ⟨.inl rfl, rfl, hl⟩)) (by simp [exI]) (by rw [strC_append, strC2 7 0 rfl, ByteArray.append_assoc]; rfl))
    · by_cases hr : q.rd < zs.length
      · exact (more_in1 hm hs hl c hr hzl).mono (fun e w' => SumNext.of (op := 21) (n := 0) h.rk (.inr (.inl ⟨.inr rfl, rfl, hl⟩)) (by simp [exI, hr]) (by rw [strC_append, strC1 21 rfl]; rfl))
      · exact (more_in0 hm hs hl c hr).mono (fun e w' => SumNext.of (op := 21) (n := 0) h.rk (.inr (.inl ⟨.inr rfl, rfl, hl⟩)) (by simp [exI, hr]) (by rw [strC_append, strC1 21 rfl]; rfl))
  · exact (more_full k c hm hl (by omega)).mono (fun e w' => SumNext.same h.rk)
theorem two_any (k : Nat) {w : World} {b base : Nat} {vI : Value} {zs : List Int} {cs : List (Nat × Nat)} {q : Sx} (h : SumIs w b base vI zs cs q) (hz : csize cs ≤ 900) (hk : 2 ≤ k ∧ k ≤ 7) :
    Calls Tryd.prog 21 #[.pointer (some ⟨b, 0, none⟩), .int .i64 k] w (SumNext b base vI zs cs w) := by
  obtain ⟨vS, vO, hm⟩ := h.mem
  have hle := h.rk.le
  have hs : (strC cs).size ≤ 990 := by rw [strC_size]; omega
  rcases Nat.lt_or_ge q.st.length 2 with hl | hl
  · exact (two_few k hm hl).mono (fun e w' => SumNext.same h.rk)
  obtain rfl | rfl | rfl | rfl | rfl | rfl : k = 2 ∨ k = 3 ∨ k = 4 ∨ k = 5 ∨ k = 6 ∨ k = 7 := by omega
  · exact (two_add hm hs hl hle).mono (fun e w' => SumNext.of (op := 2) (n := 0) h.rk (.inr (.inr (.inr (.inr (.inl ⟨by omega, rfl, hl⟩))))) (by simp [exI]) (by rw [strC_append, strC1 2 rfl]; rfl))
  · exact (two_sub hm hs hl hle).mono (fun e w' => SumNext.of (op := 3) (n := 0) h.rk (.inr (.inr (.inr (.inr (.inl ⟨by omega, rfl, hl⟩))))) (by simp [exI]) (by rw [strC_append, strC1 3 rfl]; rfl))
  · exact (two_mul hm hs hl hle).mono (fun e w' => SumNext.of (op := 4) (n := 0) h.rk (.inr (.inr (.inr (.inr (.inl ⟨by omega, rfl, hl⟩))))) (by simp [exI]) (by rw [strC_append, strC1 4 rfl]; rfl))
  · by_cases hlt : lastZ q.st 1 < lastZ q.st 0
    · exact (two_less1 hm hs hl hle hlt).mono (fun e w' => SumNext.of (op := 6) (n := 0) h.rk (.inr (.inr (.inr (.inr (.inl ⟨by omega, rfl, hl⟩))))) (by simp [exI]) (by rw [strC_append, strC1 6 rfl]; rfl))
    · exact (two_less0 hm hs hl hle hlt).mono (fun e w' => SumNext.of (op := 6) (n := 0) h.rk (.inr (.inr (.inr (.inr (.inl ⟨by omega, rfl, hl⟩))))) (by simp [exI]) (by rw [strC_append, strC1 6 rfl]; rfl))
  · by_cases h0 : lastZ q.st 0 = 0
    · exact (two_zero hm hl hle h0).mono (fun e w' => SumNext.same h.rk)
    · exact (two_div hm hs hl hle h0).mono (fun e w' => SumNext.of (op := 5) (n := 0) h.rk (.inr (.inr (.inr (.inr (.inr ⟨rfl, rfl, hl, h0⟩))))) (by simp [exI]) (by rw [strC_append, strC1 5 rfl]; rfl))
  · exact (two_swap hm hs hl hle).mono (fun e w' => SumNext.of (op := 11) (n := 0) h.rk (.inr (.inr (.inr (.inr (.inl ⟨by omega, rfl, hl⟩))))) (by simp [exI]) (by rw [strC_append, strC1 11 rfl]; rfl))
theorem top_any (k : Nat) {w : World} {b base : Nat} {vI : Value} {zs : List Int} {cs : List (Nat × Nat)} {q : Sx} (h : SumIs w b base vI zs cs q) (hz : csize cs ≤ 900) (hk : 10 ≤ k ∧ k ≤ 13) :
    Calls Tryd.prog 22 #[.pointer (some ⟨b, 0, none⟩), .int .i64 k] w (SumNext b base vI zs cs w) := by
  obtain ⟨vS, vO, hm⟩ := h.mem
  have hle := h.rk.le
  have hs : (strC cs).size ≤ 990 := by rw [strC_size]; omega
  have hol : q.out.length ≤ 1000 := by have := h.rk.outs; have := len_csize cs; omega
  rcases Nat.eq_zero_or_pos q.st.length with hl | hl
  · exact (top_none k hm hl).mono (fun e w' => SumNext.same h.rk)
  obtain rfl | rfl | rfl | rfl : k = 10 ∨ k = 11 ∨ k = 12 ∨ k = 13 := by omega
  · rcases Nat.lt_or_ge q.st.length 8 with h8 | h8
    · exact (top_dup hm hs hl h8).mono (fun e w' => SumNext.of (op := 9) (n := 0) h.rk (.inr (.inr (.inl ⟨rfl, rfl, hl, h8⟩))) (by simp [exI]) (by rw [strC_append, strC1 9 rfl]; rfl))
    · exact (top_full hm h8 hle).mono (fun e w' => SumNext.same h.rk)
  · exact (top_store hm hs hl hle).mono (fun e w' => SumNext.of (op := 8) (n := 0) h.rk (.inr (.inr (.inr (.inl ⟨by omega, rfl, hl⟩)))) (by simp [exI]) (by rw [strC_append, strC2 8 0 rfl, ByteArray.append_assoc]; rfl))
  · exact (top_out hm hs hl hle hol).mono (fun e w' => SumNext.of (op := 22) (n := 0) h.rk (.inr (.inr (.inr (.inl ⟨by omega, rfl, hl⟩)))) (by simp [exI]) (by rw [strC_append, strC1 22 rfl]; rfl))
  · exact (top_drop hm hs hl hle).mono (fun e w' => SumNext.of (op := 10) (n := 0) h.rk (.inr (.inr (.inr (.inl ⟨by omega, rfl, hl⟩)))) (by simp [exI]) (by rw [strC_append, strC1 10 rfl]; rfl))
end Go.Proofs.YtdmdpindonghdaaDoor
namespace Go.Proofs.YtdmdpindonghdaaDoor
open Go.RowKit
theorem imgStr1 (cs : List (Nat × Nat)) : ((⟨#[84, 1]⟩ : ByteArray) ++ strC cs).data.toList = imgC 1 cs := by
  simp [imgC, strC]
theorem below_dn2 (w : World) (a b : Nat) : Below w.heap.size w ((w.drewN a).drewN b) := ⟨rfl, rfl, rfl, Nat.le_refl _, fun _ _ => rfl⟩
theorem SumIs.below {w w' : World} {b base : Nat} {vI : Value} {zs : List Int} {cs : List (Nat × Nat)} {q : Sx} (h : SumIs w b base vI zs cs q) (hb : Below w.heap.size w w') : SumIs w' b base vI zs cs q := by
  obtain ⟨⟨vS, vO, hm⟩, hr⟩ := h
  exact ⟨⟨vS, vO, hm.below hb⟩, hr⟩
theorem SumIs.code {w : World} {b base : Nat} {vI : Value} {zs : List Int} {cs : List (Nat × Nat)} {q : Sx} (h : SumIs w b base vI zs cs q) : w.cell? ⟨b, 0, none⟩ = some (.string (strC cs)) := by
  obtain ⟨⟨vS, vO, hm⟩, _⟩ := h
  exact hm.cells.1
theorem SumIs.stack {w : World} {b base : Nat} {vI : Value} {zs : List Int} {cs : List (Nat × Nat)} {q : Sx} (h : SumIs w b base vI zs cs q) : ∃ p c, w.cell? ⟨b, 1, none⟩ = some (.slice p q.st.length c) := by
  obtain ⟨⟨vS, vO, hm⟩, _⟩ := h
  obtain ⟨p, c, e⟩ := hm.sSlice
  subst e
  exact ⟨p, c, hm.cells.2.1⟩
/-- What the loop has come to. -/
structure SumEnd (w : World) (b base : Nat) (vI : Value) (zs : List Int) (cs : List (Nat × Nat)) (q : Sx) : Prop where
  mem : ∃ vS vO, SmAt w b base (strC (cs ++ [(0, 0)])) vS vO vI zs q
  rk : Rk zs cs q
  pos : 0 < q.st.length
theorem more_seven {w : World} {b base : Nat} {vI : Value} {zs : List Int} {cs : List (Nat × Nat)} {q : Sx} (h : SumIs w b base vI zs cs q) (hz : csize cs ≤ 900) (hl : q.st.length = 0) :
    Calls Tryd.prog 20 #[.pointer (some ⟨b, 0, none⟩), .int .i64 0, .int .i64 7] w fun e w' => e = .returned (.tuple #[]) ∧ ∃ cs' q', SumIs w' b base vI zs cs' q' ∧ csize cs' ≤ csize cs + 2 ∧ 0 < q'.st.length ∧ Below base w w' := by
  obtain ⟨vS, vO, hm⟩ := h.mem
  have hs : (strC cs).size ≤ 990 := by rw [strC_size]; omega
  refine (more_byte 0 7 hm hs (.inl rfl) (by omega) (by omega)).mono ?_
  rintro e w' ⟨h1, vS', vO', h2, h3⟩
  have hr : Rk zs (cs ++ [(1, 7)]) (exI zs 1 7 q) := .snoc cs q 1 7 h.rk (.inl ⟨rfl, by omega, by omega⟩)
  have hq : exI zs 1 7 q = { q with st := q.st ++ [(((7 : Nat) : Int) + 128) % 256 - 128] } := by simp [exI]
  have ht : strC (cs ++ [(1, 7)]) = strC cs ++ strOfNums [1] ++ strOfNums [((7 : Nat) : Int)] := by rw [strC_append, strC2 1 7 rfl, ByteArray.append_assoc]; rfl
  refine ⟨h1, cs ++ [(1, 7)], _, ⟨⟨vS', vO', by rw [hq, ht]; exact h2⟩, hr⟩, ?_, by rw [hq]; simp, h3⟩
  rw [csize_append]
  have : csize [(1, 7)] = 2 := rfl
  omega
theorem code_halt {w : World} {b base : Nat} {vI : Value} {zs : List Int} {cs : List (Nat × Nat)} {q : Sx} (h : SumIs w b base vI zs cs q) (hz : csize cs ≤ 900) (hl : 0 < q.st.length) :
    Calls Tryd.prog 23 #[.pointer (some ⟨b, 0, none⟩), .int .u8 0] w fun e w' => e = .returned (.tuple #[]) ∧ SumEnd w' b base vI zs cs q ∧ Below base w w' := by
  obtain ⟨vS, vO, hm⟩ := h.mem
  have hs : (strC cs).size ≤ 990 := by rw [strC_size]; omega
  refine (sumCode_any 0 hm (by omega)).mono ?_
  rintro e w' ⟨h1, h2, h3⟩
  have ht : strC (cs ++ [(0, 0)]) = strC cs ++ strOfNums [((0 : Nat) : Int)] := by rw [strC_append, strC1 0 rfl]
  exact ⟨h1, ⟨⟨vS, vO, by rw [ht]; exact h2⟩, h.rk, hl⟩, h3⟩
theorem run_straight {zt : List Int} {cs : List (Nat × Nat)} {q : Sx} (hrk : Rk zt cs q) (hpos : 0 < q.st.length) (hcz : csize cs ≤ 119) (hzl : zt.length ≤ 64) {cus : List Int} (hcf : cus.all fitsB = true) (hcul : cus.length ≤ 17592186044416) (n : Nat) (hn1 : 1 ≤ n) (hn2 : n ≤ 32) {vI vu : Value} {W : World} (hft : FlowTab W) (hv : ArgInts W vI zt) (hu : ArgInts W vu cus) :
    Calls Tryd.prog 25 #[.string ((⟨#[84, 1]⟩ : ByteArray) ++ strC (cs ++ [(0, 0)])), vI, .int .i64 n, vu, .int .i64 2000] W fun e w' => ∃ (st : Int) (p : Option Addr) (c : Nat), e = .returned (.tuple #[.agg #[.int .i64 1, .int .i64 (lastZ q.st 0), .int .i64 st, .slice p q.out.length c], .int .i64 0]) ∧ Below W.heap.size W w' ∧ w'.ownsRow W.heap.size 3 1 (.slice p q.out.length c) q.out.length (q.out.map (.int .i64)) := by
  obtain ⟨i1, i2, i3, i4⟩ := hrk.img hpos hcz (imgStr1 (cs ++ [(0, 0)]))
  have hXs : ((⟨#[84, 1]⟩ : ByteArray) ++ strC (cs ++ [(0, 0)])).size ≤ 122 := by
    rw [ByteArray.size_append, strC_size, csize_append]
    have : csize [(0, 0)] = 1 := rfl
    show 2 + _ ≤ 122
    omega
  generalize (⟨#[84, 1]⟩ : ByteArray) ++ strC (cs ++ [(0, 0)]) = X at *
  have hRE : RunErr X zt.length ((n : Nat) : Int) cus 2000 0 := .inr (.inr ⟨.inr (.inr (.inr ⟨.inr (.inl ⟨i1, i4, rfl⟩), by omega, by omega, hzl, rfl⟩)), hcf, by omega, by omega, rfl⟩)
  refine (pRun_any X vI vu zt cus n 2000 W (by have : maxLen = 9223372036854775807 := rfl; omega) hft hv hu hcul 0 hRE).mono ?_
  intro e w' hh
  rcases hh with ⟨h0, _⟩ | ⟨_, n', q', hn', hq', _, _, _, hb5, fs', vo, he', hwt', hi', hs', hx, hown⟩
  · exact absurd rfl h0
  obtain rfl : n' = n := by omega
  obtain rfl : q' = 2000 := by omega
  have hlen := len_csize cs
  have hrun := hrk.run hpos (E := envOf X fs' zt n') (by show codeOf X = _; exact i2) rfl cus n' 2000 (by omega)
  rw [i3] at hx hown
  obtain ⟨r1, r2, r3⟩ := hrun
  rw [r3] at hown
  obtain ⟨p, c, ev⟩ := owns_slice hown
  subst ev
  refine ⟨((runS (envOf X fs' zt n') cus 2000 0 (startS 1 n')).1 : Int), p, c, ?_, hb5, hown⟩
  rw [hx]
  unfold endV
  rw [r1, r2]
  rfl
set_option maxRecDepth 100000 in
set_option maxHeartbeats 60000000 in
theorem reckoned_any (raw : ByteArray) (vi vu : Value) (zs us : List Int) (cells : Int) (w : World) (hr : raw.size ≤ maxLen) (ht : FlowTab w) (hv : ArgInts w vi zs) (hcap : ∀ p n c, vi = .slice p n c → n ≤ c ∧ c ≤ maxLen) (hu : ArgInts w vu us) (hul : us.length ≤ 17592186043904) (hur : ∀ u ∈ us, -9223372036854775808 ≤ u ∧ u ≤ 9223372036854775807)
    (hc1 : -9223372036854775808 ≤ cells) (hc2 : cells ≤ 9223372036854775807) :
    Calls Tryd.prog 6 #[.string raw, vi, .int .i64 cells, vu] w fun e w' => e = .returned (.bool true) ∧ Below w.heap.size w w' := by
  have hmx : maxLen = 9223372036854775807 := rfl
  rw [hmx] at hr
  clear hmx
  obtain ⟨n1, n2⟩ := roomN_le cells
  have hzl : (zs.take 64).length ≤ 64 := by rw [List.length_take]; omega
  have hso := hid (fun (W : World) (hb : Below w.heap.size w W) => some_any vi zs W (hv.keep hb) hcap)
  have hrm := hid (fun (W : World) => room_any cells W hc1 hc2)
  have hcl := hid (fun (W : World) (hb : Below w.heap.size w W) => clipped_any vu us W (hu.keep hb) hul hur)
  have HFT := hid ht
  obtain ⟨p0, c0, e0⟩ := hv.slice
  subst e0
  obtain ⟨pu, cu, eu⟩ := hu.slice
  subst eu
  clear ht hv hcap hu hur hc1 hc2
  go_enter Tryd.func6, Tryd.ntmps6
  go_wp2_with fail
  refine (hso.out w (Below.refl _ _)).mono ?_
  intro e w1 hh
  obtain ⟨⟨v1, hx, hv1⟩, hw⟩ := hh
  subst e
  subst w1
  obtain ⟨zt, hzt⟩ : ∃ zt, zt = zs.take 64 := ⟨_, rfl⟩
  rw [← hzt] at hv1 hzl
  have HZT := hid hzt
  obtain ⟨pI, cI, eI⟩ := hv1.slice
  subst eI
  have HV1 := hid hv1
  clear hv1 hzt
  -- the loop
  have hA0 : SumIs (w.alloc (.cells #[.string ⟨#[]⟩, .slice none 0 0, .int .i64 0, .slice none 0 0, .slice pI zt.length cI, .int .i64 0] 42)) w.heap.size w.heap.size (.slice pI zt.length cI) zt [] zeroX := by
    refine ⟨⟨.slice none 0 0, .slice none 0 0, ?_, ⟨rfl, .inl ⟨rfl, rfl⟩⟩, ⟨rfl, .inl ⟨rfl, rfl⟩⟩, by simp [Value.ownBlock], by simp [Value.ownBlock], by simp [Value.ownBlock], Nat.le_refl _, HV1.out.keep ((Below.refl _ _).alloc (Nat.le_refl _) _), ?_⟩, .nil⟩
    · exact heap_alloc_new w _
    · intro a n c e hn
      rcases HV1.out with ⟨h1, _⟩ | ⟨a', cap, h1, _, h2⟩
      · rw [e] at h1; cases h1
      · rw [e] at h1
        cases h1
        exact h2 hn
  have HA0 := hid hA0
  have HBA : Hid (Below w.heap.size w (w.alloc (.cells #[.string ⟨#[]⟩, .slice none 0 0, .int .i64 0, .slice none 0 0, .slice pI zt.length cI, .int .i64 0] 42))) := hid ((Below.refl _ _).alloc (Nat.le_refl _) _)
  clear hA0
  go_wp2_with fail
  go_loopg [10] raw.size (fun gk x w' => ∃ (j : Nat) (cs : List (Nat × Nat)) (q : Sx), j ≤ raw.size ∧ gk = raw.size - j ∧ x = .int .i64 j ∧ SumIs w' w.heap.size w.heap.size (.slice pI zt.length cI) zt cs q ∧ csize cs ≤ 117 ∧ Below w.heap.size w w')
  case atStart => exact ⟨0, [], zeroX, by omega, by omega, rfl, HA0.out, by simp [csize], HBA.out⟩
  case round =>
    obtain ⟨j, cs, q, hj, hgk, rfl, hS, hcz, hB⟩ := hrel
    have x0 := hS.code
    have hsz := strC_size cs
    have HS := hid hS
    have HB := hid hB
    clear hS hB HA0 HBA
    rcases Nat.lt_or_ge j raw.size with hlt | hge
    · have d0 : (0 : Int) ≤ (j : Int) := by omega
      have d1 : (j : Int) < (raw.size : Int) := by omega
      by_cases h116 : csize cs < 116
      · have e1 : ((strC cs).size : Int) < 116 := by omega
        have hbq := byteAt_eq raw j hlt
        have hb256 := byteAt_lt raw j
        obtain ⟨c, hc⟩ : ∃ c, c = byteAt raw j := ⟨_, rfl⟩
        rw [← hc] at hbq hb256
        obtain ⟨k, hk⟩ : ∃ k, k = c % 14 := ⟨_, rfl⟩
        have hk14 : k < 14 := by omega
        have hkc : (c : Int) % 14 = (k : Int) := by omega
        clear hc hk
        have hmo := hid (fun (k : Nat) (hk : k = 0 ∨ k = 1 ∨ k = 8 ∨ k = 9) => more_any k c HS.out (by omega) hk hb256 (by omega))
        have htw := hid (fun (k : Nat) (hk : 2 ≤ k ∧ k ≤ 7) => two_any k HS.out (by omega) hk)
        have hto := hid (fun (k : Nat) (hk : 10 ≤ k ∧ k ≤ 13) => top_any k HS.out (by omega) hk)
        obtain rfl | rfl | rfl | rfl | rfl | rfl | rfl | rfl | rfl | rfl | rfl | rfl | rfl | rfl : k = 0 ∨ k = 1 ∨ k = 2 ∨ k = 3 ∨ k = 4 ∨ k = 5 ∨ k = 6 ∨ k = 7 ∨ k = 8 ∨ k = 9 ∨ k = 10 ∨ k = 11 ∨ k = 12 ∨ k = 13 := by omega
        · have hp := hid (show Calls Tryd.prog 20 #[.pointer (some ⟨w.heap.size, 0, none⟩), .int .i64 0, .int .i64 c] wr (SumNext w.heap.size w.heap.size (.slice pI zt.length cI) zt cs wr) from hmo.out 0 (by omega))
          rw [show ((0 : Nat) : Int) = 0 from rfl] at hkc
          clear hmo htw hto
          go_wp2_with fail
          refine hp.out.mono ?_
          clear hp
          intro e w5 hh
          obtain ⟨hx, cs', q', hS', hz', hB'⟩ := hh
          subst e
          have HS' := hid hS'
          have HB' := hid (HB.out.trans hB')
          clear hS' hB'
          go_wp2_with fail
          go_roundg (raw.size - (j + 1))
          case measure => omega
          case rel => exact ⟨j + 1, cs', q', by omega, rfl, by go_num, HS'.out, by omega, HB'.out⟩
        · have hp := hid (show Calls Tryd.prog 20 #[.pointer (some ⟨w.heap.size, 0, none⟩), .int .i64 1, .int .i64 c] wr (SumNext w.heap.size w.heap.size (.slice pI zt.length cI) zt cs wr) from hmo.out 1 (by omega))
          rw [show ((1 : Nat) : Int) = 1 from rfl] at hkc
          clear hmo htw hto
          go_wp2_with fail
          refine hp.out.mono ?_
          clear hp
          intro e w5 hh
          obtain ⟨hx, cs', q', hS', hz', hB'⟩ := hh
          subst e
          have HS' := hid hS'
          have HB' := hid (HB.out.trans hB')
          clear hS' hB'
          go_wp2_with fail
          go_roundg (raw.size - (j + 1))
          case measure => omega
          case rel => exact ⟨j + 1, cs', q', by omega, rfl, by go_num, HS'.out, by omega, HB'.out⟩
        · have hp := hid (show Calls Tryd.prog 21 #[.pointer (some ⟨w.heap.size, 0, none⟩), .int .i64 2] wr (SumNext w.heap.size w.heap.size (.slice pI zt.length cI) zt cs wr) from htw.out 2 (by omega))
          rw [show ((2 : Nat) : Int) = 2 from rfl] at hkc
          clear hmo htw hto
          go_wp2_with fail
          refine hp.out.mono ?_
          clear hp
          intro e w5 hh
          obtain ⟨hx, cs', q', hS', hz', hB'⟩ := hh
          subst e
          have HS' := hid hS'
          have HB' := hid (HB.out.trans hB')
          clear hS' hB'
          go_wp2_with fail
          go_roundg (raw.size - (j + 1))
          case measure => omega
          case rel => exact ⟨j + 1, cs', q', by omega, rfl, by go_num, HS'.out, by omega, HB'.out⟩
        · have hp := hid (show Calls Tryd.prog 21 #[.pointer (some ⟨w.heap.size, 0, none⟩), .int .i64 3] wr (SumNext w.heap.size w.heap.size (.slice pI zt.length cI) zt cs wr) from htw.out 3 (by omega))
          rw [show ((3 : Nat) : Int) = 3 from rfl] at hkc
          clear hmo htw hto
          go_wp2_with fail
          refine hp.out.mono ?_
          clear hp
          intro e w5 hh
          obtain ⟨hx, cs', q', hS', hz', hB'⟩ := hh
          subst e
          have HS' := hid hS'
          have HB' := hid (HB.out.trans hB')
          clear hS' hB'
          go_wp2_with fail
          go_roundg (raw.size - (j + 1))
          case measure => omega
          case rel => exact ⟨j + 1, cs', q', by omega, rfl, by go_num, HS'.out, by omega, HB'.out⟩
        · have hp := hid (show Calls Tryd.prog 21 #[.pointer (some ⟨w.heap.size, 0, none⟩), .int .i64 4] wr (SumNext w.heap.size w.heap.size (.slice pI zt.length cI) zt cs wr) from htw.out 4 (by omega))
          rw [show ((4 : Nat) : Int) = 4 from rfl] at hkc
          clear hmo htw hto
          go_wp2_with fail
          refine hp.out.mono ?_
          clear hp
          intro e w5 hh
          obtain ⟨hx, cs', q', hS', hz', hB'⟩ := hh
          subst e
          have HS' := hid hS'
          have HB' := hid (HB.out.trans hB')
          clear hS' hB'
          go_wp2_with fail
          go_roundg (raw.size - (j + 1))
          case measure => omega
          case rel => exact ⟨j + 1, cs', q', by omega, rfl, by go_num, HS'.out, by omega, HB'.out⟩
        · have hp := hid (show Calls Tryd.prog 21 #[.pointer (some ⟨w.heap.size, 0, none⟩), .int .i64 5] wr (SumNext w.heap.size w.heap.size (.slice pI zt.length cI) zt cs wr) from htw.out 5 (by omega))
          rw [show ((5 : Nat) : Int) = 5 from rfl] at hkc
          clear hmo htw hto
          go_wp2_with fail
          refine hp.out.mono ?_
          clear hp
          intro e w5 hh
          obtain ⟨hx, cs', q', hS', hz', hB'⟩ := hh
          subst e
          have HS' := hid hS'
          have HB' := hid (HB.out.trans hB')
          clear hS' hB'
          go_wp2_with fail
          go_roundg (raw.size - (j + 1))
          case measure => omega
          case rel => exact ⟨j + 1, cs', q', by omega, rfl, by go_num, HS'.out, by omega, HB'.out⟩
        · have hp := hid (show Calls Tryd.prog 21 #[.pointer (some ⟨w.heap.size, 0, none⟩), .int .i64 6] wr (SumNext w.heap.size w.heap.size (.slice pI zt.length cI) zt cs wr) from htw.out 6 (by omega))
          rw [show ((6 : Nat) : Int) = 6 from rfl] at hkc
          clear hmo htw hto
          go_wp2_with fail
          refine hp.out.mono ?_
          clear hp
          intro e w5 hh
          obtain ⟨hx, cs', q', hS', hz', hB'⟩ := hh
          subst e
          have HS' := hid hS'
          have HB' := hid (HB.out.trans hB')
          clear hS' hB'
          go_wp2_with fail
          go_roundg (raw.size - (j + 1))
          case measure => omega
          case rel => exact ⟨j + 1, cs', q', by omega, rfl, by go_num, HS'.out, by omega, HB'.out⟩
        · have hp := hid (show Calls Tryd.prog 21 #[.pointer (some ⟨w.heap.size, 0, none⟩), .int .i64 7] wr (SumNext w.heap.size w.heap.size (.slice pI zt.length cI) zt cs wr) from htw.out 7 (by omega))
          rw [show ((7 : Nat) : Int) = 7 from rfl] at hkc
          clear hmo htw hto
          go_wp2_with fail
          refine hp.out.mono ?_
          clear hp
          intro e w5 hh
          obtain ⟨hx, cs', q', hS', hz', hB'⟩ := hh
          subst e
          have HS' := hid hS'
          have HB' := hid (HB.out.trans hB')
          clear hS' hB'
          go_wp2_with fail
          go_roundg (raw.size - (j + 1))
          case measure => omega
          case rel => exact ⟨j + 1, cs', q', by omega, rfl, by go_num, HS'.out, by omega, HB'.out⟩
        · have hp := hid (show Calls Tryd.prog 20 #[.pointer (some ⟨w.heap.size, 0, none⟩), .int .i64 8, .int .i64 c] wr (SumNext w.heap.size w.heap.size (.slice pI zt.length cI) zt cs wr) from hmo.out 8 (by omega))
          rw [show ((8 : Nat) : Int) = 8 from rfl] at hkc
          clear hmo htw hto
          go_wp2_with fail
          refine hp.out.mono ?_
          clear hp
          intro e w5 hh
          obtain ⟨hx, cs', q', hS', hz', hB'⟩ := hh
          subst e
          have HS' := hid hS'
          have HB' := hid (HB.out.trans hB')
          clear hS' hB'
          go_wp2_with fail
          go_roundg (raw.size - (j + 1))
          case measure => omega
          case rel => exact ⟨j + 1, cs', q', by omega, rfl, by go_num, HS'.out, by omega, HB'.out⟩
        · have hp := hid (show Calls Tryd.prog 20 #[.pointer (some ⟨w.heap.size, 0, none⟩), .int .i64 9, .int .i64 c] wr (SumNext w.heap.size w.heap.size (.slice pI zt.length cI) zt cs wr) from hmo.out 9 (by omega))
          rw [show ((9 : Nat) : Int) = 9 from rfl] at hkc
          clear hmo htw hto
          go_wp2_with fail
          refine hp.out.mono ?_
          clear hp
          intro e w5 hh
          obtain ⟨hx, cs', q', hS', hz', hB'⟩ := hh
          subst e
          have HS' := hid hS'
          have HB' := hid (HB.out.trans hB')
          clear hS' hB'
          go_wp2_with fail
          go_roundg (raw.size - (j + 1))
          case measure => omega
          case rel => exact ⟨j + 1, cs', q', by omega, rfl, by go_num, HS'.out, by omega, HB'.out⟩
        · have hp := hid (show Calls Tryd.prog 22 #[.pointer (some ⟨w.heap.size, 0, none⟩), .int .i64 10] wr (SumNext w.heap.size w.heap.size (.slice pI zt.length cI) zt cs wr) from hto.out 10 (by omega))
          rw [show ((10 : Nat) : Int) = 10 from rfl] at hkc
          clear hmo htw hto
          go_wp2_with fail
          refine hp.out.mono ?_
          clear hp
          intro e w5 hh
          obtain ⟨hx, cs', q', hS', hz', hB'⟩ := hh
          subst e
          have HS' := hid hS'
          have HB' := hid (HB.out.trans hB')
          clear hS' hB'
          go_wp2_with fail
          go_roundg (raw.size - (j + 1))
          case measure => omega
          case rel => exact ⟨j + 1, cs', q', by omega, rfl, by go_num, HS'.out, by omega, HB'.out⟩
        · have hp := hid (show Calls Tryd.prog 22 #[.pointer (some ⟨w.heap.size, 0, none⟩), .int .i64 11] wr (SumNext w.heap.size w.heap.size (.slice pI zt.length cI) zt cs wr) from hto.out 11 (by omega))
          rw [show ((11 : Nat) : Int) = 11 from rfl] at hkc
          clear hmo htw hto
          go_wp2_with fail
          refine hp.out.mono ?_
          clear hp
          intro e w5 hh
          obtain ⟨hx, cs', q', hS', hz', hB'⟩ := hh
          subst e
          have HS' := hid hS'
          have HB' := hid (HB.out.trans hB')
          clear hS' hB'
          go_wp2_with fail
          go_roundg (raw.size - (j + 1))
          case measure => omega
          case rel => exact ⟨j + 1, cs', q', by omega, rfl, by go_num, HS'.out, by omega, HB'.out⟩
        · have hp := hid (show Calls Tryd.prog 22 #[.pointer (some ⟨w.heap.size, 0, none⟩), .int .i64 12] wr (SumNext w.heap.size w.heap.size (.slice pI zt.length cI) zt cs wr) from hto.out 12 (by omega))
          rw [show ((12 : Nat) : Int) = 12 from rfl] at hkc
          clear hmo htw hto
          go_wp2_with fail
          refine hp.out.mono ?_
          clear hp
          intro e w5 hh
          obtain ⟨hx, cs', q', hS', hz', hB'⟩ := hh
          subst e
          have HS' := hid hS'
          have HB' := hid (HB.out.trans hB')
          clear hS' hB'
          go_wp2_with fail
          go_roundg (raw.size - (j + 1))
          case measure => omega
          case rel => exact ⟨j + 1, cs', q', by omega, rfl, by go_num, HS'.out, by omega, HB'.out⟩
        · have hp := hid (show Calls Tryd.prog 22 #[.pointer (some ⟨w.heap.size, 0, none⟩), .int .i64 13] wr (SumNext w.heap.size w.heap.size (.slice pI zt.length cI) zt cs wr) from hto.out 13 (by omega))
          rw [show ((13 : Nat) : Int) = 13 from rfl] at hkc
          clear hmo htw hto
          go_wp2_with fail
          refine hp.out.mono ?_
          clear hp
          intro e w5 hh
          obtain ⟨hx, cs', q', hS', hz', hB'⟩ := hh
          subst e
          have HS' := hid hS'
          have HB' := hid (HB.out.trans hB')
          clear hS' hB'
          go_wp2_with fail
          go_roundg (raw.size - (j + 1))
          case measure => omega
          case rel => exact ⟨j + 1, cs', q', by omega, rfl, by go_num, HS'.out, by omega, HB'.out⟩
      · have e1 : ¬ ((strC cs).size : Int) < 116 := by omega
        obtain ⟨pS, cS, y1⟩ := HS.out.stack
        rcases Nat.eq_zero_or_pos q.st.length with hl0 | hl0
        · have hmo := hid (more_seven HS.out (by omega) hl0)
          rw [hl0] at y1
          go_wp2_with fail
          refine hmo.out.mono ?_
          clear hmo
          intro e w5 hh
          obtain ⟨hx, cs5, q5, hS5, hz5, hp5, hB5⟩ := hh
          subst e
          have HS5 := hid hS5
          have HB5 := hid (HB.out.trans hB5)
          clear hS5 hB5 HS HB y1 x0 hsz
          have hco := hid (code_halt HS5.out (by omega) hp5)
          clear HS5
          go_wp2_with fail
          refine hco.out.mono ?_
          clear hco
          intro e w6 hh
          obtain ⟨hx, hE6, hB6⟩ := hh
          subst e
          have HB6 := hid (HB5.out.trans hB6)
          have hc6 := hid (hcl.out w6 HB6.out)
          have HE6 := hid hE6
          clear hE6 hB6 HB5 hcl 
          go_wp2_with fail
          refine hc6.out.mono ?_
          clear hc6
          intro e w7 hh
          obtain ⟨hb7, vu7, hx, hou⟩ := hh
          subst e
          rw [← clip_len us] at hou
          obtain ⟨pv, cv, ev⟩ := owns_slice hou
          subst ev
          have HAU := hid (argsK_owns hou)
          have HB7 := hid (HB6.out.trans (hb7.mono HB6.out.size))
          obtain ⟨⟨vS7, vO7, hm7⟩, hrk7, hpos7⟩ : SumEnd w7 w.heap.size w.heap.size (.slice pI zt.length cI) zt cs5 q5 := by
            obtain ⟨⟨vS, vO, hm⟩, hrk, hpos⟩ := HE6.out
            exact ⟨⟨vS, vO, hm.below hb7⟩, hrk, hpos⟩
          have x7 := hm7.cells.1
          have hcat : ¬ 9223372036854775807 < (⟨#[84, 1]⟩ : ByteArray).size + (strC (cs5 ++ [(0, 0)])).size := by
            rw [strC_size, csize_append]
            have : csize [(0, 0)] = 1 := rfl
            show ¬ 9223372036854775807 < 2 + _
            omega
          have hcat2 : ¬ 9223372036854775807 < 2 + (strC (cs5 ++ [(0, 0)])).size := hcat
          obtain ⟨cus, hcus⟩ : ∃ cus, cus = clipN us := ⟨_, rfl⟩
          rw [← hcus] at HAU ⊢
          have hcf : cus.all fitsB = true := by rw [hcus]; exact clip_fits us
          have hcul : cus.length ≤ 17592186044416 := by rw [hcus, clip_len]; omega
          have hs7 := hid (fun (W : World) (hb : Below w7.heap.size w7 W) => hso.out W (HB7.out.trans (hb.mono HB7.out.size)))
          rw [← HZT.out] at hs7
          have hrm7 := hid (fun (W : World) => hrm.out W)
          obtain ⟨pO7, cO7, eO7⟩ := owns_slice hm7.out
          subst eO7
          obtain ⟨m7, hm7n⟩ : ∃ m7, q5.st.length = m7 + 1 := ⟨q5.st.length - 1, by omega⟩
          obtain ⟨g7, cS7, eS7, _⟩ := hm7.tops hm7n
          subst eS7
          have hol7 := hrk7.outs
          have hcl7 := len_csize cs5
          have hle7 := hrk7.le
          have HM7 := hid hm7
          have hblt := hm7.lt
          have hbne : w.heap.size ≠ w7.heap.size := by omega
          have hbne' : w7.heap.size ≠ w.heap.size := by omega
          have hru := hid (fun (W : World) (hb : Below w7.heap.size w7 W) (v : Value) (hv : ArgInts W v zt) => (run_straight hrk7 hpos7 (by omega) hzl hcf hcul (roomN cells) n1 n2 (HFT.out.below (HB7.out.trans (hb.mono HB7.out.size))) hv (HAU.out.keep hb)).mono (R' := fun e w' => ∃ (st : Int) (p : Option Addr) (c : Nat), e = .returned (.tuple #[.agg #[.int .i64 1, .int .i64 (lastZ q5.st 0), .int .i64 st, .slice p q5.out.length c], .int .i64 0]) ∧ Below W.heap.size W w' ∧ Below w7.heap.size w7 w' ∧ w'.ownsRow W.heap.size 3 1 (.slice p q5.out.length c) q5.out.length (q5.out.map (.int .i64)) ∧ w'.cell? ⟨w.heap.size, 0, none⟩ = some (.string (strC (cs5 ++ [(0, 0)])))) (fun e w' hh => by
            obtain ⟨st, p, c, h1, h2, h3⟩ := hh
            have h4 := hb.trans (h2.mono hb.size)
            exact ⟨st, p, c, h1, h2, h4, h3, (h4.cell (p := ⟨w.heap.size, 0, none⟩) hblt).trans x7⟩))
          clear hb7 hou hm7 HE6 HB6 hcus hso hrm HAU hcf
          generalize strC (cs5 ++ [(0, 0)]) = T7 at *
          go_wp2_with fail
          go_region_held3 (fun w' => w'.cell? ⟨w.heap.size, 0, none⟩ = some (.string T7)) (go_keep) (first
            | (go_at_call 19; refine (hs7.out _ (by first | exact (Below.refl _ _).drew | exact ((Below.refl _ _).alloc (Nat.le_refl _) _).drew)).mono ?_; intro e9 w9 hh; obtain ⟨⟨v9, hx9, hv9⟩, hw9⟩ := hh; subst hx9; subst hw9)
            | (go_at_call 17; refine (hrm7.out _).mono ?_; intro e9 w9 hh; obtain ⟨hx9, hw9⟩ := hh; subst hx9; subst hw9)
            | (go_at_call 25; (first | (refine (hru.out _ (Below.refl _ _).drew v9 hv9).mono ?_) | (refine (hru.out _ ((Below.refl _ _).alloc (Nat.le_refl _) _).drew v9 hv9).mono ?_) | (refine (hru.out _ ((Below.refl _ _).alloc (Nat.le_refl _) _).drew v9 (hv9.keep ((Below.refl _ _).alloc (Nat.le_refl _) _))).mono ?_)); intro e9 w9 hh; obtain ⟨st9, p9, c9, hx9, hb9, hb79, hz9, y9⟩ := hh; subst hx9; have hz79 := hb79.size; have hbn9 : w.heap.size ≠ w9.heap.size := (by omega); have hbn9' : w9.heap.size ≠ w.heap.size := (by omega); have hbl9 : w.heap.size < w9.heap.size := (by omega); (try (have rb9 := (hb9.block w7.heap.size (by simp)).trans (heap_alloc_new w7 _); have b0 := cell_of_row w9 w7.heap.size 0 _ _ _ rb9; have b1 := cell_of_row w9 w7.heap.size 1 _ _ _ rb9; have b2 := cell_of_row w9 w7.heap.size 2 _ _ _ rb9; have b3 := cell_of_row w9 w7.heap.size 3 _ _ _ rb9; simp only [List.getElem?_toArray, List.getElem?_cons_zero, List.getElem?_cons_succ] at b0 b1 b2 b3; have f0 := frozen_of_row w9 w7.heap.size 0 _ _ rb9; have f1 := frozen_of_row w9 w7.heap.size 1 _ _ rb9; have f2 := frozen_of_row w9 w7.heap.size 2 _ _ rb9; have f3 := frozen_of_row w9 w7.heap.size 3 _ _ rb9))))
          · have HRB := hid (heap_alloc_new w9 (.cells #[.int .i64 1, .int .i64 (lastZ q5.st 0), .int .i64 st9, .slice p9 q5.out.length c9] 47))
            have hbA : Below w9.heap.size w9 (w9.alloc (.cells #[.int .i64 1, .int .i64 (lastZ q5.st 0), .int .i64 st9, .slice p9 q5.out.length c9] 47)) := (Below.refl _ _).alloc (Nat.le_refl _) _
            have HZ9 := hid (zsK_below (zsK_owns hz9) hbA)
            have HB9 := hid (hb79.trans (hbA.mono hz79))
            clear hb9 hz9 hbA hru
            generalize (w9.alloc (.cells #[.int .i64 1, .int .i64 (lastZ q5.st 0), .int .i64 st9, .slice p9 q5.out.length c9] 47)) = Wf at *
            have q0 := cell_of_row Wf w9.heap.size 0 _ _ _ HRB.out
            have q1 := cell_of_row Wf w9.heap.size 1 _ _ _ HRB.out
            have q3 := cell_of_row Wf w9.heap.size 3 _ _ _ HRB.out
            simp only [List.getElem?_toArray, List.getElem?_cons_zero, List.getElem?_cons_succ] at q0 q1 q3
            have hmf := HM7.out.below HB9.out
            have y3 := hmf.cells.2.2.2.1
            have y1' := hmf.cells.2.1
            obtain ⟨g8, cS8, eS8, htp8⟩ := hmf.tops hm7n
            cases eS8
            have x18 := (htp8 0).x1
            have hsm := hid (fun (W : World) (hb : Below Wf.heap.size Wf W) => sameK_any q5.out (.slice p9 q5.out.length c9) (.slice pO7 q5.out.length cO7) W (zsK_below HZ9.out hb) (zsK_below (zsK_owns hmf.out) hb) (by omega))
            obtain ⟨L7, hL7⟩ : ∃ L7, q5.st.length = L7 := ⟨_, rfl⟩
            rw [hL7] at y1'
            have k1 : (L7 : Int) - 1 = (m7 : Int) := by omega
            have kw2 : IntKind.i64.wrap (m7 : Int) = (m7 : Int) := by rw [IntKind.wrap_i64]; omega
            have kw1 : IntKind.i64.wrap ((L7 : Int) - 1) = (m7 : Int) := by rw [k1, IntKind.wrap_i64]; omega
            have k2 : (0 : Int) ≤ (m7 : Int) := by omega
            have k3 : (m7 : Int) < (L7 : Int) := by omega
            have HBF := hid (HB7.out.trans (HB9.out.mono HB7.out.size))
            clear hmf htp8 HM7 HB9 HZ9 HRB hL7 hm7n
            go_wp2_with fail
            go_region_held3 (fun w' => w'.cell? ⟨w9.heap.size, 3, none⟩ = some (.slice p9 q5.out.length c9) ∧ w'.cell? ⟨w.heap.size, 3, none⟩ = some (.slice pO7 q5.out.length cO7)) (go_keep) (first | (go_at_call 26; refine (hsm.out _ (Below.refl _ _).drew).mono ?_; intro e10 w10 hh; obtain ⟨hx10, nn, hw10⟩ := hh; subst hx10; subst hw10))
            go_wp2_with fail
            go_quiet (fail)
            go_wp2_with fail
            go_ret
            exact ⟨rfl, HBF.out.trans (Below.mono (below_dn2 Wf _ _) HBF.out.size)⟩
          all_goals
            have h0 := setCell_row 0 (.int .i64 1) rb9
            simp only [List.setIfInBounds_toArray, List.set_cons_zero] at h0
            have h1 := setCell_row 1 (.int .i64 (lastZ q5.st 0)) h0
            simp only [List.setIfInBounds_toArray, List.set_cons_zero, List.set_cons_succ] at h1
            have h2 := setCell_row 2 (.int .i64 st9) h1
            simp only [List.setIfInBounds_toArray, List.set_cons_zero, List.set_cons_succ] at h2
            have h3 := setCell_row 3 (.slice p9 q5.out.length c9) h2
            simp only [List.setIfInBounds_toArray, List.set_cons_zero, List.set_cons_succ] at h3
            have HRB := hid h3
            have ho4 : Only w7.heap.size w9 ((((w9.setCell ⟨w7.heap.size, 0, none⟩ (.int .i64 1)).setCell ⟨w7.heap.size, 1, none⟩ (.int .i64 (lastZ q5.st 0))).setCell ⟨w7.heap.size, 2, none⟩ (.int .i64 st9)).setCell ⟨w7.heap.size, 3, none⟩ (.slice p9 q5.out.length c9)) := ((((Only.refl _ _).set _ _).set _ _).set _ _).set _ _
            have HZ9 := hid (zsK_owns (owns_keep hz9 (fun g hg => ho4.block g (by
              have q9 := (hz9.lt g hg).1
              simp at q9
              omega))))
            have HB9 := hid (hb79.trans (⟨ho4.os, ho4.tape, ho4.output, by rw [ho4.size]; exact Nat.le_refl _, fun k hk => ho4.block k (by omega)⟩ : Below w7.heap.size w9 _))
            clear h0 h1 h2 h3 ho4 hb9 hz9 rb9 b0 b1 b2 b3 f0 f1 f2 f3 hru
            generalize ((((w9.setCell ⟨w7.heap.size, 0, none⟩ (.int .i64 1)).setCell ⟨w7.heap.size, 1, none⟩ (.int .i64 (lastZ q5.st 0))).setCell ⟨w7.heap.size, 2, none⟩ (.int .i64 st9)).setCell ⟨w7.heap.size, 3, none⟩ (.slice p9 q5.out.length c9)) = Wf at *
            have q0 := cell_of_row Wf w7.heap.size 0 _ _ _ HRB.out
            have q1 := cell_of_row Wf w7.heap.size 1 _ _ _ HRB.out
            have q3 := cell_of_row Wf w7.heap.size 3 _ _ _ HRB.out
            simp only [List.getElem?_toArray, List.getElem?_cons_zero, List.getElem?_cons_succ] at q0 q1 q3
            have hmf := HM7.out.below HB9.out
            have y3 := hmf.cells.2.2.2.1
            have y1' := hmf.cells.2.1
            obtain ⟨g8, cS8, eS8, htp8⟩ := hmf.tops hm7n
            cases eS8
            have x18 := (htp8 0).x1
            have hsm := hid (fun (W : World) (hb : Below Wf.heap.size Wf W) => sameK_any q5.out (.slice p9 q5.out.length c9) (.slice pO7 q5.out.length cO7) W (zsK_below HZ9.out hb) (zsK_below (zsK_owns hmf.out) hb) (by omega))
            obtain ⟨L7, hL7⟩ : ∃ L7, q5.st.length = L7 := ⟨_, rfl⟩
            rw [hL7] at y1'
            have k1 : (L7 : Int) - 1 = (m7 : Int) := by omega
            have kw2 : IntKind.i64.wrap (m7 : Int) = (m7 : Int) := by rw [IntKind.wrap_i64]; omega
            have kw1 : IntKind.i64.wrap ((L7 : Int) - 1) = (m7 : Int) := by rw [k1, IntKind.wrap_i64]; omega
            have k2 : (0 : Int) ≤ (m7 : Int) := by omega
            have k3 : (m7 : Int) < (L7 : Int) := by omega
            have HBF := hid (HB7.out.trans (HB9.out.mono HB7.out.size))
            clear hmf htp8 HM7 HB9 HZ9 HRB hL7 hm7n
            go_wp2_with fail
            go_region_held3 (fun w' => w'.cell? ⟨w7.heap.size, 3, none⟩ = some (.slice p9 q5.out.length c9) ∧ w'.cell? ⟨w.heap.size, 3, none⟩ = some (.slice pO7 q5.out.length cO7)) (go_keep) (first | (go_at_call 26; refine (hsm.out _ (Below.refl _ _).drew).mono ?_; intro e10 w10 hh; obtain ⟨hx10, nn, hw10⟩ := hh; subst hx10; subst hw10))
            go_wp2_with fail
            go_quiet (fail)
            go_wp2_with fail
            go_ret
            exact ⟨rfl, HBF.out.trans (Below.mono (below_dn2 Wf _ _) HBF.out.size)⟩
        · have z0 : ¬ q.st.length = 0 := by omega
          have z1 : ((q.st.length : Int) == 0) = false := by rw [beq_eq_false_iff_ne]; omega
          have HS5 := HS
          have HB5 := HB
          have hp5 := hl0
          have hz5 : csize cs ≤ 119 := by omega
          have hco := hid (code_halt HS5.out (by omega) hp5)
          clear HS5
          go_wp2_with fail
          refine hco.out.mono ?_
          clear hco
          intro e w6 hh
          obtain ⟨hx, hE6, hB6⟩ := hh
          subst e
          have HB6 := hid (HB5.out.trans hB6)
          have hc6 := hid (hcl.out w6 HB6.out)
          have HE6 := hid hE6
          clear hE6 hB6 HB5 hcl y1 x0 z0 z1
          go_wp2_with fail
          refine hc6.out.mono ?_
          clear hc6
          intro e w7 hh
          obtain ⟨hb7, vu7, hx, hou⟩ := hh
          subst e
          rw [← clip_len us] at hou
          obtain ⟨pv, cv, ev⟩ := owns_slice hou
          subst ev
          have HAU := hid (argsK_owns hou)
          have HB7 := hid (HB6.out.trans (hb7.mono HB6.out.size))
          obtain ⟨⟨vS7, vO7, hm7⟩, hrk7, hpos7⟩ : SumEnd w7 w.heap.size w.heap.size (.slice pI zt.length cI) zt cs q := by
            obtain ⟨⟨vS, vO, hm⟩, hrk, hpos⟩ := HE6.out
            exact ⟨⟨vS, vO, hm.below hb7⟩, hrk, hpos⟩
          have x7 := hm7.cells.1
          have hcat : ¬ 9223372036854775807 < (⟨#[84, 1]⟩ : ByteArray).size + (strC (cs ++ [(0, 0)])).size := by
            rw [strC_size, csize_append]
            have : csize [(0, 0)] = 1 := rfl
            show ¬ 9223372036854775807 < 2 + _
            omega
          have hcat2 : ¬ 9223372036854775807 < 2 + (strC (cs ++ [(0, 0)])).size := hcat
          obtain ⟨cus, hcus⟩ : ∃ cus, cus = clipN us := ⟨_, rfl⟩
          rw [← hcus] at HAU ⊢
          have hcf : cus.all fitsB = true := by rw [hcus]; exact clip_fits us
          have hcul : cus.length ≤ 17592186044416 := by rw [hcus, clip_len]; omega
          have hs7 := hid (fun (W : World) (hb : Below w7.heap.size w7 W) => hso.out W (HB7.out.trans (hb.mono HB7.out.size)))
          rw [← HZT.out] at hs7
          have hrm7 := hid (fun (W : World) => hrm.out W)
          obtain ⟨pO7, cO7, eO7⟩ := owns_slice hm7.out
          subst eO7
          obtain ⟨m7, hm7n⟩ : ∃ m7, q.st.length = m7 + 1 := ⟨q.st.length - 1, by omega⟩
          obtain ⟨g7, cS7, eS7, _⟩ := hm7.tops hm7n
          subst eS7
          have hol7 := hrk7.outs
          have hcl7 := len_csize cs
          have hle7 := hrk7.le
          have HM7 := hid hm7
          have hblt := hm7.lt
          have hbne : w.heap.size ≠ w7.heap.size := by omega
          have hbne' : w7.heap.size ≠ w.heap.size := by omega
          have hru := hid (fun (W : World) (hb : Below w7.heap.size w7 W) (v : Value) (hv : ArgInts W v zt) => (run_straight hrk7 hpos7 (by omega) hzl hcf hcul (roomN cells) n1 n2 (HFT.out.below (HB7.out.trans (hb.mono HB7.out.size))) hv (HAU.out.keep hb)).mono (R' := fun e w' => ∃ (st : Int) (p : Option Addr) (c : Nat), e = .returned (.tuple #[.agg #[.int .i64 1, .int .i64 (lastZ q.st 0), .int .i64 st, .slice p q.out.length c], .int .i64 0]) ∧ Below W.heap.size W w' ∧ Below w7.heap.size w7 w' ∧ w'.ownsRow W.heap.size 3 1 (.slice p q.out.length c) q.out.length (q.out.map (.int .i64)) ∧ w'.cell? ⟨w.heap.size, 0, none⟩ = some (.string (strC (cs ++ [(0, 0)])))) (fun e w' hh => by
            obtain ⟨st, p, c, h1, h2, h3⟩ := hh
            have h4 := hb.trans (h2.mono hb.size)
            exact ⟨st, p, c, h1, h2, h4, h3, (h4.cell (p := ⟨w.heap.size, 0, none⟩) hblt).trans x7⟩))
          clear hb7 hou hm7 HE6 HB6 hcus hso hrm HAU hcf
          generalize strC (cs ++ [(0, 0)]) = T7 at *
          go_wp2_with fail
          go_region_held3 (fun w' => w'.cell? ⟨w.heap.size, 0, none⟩ = some (.string T7)) (go_keep) (first
            | (go_at_call 19; refine (hs7.out _ (by first | exact (Below.refl _ _).drew | exact ((Below.refl _ _).alloc (Nat.le_refl _) _).drew)).mono ?_; intro e9 w9 hh; obtain ⟨⟨v9, hx9, hv9⟩, hw9⟩ := hh; subst hx9; subst hw9)
            | (go_at_call 17; refine (hrm7.out _).mono ?_; intro e9 w9 hh; obtain ⟨hx9, hw9⟩ := hh; subst hx9; subst hw9)
            | (go_at_call 25; (first | (refine (hru.out _ (Below.refl _ _).drew v9 hv9).mono ?_) | (refine (hru.out _ ((Below.refl _ _).alloc (Nat.le_refl _) _).drew v9 hv9).mono ?_) | (refine (hru.out _ ((Below.refl _ _).alloc (Nat.le_refl _) _).drew v9 (hv9.keep ((Below.refl _ _).alloc (Nat.le_refl _) _))).mono ?_)); intro e9 w9 hh; obtain ⟨st9, p9, c9, hx9, hb9, hb79, hz9, y9⟩ := hh; subst hx9; have hz79 := hb79.size; have hbn9 : w.heap.size ≠ w9.heap.size := (by omega); have hbn9' : w9.heap.size ≠ w.heap.size := (by omega); have hbl9 : w.heap.size < w9.heap.size := (by omega); (try (have rb9 := (hb9.block w7.heap.size (by simp)).trans (heap_alloc_new w7 _); have b0 := cell_of_row w9 w7.heap.size 0 _ _ _ rb9; have b1 := cell_of_row w9 w7.heap.size 1 _ _ _ rb9; have b2 := cell_of_row w9 w7.heap.size 2 _ _ _ rb9; have b3 := cell_of_row w9 w7.heap.size 3 _ _ _ rb9; simp only [List.getElem?_toArray, List.getElem?_cons_zero, List.getElem?_cons_succ] at b0 b1 b2 b3; have f0 := frozen_of_row w9 w7.heap.size 0 _ _ rb9; have f1 := frozen_of_row w9 w7.heap.size 1 _ _ rb9; have f2 := frozen_of_row w9 w7.heap.size 2 _ _ rb9; have f3 := frozen_of_row w9 w7.heap.size 3 _ _ rb9))))
          · have HRB := hid (heap_alloc_new w9 (.cells #[.int .i64 1, .int .i64 (lastZ q.st 0), .int .i64 st9, .slice p9 q.out.length c9] 47))
            have hbA : Below w9.heap.size w9 (w9.alloc (.cells #[.int .i64 1, .int .i64 (lastZ q.st 0), .int .i64 st9, .slice p9 q.out.length c9] 47)) := (Below.refl _ _).alloc (Nat.le_refl _) _
            have HZ9 := hid (zsK_below (zsK_owns hz9) hbA)
            have HB9 := hid (hb79.trans (hbA.mono hz79))
            clear hb9 hz9 hbA hru
            generalize (w9.alloc (.cells #[.int .i64 1, .int .i64 (lastZ q.st 0), .int .i64 st9, .slice p9 q.out.length c9] 47)) = Wf at *
            have q0 := cell_of_row Wf w9.heap.size 0 _ _ _ HRB.out
            have q1 := cell_of_row Wf w9.heap.size 1 _ _ _ HRB.out
            have q3 := cell_of_row Wf w9.heap.size 3 _ _ _ HRB.out
            simp only [List.getElem?_toArray, List.getElem?_cons_zero, List.getElem?_cons_succ] at q0 q1 q3
            have hmf := HM7.out.below HB9.out
            have y3 := hmf.cells.2.2.2.1
            have y1' := hmf.cells.2.1
            obtain ⟨g8, cS8, eS8, htp8⟩ := hmf.tops hm7n
            cases eS8
            have x18 := (htp8 0).x1
            have hsm := hid (fun (W : World) (hb : Below Wf.heap.size Wf W) => sameK_any q.out (.slice p9 q.out.length c9) (.slice pO7 q.out.length cO7) W (zsK_below HZ9.out hb) (zsK_below (zsK_owns hmf.out) hb) (by omega))
            obtain ⟨L7, hL7⟩ : ∃ L7, q.st.length = L7 := ⟨_, rfl⟩
            rw [hL7] at y1'
            have k1 : (L7 : Int) - 1 = (m7 : Int) := by omega
            have kw2 : IntKind.i64.wrap (m7 : Int) = (m7 : Int) := by rw [IntKind.wrap_i64]; omega
            have kw1 : IntKind.i64.wrap ((L7 : Int) - 1) = (m7 : Int) := by rw [k1, IntKind.wrap_i64]; omega
            have k2 : (0 : Int) ≤ (m7 : Int) := by omega
            have k3 : (m7 : Int) < (L7 : Int) := by omega
            have HBF := hid (HB7.out.trans (HB9.out.mono HB7.out.size))
            clear hmf htp8 HM7 HB9 HZ9 HRB hL7 hm7n
            go_wp2_with fail
            go_region_held3 (fun w' => w'.cell? ⟨w9.heap.size, 3, none⟩ = some (.slice p9 q.out.length c9) ∧ w'.cell? ⟨w.heap.size, 3, none⟩ = some (.slice pO7 q.out.length cO7)) (go_keep) (first | (go_at_call 26; refine (hsm.out _ (Below.refl _ _).drew).mono ?_; intro e10 w10 hh; obtain ⟨hx10, nn, hw10⟩ := hh; subst hx10; subst hw10))
            go_wp2_with fail
            go_quiet (fail)
            go_wp2_with fail
            go_ret
            exact ⟨rfl, HBF.out.trans (Below.mono (below_dn2 Wf _ _) HBF.out.size)⟩
          all_goals
            have h0 := setCell_row 0 (.int .i64 1) rb9
            simp only [List.setIfInBounds_toArray, List.set_cons_zero] at h0
            have h1 := setCell_row 1 (.int .i64 (lastZ q.st 0)) h0
            simp only [List.setIfInBounds_toArray, List.set_cons_zero, List.set_cons_succ] at h1
            have h2 := setCell_row 2 (.int .i64 st9) h1
            simp only [List.setIfInBounds_toArray, List.set_cons_zero, List.set_cons_succ] at h2
            have h3 := setCell_row 3 (.slice p9 q.out.length c9) h2
            simp only [List.setIfInBounds_toArray, List.set_cons_zero, List.set_cons_succ] at h3
            have HRB := hid h3
            have ho4 : Only w7.heap.size w9 ((((w9.setCell ⟨w7.heap.size, 0, none⟩ (.int .i64 1)).setCell ⟨w7.heap.size, 1, none⟩ (.int .i64 (lastZ q.st 0))).setCell ⟨w7.heap.size, 2, none⟩ (.int .i64 st9)).setCell ⟨w7.heap.size, 3, none⟩ (.slice p9 q.out.length c9)) := ((((Only.refl _ _).set _ _).set _ _).set _ _).set _ _
            have HZ9 := hid (zsK_owns (owns_keep hz9 (fun g hg => ho4.block g (by
              have q9 := (hz9.lt g hg).1
              simp at q9
              omega))))
            have HB9 := hid (hb79.trans (⟨ho4.os, ho4.tape, ho4.output, by rw [ho4.size]; exact Nat.le_refl _, fun k hk => ho4.block k (by omega)⟩ : Below w7.heap.size w9 _))
            clear h0 h1 h2 h3 ho4 hb9 hz9 rb9 b0 b1 b2 b3 f0 f1 f2 f3 hru
            generalize ((((w9.setCell ⟨w7.heap.size, 0, none⟩ (.int .i64 1)).setCell ⟨w7.heap.size, 1, none⟩ (.int .i64 (lastZ q.st 0))).setCell ⟨w7.heap.size, 2, none⟩ (.int .i64 st9)).setCell ⟨w7.heap.size, 3, none⟩ (.slice p9 q.out.length c9)) = Wf at *
            have q0 := cell_of_row Wf w7.heap.size 0 _ _ _ HRB.out
            have q1 := cell_of_row Wf w7.heap.size 1 _ _ _ HRB.out
            have q3 := cell_of_row Wf w7.heap.size 3 _ _ _ HRB.out
            simp only [List.getElem?_toArray, List.getElem?_cons_zero, List.getElem?_cons_succ] at q0 q1 q3
            have hmf := HM7.out.below HB9.out
            have y3 := hmf.cells.2.2.2.1
            have y1' := hmf.cells.2.1
            obtain ⟨g8, cS8, eS8, htp8⟩ := hmf.tops hm7n
            cases eS8
            have x18 := (htp8 0).x1
            have hsm := hid (fun (W : World) (hb : Below Wf.heap.size Wf W) => sameK_any q.out (.slice p9 q.out.length c9) (.slice pO7 q.out.length cO7) W (zsK_below HZ9.out hb) (zsK_below (zsK_owns hmf.out) hb) (by omega))
            obtain ⟨L7, hL7⟩ : ∃ L7, q.st.length = L7 := ⟨_, rfl⟩
            rw [hL7] at y1'
            have k1 : (L7 : Int) - 1 = (m7 : Int) := by omega
            have kw2 : IntKind.i64.wrap (m7 : Int) = (m7 : Int) := by rw [IntKind.wrap_i64]; omega
            have kw1 : IntKind.i64.wrap ((L7 : Int) - 1) = (m7 : Int) := by rw [k1, IntKind.wrap_i64]; omega
            have k2 : (0 : Int) ≤ (m7 : Int) := by omega
            have k3 : (m7 : Int) < (L7 : Int) := by omega
            have HBF := hid (HB7.out.trans (HB9.out.mono HB7.out.size))
            clear hmf htp8 HM7 HB9 HZ9 HRB hL7 hm7n
            go_wp2_with fail
            go_region_held3 (fun w' => w'.cell? ⟨w7.heap.size, 3, none⟩ = some (.slice p9 q.out.length c9) ∧ w'.cell? ⟨w.heap.size, 3, none⟩ = some (.slice pO7 q.out.length cO7)) (go_keep) (first | (go_at_call 26; refine (hsm.out _ (Below.refl _ _).drew).mono ?_; intro e10 w10 hh; obtain ⟨hx10, nn, hw10⟩ := hh; subst hx10; subst hw10))
            go_wp2_with fail
            go_quiet (fail)
            go_wp2_with fail
            go_ret
            exact ⟨rfl, HBF.out.trans (Below.mono (below_dn2 Wf _ _) HBF.out.size)⟩
    · have d1 : ¬ (j : Int) < (raw.size : Int) := by omega
      obtain ⟨pS, cS, y1⟩ := HS.out.stack
      rcases Nat.eq_zero_or_pos q.st.length with hl0 | hl0
      · have hmo := hid (more_seven HS.out (by omega) hl0)
        rw [hl0] at y1
        go_wp2_with fail
        refine hmo.out.mono ?_
        clear hmo
        intro e w5 hh
        obtain ⟨hx, cs5, q5, hS5, hz5, hp5, hB5⟩ := hh
        subst e
        have HS5 := hid hS5
        have HB5 := hid (HB.out.trans hB5)
        clear hS5 hB5 HS HB y1 x0 hsz
        have hco := hid (code_halt HS5.out (by omega) hp5)
        clear HS5
        go_wp2_with fail
        refine hco.out.mono ?_
        clear hco
        intro e w6 hh
        obtain ⟨hx, hE6, hB6⟩ := hh
        subst e
        have HB6 := hid (HB5.out.trans hB6)
        have hc6 := hid (hcl.out w6 HB6.out)
        have HE6 := hid hE6
        clear hE6 hB6 HB5 hcl 
        go_wp2_with fail
        refine hc6.out.mono ?_
        clear hc6
        intro e w7 hh
        obtain ⟨hb7, vu7, hx, hou⟩ := hh
        subst e
        rw [← clip_len us] at hou
        obtain ⟨pv, cv, ev⟩ := owns_slice hou
        subst ev
        have HAU := hid (argsK_owns hou)
        have HB7 := hid (HB6.out.trans (hb7.mono HB6.out.size))
        obtain ⟨⟨vS7, vO7, hm7⟩, hrk7, hpos7⟩ : SumEnd w7 w.heap.size w.heap.size (.slice pI zt.length cI) zt cs5 q5 := by
          obtain ⟨⟨vS, vO, hm⟩, hrk, hpos⟩ := HE6.out
          exact ⟨⟨vS, vO, hm.below hb7⟩, hrk, hpos⟩
        have x7 := hm7.cells.1
        have hcat : ¬ 9223372036854775807 < (⟨#[84, 1]⟩ : ByteArray).size + (strC (cs5 ++ [(0, 0)])).size := by
          rw [strC_size, csize_append]
          have : csize [(0, 0)] = 1 := rfl
          show ¬ 9223372036854775807 < 2 + _
          omega
        have hcat2 : ¬ 9223372036854775807 < 2 + (strC (cs5 ++ [(0, 0)])).size := hcat
        obtain ⟨cus, hcus⟩ : ∃ cus, cus = clipN us := ⟨_, rfl⟩
        rw [← hcus] at HAU ⊢
        have hcf : cus.all fitsB = true := by rw [hcus]; exact clip_fits us
        have hcul : cus.length ≤ 17592186044416 := by rw [hcus, clip_len]; omega
        have hs7 := hid (fun (W : World) (hb : Below w7.heap.size w7 W) => hso.out W (HB7.out.trans (hb.mono HB7.out.size)))
        rw [← HZT.out] at hs7
        have hrm7 := hid (fun (W : World) => hrm.out W)
        obtain ⟨pO7, cO7, eO7⟩ := owns_slice hm7.out
        subst eO7
        obtain ⟨m7, hm7n⟩ : ∃ m7, q5.st.length = m7 + 1 := ⟨q5.st.length - 1, by omega⟩
        obtain ⟨g7, cS7, eS7, _⟩ := hm7.tops hm7n
        subst eS7
        have hol7 := hrk7.outs
        have hcl7 := len_csize cs5
        have hle7 := hrk7.le
        have HM7 := hid hm7
        have hblt := hm7.lt
        have hbne : w.heap.size ≠ w7.heap.size := by omega
        have hbne' : w7.heap.size ≠ w.heap.size := by omega
        have hru := hid (fun (W : World) (hb : Below w7.heap.size w7 W) (v : Value) (hv : ArgInts W v zt) => (run_straight hrk7 hpos7 (by omega) hzl hcf hcul (roomN cells) n1 n2 (HFT.out.below (HB7.out.trans (hb.mono HB7.out.size))) hv (HAU.out.keep hb)).mono (R' := fun e w' => ∃ (st : Int) (p : Option Addr) (c : Nat), e = .returned (.tuple #[.agg #[.int .i64 1, .int .i64 (lastZ q5.st 0), .int .i64 st, .slice p q5.out.length c], .int .i64 0]) ∧ Below W.heap.size W w' ∧ Below w7.heap.size w7 w' ∧ w'.ownsRow W.heap.size 3 1 (.slice p q5.out.length c) q5.out.length (q5.out.map (.int .i64)) ∧ w'.cell? ⟨w.heap.size, 0, none⟩ = some (.string (strC (cs5 ++ [(0, 0)])))) (fun e w' hh => by
          obtain ⟨st, p, c, h1, h2, h3⟩ := hh
          have h4 := hb.trans (h2.mono hb.size)
          exact ⟨st, p, c, h1, h2, h4, h3, (h4.cell (p := ⟨w.heap.size, 0, none⟩) hblt).trans x7⟩))
        clear hb7 hou hm7 HE6 HB6 hcus hso hrm HAU hcf
        generalize strC (cs5 ++ [(0, 0)]) = T7 at *
        go_wp2_with fail
        go_region_held3 (fun w' => w'.cell? ⟨w.heap.size, 0, none⟩ = some (.string T7)) (go_keep) (first
          | (go_at_call 19; refine (hs7.out _ (by first | exact (Below.refl _ _).drew | exact ((Below.refl _ _).alloc (Nat.le_refl _) _).drew)).mono ?_; intro e9 w9 hh; obtain ⟨⟨v9, hx9, hv9⟩, hw9⟩ := hh; subst hx9; subst hw9)
          | (go_at_call 17; refine (hrm7.out _).mono ?_; intro e9 w9 hh; obtain ⟨hx9, hw9⟩ := hh; subst hx9; subst hw9)
          | (go_at_call 25; (first | (refine (hru.out _ (Below.refl _ _).drew v9 hv9).mono ?_) | (refine (hru.out _ ((Below.refl _ _).alloc (Nat.le_refl _) _).drew v9 hv9).mono ?_) | (refine (hru.out _ ((Below.refl _ _).alloc (Nat.le_refl _) _).drew v9 (hv9.keep ((Below.refl _ _).alloc (Nat.le_refl _) _))).mono ?_)); intro e9 w9 hh; obtain ⟨st9, p9, c9, hx9, hb9, hb79, hz9, y9⟩ := hh; subst hx9; have hz79 := hb79.size; have hbn9 : w.heap.size ≠ w9.heap.size := (by omega); have hbn9' : w9.heap.size ≠ w.heap.size := (by omega); have hbl9 : w.heap.size < w9.heap.size := (by omega); (try (have rb9 := (hb9.block w7.heap.size (by simp)).trans (heap_alloc_new w7 _); have b0 := cell_of_row w9 w7.heap.size 0 _ _ _ rb9; have b1 := cell_of_row w9 w7.heap.size 1 _ _ _ rb9; have b2 := cell_of_row w9 w7.heap.size 2 _ _ _ rb9; have b3 := cell_of_row w9 w7.heap.size 3 _ _ _ rb9; simp only [List.getElem?_toArray, List.getElem?_cons_zero, List.getElem?_cons_succ] at b0 b1 b2 b3; have f0 := frozen_of_row w9 w7.heap.size 0 _ _ rb9; have f1 := frozen_of_row w9 w7.heap.size 1 _ _ rb9; have f2 := frozen_of_row w9 w7.heap.size 2 _ _ rb9; have f3 := frozen_of_row w9 w7.heap.size 3 _ _ rb9))))
        · have HRB := hid (heap_alloc_new w9 (.cells #[.int .i64 1, .int .i64 (lastZ q5.st 0), .int .i64 st9, .slice p9 q5.out.length c9] 47))
          have hbA : Below w9.heap.size w9 (w9.alloc (.cells #[.int .i64 1, .int .i64 (lastZ q5.st 0), .int .i64 st9, .slice p9 q5.out.length c9] 47)) := (Below.refl _ _).alloc (Nat.le_refl _) _
          have HZ9 := hid (zsK_below (zsK_owns hz9) hbA)
          have HB9 := hid (hb79.trans (hbA.mono hz79))
          clear hb9 hz9 hbA hru
          generalize (w9.alloc (.cells #[.int .i64 1, .int .i64 (lastZ q5.st 0), .int .i64 st9, .slice p9 q5.out.length c9] 47)) = Wf at *
          have q0 := cell_of_row Wf w9.heap.size 0 _ _ _ HRB.out
          have q1 := cell_of_row Wf w9.heap.size 1 _ _ _ HRB.out
          have q3 := cell_of_row Wf w9.heap.size 3 _ _ _ HRB.out
          simp only [List.getElem?_toArray, List.getElem?_cons_zero, List.getElem?_cons_succ] at q0 q1 q3
          have hmf := HM7.out.below HB9.out
          have y3 := hmf.cells.2.2.2.1
          have y1' := hmf.cells.2.1
          obtain ⟨g8, cS8, eS8, htp8⟩ := hmf.tops hm7n
          cases eS8
          have x18 := (htp8 0).x1
          have hsm := hid (fun (W : World) (hb : Below Wf.heap.size Wf W) => sameK_any q5.out (.slice p9 q5.out.length c9) (.slice pO7 q5.out.length cO7) W (zsK_below HZ9.out hb) (zsK_below (zsK_owns hmf.out) hb) (by omega))
          obtain ⟨L7, hL7⟩ : ∃ L7, q5.st.length = L7 := ⟨_, rfl⟩
          rw [hL7] at y1'
          have k1 : (L7 : Int) - 1 = (m7 : Int) := by omega
          have kw2 : IntKind.i64.wrap (m7 : Int) = (m7 : Int) := by rw [IntKind.wrap_i64]; omega
          have kw1 : IntKind.i64.wrap ((L7 : Int) - 1) = (m7 : Int) := by rw [k1, IntKind.wrap_i64]; omega
          have k2 : (0 : Int) ≤ (m7 : Int) := by omega
          have k3 : (m7 : Int) < (L7 : Int) := by omega
          have HBF := hid (HB7.out.trans (HB9.out.mono HB7.out.size))
          clear hmf htp8 HM7 HB9 HZ9 HRB hL7 hm7n
          go_wp2_with fail
          go_region_held3 (fun w' => w'.cell? ⟨w9.heap.size, 3, none⟩ = some (.slice p9 q5.out.length c9) ∧ w'.cell? ⟨w.heap.size, 3, none⟩ = some (.slice pO7 q5.out.length cO7)) (go_keep) (first | (go_at_call 26; refine (hsm.out _ (Below.refl _ _).drew).mono ?_; intro e10 w10 hh; obtain ⟨hx10, nn, hw10⟩ := hh; subst hx10; subst hw10))
          go_wp2_with fail
          go_quiet (fail)
          go_wp2_with fail
          go_ret
          exact ⟨rfl, HBF.out.trans (Below.mono (below_dn2 Wf _ _) HBF.out.size)⟩
        all_goals
          have h0 := setCell_row 0 (.int .i64 1) rb9
          simp only [List.setIfInBounds_toArray, List.set_cons_zero] at h0
          have h1 := setCell_row 1 (.int .i64 (lastZ q5.st 0)) h0
          simp only [List.setIfInBounds_toArray, List.set_cons_zero, List.set_cons_succ] at h1
          have h2 := setCell_row 2 (.int .i64 st9) h1
          simp only [List.setIfInBounds_toArray, List.set_cons_zero, List.set_cons_succ] at h2
          have h3 := setCell_row 3 (.slice p9 q5.out.length c9) h2
          simp only [List.setIfInBounds_toArray, List.set_cons_zero, List.set_cons_succ] at h3
          have HRB := hid h3
          have ho4 : Only w7.heap.size w9 ((((w9.setCell ⟨w7.heap.size, 0, none⟩ (.int .i64 1)).setCell ⟨w7.heap.size, 1, none⟩ (.int .i64 (lastZ q5.st 0))).setCell ⟨w7.heap.size, 2, none⟩ (.int .i64 st9)).setCell ⟨w7.heap.size, 3, none⟩ (.slice p9 q5.out.length c9)) := ((((Only.refl _ _).set _ _).set _ _).set _ _).set _ _
          have HZ9 := hid (zsK_owns (owns_keep hz9 (fun g hg => ho4.block g (by
            have q9 := (hz9.lt g hg).1
            simp at q9
            omega))))
          have HB9 := hid (hb79.trans (⟨ho4.os, ho4.tape, ho4.output, by rw [ho4.size]; exact Nat.le_refl _, fun k hk => ho4.block k (by omega)⟩ : Below w7.heap.size w9 _))
          clear h0 h1 h2 h3 ho4 hb9 hz9 rb9 b0 b1 b2 b3 f0 f1 f2 f3 hru
          generalize ((((w9.setCell ⟨w7.heap.size, 0, none⟩ (.int .i64 1)).setCell ⟨w7.heap.size, 1, none⟩ (.int .i64 (lastZ q5.st 0))).setCell ⟨w7.heap.size, 2, none⟩ (.int .i64 st9)).setCell ⟨w7.heap.size, 3, none⟩ (.slice p9 q5.out.length c9)) = Wf at *
          have q0 := cell_of_row Wf w7.heap.size 0 _ _ _ HRB.out
          have q1 := cell_of_row Wf w7.heap.size 1 _ _ _ HRB.out
          have q3 := cell_of_row Wf w7.heap.size 3 _ _ _ HRB.out
          simp only [List.getElem?_toArray, List.getElem?_cons_zero, List.getElem?_cons_succ] at q0 q1 q3
          have hmf := HM7.out.below HB9.out
          have y3 := hmf.cells.2.2.2.1
          have y1' := hmf.cells.2.1
          obtain ⟨g8, cS8, eS8, htp8⟩ := hmf.tops hm7n
          cases eS8
          have x18 := (htp8 0).x1
          have hsm := hid (fun (W : World) (hb : Below Wf.heap.size Wf W) => sameK_any q5.out (.slice p9 q5.out.length c9) (.slice pO7 q5.out.length cO7) W (zsK_below HZ9.out hb) (zsK_below (zsK_owns hmf.out) hb) (by omega))
          obtain ⟨L7, hL7⟩ : ∃ L7, q5.st.length = L7 := ⟨_, rfl⟩
          rw [hL7] at y1'
          have k1 : (L7 : Int) - 1 = (m7 : Int) := by omega
          have kw2 : IntKind.i64.wrap (m7 : Int) = (m7 : Int) := by rw [IntKind.wrap_i64]; omega
          have kw1 : IntKind.i64.wrap ((L7 : Int) - 1) = (m7 : Int) := by rw [k1, IntKind.wrap_i64]; omega
          have k2 : (0 : Int) ≤ (m7 : Int) := by omega
          have k3 : (m7 : Int) < (L7 : Int) := by omega
          have HBF := hid (HB7.out.trans (HB9.out.mono HB7.out.size))
          clear hmf htp8 HM7 HB9 HZ9 HRB hL7 hm7n
          go_wp2_with fail
          go_region_held3 (fun w' => w'.cell? ⟨w7.heap.size, 3, none⟩ = some (.slice p9 q5.out.length c9) ∧ w'.cell? ⟨w.heap.size, 3, none⟩ = some (.slice pO7 q5.out.length cO7)) (go_keep) (first | (go_at_call 26; refine (hsm.out _ (Below.refl _ _).drew).mono ?_; intro e10 w10 hh; obtain ⟨hx10, nn, hw10⟩ := hh; subst hx10; subst hw10))
          go_wp2_with fail
          go_quiet (fail)
          go_wp2_with fail
          go_ret
          exact ⟨rfl, HBF.out.trans (Below.mono (below_dn2 Wf _ _) HBF.out.size)⟩
      · have z0 : ¬ q.st.length = 0 := by omega
        have z1 : ((q.st.length : Int) == 0) = false := by rw [beq_eq_false_iff_ne]; omega
        have HS5 := HS
        have HB5 := HB
        have hp5 := hl0
        have hz5 : csize cs ≤ 119 := by omega
        have hco := hid (code_halt HS5.out (by omega) hp5)
        clear HS5
        go_wp2_with fail
        refine hco.out.mono ?_
        clear hco
        intro e w6 hh
        obtain ⟨hx, hE6, hB6⟩ := hh
        subst e
        have HB6 := hid (HB5.out.trans hB6)
        have hc6 := hid (hcl.out w6 HB6.out)
        have HE6 := hid hE6
        clear hE6 hB6 HB5 hcl y1 x0 z0 z1
        go_wp2_with fail
        refine hc6.out.mono ?_
        clear hc6
        intro e w7 hh
        obtain ⟨hb7, vu7, hx, hou⟩ := hh
        subst e
        rw [← clip_len us] at hou
        obtain ⟨pv, cv, ev⟩ := owns_slice hou
        subst ev
        have HAU := hid (argsK_owns hou)
        have HB7 := hid (HB6.out.trans (hb7.mono HB6.out.size))
        obtain ⟨⟨vS7, vO7, hm7⟩, hrk7, hpos7⟩ : SumEnd w7 w.heap.size w.heap.size (.slice pI zt.length cI) zt cs q := by
          obtain ⟨⟨vS, vO, hm⟩, hrk, hpos⟩ := HE6.out
          exact ⟨⟨vS, vO, hm.below hb7⟩, hrk, hpos⟩
        have x7 := hm7.cells.1
        have hcat : ¬ 9223372036854775807 < (⟨#[84, 1]⟩ : ByteArray).size + (strC (cs ++ [(0, 0)])).size := by
          rw [strC_size, csize_append]
          have : csize [(0, 0)] = 1 := rfl
          show ¬ 9223372036854775807 < 2 + _
          omega
        have hcat2 : ¬ 9223372036854775807 < 2 + (strC (cs ++ [(0, 0)])).size := hcat
        obtain ⟨cus, hcus⟩ : ∃ cus, cus = clipN us := ⟨_, rfl⟩
        rw [← hcus] at HAU ⊢
        have hcf : cus.all fitsB = true := by rw [hcus]; exact clip_fits us
        have hcul : cus.length ≤ 17592186044416 := by rw [hcus, clip_len]; omega
        have hs7 := hid (fun (W : World) (hb : Below w7.heap.size w7 W) => hso.out W (HB7.out.trans (hb.mono HB7.out.size)))
        rw [← HZT.out] at hs7
        have hrm7 := hid (fun (W : World) => hrm.out W)
        obtain ⟨pO7, cO7, eO7⟩ := owns_slice hm7.out
        subst eO7
        obtain ⟨m7, hm7n⟩ : ∃ m7, q.st.length = m7 + 1 := ⟨q.st.length - 1, by omega⟩
        obtain ⟨g7, cS7, eS7, _⟩ := hm7.tops hm7n
        subst eS7
        have hol7 := hrk7.outs
        have hcl7 := len_csize cs
        have hle7 := hrk7.le
        have HM7 := hid hm7
        have hblt := hm7.lt
        have hbne : w.heap.size ≠ w7.heap.size := by omega
        have hbne' : w7.heap.size ≠ w.heap.size := by omega
        have hru := hid (fun (W : World) (hb : Below w7.heap.size w7 W) (v : Value) (hv : ArgInts W v zt) => (run_straight hrk7 hpos7 (by omega) hzl hcf hcul (roomN cells) n1 n2 (HFT.out.below (HB7.out.trans (hb.mono HB7.out.size))) hv (HAU.out.keep hb)).mono (R' := fun e w' => ∃ (st : Int) (p : Option Addr) (c : Nat), e = .returned (.tuple #[.agg #[.int .i64 1, .int .i64 (lastZ q.st 0), .int .i64 st, .slice p q.out.length c], .int .i64 0]) ∧ Below W.heap.size W w' ∧ Below w7.heap.size w7 w' ∧ w'.ownsRow W.heap.size 3 1 (.slice p q.out.length c) q.out.length (q.out.map (.int .i64)) ∧ w'.cell? ⟨w.heap.size, 0, none⟩ = some (.string (strC (cs ++ [(0, 0)])))) (fun e w' hh => by
          obtain ⟨st, p, c, h1, h2, h3⟩ := hh
          have h4 := hb.trans (h2.mono hb.size)
          exact ⟨st, p, c, h1, h2, h4, h3, (h4.cell (p := ⟨w.heap.size, 0, none⟩) hblt).trans x7⟩))
        clear hb7 hou hm7 HE6 HB6 hcus hso hrm HAU hcf
        generalize strC (cs ++ [(0, 0)]) = T7 at *
        go_wp2_with fail
        go_region_held3 (fun w' => w'.cell? ⟨w.heap.size, 0, none⟩ = some (.string T7)) (go_keep) (first
          | (go_at_call 19; refine (hs7.out _ (by first | exact (Below.refl _ _).drew | exact ((Below.refl _ _).alloc (Nat.le_refl _) _).drew)).mono ?_; intro e9 w9 hh; obtain ⟨⟨v9, hx9, hv9⟩, hw9⟩ := hh; subst hx9; subst hw9)
          | (go_at_call 17; refine (hrm7.out _).mono ?_; intro e9 w9 hh; obtain ⟨hx9, hw9⟩ := hh; subst hx9; subst hw9)
          | (go_at_call 25; (first | (refine (hru.out _ (Below.refl _ _).drew v9 hv9).mono ?_) | (refine (hru.out _ ((Below.refl _ _).alloc (Nat.le_refl _) _).drew v9 hv9).mono ?_) | (refine (hru.out _ ((Below.refl _ _).alloc (Nat.le_refl _) _).drew v9 (hv9.keep ((Below.refl _ _).alloc (Nat.le_refl _) _))).mono ?_)); intro e9 w9 hh; obtain ⟨st9, p9, c9, hx9, hb9, hb79, hz9, y9⟩ := hh; subst hx9; have hz79 := hb79.size; have hbn9 : w.heap.size ≠ w9.heap.size := (by omega); have hbn9' : w9.heap.size ≠ w.heap.size := (by omega); have hbl9 : w.heap.size < w9.heap.size := (by omega); (try (have rb9 := (hb9.block w7.heap.size (by simp)).trans (heap_alloc_new w7 _); have b0 := cell_of_row w9 w7.heap.size 0 _ _ _ rb9; have b1 := cell_of_row w9 w7.heap.size 1 _ _ _ rb9; have b2 := cell_of_row w9 w7.heap.size 2 _ _ _ rb9; have b3 := cell_of_row w9 w7.heap.size 3 _ _ _ rb9; simp only [List.getElem?_toArray, List.getElem?_cons_zero, List.getElem?_cons_succ] at b0 b1 b2 b3; have f0 := frozen_of_row w9 w7.heap.size 0 _ _ rb9; have f1 := frozen_of_row w9 w7.heap.size 1 _ _ rb9; have f2 := frozen_of_row w9 w7.heap.size 2 _ _ rb9; have f3 := frozen_of_row w9 w7.heap.size 3 _ _ rb9))))
        · have HRB := hid (heap_alloc_new w9 (.cells #[.int .i64 1, .int .i64 (lastZ q.st 0), .int .i64 st9, .slice p9 q.out.length c9] 47))
          have hbA : Below w9.heap.size w9 (w9.alloc (.cells #[.int .i64 1, .int .i64 (lastZ q.st 0), .int .i64 st9, .slice p9 q.out.length c9] 47)) := (Below.refl _ _).alloc (Nat.le_refl _) _
          have HZ9 := hid (zsK_below (zsK_owns hz9) hbA)
          have HB9 := hid (hb79.trans (hbA.mono hz79))
          clear hb9 hz9 hbA hru
          generalize (w9.alloc (.cells #[.int .i64 1, .int .i64 (lastZ q.st 0), .int .i64 st9, .slice p9 q.out.length c9] 47)) = Wf at *
          have q0 := cell_of_row Wf w9.heap.size 0 _ _ _ HRB.out
          have q1 := cell_of_row Wf w9.heap.size 1 _ _ _ HRB.out
          have q3 := cell_of_row Wf w9.heap.size 3 _ _ _ HRB.out
          simp only [List.getElem?_toArray, List.getElem?_cons_zero, List.getElem?_cons_succ] at q0 q1 q3
          have hmf := HM7.out.below HB9.out
          have y3 := hmf.cells.2.2.2.1
          have y1' := hmf.cells.2.1
          obtain ⟨g8, cS8, eS8, htp8⟩ := hmf.tops hm7n
          cases eS8
          have x18 := (htp8 0).x1
          have hsm := hid (fun (W : World) (hb : Below Wf.heap.size Wf W) => sameK_any q.out (.slice p9 q.out.length c9) (.slice pO7 q.out.length cO7) W (zsK_below HZ9.out hb) (zsK_below (zsK_owns hmf.out) hb) (by omega))
          obtain ⟨L7, hL7⟩ : ∃ L7, q.st.length = L7 := ⟨_, rfl⟩
          rw [hL7] at y1'
          have k1 : (L7 : Int) - 1 = (m7 : Int) := by omega
          have kw2 : IntKind.i64.wrap (m7 : Int) = (m7 : Int) := by rw [IntKind.wrap_i64]; omega
          have kw1 : IntKind.i64.wrap ((L7 : Int) - 1) = (m7 : Int) := by rw [k1, IntKind.wrap_i64]; omega
          have k2 : (0 : Int) ≤ (m7 : Int) := by omega
          have k3 : (m7 : Int) < (L7 : Int) := by omega
          have HBF := hid (HB7.out.trans (HB9.out.mono HB7.out.size))
          clear hmf htp8 HM7 HB9 HZ9 HRB hL7 hm7n
          go_wp2_with fail
          go_region_held3 (fun w' => w'.cell? ⟨w9.heap.size, 3, none⟩ = some (.slice p9 q.out.length c9) ∧ w'.cell? ⟨w.heap.size, 3, none⟩ = some (.slice pO7 q.out.length cO7)) (go_keep) (first | (go_at_call 26; refine (hsm.out _ (Below.refl _ _).drew).mono ?_; intro e10 w10 hh; obtain ⟨hx10, nn, hw10⟩ := hh; subst hx10; subst hw10))
          go_wp2_with fail
          go_quiet (fail)
          go_wp2_with fail
          go_ret
          exact ⟨rfl, HBF.out.trans (Below.mono (below_dn2 Wf _ _) HBF.out.size)⟩
        all_goals
          have h0 := setCell_row 0 (.int .i64 1) rb9
          simp only [List.setIfInBounds_toArray, List.set_cons_zero] at h0
          have h1 := setCell_row 1 (.int .i64 (lastZ q.st 0)) h0
          simp only [List.setIfInBounds_toArray, List.set_cons_zero, List.set_cons_succ] at h1
          have h2 := setCell_row 2 (.int .i64 st9) h1
          simp only [List.setIfInBounds_toArray, List.set_cons_zero, List.set_cons_succ] at h2
          have h3 := setCell_row 3 (.slice p9 q.out.length c9) h2
          simp only [List.setIfInBounds_toArray, List.set_cons_zero, List.set_cons_succ] at h3
          have HRB := hid h3
          have ho4 : Only w7.heap.size w9 ((((w9.setCell ⟨w7.heap.size, 0, none⟩ (.int .i64 1)).setCell ⟨w7.heap.size, 1, none⟩ (.int .i64 (lastZ q.st 0))).setCell ⟨w7.heap.size, 2, none⟩ (.int .i64 st9)).setCell ⟨w7.heap.size, 3, none⟩ (.slice p9 q.out.length c9)) := ((((Only.refl _ _).set _ _).set _ _).set _ _).set _ _
          have HZ9 := hid (zsK_owns (owns_keep hz9 (fun g hg => ho4.block g (by
            have q9 := (hz9.lt g hg).1
            simp at q9
            omega))))
          have HB9 := hid (hb79.trans (⟨ho4.os, ho4.tape, ho4.output, by rw [ho4.size]; exact Nat.le_refl _, fun k hk => ho4.block k (by omega)⟩ : Below w7.heap.size w9 _))
          clear h0 h1 h2 h3 ho4 hb9 hz9 rb9 b0 b1 b2 b3 f0 f1 f2 f3 hru
          generalize ((((w9.setCell ⟨w7.heap.size, 0, none⟩ (.int .i64 1)).setCell ⟨w7.heap.size, 1, none⟩ (.int .i64 (lastZ q.st 0))).setCell ⟨w7.heap.size, 2, none⟩ (.int .i64 st9)).setCell ⟨w7.heap.size, 3, none⟩ (.slice p9 q.out.length c9)) = Wf at *
          have q0 := cell_of_row Wf w7.heap.size 0 _ _ _ HRB.out
          have q1 := cell_of_row Wf w7.heap.size 1 _ _ _ HRB.out
          have q3 := cell_of_row Wf w7.heap.size 3 _ _ _ HRB.out
          simp only [List.getElem?_toArray, List.getElem?_cons_zero, List.getElem?_cons_succ] at q0 q1 q3
          have hmf := HM7.out.below HB9.out
          have y3 := hmf.cells.2.2.2.1
          have y1' := hmf.cells.2.1
          obtain ⟨g8, cS8, eS8, htp8⟩ := hmf.tops hm7n
          cases eS8
          have x18 := (htp8 0).x1
          have hsm := hid (fun (W : World) (hb : Below Wf.heap.size Wf W) => sameK_any q.out (.slice p9 q.out.length c9) (.slice pO7 q.out.length cO7) W (zsK_below HZ9.out hb) (zsK_below (zsK_owns hmf.out) hb) (by omega))
          obtain ⟨L7, hL7⟩ : ∃ L7, q.st.length = L7 := ⟨_, rfl⟩
          rw [hL7] at y1'
          have k1 : (L7 : Int) - 1 = (m7 : Int) := by omega
          have kw2 : IntKind.i64.wrap (m7 : Int) = (m7 : Int) := by rw [IntKind.wrap_i64]; omega
          have kw1 : IntKind.i64.wrap ((L7 : Int) - 1) = (m7 : Int) := by rw [k1, IntKind.wrap_i64]; omega
          have k2 : (0 : Int) ≤ (m7 : Int) := by omega
          have k3 : (m7 : Int) < (L7 : Int) := by omega
          have HBF := hid (HB7.out.trans (HB9.out.mono HB7.out.size))
          clear hmf htp8 HM7 HB9 HZ9 HRB hL7 hm7n
          go_wp2_with fail
          go_region_held3 (fun w' => w'.cell? ⟨w7.heap.size, 3, none⟩ = some (.slice p9 q.out.length c9) ∧ w'.cell? ⟨w.heap.size, 3, none⟩ = some (.slice pO7 q.out.length cO7)) (go_keep) (first | (go_at_call 26; refine (hsm.out _ (Below.refl _ _).drew).mono ?_; intro e10 w10 hh; obtain ⟨hx10, nn, hw10⟩ := hh; subst hx10; subst hw10))
          go_wp2_with fail
          go_quiet (fail)
          go_wp2_with fail
          go_ret
          exact ⟨rfl, HBF.out.trans (Below.mono (below_dn2 Wf _ _) HBF.out.size)⟩
end Go.Proofs.YtdmdpindonghdaaDoor
namespace Go.Proofs.YtdmdpindonghdaaDoor
open Go.ChangeShapes Go.WideShapes Go.ChangeAt Go.ChangeMaps Go.RowKit
set_option maxRecDepth 100000 in
/-- A list of numbers that is handed in, each in its range. -/
theorem ints_argR {H : Type} {enc : TypeId × Value → H} {W : World} {v : Value} {d : DataW H} {p : List MemPlace} {base : Nat} (hok : Value.okWide Tryd.prog W .any base 33 v) (h : DataW.Trod enc Tryd.prog W 0 (fun _ => true) true 33 v d p) (hlt : ∀ x ∈ p, x.block < W.heap.size) (hw : (d.weights Tryd.prog 33).all (· ≤ reachBytes) = true) :
    ∃ zs : List Int, ArgInts W v zs ∧ zs.length ≤ 17592186043904 ∧ (∀ p n c, v = .slice p n c → n ≤ c ∧ c ≤ maxLen) ∧ ∀ u ∈ zs, -9223372036854775808 ≤ u ∧ u ≤ 9223372036854775807 := by
  obtain ⟨a0, len, cap, rfl⟩ := okWide_slice Tryd.underlying33 hok
  obtain ⟨fuel, hf⟩ := h
  rcases open_ints Tryd.underlying33 Tryd.underlying3 cellsInt hf with ⟨hcs, hx⟩ | ⟨a, len', cap', zs, hcs, _, hl, hm, hz, hx, hcell, hwf⟩
  · simp [Value.cells] at hcs
    obtain ⟨rfl, rfl, rfl⟩ := hcs
    exact ⟨[], .inl ⟨rfl, rfl⟩, by simp, fun p n c h => by cases h; exact ⟨Nat.le_refl _, Nat.zero_le _⟩, fun u hu => by cases hu⟩
  · simp [Value.cells] at hcs
    obtain ⟨rfl, rfl, rfl⟩ := hcs
    simp only [Prod.mk.injEq] at hx
    obtain ⟨rfl, rfl⟩ := hx
    simp only [if_true] at hz
    have hlz : (zs.take len).length = len := by rw [List.length_take]; omega
    refine ⟨zs.take len, .inr ⟨a, cap, by rw [hlz], ?_, ?_⟩, ?_, fun p n c h => by cases h; exact ⟨hl, hm⟩, fun u hu => int_range (hwf u (List.mem_of_mem_take hu))⟩
    · intro j x hj
      have hjl := (List.getElem?_eq_some_iff.1 hj).1
      rw [hlz] at hjl
      rw [List.getElem?_take, if_pos hjl] at hj
      rw [hcell j (by omega), List.getD_eq_getElem?_getD, hj]
      rfl
    · intro hp
      exact hlt (.cell a.block (a.off + 0)) (MemPlace.mem_row.2 ⟨0, by omega, rfl⟩)
    · rw [hlz]
      have := hw
      simp only [DataW.weights, Tryd.underlying33, List.all_cons, Bool.and_eq_true, decide_eq_true_eq, bytesInt] at this
      have h2 := this.1
      simp only [lits, List.length_map, hlz] at h2
      have : reachBytes = 140737488351232 := rfl
      omega
set_option maxRecDepth 100000 in
theorem reckoned_lifted (os : Os) (started : os.Started) (H : Type) (enc : TypeId × Value → H) :
    ReturnsInHanded {} Tryd.checked os 6 .any (fun w args => (Rows.reckonedSpec.pre enc Tryd.prog Tryd.f6 Rows.reckonedRow.domain false w args ∧ laidMetH Tryd.prog Rows.reckonedRow.laid w) ∧ sizedMet enc Tryd.prog Tryd.f6 (OpenSpec.ofChange Rows.reckonedSpec) false w args)
      (Rows.reckonedSpec.post enc Tryd.prog Tryd.f6 false true false false) := by
  refine returnsInHanded_of_change_and (C := Tryd.checked) (X := fun w _ => laidMetH Tryd.prog Rows.reckonedRow.laid w) (fun _ _ _ hh h => h.of_heap hh) knobs started (by kernel_rfl) Tryd.func6
    (ChangeSpec.witness_shaped (enc := enc) (C := Tryd.checked) (os := os) (X := fun w _ => laidMetH Tryd.prog Rows.reckonedRow.laid w) false (World.laidAll Tryd.prog os Rows.reckonedRow.laid) #[.string ⟨#[]⟩, .slice none 0 0, .int .i64 0, .slice none 0 0] 8 (World.laidAll_os _ _ _)
      (World.shaped_of_ZipB (by kernel_rfl) (by kernel_rfl)) (by kernel_rfl) (by kernel_rfl) (by kernel_rfl)
      (by rw [MakeChecks.laidMetH_plain _ _ _ (by kernel_rfl)]; exact laidMet_laidAll _ (by kernel_rfl) (by kernel_rfl))) ?_
  intro W base args ds gs before hval0 hW _ hsz hL _
  have hval : ∀ (j : Nat) t v, Tryd.f6.params[j]? = some t → args[j]? = some v → Value.okWide Tryd.prog W .any base t v := hval0
  have hW' := hW
  obtain ⟨p, q, hA0, hV, rfl, _, _⟩ := hW
  have hA : DataW.TrodAll enc Tryd.prog W 0 (fun _ => true) true Tryd.f6.params.toList args.toList ds p := hA0
  obtain ⟨rfl, rfl⟩ := trodVars_none hV
  have hlt : ∀ x ∈ p, x.block < W.heap.size := fun x hx => by
    have := hW'.lt x (by simpa using hx)
    exact this
  rw [Tryd.params6] at hA hval hsz
  obtain ⟨v0, v1, v2, v3, d0, d1, d2, d3, p0, p1, p2, p3, rfl, rfl, rfl, h0, h1, h2, h3⟩ := trodAll_four hA
  obtain ⟨s, rfl, rfl, rfl, hs⟩ := open_string Tryd.underlying9 (hval 0 9 v0 rfl rfl) h0
  obtain ⟨n, rfl, rfl, rfl, hn⟩ := open_int Tryd.underlying3 (hval 2 3 v2 rfl rfl) h2
  have hw1 : (d1.weights Tryd.prog 33).all (· ≤ reachBytes) = true := by
    have := hsz
    simp only [List.append_nil, List.cons_append, List.nil_append, DataW.weightsEach, List.all_append, Bool.and_eq_true] at this
    exact this.2.1
  have hw3 : (d3.weights Tryd.prog 33).all (· ≤ reachBytes) = true := by
    have := hsz
    simp only [List.append_nil, List.cons_append, List.nil_append, DataW.weightsEach, List.all_append, Bool.and_eq_true] at this
    exact this.2.2.2.1
  have hlt1 : ∀ x ∈ p1, x.block < W.heap.size := fun x hx => hlt x (by simp [hx])
  have hlt3 : ∀ x ∈ p3, x.block < W.heap.size := fun x hx => hlt x (by simp [hx])
  obtain ⟨us, hu, hul, _, hur⟩ := ints_argR (hval 3 33 v3 rfl rfl) h3 hlt3 hw3
  obtain ⟨zs, hz, hzl, hcap⟩ := ints_arg (hval 1 33 v1 rfl rfl) h1 hlt1 hw1
  have t1 := flow_of_laid hL
  obtain ⟨n1, n2⟩ := int_range hn
  refine (reckoned_any s v1 v3 zs us n W hs t1 hz hcap hu hul hur n1 n2).mono fun e W' ⟨he, hb⟩ => ?_
  subst he
  have hr1 : DataW.Trod enc Tryd.prog W' 0 (fun b => decide (b < W.heap.size)) true 33 v1 d1 p1 := Below.trod laidOutP (by kernel_rfl) (of_decide_eq_true (by kernel_rfl)) h1 hb hlt1
  have hr3 : DataW.Trod enc Tryd.prog W' 0 (fun b => decide (b < W.heap.size)) true 33 v3 d3 p3 := Below.trod laidOutP (by kernel_rfl) (of_decide_eq_true (by kernel_rfl)) h3 hb hlt3
  exact ⟨_, rfl, _, _, _, [], _, [], hW', trodAll_mk1 (shut_bool Tryd.underlying4 _), trodAll_mk4 (shut_string Tryd.underlying9 hs) hr1 (shut_int Tryd.underlying3 hn) hr3, rfl, hb.frame _, fun h => by cases h⟩
theorem reckoned_holds : Rows.ReckonedSaid :=
  OpenClaim.holds_of_wide 6 Tryd.f6 rfl rfl rfl rfl rfl rfl rfl ⟨rfl, rfl, rfl, rfl, rfl⟩ rfl rfl rfl rfl rfl (by kernel_rfl) Tryd.func6 (by kernel_rfl)
    (of_decide_eq_true (by kernel_rfl)) (by unfold Func.isWrapper; first | (rw [if_pos (by decide +kernel)]; kernel_rfl) | (rw [if_neg (by decide +kernel)]; exact ⟨rfl, rfl⟩))
    (fun os started H enc _ => reckoned_lifted os started H enc)
theorem reckoned_card_holds : Rows.ReckonedCardSaid :=
  Claim7.holds_tied_plain_at .later [] [.data, .data] true Rows.reckonedCard.stood.harness false
    reckoned_holds (fun _ h => by cases h) (by kernel_rfl) (fun _ h => by cases h) reckoned_row_tie rfl ⟨rfl, rfl⟩ (by kernel_rfl) rfl
    (fun f fn hf hfn => by
      obtain rfl : f = 6 := Option.some.inj ((show Tryd.prog.funcNamed "tint/tintkeep.Reckoned" = some 6 by kernel_rfl).symm.trans hf) |>.symm
      obtain rfl : fn = Tryd.f6 := (Option.some.inj (Tryd.func6.symm.trans hfn)).symm
      exact ⟨by kernel_rfl, fun j t ht => by
        rw [Tryd.params6] at ht
        have hm : t ∈ [9, 33, 3, 33] := by simpa using Array.mem_of_getElem? ht
        have hall : ([9, 33, 3, 33].all fun u => !Tryd.prog.wantsStandIn u) = true := by kernel_rfl
        exact (show Tryd.prog.wantsStandIn t = false by simpa using List.all_eq_true.1 hall t hm)⟩)
    (by kernel_rfl)
#print axioms reckoned_card_holds
end Go.Proofs.YtdmdpindonghdaaDoor
