/- tintkeep.Turned is true of all lists of numbers, numbers of cells and lists of units: a Run of the image that reads numbers into a list lets them out the last first, whatever the collector does, cells for the list and one more being enough; conditions: the two listed variables hold what the program's text lays in them. -/
import Derived.Test.YtdmdpindonghdabDoorRows
import Derived.Test.YtdmdpindonghdabDoorTie
import Derived.Test.YtdmdpindonghdabDoorCards
import Derived.Test.YtdmdpindonghdabDoorOwn6
import Derived.WalkKit
import Derived.WalkSmall
import Derived.Deep.AppendLies
import Derived.Deep.DeepMust
import Derived.Deep.LoopGhost
import Derived.WalkSpells
import Derived.WalkLawsBesides
import Derived.BigRegion
import Derived.Deep.QuietTactic
import Derived.BigQuiet
import Derived.Deep.RegionHeld3
import Derived.OwnWalk
import Derived.Laws.StructEq
import Derived.Deep.RegionLaw
import Derived.Deep.DeepCutAuto
import Derived.Laws.MakeOwn
import Derived.Laws.IdiomCopy
import Derived.Laws.BytesArg
import Derived.ProofKit
import Derived.OpenShut
import Derived.Lay
import Derived.SevenTiedAt
import Derived.Stop.Joined
import Derived.Carry
import Derived.Deep.SlicePairs
namespace Go.Proofs.YtdmdpindonghdabDoor
open Go.RowKit
/-- From cells to cells, by units: what is not to be freed was there, as it is. -/
def UK (T : List Cl) (ph hd : Nat) (T' : List Cl) (ph' hd' : Nat) : Prop := ∀ (k : Nat) (c' : Cl), T'[k]? = some c' → Alive T' ph' hd' k → Alive T ph hd k ∧ ∃ c, T[k]? = some c ∧ c'.weak = c.weak ∧ (c'.a = c.a ∨ c'.a = -1) ∧ (c'.b = c.b ∨ c'.b = -1)
theorem UK.refl (T : List Cl) (ph hd : Nat) : UK T ph hd T ph hd := fun _ c' h1 h2 => ⟨h2, c', h1, rfl, .inl rfl, .inl rfl⟩
theorem UK.trans {T T' T'' : List Cl} {ph ph' ph'' hd hd' hd'' : Nat} (h : UK T ph hd T' ph' hd') (h' : UK T' ph' hd' T'' ph'' hd'') : UK T ph hd T'' ph'' hd'' := by
  intro k c'' h1 h2
  obtain ⟨a1, c', b1, b2, b3, b4⟩ := h' k c'' h1 h2
  obtain ⟨a2, c, d1, d2, d3, d4⟩ := h k c' b1 a1
  refine ⟨a2, c, d1, b2.trans d2, ?_, ?_⟩
  · rcases b3 with e | e
    · rw [e]; exact d3
    · exact .inr e
  · rcases b4 with e | e
    · rw [e]; exact d4
    · exact .inr e
theorem UK.paint {T T' : List Cl} {ph ph' hd hd' : Nat} (h : Paint T T') (h2 : ph ≠ 2) (hc : ∀ k, colL T k = 0 → colL T' k = 0) : UK T ph hd T' ph' hd' := by
  intro k c' h1 ha
  obtain ⟨c, e1, e2⟩ := h.get k c' h1
  refine ⟨⟨fun e => ha.1 (hc k e), fun e => h2 e.1⟩, c, e1, ?_, ?_, ?_⟩
  · rw [e2]
  · rw [e2]; exact .inl rfl
  · rw [e2]; exact .inl rfl
theorem shades_zero (T : List Cl) (rs : List Int) (k : Nat) (h : colL T k = 0) : colL (shadesL T rs) k = 0 := by
  rw [shades_colL, if_neg (fun e => by omega)]
  exact h
theorem black_zero {T : List Cl} {g : Nat} {c : Cl} (hg : T[g]? = some c) (h2 : c.col = 2) (k : Nat) (h : colL T k = 0) : colL (blackL T g) k = 0 := by
  have hlt := (List.getElem?_eq_some_iff.1 hg).1
  have hne : k ≠ g := fun e => by rw [e, colL_some hg] at h; omega
  unfold blackL
  have hs : ∀ (U : List Cl) (r : Int), colL U k = 0 → colL (shadeL U r) k = 0 := fun U r hU => by
    rw [shade_colL, if_neg (fun e => by omega)]; exact hU
  split
  · rw [colL_paint _ _ _ _ hlt, if_neg hne]; exact h
  · rw [colL_paint _ _ _ _ (by rw [shadeL_len, shadeL_len]; exact hlt), if_neg hne]
    exact hs _ _ (hs _ _ h)
theorem UK.forget (T : List Cl) (hd : Nat) : UK T 1 hd (forgetL T) 2 0 := by
  intro k c' h1 ha
  obtain ⟨c, e1, rfl⟩ := forget_get h1
  obtain ⟨_, q2, q3, _, q5, _⟩ := fgL_all T c
  refine ⟨⟨?_, by omega⟩, c, e1, q2, q5, .inl q3⟩
  have := ha.1
  rw [forget_colL] at this
  exact this
theorem UK.sweep {T : List Cl} {hd ph' hd' : Nat} (hh : hd < T.length) (hph : (ph' = 2 ∧ hd' = hd + 1) ∨ (ph' = 0 ∧ hd' = 0 ∧ hd + 1 = T.length)) (hng : ∀ c ∈ T, c.col ≤ 3 ∧ c.col ≠ 2) : UK T 2 hd (sweepL T hd) ph' hd' := by
  intro k c' h1 ha
  have ha1 := ha.1
  have ha2 := ha.2
  rw [sweep_colL hh] at ha1 ha2
  rw [sweep_get hh] at h1
  obtain ⟨g1, g2⟩ := hng T[hd] (List.getElem_mem hh)
  by_cases e : k = hd
  · subst e
    rw [if_pos rfl] at h1 ha1
    by_cases c1 : T[k].col = 1
    · rw [if_pos c1] at ha1; exact absurd rfl ha1
    rw [if_neg c1] at h1 ha1
    by_cases c3 : T[k].col = 3
    · rw [if_pos c3] at h1
      cases h1
      refine ⟨⟨?_, ?_⟩, T[k], List.getElem?_eq_getElem hh, rfl, .inl rfl, .inl rfl⟩
      · rw [colL_some (List.getElem?_eq_getElem hh)]; omega
      · rw [colL_some (List.getElem?_eq_getElem hh)]; omega
    · rw [if_neg c3] at ha1
      omega
  · rw [if_neg e] at h1 ha1 ha2
    refine ⟨⟨ha1, ?_⟩, c', h1, rfl, .inl rfl, .inl rfl⟩
    rintro ⟨_, q2, q3⟩
    have hk := (List.getElem?_eq_some_iff.1 h1).1
    rcases hph with ⟨p1, p2⟩ | ⟨p1, p2, p3⟩
    · exact ha2 ⟨p1, by omega, q3⟩
    · omega
theorem GInv.uk {T : List Cl} {ph hd : Nat} {rs : List Int} (h : GInv T ph hd rs) (h2 : ph ≤ 2) (hh : ph = 2 → hd < T.length) : UK T ph hd (unitL T ph hd rs).1 (unitL T ph hd rs).2.1 (unitL T ph hd rs).2.2 := by
  unfold unitL
  by_cases e0 : ph = 0
  · rw [if_pos e0]
    exact UK.paint (shades_paint rs T) (by omega) (fun k => shades_zero T rs k)
  rw [if_neg e0]
  by_cases e2 : ph = 2
  · rw [if_pos e2]
    subst e2
    have hlt := hh rfl
    have hng : ∀ c ∈ T, c.col ≤ 3 ∧ c.col ≠ 2 := fun c hc => ⟨h.col3 c hc, h.nogrey rfl c hc⟩
    split
    · exact UK.sweep hlt (.inr ⟨rfl, rfl, by omega⟩) hng
    · exact UK.sweep hlt (.inl ⟨rfl, rfl⟩) hng
  rw [if_neg e2]
  have e1 : ph = 1 := by omega
  subst e1
  by_cases hg : 0 ≤ greyL T
  · rw [if_pos hg]
    obtain ⟨c, hc, hc2⟩ := greyL_pos hg
    exact UK.paint (black_paint T _) (by omega) (fun k => black_zero hc hc2 k)
  rw [if_neg hg]
  have hs : UK T 1 hd (shadesL T rs) 1 hd := UK.paint (shades_paint rs T) (by omega) (fun k => shades_zero T rs k)
  by_cases hg2 : greyL (shadesL T rs) < 0
  · rw [if_pos hg2]
    exact hs.trans (UK.forget _ _)
  · rw [if_neg hg2]
    exact hs
def UKH (h h' : HSt) : Prop := UK (h.1.map toldC) h.2.1 h.2.2 (h'.1.map toldC) h'.2.1 h'.2.2
theorem UKH.refl (h : HSt) : UKH h h := UK.refl _ _ _
theorem UKH.trans {h h' h'' : HSt} (a : UKH h h') (b : UKH h' h'') : UKH h h'' := UK.trans a b
theorem GH.uk {n : Nat} {h : HSt} {rs : List Int} (k : GH n h rs) : UKH h (stepC rs h) := by
  unfold UKH
  have hu := told_unit k.ok.ok k.ok.x rs
  have := k.g.uk k.ok.ok.phz (by simpa using k.ok.ok.hand)
  rw [hu] at this
  exact this
theorem GH.uks {n : Nat} {h : HSt} {rs : List Int} (k : GH n h rs) : ∀ m, UKH h (unitsC rs m h)
  | 0 => UKH.refl _
  | m + 1 => (GH.uks k m).trans (k.units m).uk
theorem GH.ukIdle {n : Nat} {h : HSt} {rs : List Int} (k : GH n h rs) : UKH h (idleC rs h) := by
  have := idleC_ind (rs := rs) (P := fun h' => GH n h' rs ∧ UKH h h') (fun _ q => ⟨q.1.unit, q.2.trans q.1.uk⟩) (⟨k, UKH.refl h⟩ : GH n h rs ∧ UKH h h)
  exact this.2
theorem GH.ukRoom {n : Nat} {h : HSt} {rs : List Int} (k : GH n h rs) : UKH h (roomC rs h) := by
  unfold roomC
  split
  · exact UKH.refl _
  split
  · exact k.ukIdle
  · exact (k.ukIdle.trans k.idle.uk).trans k.idle.unit.ukIdle
/-- A cell's number, of this kind. -/
def KindR (h : HSt) (wk : Bool) (r : Int) : Prop := 0 ≤ r ∧ ∃ c, h.1[r.toNat]? = some c ∧ c.weak = wk
/-- Cells that are not to be freed refer to plain ones. -/
def KI (h : HSt) : Prop := ∀ (k : Nat) (c : RC), h.1[k]? = some c → AliveH h k → ∀ j : Nat, (c.a = (j : Int) ∨ c.b = (j : Int)) → KindR h false j
theorem told_get {h : HSt} {k : Nat} {c' : Cl} (hc : (h.1.map toldC)[k]? = some c') : ∃ c, h.1[k]? = some c ∧ c' = toldC c := by
  rw [List.getElem?_map] at hc
  cases hk : h.1[k]? with
  | none => rw [hk] at hc; cases hc
  | some c => rw [hk] at hc; exact ⟨c, rfl, (Option.some.inj hc).symm⟩
theorem UKH.get {h h' : HSt} (u : UKH h h') {k : Nat} {c' : RC} (hc : h'.1[k]? = some c') (ha : AliveH h' k) : AliveH h k ∧ ∃ c, h.1[k]? = some c ∧ c'.weak = c.weak ∧ (c'.a = c.a ∨ c'.a = -1) ∧ (c'.b = c.b ∨ c'.b = -1) := by
  obtain ⟨a, c, e1, e2, e3, e4⟩ := u k (toldC c') (told_at hc) ha
  obtain ⟨d, f1, f2⟩ := told_get e1
  subst f2
  exact ⟨a, d, f1, e2, e3, e4⟩
theorem UKH.kind {h h' : HSt} (u : UKH h h') {wk : Bool} {r : Int} (hr : KindR h wk r) (hl : h'.1.length = h.1.length) (ha : ∀ k : Nat, r = (k : Int) → AliveH h' k) : KindR h' wk r := by
  obtain ⟨h0, c, hc, hw⟩ := hr
  have hlt := (List.getElem?_eq_some_iff.1 hc).1
  obtain ⟨c', hc'⟩ : ∃ c', h'.1[r.toNat]? = some c' := ⟨_, List.getElem?_eq_getElem (by omega)⟩
  obtain ⟨_, d, f1, f2, _⟩ := u.get hc' (ha r.toNat (by omega))
  rw [hc] at f1
  cases f1
  exact ⟨h0, c', hc', f2.trans hw⟩
theorem KI.uk {h h' : HSt} (q : KI h) (u : UKH h h') (hl : h'.1.length = h.1.length) (g : GInvH h') : KI h' := by
  intro k c' hc ha j hj
  obtain ⟨a, c, e1, _, e3, e4⟩ := u.get hc ha
  refine u.kind (q k c e1 a j ?_) hl (fun i hi => ?_)
  · rcases hj with hj | hj
    · rcases e3 with e | e
      · exact .inl (e ▸ hj)
      · omega
    · rcases e4 with e | e
      · exact .inr (e ▸ hj)
      · omega
  · obtain rfl : j = i := by omega
    exact g.refs hc ha hj
/-- A cell is written that was free, or one whose references are plain. -/
theorem KI.put {h h' : HSt} (q : KI h) {r : Nat} (hsame : ∀ k, k ≠ r → (∀ c', h'.1[k]? = some c' → ∃ c, h.1[k]? = some c ∧ c'.weak = c.weak ∧ c'.a = c.a ∧ c'.b = c.b) ∧ (∀ c, h.1[k]? = some c → ∃ c', h'.1[k]? = some c' ∧ c'.weak = c.weak) ∧ (AliveH h' k → AliveH h k))
    (hr : ∀ c', h'.1[r]? = some c' → ∀ j : Nat, (c'.a = (j : Int) ∨ c'.b = (j : Int)) → KindR h' false j)
    (hn : ∀ k c, h.1[k]? = some c → k ≠ r → AliveH h k → (c.a = (r : Int) ∨ c.b = (r : Int)) → KindR h' false r) : KI h' := by
  intro k c' hc ha j hj
  by_cases e : k = r
  · subst e
    exact hr c' hc j hj
  obtain ⟨h1, _, h3⟩ := hsame k e
  obtain ⟨c, e1, e2, e3, e4⟩ := h1 c' hc
  rw [e3, e4] at hj
  by_cases ej : j = r
  · subst ej
    exact hn k c e1 e (h3 ha) hj
  obtain ⟨_, d, hd, hw⟩ := q k c e1 (h3 ha) j hj
  obtain ⟨d', f1, f2⟩ := (hsame j ej).2.1 d (by simpa using hd)
  exact ⟨by omega, d', by simpa using f1, f2.trans hw⟩
end Go.Proofs.YtdmdpindonghdabDoor
namespace Go.Proofs.YtdmdpindonghdabDoor
open Go.RowKit
/-- What is known of a word: (0, 0) nothing; (1, 0) a plain cell or None, (2, 0) a weak one or None; (3, 0) a plain cell, (4, 0) a weak one; (5, 0) None; (6, n) what local n holds; (7, n) 0 just if local n is not None. -/
def resA (lo : List (Nat × Nat)) (v : Nat × Nat) : Nat × Nat := if v.1 = 6 then lo.getD v.2 (0, 0) else if v.1 = 7 then (0, 0) else v
def isPl (v : Nat × Nat) : Bool := v.1 == 1 || v.1 == 3 || v.1 == 5
def isWk (v : Nat × Nat) : Bool := v.1 == 2 || v.1 == 4 || v.1 == 5
def knowA (v : Nat × Nat) : Nat × Nat := if v.1 = 1 then (3, 0) else if v.1 = 2 then (4, 0) else v
def storeA (lo : List (Nat × Nat)) (n : Nat) (v : Nat × Nat) (r : List (Nat × Nat)) : Option (List (Nat × Nat) × List (Nat × Nat)) :=
  if n = 0 then some (lo.set 0 (0, 0), r.map (resA lo))
  else if n = 3 then (if isWk (resA lo v) = true then some (lo.set 3 (2, 0), r.map (resA lo)) else none)
  else if isPl (resA lo v) = true then some (lo.set n (1, 0), r.map (resA lo)) else none
def loadA (lo st : List (Nat × Nat)) (n : Nat) : Option (List (Nat × Nat) × List (Nat × Nat)) :=
  if n < lo.length then (if lo.getD n (0, 0) = (3, 0) then some (lo.set n (1, 0), (3, 0) :: st) else if lo.getD n (0, 0) = (4, 0) then some (lo.set n (2, 0), (4, 0) :: st) else some (lo, (6, n) :: st)) else none
/-- What is known behind an instruction. -/
def opA (lo st : List (Nat × Nat)) (op n : Nat) : Option (List (Nat × Nat) × List (Nat × Nat)) :=
  if op = 1 ∨ op = 21 then some (lo, (0, 0) :: st)
  else if op = 7 then loadA lo st n
  else if op = 12 then some (lo, (5, 0) :: st)
  else if op = 13 then some (lo, (3, 0) :: st)
  else match st with
  | [] => none
  | v :: r =>
    if op = 8 then storeA lo n v r
    else if op = 9 then some (lo, v :: v :: r)
    else if op = 22 then some (lo, r)
    else if op = 20 then (if v.1 = 7 then some (lo.set v.2 (knowA (lo.getD v.2 (0, 0))), r) else none)
    else if op = 23 then (if isPl (resA lo v) = true then some (lo, (4, 0) :: r) else none)
    else if op = 14 then (if v = (3, 0) then some (lo, (1, 0) :: r) else none)
    else if op = 24 then (if v = (4, 0) ∧ n = 0 then some (lo, (1, 0) :: r) else none)
    else if op = 16 then (if v = (3, 0) then some (lo, (0, 0) :: r) else none)
    else match r with
    | [] => none
    | u :: r =>
      if op = 2 then some (lo, (0, 0) :: r)
      else if op = 18 then (if v = (5, 0) ∧ u.1 = 6 then some (lo, (7, u.2) :: r) else some (lo, (0, 0) :: r))
      else if op = 17 then (if u = (3, 0) then some (lo, r) else none)
      else if op = 15 then (if u = (3, 0) ∧ isPl (resA lo v) = true then some (lo, r) else none)
      else none
def runA (A : List (Nat × Nat) × List (Nat × Nat)) : List (Nat × Nat) → Option (List (Nat × Nat) × List (Nat × Nat))
  | [] => some A
  | x :: r => (opA A.1 A.2 x.1 x.2).bind fun B => runA B r
theorem runA_append (a b : List (Nat × Nat)) : ∀ A, runA A (a ++ b) = (runA A a).bind fun B => runA B b := by
  induction a with
  | nil => intro A; rfl
  | cons x r ih =>
    intro A
    simp only [List.cons_append, runA]
    cases opA A.1 A.2 x.1 x.2 with
    | none => rfl
    | some B => exact ih B
def topA : List (Nat × Nat) × List (Nat × Nat) := ([(0, 0), (1, 0), (1, 0), (2, 0)], [])
def iniA : List (Nat × Nat) × List (Nat × Nat) := ([(0, 0), (0, 0), (0, 0), (0, 0)], [])
def kn (n : Nat) : List (Nat × Nat) × List (Nat × Nat) := (topA.1.set n (knowA (topA.1.getD n (0, 0))), [])
def bodyA (c : Nat) (weak : Bool) : Bool := if (bodyC c weak).1 = 0 then decide (runA topA (bodyC c weak).2 = some topA) else decide (runA (kn (bodyC c weak).1) (bodyC c weak).2 = some topA)
theorem bodyA_all : (List.range 256).all (fun c => bodyA c true && bodyA c false) = true := by kernel_rfl
theorem bodyA_ok (c : Nat) (hc : c < 256) (weak : Bool) : bodyA c weak = true := by
  have h := List.all_eq_true.1 bodyA_all c (List.mem_range.2 hc)
  rw [Bool.and_eq_true] at h
  cases weak
  · exact h.2
  · exact h.1
theorem unlA (n : Nat) (h : n = 1 ∨ n = 2 ∨ n = 3) : runA topA [(7, n), (12, 0), (18, 0)] = some (topA.1, [(7, n)]) := by
  rcases h with rfl | rfl | rfl <;> kernel_rfl
theorem brA (n t : Nat) : runA (topA.1, [(7, n)]) [(20, t)] = some (kn n) := by
  simp only [runA, opA]
  rfl
structure BldA (cs : List (Nat × Nat)) : Prop where
  run : runA iniA cs = some topA
  aim : ∀ a t b, cs = a ++ (20, t) :: b → ∃ a' b' m, cs = a' ++ b' ∧ t = csize a' ∧ runA iniA a' = some topA ∧ runA iniA a = some (topA.1, [(7, m)])
theorem BldA.start : BldA proC := by
  refine ⟨by kernel_rfl, ?_⟩
  intro a t b h
  exfalso
  have : (20, t) ∈ proC := by rw [h]; simp
  simp [proC] at this
structure PieceA (at_ : Nat) (cs : List (Nat × Nat)) : Prop where
  run : runA topA cs = some topA
  aim : ∀ a t b, cs = a ++ (20, t) :: b → t = at_ + csize cs ∧ ∃ m, runA topA a = some (topA.1, [(7, m)])
theorem piece_A (c : Nat) (hc : c < 256) (at_ : Nat) (weak : Bool) : PieceA at_ (pieceC c at_ weak) := by
  have h := body_ok c hc weak
  have hA := bodyA_ok c hc weak
  unfold bodyOk at h
  unfold bodyA at hA
  simp only [Bool.and_eq_true, decide_eq_true_eq] at h
  obtain ⟨⟨⟨⟨⟨_, h2⟩, _⟩, _⟩, h5⟩, _⟩ := h
  unfold pieceC
  generalize (bodyC c weak).1 = n at *
  generalize (bodyC c weak).2 = cs at *
  split
  · rename_i hn
    rw [if_pos hn, decide_eq_true_eq] at hA
    exact ⟨hA, fun a t b he => (no_branch h2 he).elim⟩
  · rename_i hn
    rw [if_neg hn, decide_eq_true_eq] at hA
    have hsz : csize (unlC n at_ cs) = 6 + csize cs := by
      unfold unlC
      rw [csize_append]
      have : csize [(7, n), (12, 0), (18, 0), (20, at_ + 6 + csize cs)] = 6 := rfl
      omega
    refine ⟨?_, ?_⟩
    · unfold unlC
      rw [show [(7, n), (12, 0), (18, 0), (20, at_ + 6 + csize cs)] = [(7, n), (12, 0), (18, 0)] ++ [(20, at_ + 6 + csize cs)] from rfl, List.append_assoc, runA_append, unlA n (by omega), Option.bind_some, runA_append, brA, Option.bind_some]
      exact hA
    · intro a t b he
      unfold unlC at he
      match a, he with
      | [], he => simp at he
      | [_], he => simp at he
      | [_, _], he => simp at he
      | [a0, a1, a2], he =>
        simp only [List.cons_append, List.nil_append, List.cons.injEq, Prod.mk.injEq, true_and] at he
        obtain ⟨rfl, rfl, rfl, ht, _⟩ := he
        exact ⟨by rw [hsz]; omega, n, unlA n (by omega)⟩
      | a0 :: a1 :: a2 :: a3 :: ar, he =>
        simp only [List.cons_append, List.nil_append, List.cons.injEq] at he
        exact (no_branch h2 he.2.2.2.2).elim
theorem BldA.more {cs p : List (Nat × Nat)} (h : BldA cs) (hp : PieceA (csize cs) p) : BldA (cs ++ p) := by
  have hrun : runA iniA (cs ++ p) = some topA := by rw [runA_append, h.run]; exact hp.run
  refine ⟨hrun, ?_⟩
  intro a t b he
  rcases List.append_eq_append_iff.1 he with ⟨a', e1, e2⟩ | ⟨c', e1, e2⟩
  · obtain ⟨q1, m, q2⟩ := hp.aim a' t b e2
    refine ⟨cs ++ p, [], m, by simp, by rw [csize_append]; exact q1, hrun, ?_⟩
    rw [e1, runA_append, h.run]
    exact q2
  · match c', e1, e2 with
    | [], e1, e2 =>
      simp only [List.append_nil] at e1
      simp only [List.nil_append] at e2
      obtain ⟨q1, m, q2⟩ := hp.aim [] t b (by simpa using e2.symm)
      refine ⟨cs ++ p, [], m, by simp, by rw [csize_append]; exact q1, hrun, ?_⟩
      rw [← e1, h.run]
      exact q2
    | y :: c', e1, e2 =>
      simp only [List.cons_append, List.cons.injEq] at e2
      obtain ⟨rfl, e2⟩ := e2
      obtain ⟨a2, b2, m, q1, q2, q3, q4⟩ := h.aim a t c' e1
      exact ⟨a2, b2 ++ p, m, by rw [q1]; simp, q2, q3, q4⟩
theorem bgo_A (weak : Bool) (r : List UInt8) : ∀ cs, BldA cs → BldA (bgo weak cs r) := by
  induction r with
  | nil => intro cs h; exact h
  | cons c r ih =>
    intro cs h
    unfold bgo
    split
    · exact ih _ (h.more (piece_A c.toNat (UInt8.toNat_lt c) (csize cs) weak))
    · exact h
/-- What is known at each instruction of code. -/
structure AbsOk (l : List Ins) (T : Nat → List (Nat × Nat) × List (Nat × Nat)) : Prop where
  init : T 0 = iniA
  fall : ∀ k i, l[k]? = some i → i.op ≠ 19 → opA (T k).1 (T k).2 i.op i.n = some (T (k + 1))
  br : ∀ k i, l[k]? = some i → i.op = 20 → (∃ m, T k = (topA.1, [(7, m)])) ∧ T (findP i.n l 0).toNat = topA
  jmp : ∀ k i, l[k]? = some i → i.op = 19 → T k = topA ∧ T (findP i.n l 0).toNat = topA
theorem BldA.abs {cs : List (Nat × Nat)} (h : BldA cs) (h0 : Bld cs) : AbsOk (placed 0 (cs ++ [(19, 9)])) (fun k => (runA iniA (cs.take k)).getD iniA) := by
  obtain ⟨r6, h6⟩ := h0.six
  have hfind9 : findP 9 (placed 0 (cs ++ [(19, 9)])) 0 = 6 := by
    rw [← h6]
    cases r6 with
    | nil => exact findP_placed proC (19, 9) [] 0 0
    | cons y r6 => rw [List.append_assoc]; exact findP_placed proC y (r6 ++ [(19, 9)]) 0 0
  have hpro : runA iniA proC = some topA := by kernel_rfl
  have hfind : ∀ a' b', cs = a' ++ b' → findP (csize a') (placed 0 (cs ++ [(19, 9)])) 0 = (a'.length : Int) := by
    intro a' b' he
    rw [he, List.append_assoc]
    cases b' with
    | nil => have := findP_placed a' (19, 9) [] 0 0; simpa using this
    | cons y b' => have := findP_placed a' y (b' ++ [(19, 9)]) 0 0; simpa using this
  have hT : ∀ k, ∃ p, runA iniA (cs.take k) = some p := by
    intro k
    have hr := h.run
    rw [← List.take_append_drop k cs, runA_append] at hr
    cases hq : runA iniA (cs.take k) with
    | none => rw [hq] at hr; simp at hr
    | some p => exact ⟨p, rfl⟩
  have hj : ∀ k i, (placed 0 (cs ++ [(19, 9)]))[k]? = some i → (k < cs.length ∧ ∃ x, cs[k]? = some x ∧ i.op = x.1 ∧ i.n = x.2) ∨ (k = cs.length ∧ i.op = 19 ∧ i.n = 9) := by
    intro k i hi
    rw [placed_at] at hi
    rcases Nat.lt_or_ge k cs.length with hk | hk
    · left
      refine ⟨hk, cs[k], List.getElem?_eq_getElem hk, ?_⟩
      rw [List.getElem?_append_left hk, List.getElem?_eq_getElem hk] at hi
      simp only [Option.map_some, Option.some.injEq, Nat.zero_add] at hi
      rw [← hi]
      exact ⟨rfl, rfl⟩
    · right
      rw [List.getElem?_append_right hk] at hi
      rcases Nat.eq_or_lt_of_le hk with e | hlt
      · rw [← e] at hi
        simp only [Nat.sub_self, List.getElem?_cons_zero, Option.map_some, Option.some.injEq] at hi
        rw [← hi]
        exact ⟨e.symm, rfl, rfl⟩
      · have : ([(19, 9)] : List (Nat × Nat))[k - cs.length]? = none := by rw [List.getElem?_eq_none]; simp; omega
        rw [this] at hi
        simp at hi
  have hsplit : ∀ k (hk : k < cs.length), cs = cs.take k ++ cs[k] :: cs.drop (k + 1) := by
    intro k hk
    rw [List.getElem_cons_drop]
    exact (List.take_append_drop k cs).symm
  refine ⟨by simp [runA], ?_, ?_, ?_⟩
  · intro k i hi h19
    rcases hj k i hi with ⟨hk, x, hx, i1, i2⟩ | ⟨_, i1, _⟩
    · obtain ⟨p, hp⟩ := hT k
      obtain ⟨p', hp'⟩ := hT (k + 1)
      have hxk : cs[k] = x := by rw [List.getElem?_eq_getElem hk] at hx; exact Option.some.inj hx
      simp only [hp, hp', Option.getD_some, i1, i2]
      rw [List.take_succ_eq_append_getElem hk, hxk, runA_append, hp, Option.bind_some] at hp'
      simp only [runA] at hp'
      cases ho : opA p.1 p.2 x.1 x.2 with
      | none => rw [ho] at hp'; cases hp'
      | some B => rw [ho] at hp'; exact hp'
    · exact absurd i1 h19
  · intro k i hi h20
    rcases hj k i hi with ⟨hk, x, hx, i1, i2⟩ | ⟨_, i1, _⟩
    · have hxk : cs[k] = x := by rw [List.getElem?_eq_getElem hk] at hx; exact Option.some.inj hx
      obtain ⟨x1, x2⟩ := x
      simp only at i1 i2
      obtain rfl : x1 = 20 := by omega
      obtain ⟨a', b', m, q1, q2, q3, q4⟩ := h.aim (cs.take k) x2 (cs.drop (k + 1)) (by rw [← hxk]; exact hsplit k hk)
      have hf := hfind a' b' q1
      have htk : cs.take a'.length = a' := by rw [q1]; simp
      refine ⟨⟨m, by simp only [q4, Option.getD_some]⟩, ?_⟩
      rw [i2, q2, hf]
      simp only [Int.toNat_natCast, htk, q3, Option.getD_some]
    · omega
  · intro k i hi h19
    rcases hj k i hi with ⟨hk, x, hx, i1, _⟩ | ⟨hk, _, i2⟩
    · have hop : x.1 ≠ 0 ∧ x.1 ≠ 19 := by
        have := List.all_eq_true.1 h0.ends x (List.mem_of_getElem? hx)
        simpa using this
      omega
    · rw [hk, i2, hfind9]
      have : cs.take 6 = proC := by rw [← h6]; rfl
      simp only [List.take_length, h.run, Option.getD_some, Int.reduceToNat, this, hpro, and_self]
theorem built_abs (raw : ByteArray) (weak : Bool) : ∃ T, AbsOk (codeOf (builtS raw weak)) T := by
  obtain ⟨h1, _⟩ := bgo_ok weak raw.data.toList proC Bld.start (by decide)
  rw [(built_ok raw weak).2.1]
  exact ⟨_, (bgo_A weak raw.data.toList proC BldA.start).abs h1⟩
end Go.Proofs.YtdmdpindonghdabDoor
namespace Go.Proofs.YtdmdpindonghdabDoor
open Go.RowKit
structure HV (h : HSt) (lo : List (Bool × Int)) (v : Nat × Nat) (x : Bool × Int) : Prop where
  p : v.1 = 1 → x.1 = true ∧ (x.2 = -1 ∨ KindR h false x.2)
  w : v.1 = 2 → x.1 = true ∧ (x.2 = -1 ∨ KindR h true x.2)
  pn : v.1 = 3 → x.1 = true ∧ KindR h false x.2
  wn : v.1 = 4 → x.1 = true ∧ KindR h true x.2
  nu : v.1 = 5 → x = (true, -1)
  lc : v.1 = 6 → lo[v.2]? = some x
  ts : v.1 = 7 → ∃ y, lo[v.2]? = some y ∧ (x.2 = 0 → y.2 ≠ -1)
theorem HV.any (h : HSt) (lo : List (Bool × Int)) (x : Bool × Int) : HV h lo (0, 0) x := by constructor <;> intro e <;> simp at e
theorem HV.mkP {h : HSt} {x : Bool × Int} (h1 : x.1 = true) (h2 : x.2 = -1 ∨ KindR h false x.2) (lo : List (Bool × Int)) : HV h lo (1, 0) x :=
  ⟨fun _ => ⟨h1, h2⟩, fun e => by simp at e, fun e => by simp at e, fun e => by simp at e, fun e => by simp at e, fun e => by simp at e, fun e => by simp at e⟩
theorem HV.mkW {h : HSt} {x : Bool × Int} (h1 : x.1 = true) (h2 : x.2 = -1 ∨ KindR h true x.2) (lo : List (Bool × Int)) : HV h lo (2, 0) x :=
  ⟨fun e => by simp at e, fun _ => ⟨h1, h2⟩, fun e => by simp at e, fun e => by simp at e, fun e => by simp at e, fun e => by simp at e, fun e => by simp at e⟩
theorem HV.mkPN {h : HSt} {x : Bool × Int} (h1 : x.1 = true) (h2 : KindR h false x.2) (lo : List (Bool × Int)) : HV h lo (3, 0) x :=
  ⟨fun e => by simp at e, fun e => by simp at e, fun _ => ⟨h1, h2⟩, fun e => by simp at e, fun e => by simp at e, fun e => by simp at e, fun e => by simp at e⟩
theorem HV.mkWN {h : HSt} {x : Bool × Int} (h1 : x.1 = true) (h2 : KindR h true x.2) (lo : List (Bool × Int)) : HV h lo (4, 0) x :=
  ⟨fun e => by simp at e, fun e => by simp at e, fun e => by simp at e, fun _ => ⟨h1, h2⟩, fun e => by simp at e, fun e => by simp at e, fun e => by simp at e⟩
theorem HV.mkN (h : HSt) (lo : List (Bool × Int)) : HV h lo (5, 0) (true, -1) :=
  ⟨fun e => by simp at e, fun e => by simp at e, fun e => by simp at e, fun e => by simp at e, fun _ => rfl, fun e => by simp at e, fun e => by simp at e⟩
theorem HV.mkL {h : HSt} {lo : List (Bool × Int)} {n : Nat} {x : Bool × Int} (h1 : lo[n]? = some x) : HV h lo (6, n) x :=
  ⟨fun e => by simp at e, fun e => by simp at e, fun e => by simp at e, fun e => by simp at e, fun e => by simp at e, fun _ => h1, fun e => by simp at e⟩
theorem HV.mkT {h : HSt} {lo : List (Bool × Int)} {n : Nat} {x y : Bool × Int} (h1 : lo[n]? = some y) (h2 : x.2 = 0 → y.2 ≠ -1) : HV h lo (7, n) x :=
  ⟨fun e => by simp at e, fun e => by simp at e, fun e => by simp at e, fun e => by simp at e, fun e => by simp at e, fun e => by simp at e, fun _ => ⟨y, h1, h2⟩⟩
theorem HV.free {h : HSt} {lo : List (Bool × Int)} {v : Nat × Nat} {x : Bool × Int} (q : HV h lo v x) (hv : v.1 ≤ 5) (lo' : List (Bool × Int)) : HV h lo' v x :=
  ⟨q.p, q.w, q.pn, q.wn, q.nu, fun e => by omega, fun e => by omega⟩
theorem HV.heap {h h' : HSt} {lo : List (Bool × Int)} {v : Nat × Nat} {x : Bool × Int} (q : HV h lo v x) (hk : x.1 = true → ∀ wk, KindR h wk x.2 → KindR h' wk x.2) : HV h' lo v x :=
  ⟨fun e => ⟨(q.p e).1, (q.p e).2.imp id (hk (q.p e).1 _)⟩, fun e => ⟨(q.w e).1, (q.w e).2.imp id (hk (q.w e).1 _)⟩, fun e => ⟨(q.pn e).1, hk (q.pn e).1 _ (q.pn e).2⟩, fun e => ⟨(q.wn e).1, hk (q.wn e).1 _ (q.wn e).2⟩, q.nu, q.lc, q.ts⟩
/-- What is known holds of a machine. -/
structure HA (lo st : List (Nat × Nat)) (s : MS) : Prop where
  lol : lo.length = s.lo.length
  lo : ∀ (n : Nat) (v : Nat × Nat) (x : Bool × Int), lo[n]? = some v → s.lo[n]? = some x → v.1 ≤ 4 ∧ HV s.hs s.lo v x
  stl : st.length = s.st.length
  st : ∀ (j : Nat) (v : Nat × Nat), st[j]? = some v → HV s.hs s.lo v (lastW s.st j)
theorem lastW_top (st : List (Bool × Int)) (x : Bool × Int) : lastW (st ++ [x]) 0 = x := by
  unfold lastW
  simp
theorem lastW_under (st : List (Bool × Int)) (x : Bool × Int) {j : Nat} (h : j < st.length) : lastW (st ++ [x]) (j + 1) = lastW st j := by
  unfold lastW
  rw [List.length_append, List.length_singleton, List.getElem?_append_left (by omega)]
  congr 2
  omega
theorem lastW_take (st : List (Bool × Int)) {j k : Nat} (h : j + k < st.length) : lastW (st.take (st.length - k)) j = lastW st (j + k) := by
  unfold lastW
  rw [List.length_take, Nat.min_eq_left (by omega), List.getElem?_take_of_lt (by omega)]
  congr 2
  omega
theorem HA.push {lo st : List (Nat × Nat)} {s : MS} (h : HA lo st s) {v : Nat × Nat} {x : Bool × Int} (hv : HV s.hs s.lo v x) : HA lo (v :: st) { s with st := s.st ++ [x] } := by
  refine ⟨h.lol, h.lo, by simp [h.stl], ?_⟩
  intro j u hu
  cases j with
  | zero =>
    simp only [List.getElem?_cons_zero, Option.some.injEq] at hu
    subst hu
    simp only [lastW_top]
    exact hv
  | succ j =>
    simp only [List.getElem?_cons_succ] at hu
    have hj := (List.getElem?_eq_some_iff.1 hu).1
    simp only
    rw [lastW_under _ _ (by rw [← h.stl]; exact hj)]
    exact h.st j u hu
theorem HA.cut {lo st : List (Nat × Nat)} {s : MS} (h : HA lo st s) (k : Nat) (hk : k ≤ st.length) : HA lo (st.drop k) { s with st := cutS s k } := by
  have hl := h.stl
  refine ⟨h.lol, h.lo, by simp only [cutS, List.length_drop, List.length_take]; omega, ?_⟩
  intro j u hu
  rw [List.getElem?_drop] at hu
  have hj := (List.getElem?_eq_some_iff.1 hu).1
  simp only [cutS]
  rw [lastW_take _ (by omega), Nat.add_comm]
  exact h.st _ u hu
theorem HA.heap {lo st : List (Nat × Nat)} {s : MS} (h : HA lo st s) {h' : HSt} (hk : ∀ x ∈ s.lo ++ s.st, x.1 = true → ∀ wk, KindR s.hs wk x.2 → KindR h' wk x.2) : HA lo st { s with hs := h' } := by
  refine ⟨h.lol, fun n v x h1 h2 => ⟨(h.lo n v x h1 h2).1, (h.lo n v x h1 h2).2.heap (hk x (List.mem_append_left _ (List.mem_of_getElem? h2)))⟩, h.stl, ?_⟩
  intro j u hu
  have hj := (List.getElem?_eq_some_iff.1 hu).1
  exact (h.st j u hu).heap (hk _ (List.mem_append_right _ (lastW_mem (by rw [← h.stl]; exact hj))))
theorem HA.res {lo st : List (Nat × Nat)} {s : MS} (h : HA lo st s) {v : Nat × Nat} {x : Bool × Int} (hv : HV s.hs s.lo v x) (lo' : List (Bool × Int)) : HV s.hs lo' (resA lo v) x := by
  unfold resA
  split
  · rename_i e
    have h1 := hv.lc e
    have hl := (List.getElem?_eq_some_iff.1 h1).1
    rw [List.getD_eq_getElem?_getD, List.getElem?_eq_getElem (by rw [h.lol]; exact hl), Option.getD_some]
    obtain ⟨q1, q2⟩ := h.lo v.2 _ x (List.getElem?_eq_getElem (by rw [h.lol]; exact hl)) h1
    exact q2.free (by omega) lo'
  · split
    · exact HV.any _ _ _
    · exact ⟨hv.p, hv.w, hv.pn, hv.wn, hv.nu, fun e => by omega, fun e => by omega⟩
theorem HV.pl {h : HSt} {lo : List (Bool × Int)} {v : Nat × Nat} {x : Bool × Int} (q : HV h lo v x) (hv : isPl v = true) : x.1 = true ∧ (x.2 = -1 ∨ KindR h false x.2) := by
  unfold isPl at hv
  simp only [Bool.or_eq_true, beq_iff_eq] at hv
  rcases hv with (e | e) | e
  · exact q.p e
  · exact ⟨(q.pn e).1, .inr (q.pn e).2⟩
  · rw [q.nu e]; exact ⟨rfl, .inl rfl⟩
theorem HV.wk {h : HSt} {lo : List (Bool × Int)} {v : Nat × Nat} {x : Bool × Int} (q : HV h lo v x) (hv : isWk v = true) : x.1 = true ∧ (x.2 = -1 ∨ KindR h true x.2) := by
  unfold isWk at hv
  simp only [Bool.or_eq_true, beq_iff_eq] at hv
  rcases hv with (e | e) | e
  · exact q.w e
  · exact ⟨(q.wn e).1, .inr (q.wn e).2⟩
  · rw [q.nu e]; exact ⟨rfl, .inl rfl⟩
theorem HA.locals {lo st : List (Nat × Nat)} {s : MS} (h : HA lo st s) {n : Nat} {w : Nat × Nat} (hw : w.1 ≤ 4) (hx : ∀ x, s.lo[n]? = some x → HV s.hs s.lo w x) : HA (lo.set n w) st s := by
  refine ⟨by rw [List.length_set]; exact h.lol, ?_, h.stl, h.st⟩
  intro m v x h1 h2
  rw [List.getElem?_set] at h1
  split at h1
  · rename_i e
    subst e
    split at h1
    · cases h1
      exact ⟨hw, hx x h2⟩
    · cases h1
  · exact h.lo m v x h1 h2
theorem HA.load {lo st lo' st' : List (Nat × Nat)} {s : MS} (h : HA lo st s) {n : Nat} (ho : loadA lo st n = some (lo', st')) : HA lo' st' { s with st := s.st ++ [s.lo.getD n (false, 0)] } := by
  unfold loadA at ho
  split at ho
  · rename_i hn
    have hn' : n < s.lo.length := by rw [← h.lol]; exact hn
    have e : s.lo.getD n (false, 0) = s.lo[n] := by rw [List.getD_eq_getElem?_getD, List.getElem?_eq_getElem hn']; rfl
    have ev : lo.getD n (0, 0) = lo[n] := by rw [List.getD_eq_getElem?_getD, List.getElem?_eq_getElem hn]; rfl
    obtain ⟨q1, q2⟩ := h.lo n lo[n] s.lo[n] (List.getElem?_eq_getElem hn) (List.getElem?_eq_getElem hn')
    rw [e]
    rw [ev] at ho
    split at ho
    · rename_i e3
      cases ho
      rw [e3] at q2
      refine HA.push (h.locals (by simp) (fun x hx => ?_)) q2
      rw [List.getElem?_eq_getElem hn'] at hx
      cases hx
      exact HV.mkP (q2.pn rfl).1 (.inr (q2.pn rfl).2) _
    split at ho
    · rename_i _ e4
      cases ho
      rw [e4] at q2
      refine HA.push (h.locals (by simp) (fun x hx => ?_)) q2
      rw [List.getElem?_eq_getElem hn'] at hx
      cases hx
      exact HV.mkW (q2.wn rfl).1 (.inr (q2.wn rfl).2) _
    · cases ho
      exact h.push (HV.mkL (List.getElem?_eq_getElem hn'))
  · cases ho
theorem HA.store {lo r lo' st' : List (Nat × Nat)} {v : Nat × Nat} {s : MS} (h : HA lo (v :: r) s) {n : Nat} (ho : storeA lo n v r = some (lo', st')) : HA lo' st' { s with lo := s.lo.set n (lastW s.st 0), st := cutS s 1 } := by
  have hv := h.st 0 v rfl
  have hres := h.res hv s.lo
  have main : ∀ w : Nat × Nat, w.1 ≤ 4 → HV s.hs [] w (lastW s.st 0) → HA (lo.set n w) (r.map (resA lo)) { s with lo := s.lo.set n (lastW s.st 0), st := cutS s 1 } := by
    intro w hw hx
    have hc := h.cut 1 (by simp)
    refine ⟨by simp [h.lol], ?_, by have := hc.stl; simpa using this, ?_⟩
    · intro m u x h1 h2
      simp only at h2
      rw [List.getElem?_set] at h1 h2
      split at h1
      · rename_i e
        subst e
        rw [if_pos rfl] at h2
        split at h1
        · cases h1
          split at h2
          · cases h2
            exact ⟨hw, hx.free (by omega) _⟩
          · cases h2
        · cases h1
      · rename_i e
        rw [if_neg e] at h2
        obtain ⟨q1, q2⟩ := h.lo m u x h1 h2
        exact ⟨q1, q2.free (by omega) _⟩
    · intro j u hu
      rw [List.getElem?_map] at hu
      cases hj : r[j]? with
      | none => rw [hj] at hu; cases hu
      | some u0 =>
        rw [hj] at hu
        cases hu
        exact h.res (hc.st j u0 hj) _
  unfold storeA at ho
  split at ho
  · rename_i e
    subst e
    cases ho
    exact main (0, 0) (by simp) (HV.any _ _ _)
  split at ho
  · rename_i e
    subst e
    split at ho
    · rename_i hk
      cases ho
      obtain ⟨a1, a2⟩ := hres.wk hk
      exact main (2, 0) (by simp) (HV.mkW a1 a2 _)
    · cases ho
  split at ho
  · rename_i hk
    cases ho
    obtain ⟨a1, a2⟩ := hres.pl hk
    exact main (1, 0) (by simp) (HV.mkP a1 a2 _)
  · cases ho
/-- Behind a branch that is not taken. -/
theorem HA.fall {lo r : List (Nat × Nat)} {v : Nat × Nat} {s : MS} (h : HA lo (v :: r) s) (hv : v.1 = 7) (hz : (lastW s.st 0).2 = 0) : HA (lo.set v.2 (knowA (lo.getD v.2 (0, 0)))) r { s with st := cutS s 1 } := by
  obtain ⟨y, h1, h2⟩ := (h.st 0 v rfl).ts hv
  have hc := h.cut 1 (by simp)
  have hn := (List.getElem?_eq_some_iff.1 h1).1
  have hn' : v.2 < lo.length := by rw [h.lol]; exact hn
  have ev : lo.getD v.2 (0, 0) = lo[v.2] := by rw [List.getD_eq_getElem?_getD, List.getElem?_eq_getElem hn']; rfl
  obtain ⟨q1, q2⟩ := h.lo v.2 lo[v.2] y (List.getElem?_eq_getElem hn') h1
  rw [ev]
  refine HA.locals hc ?_ (fun x hx => ?_)
  · unfold knowA
    split
    · simp
    split
    · simp
    · exact q1
  · simp only at hx
    rw [h1] at hx
    cases hx
    have hy := h2 hz
    unfold knowA
    split
    · rename_i e
      obtain ⟨a1, a2⟩ := q2.p e
      exact HV.mkPN a1 (a2.resolve_left hy) _
    split
    · rename_i e
      obtain ⟨a1, a2⟩ := q2.w e
      exact HV.mkWN a1 (a2.resolve_left hy) _
    · exact q2
theorem wantsC_of {h : HSt} {wk : Bool} {r : Int} (q : KindR h wk r) : wantsC h.1 r wk = 0 := by
  obtain ⟨h0, c, hc, hw⟩ := q
  unfold wantsC
  rw [if_neg (by omega), hc, Option.map_some, hw, if_pos rfl]
end Go.Proofs.YtdmdpindonghdabDoor
namespace Go.Proofs.YtdmdpindonghdabDoor
open Go.RowKit
/-- Two references that are paired. -/
def RefRel (R : Nat → Nat → Prop) (x y : Int) : Prop := (x = -1 ∧ y = -1) ∨ ∃ a b : Nat, x = (a : Int) ∧ y = (b : Int) ∧ R a b
structure WRel (R : Nat → Nat → Prop) (x y : Bool × Int) : Prop where
  ty : x.1 = y.1
  num : x.1 = false → x.2 = y.2
  ref : x.1 = true → RefRel R x.2 y.2
structure CRel (R : Nat → Nat → Prop) (c d : Cl) : Prop where
  w1 : c.weak = false
  w2 : d.weak = false
  num : c.num = d.num
  a : RefRel R c.a d.a
  b : RefRel R c.b d.b
theorem RefRel.mono {R R' : Nat → Nat → Prop} {x y : Int} (h : RefRel R x y) (hr : ∀ a b : Nat, x = (a : Int) → y = (b : Int) → R a b → R' a b) : RefRel R' x y := by
  rcases h with h | ⟨a, b, h1, h2, h3⟩
  · exact .inl h
  · exact .inr ⟨a, b, h1, h2, hr a b h1 h2 h3⟩
theorem WRel.mono {R R' : Nat → Nat → Prop} {x y : Bool × Int} (h : WRel R x y) (hr : x.1 = true → ∀ a b : Nat, x.2 = (a : Int) → y.2 = (b : Int) → R a b → R' a b) : WRel R' x y := ⟨h.ty, h.num, fun e => (h.ref e).mono (hr e)⟩
theorem WRel.ofNum (R : Nat → Nat → Prop) (v : Int) : WRel R (false, v) (false, v) := ⟨rfl, fun _ => rfl, fun e => by (cases e)⟩
theorem WRel.none (R : Nat → Nat → Prop) : WRel R (true, -1) (true, -1) := ⟨rfl, fun e => by (cases e), fun _ => .inl ⟨rfl, rfl⟩⟩
/-- Locals and stacks that are paired. -/
structure Words (R : Nat → Nat → Prop) (s t : MS) : Prop where
  lol : s.lo.length = t.lo.length
  lo : ∀ (j : Nat) (x y : Bool × Int), s.lo[j]? = some x → t.lo[j]? = some y → WRel R x y
  stl : s.st.length = t.st.length
  st : ∀ j, j < s.st.length → WRel R (lastW s.st j) (lastW t.st j)
def CellsR (R : Nat → Nat → Prop) (T U : List Cl) : Prop := ∀ a b, R a b → ∃ c d, T[a]? = some c ∧ U[b]? = some d ∧ CRel R c d
structure OneOne (R : Nat → Nat → Prop) : Prop where
  fn : ∀ a b b', R a b → R a b' → b = b'
  inj : ∀ a a' b, R a b → R a' b → a = a'
def toldS' (s : MS) : List Cl := s.hs.1.map toldC
theorem Words.mono {R R' : Nat → Nat → Prop} {s t : MS} (h : Words R s t) (hr : ∀ a b : Nat, (true, (a : Int)) ∈ s.lo ++ s.st → (true, (b : Int)) ∈ t.lo ++ t.st → R a b → R' a b) : Words R' s t := by
  refine ⟨h.lol, fun j x y h1 h2 => (h.lo j x y h1 h2).mono (fun e a b ha hb => ?_), h.stl, fun j hj => (h.st j hj).mono (fun e a b ha hb => ?_)⟩
  · refine hr a b (List.mem_append_left _ (List.mem_of_getElem? (i := j) ?_)) (List.mem_append_left _ (List.mem_of_getElem? (i := j) ?_))
    · rw [h1, ← e, ← ha]
    · rw [h2, ← e, ← hb, (h.lo j x y h1 h2).ty]
  · refine hr a b (List.mem_append_right _ ?_) (List.mem_append_right _ ?_)
    · have := lastW_mem hj
      rw [← e, ← ha]; exact this
    · have := lastW_mem (st := t.st) (k := j) (by rw [← h.stl]; exact hj)
      have e2 := (h.st j hj).ty
      rw [← e, ← hb, e2]; exact this
theorem mem_lastW {st : List (Bool × Int)} {x : Bool × Int} (h : x ∈ st) : ∃ j, j < st.length ∧ lastW st j = x := by
  obtain ⟨j, hj, e⟩ := List.getElem_of_mem h
  refine ⟨st.length - 1 - j, by omega, ?_⟩
  unfold lastW
  rw [show st.length - 1 - (st.length - 1 - j) = j by omega, List.getElem?_eq_getElem hj, e]
  rfl
/-- The root of one that is paired with a root of the other. -/
theorem Words.root {R : Nat → Nat → Prop} {s t : MS} (h : Words R s t) {a : Nat} (ha : (a : Int) ∈ flagR (s.lo ++ s.st)) : ∃ b, R a b ∧ (b : Int) ∈ flagR (t.lo ++ t.st) := by
  have hm := mem_flagR.1 ha
  have key : ∀ y : Bool × Int, y ∈ t.lo ++ t.st → WRel R (true, (a : Int)) y → ∃ b, R a b ∧ (b : Int) ∈ flagR (t.lo ++ t.st) := by
    intro y hy hw
    rcases hw.ref rfl with ⟨e, _⟩ | ⟨a', b, e1, e2, e3⟩
    · simp only at e; omega
    · simp only at e1
      obtain rfl : a = a' := by omega
      refine ⟨b, e3, mem_flagR.2 ?_⟩
      rw [← e2]
      have := hw.ty
      simp only at this
      rw [this]
      exact hy
  rcases List.mem_append.1 hm with hm | hm
  · obtain ⟨j, hj, e⟩ := List.getElem_of_mem hm
    have hj' : j < t.lo.length := by rw [← h.lol]; exact hj
    exact key t.lo[j] (List.mem_append_left _ (List.getElem_mem hj')) (h.lo j _ _ (by rw [List.getElem?_eq_getElem hj, e]) (List.getElem?_eq_getElem hj'))
  · obtain ⟨j, hj, e⟩ := mem_lastW hm
    have := h.st j hj
    rw [e] at this
    exact key _ (List.mem_append_right _ (lastW_mem (by rw [← h.stl]; exact hj))) this
theorem Rch.pair {R : Nat → Nat → Prop} {s t : MS} {T U : List Cl} (h : Words R s t) (hc : CellsR R T U) {a : Nat} (ha : Rch T (flagR (s.lo ++ s.st)) a) : ∃ b, R a b ∧ Rch U (flagR (t.lo ++ t.st)) b := by
  induction ha using Rch.ind with
  | root k hk =>
    obtain ⟨b, h1, h2⟩ := h.root hk
    exact ⟨b, h1, .root b h2⟩
  | ref k j c _ hg hw hj ih =>
    obtain ⟨b, h1, h2⟩ := ih
    obtain ⟨c', d, e1, e2, e3⟩ := hc k b h1
    rw [hg] at e1
    cases e1
    rcases hj with hj | hj
    · rcases e3.a with ⟨e, _⟩ | ⟨a', b', f1, f2, f3⟩
      · omega
      · obtain rfl : j = a' := by omega
        exact ⟨b', f3, .ref b b' d h2 e2 e3.w2 (.inl f2)⟩
    · rcases e3.b with ⟨e, _⟩ | ⟨a', b', f1, f2, f3⟩
      · omega
      · obtain rfl : j = a' := by omega
        exact ⟨b', f3, .ref b b' d h2 e2 e3.w2 (.inr f2)⟩
/-- Backwards. -/
def Rev (R : Nat → Nat → Prop) (a b : Nat) : Prop := R b a
theorem RefRel.rev {R : Nat → Nat → Prop} {x y : Int} (h : RefRel R x y) : RefRel (Rev R) y x := by
  rcases h with ⟨h1, h2⟩ | ⟨a, b, h1, h2, h3⟩
  · exact .inl ⟨h2, h1⟩
  · exact .inr ⟨b, a, h2, h1, h3⟩
theorem WRel.rev {R : Nat → Nat → Prop} {x y : Bool × Int} (h : WRel R x y) : WRel (Rev R) y x := ⟨h.ty.symm, fun e => (h.num (h.ty.trans e)).symm, fun e => (h.ref (h.ty.trans e)).rev⟩
theorem CRel.rev {R : Nat → Nat → Prop} {c d : Cl} (h : CRel R c d) : CRel (Rev R) d c := ⟨h.w2, h.w1, h.num.symm, h.a.rev, h.b.rev⟩
theorem Words.rev {R : Nat → Nat → Prop} {s t : MS} (h : Words R s t) : Words (Rev R) t s := ⟨h.lol.symm, fun j x y h1 h2 => (h.lo j y x h2 h1).rev, h.stl.symm, fun j hj => (h.st j (by rw [h.stl]; exact hj)).rev⟩
theorem CellsR.rev {R : Nat → Nat → Prop} {T U : List Cl} (h : CellsR R T U) : CellsR (Rev R) U T := fun a b hr => by
  obtain ⟨c, d, h1, h2, h3⟩ := h b a hr
  exact ⟨d, c, h2, h1, h3.rev⟩
theorem OneOne.rev {R : Nat → Nat → Prop} (h : OneOne R) : OneOne (Rev R) := ⟨fun a b b' h1 h2 => h.inj b b' a h1 h2, fun a a' b h1 h2 => h.fn b a a' h1 h2⟩
/-- What is paired, and can be reached. -/
def Only' (R : Nat → Nat → Prop) (P Q : Nat → Prop) (a b : Nat) : Prop := R a b ∧ P a ∧ Q b
/-- The pairing of two machines, of cells that can be reached. -/
structure Pr (R : Nat → Nat → Prop) (s t : MS) : Prop where
  one : OneOne R
  ws : Words R s t
  cs : CellsR R (toldS' s) (toldS' t)
  inn : ∀ a b, R a b → Rch (toldS' s) (flagR (s.lo ++ s.st)) a ∧ Rch (toldS' t) (flagR (t.lo ++ t.st)) b
theorem Pr.of {R : Nat → Nat → Prop} {s t : MS} (h1 : OneOne R) (h2 : Words R s t) (h3 : CellsR R (toldS' s) (toldS' t)) : ∃ R', Pr R' s t := by
  refine ⟨Only' R (Rch (toldS' s) (flagR (s.lo ++ s.st))) (Rch (toldS' t) (flagR (t.lo ++ t.st))), ⟨fun a b b' p q => h1.fn a b b' p.1 q.1, fun a a' b p q => h1.inj a a' b p.1 q.1⟩, ?_, ?_, fun a b h => h.2⟩
  · exact h2.mono (fun a b ha hb hr => ⟨hr, .root a (mem_flagR.2 ha), .root b (mem_flagR.2 hb)⟩)
  · intro a b ⟨hr, ha, hb⟩
    obtain ⟨c, d, e1, e2, e3⟩ := h3 a b hr
    refine ⟨c, d, e1, e2, e3.w1, e3.w2, e3.num, e3.a.mono (fun a' b' f1 f2 f3 => ⟨f3, ?_, ?_⟩), e3.b.mono (fun a' b' f1 f2 f3 => ⟨f3, ?_, ?_⟩)⟩
    · exact .ref a a' c ha e1 e3.w1 (.inl f1)
    · exact .ref b b' d hb e2 e3.w2 (.inl f2)
    · exact .ref a a' c ha e1 e3.w1 (.inr f1)
    · exact .ref b b' d hb e2 e3.w2 (.inr f2)
theorem Pr.rev {R : Nat → Nat → Prop} {s t : MS} (h : Pr R s t) : Pr (Rev R) t s := ⟨h.one.rev, h.ws.rev, h.cs.rev, fun a b hr => ⟨(h.inn b a hr).2, (h.inn b a hr).1⟩⟩
/-- Units of one. -/
theorem Pr.kept {R : Nat → Nat → Prop} {s t : MS} (h : Pr R s t) {h' : HSt} (hk : Kept (toldS' s) (h'.1.map toldC) (flagR (s.lo ++ s.st))) : Pr R { s with hs := h' } t := by
  refine ⟨h.one, ⟨h.ws.lol, h.ws.lo, h.ws.stl, h.ws.st⟩, ?_, ?_⟩
  · intro a b hr
    obtain ⟨c, d, e1, e2, e3⟩ := h.cs a b hr
    obtain ⟨c', g1, g2, g3, g4, g5, _⟩ := hk.cell a c (h.inn a b hr).1 e1
    refine ⟨c', d, g1, e2, g2.trans e3.w1, e3.w2, g4.trans e3.num, ?_, ?_⟩
    · rw [g5 e3.w1]; exact e3.a
    · rw [g3]; exact e3.b
  · intro a b hr
    exact ⟨hk.on (h.inn a b hr).1, (h.inn a b hr).2⟩
theorem Pr.keptR {R : Nat → Nat → Prop} {s t : MS} (h : Pr R s t) {h' : HSt} (hk : Kept (toldS' t) (h'.1.map toldC) (flagR (t.lo ++ t.st))) : Pr R s { t with hs := h' } := by
  have := (h.rev.kept hk).rev
  exact this
/-- One to one among so many numbers: all are met. -/
theorem pigeon : ∀ (n : Nat) (f : Nat → Nat), (∀ i, i < n → f i < n) → (∀ i j, i < n → j < n → f i = f j → i = j) → ∀ k, k < n → ∃ i, i < n ∧ f i = k := by
  intro n
  induction n with
  | zero => intro f _ _ k hk; omega
  | succ n ih =>
    intro f h1 h2 k hk
    by_cases hfn : f n = n
    · by_cases hkn : k = n
      · exact ⟨n, by omega, by omega⟩
      · have hlt : ∀ i, i < n → f i < n := by
          intro i hi
          have a := h1 i (by omega)
          have b : f i ≠ n := fun e => by have := h2 i n (by omega) (by omega) (by omega); omega
          omega
        obtain ⟨i, hi, e⟩ := ih f hlt (fun i j hi hj e => h2 i j (by omega) (by omega) e) k (by omega)
        exact ⟨i, by omega, e⟩
    · -- swap n and f n
      have ha := h1 n (by omega)
      obtain ⟨g, hg⟩ : ∃ g : Nat → Nat, ∀ i, g i = if f i = n then f n else f i := ⟨fun i => if f i = n then f n else f i, fun _ => rfl⟩
      have g1 : ∀ i, i < n → g i < n := by
        intro i hi
        rw [hg]
        split
        · omega
        · have := h1 i (by omega); omega
      have g2 : ∀ i j, i < n → j < n → g i = g j → i = j := by
        intro i j hi hj e
        rw [hg, hg] at e
        split at e
        · rename_i e1
          split at e
          · rename_i e2
            exact h2 i j (by omega) (by omega) (by omega)
          · have := h2 n j (by omega) (by omega) e; omega
        · split at e
          · have := h2 i n (by omega) (by omega) e; omega
          · exact h2 i j (by omega) (by omega) e
      by_cases hkn : k = f n
      · exact ⟨n, by omega, hkn.symm⟩
      by_cases hk2 : k = n
      · obtain ⟨i, hi, e⟩ := ih g g1 g2 (f n) (by omega)
        rw [hg] at e
        split at e
        · rename_i e1
          exact ⟨i, by omega, by omega⟩
        · have := h2 i n (by omega) (by omega) e; omega
      · obtain ⟨i, hi, e⟩ := ih g g1 g2 k (by omega)
        rw [hg] at e
        split at e
        · omega
        · exact ⟨i, by omega, e⟩
/-- Where all of one can be reached, all of the other can. -/
theorem Pr.all {R : Nat → Nat → Prop} {s t : MS} (h : Pr R s t) {n : Nat} (hl : (toldS' t).length = n) (ha : ∀ j, j < n → Rch (toldS' s) (flagR (s.lo ++ s.st)) j) : ∀ j, j < n → Rch (toldS' t) (flagR (t.lo ++ t.st)) j := by
  have hex : ∀ a, a < n → ∃ b, R a b := fun a hlt => by
    obtain ⟨b, h1, _⟩ := Rch.pair h.ws h.cs (ha a hlt)
    exact ⟨b, h1⟩
  obtain ⟨f, hf⟩ : ∃ f : Nat → Nat, ∀ a, a < n → R a (f a) := by
    refine ⟨fun a => if h : a < n then (hex a h).choose else 0, fun a hlt => ?_⟩
    simp only [dif_pos hlt]
    exact (hex a hlt).choose_spec
  intro j hj
  obtain ⟨i, hi, e⟩ := pigeon n f (fun i hi => by
    obtain ⟨c, d, _, e2, _⟩ := h.cs i (f i) (hf i hi)
    have := (List.getElem?_eq_some_iff.1 e2).1
    omega) (fun i j hi hj e => h.one.inj i j (f i) (hf i hi) (by rw [e]; exact hf j hj)) j hj
  have := (h.inn i (f i) (hf i hi)).2
  rw [e] at this
  exact this
end Go.Proofs.YtdmdpindonghdabDoor
namespace Go.Proofs.YtdmdpindonghdabDoor
open Go.RowKit
theorem Words.push {R : Nat → Nat → Prop} {s t : MS} (h : Words R s t) {x y : Bool × Int} (hx : WRel R x y) : Words R { s with st := s.st ++ [x] } { t with st := t.st ++ [y] } := by
  refine ⟨h.lol, h.lo, by simp [h.stl], fun j hj => ?_⟩
  simp only [List.length_append, List.length_singleton] at hj
  cases j with
  | zero => simp only [lastW_top]; exact hx
  | succ j =>
    simp only
    rw [lastW_under _ _ (by omega), lastW_under _ _ (by rw [← h.stl]; omega)]
    exact h.st j (by omega)
theorem Words.cut {R : Nat → Nat → Prop} {s t : MS} (h : Words R s t) (k : Nat) (hk : k ≤ s.st.length) : Words R { s with st := cutS s k } { t with st := cutS t k } := by
  have hl := h.stl
  refine ⟨h.lol, h.lo, by simp only [cutS, List.length_take]; omega, fun j hj => ?_⟩
  simp only [cutS, List.length_take] at hj ⊢
  rw [lastW_take _ (by omega), lastW_take _ (by omega)]
  exact h.st _ (by omega)
theorem Words.heap {R : Nat → Nat → Prop} {s t : MS} (h : Words R s t) (h1 h2 : HSt) : Words R { s with hs := h1 } { t with hs := h2 } := ⟨h.lol, h.lo, h.stl, h.st⟩
theorem Words.same {R : Nat → Nat → Prop} {s t s' t' : MS} (h : Words R s t) (e1 : s'.lo = s.lo) (e2 : s'.st = s.st) (e3 : t'.lo = t.lo) (e4 : t'.st = t.st) : Words R s' t' :=
  ⟨by rw [e1, e3]; exact h.lol, by rw [e1, e3]; exact h.lo, by rw [e2, e4]; exact h.stl, by rw [e2, e4]; exact h.st⟩
theorem Words.store {R : Nat → Nat → Prop} {s t : MS} (h : Words R s t) (n : Nat) (hp : 0 < s.st.length) : Words R { s with lo := s.lo.set n (lastW s.st 0), st := cutS s 1 } { t with lo := t.lo.set n (lastW t.st 0), st := cutS t 1 } := by
  have hc := h.cut 1 hp
  refine ⟨by simp [h.lol], ?_, hc.stl, hc.st⟩
  intro j x y h1 h2
  simp only at h1 h2
  rw [List.getElem?_set] at h1 h2
  by_cases e : n = j
  · rw [if_pos e] at h1 h2
    split at h1
    · split at h2
      · cases h1
        cases h2
        exact h.st 0 hp
      · cases h2
    · cases h1
  · rw [if_neg e] at h1 h2
    exact h.lo j x y h1 h2
/-- One cell is written. -/
def EditT (T T' : List Cl) (r : Nat) (f : Cl → Cl) : Prop := ∀ (k : Nat) (c : Cl), T[k]? = some c → ∃ c', T'[k]? = some c' ∧ c'.weak = c.weak ∧ c'.a = (if k = r then f c else c).a ∧ c'.b = (if k = r then f c else c).b ∧ c'.num = (if k = r then f c else c).num
theorem CellsR.edit {R : Nat → Nat → Prop} {T U T' U' : List Cl} {r r' : Nat} {f g : Cl → Cl} (h : CellsR R T U) (ho : OneOne R) (hr : R r r') (h1 : EditT T T' r f) (h2 : EditT U U' r' g) (hfg : ∀ c d, CRel R c d → (f c).num = (g d).num ∧ RefRel R (f c).a (g d).a ∧ RefRel R (f c).b (g d).b) : CellsR R T' U' := by
  intro a b hab
  obtain ⟨c, d, e1, e2, e3⟩ := h a b hab
  obtain ⟨c', p1, p2, p3, p4, p5⟩ := h1 a c e1
  obtain ⟨d', q1, q2, q3, q4, q5⟩ := h2 b d e2
  refine ⟨c', d', p1, q1, p2.trans e3.w1, q2.trans e3.w2, ?_, ?_, ?_⟩
  all_goals by_cases e : a = r
  · have e' : b = r' := by subst e; exact ho.fn a b r' hab hr
    rw [p5, q5, if_pos e, if_pos e']
    exact (hfg c d e3).1
  · have e' : b ≠ r' := by rintro rfl; exact e (ho.inj a r b hab hr)
    rw [p5, q5, if_neg e, if_neg e']
    exact e3.num
  · have e' : b = r' := by subst e; exact ho.fn a b r' hab hr
    rw [p3, q3, if_pos e, if_pos e']
    exact (hfg c d e3).2.1
  · have e' : b ≠ r' := by rintro rfl; exact e (ho.inj a r b hab hr)
    rw [p3, q3, if_neg e, if_neg e']
    exact e3.a
  · have e' : b = r' := by subst e; exact ho.fn a b r' hab hr
    rw [p4, q4, if_pos e, if_pos e']
    exact (hfg c d e3).2.2
  · have e' : b ≠ r' := by rintro rfl; exact e (ho.inj a r b hab hr)
    rw [p4, q4, if_neg e, if_neg e']
    exact e3.b
theorem note_edit (cs : List RC) (r : Nat) (v : Int) : EditT (cs.map toldC) ((cs.modify r (noteS v)).map toldC) r (noteL v) := by
  intro k c hc
  rw [List.getElem?_map] at hc
  cases hk : cs[k]? with
  | none => rw [hk] at hc; cases hc
  | some x =>
    rw [hk] at hc
    cases hc
    rw [List.getElem?_map, List.getElem?_modify, hk]
    by_cases e : r = k
    · subst e
      simp [noteL, noteS, toldC]
    · simp [e, Ne.symm e, toldC]
theorem store_edit (h : HSt) (r m : Nat) (v : Int) : EditT (h.1.map toldC) ((storeC h.1 h.2.1 r m v).map toldC) r (setABL m v) := by
  obtain ⟨U, hU⟩ : ∃ U, U = (if h.2.1 = 1 then shadeL (h.1.map toldC) v else h.1.map toldC) := ⟨_, rfl⟩
  have hp : Paint (h.1.map toldC) U := by
    rw [hU]; split
    · exact shade_paint _ _
    · exact Paint.refl _
  have ht := told_store h.1 h.2.1 r m v
  rw [← hU] at ht
  intro k c hc
  obtain ⟨u, e1, e2⟩ := hp.back k c hc
  have ew : u.weak = c.weak := by rw [e2]
  have ea : u.a = c.a := by rw [e2]
  have eb : u.b = c.b := by rw [e2]
  have en : u.num = c.num := by rw [e2]
  rw [ht, List.getElem?_modify, e1]
  by_cases e : r = k
  · subst e
    simp only [if_true, Option.map_eq_map, Option.map_some]
    refine ⟨_, rfl, ?_⟩
    unfold setABL
    split
    · exact ⟨ew, rfl, eb, en⟩
    · exact ⟨ew, ea, rfl, en⟩
  · simp only [if_neg e, if_neg (Ne.symm e), Option.map_eq_map, Option.map_some]
    exact ⟨u, rfl, ew, ea, eb, en⟩
theorem wants_R {R : Nat → Nat → Prop} {h1 h2 : HSt} {x y : Int} (hc : CellsR R (h1.1.map toldC) (h2.1.map toldC)) (hr : RefRel R x y) (wk : Bool) : wantsC h1.1 x wk = wantsC h2.1 y wk := by
  rcases hr with ⟨rfl, rfl⟩ | ⟨a, b, rfl, rfl, hab⟩
  · unfold wantsC
    rw [if_pos (by omega), if_pos (by omega)]
  · obtain ⟨c, d, e1, e2, e3⟩ := hc a b hab
    obtain ⟨c', f1, rfl⟩ := told_get e1
    obtain ⟨d', f2, rfl⟩ := told_get e2
    have w1 : c'.weak = false := e3.w1
    have w2 : d'.weak = false := e3.w2
    unfold wantsC
    rw [if_neg (show ¬ ((a : Nat) : Int) < 0 by omega), if_neg (show ¬ ((b : Nat) : Int) < 0 by omega)]
    simp only [Int.toNat_natCast, f1, f2, Option.map_some, w1, w2]
theorem RefRel.eq_iff {R : Nat → Nat → Prop} (ho : OneOne R) {x y x' y' : Int} (h : RefRel R x y) (h' : RefRel R x' y') : x = x' ↔ y = y' := by
  rcases h with ⟨rfl, rfl⟩ | ⟨a, b, rfl, rfl, hab⟩
  · rcases h' with ⟨rfl, rfl⟩ | ⟨a', b', rfl, rfl, hab'⟩
    · simp
    · constructor <;> intro e <;> omega
  · rcases h' with ⟨rfl, rfl⟩ | ⟨a', b', rfl, rfl, hab'⟩
    · constructor <;> intro e <;> omega
    · constructor
      · intro e
        obtain rfl : a = a' := by omega
        rw [ho.fn a b b' hab hab']
      · intro e
        obtain rfl : b = b' := by omega
        rw [ho.inj a a' b hab hab']
/-- Two machines that are alike. -/
structure Alk (R : Nat → Nat → Prop) (s t : MS) : Prop where
  pr : Pr R s t
  at_ : s.at_ = t.at_
  oc : s.oc = t.oc
  va : s.va = t.va
  rd : s.rd = t.rd
  out : s.out = t.out
structure Does (R : Nat → Nat → Prop) (s t : MS) : Prop where
  ws : Words R s t
  cs : CellsR R (toldS' s) (toldS' t)
  rd : s.rd = t.rd
  out : s.out = t.out
set_option maxHeartbeats 1000000 in
/-- An instruction that takes no cell. -/
theorem does_W {E : Env} {s t : MS} {i : Ins} {R : Nat → Nat → Prop} (he : EnvOk E) (hs : MInv E s) (h : Alk R s t) (hc : CanI E s i) (h13 : i.op ≠ 13) (h23 : i.op ≠ 23) (hends : endsC s.hs.1 s.st i.op = 0) : Does R (doesS E i (-1) s) (doesS E i (-1) t) := by
  have hw := h.pr.ws
  have hcs := h.pr.cs
  have hl := hw.stl
  by_cases e1 : i.op = 1
  · simp only [doesS, e1, if_true]
    exact ⟨hw.push (WRel.ofNum _ _), hcs, h.rd, h.out⟩
  by_cases e7 : i.op = 7
  · simp only [doesS, e7, reduceIte, Nat.reduceEqDiff, or_self]
    have hn := he.wf.arg i hc.mem (.inl e7)
    have hnl : i.n < s.lo.length := by have := hs.lo he; omega
    have hnt : i.n < t.lo.length := by have := hw.lol; omega
    have hx := hw.lo i.n _ _ (List.getElem?_eq_getElem hnl) (List.getElem?_eq_getElem hnt)
    rw [List.getD_eq_getElem?_getD, List.getElem?_eq_getElem hnl, List.getD_eq_getElem?_getD, List.getElem?_eq_getElem hnt]
    exact ⟨hw.push hx, hcs, h.rd, h.out⟩
  by_cases e8 : i.op = 8
  · simp only [doesS, e8, reduceIte, Nat.reduceEqDiff, or_self]
    exact ⟨hw.store i.n (can_one hc (.inl e8)), hcs, h.rd, h.out⟩
  by_cases e9 : i.op = 9
  · simp only [doesS, e9, reduceIte, Nat.reduceEqDiff, or_self]
    exact ⟨hw.push (hw.st 0 (can_one hc (.inr (.inl e9)))), hcs, h.rd, h.out⟩
  by_cases e10 : i.op = 10
  · simp only [doesS, e10, reduceIte, Nat.reduceEqDiff, or_self, true_or]
    exact ⟨hw.cut 1 (can_one hc (.inr (.inr e10))), hcs, h.rd, h.out⟩
  by_cases e11 : i.op = 11
  · simp only [doesS, e11, reduceIte, Nat.reduceEqDiff, or_self]
    have hp := can_two hc e11
    have q := ((hw.cut 2 hp).push (hw.st 0 (by omega))).push (hw.st 1 hp)
    refine ⟨?_, hcs, h.rd, h.out⟩
    simpa using q
  by_cases e12 : i.op = 12
  · simp only [doesS, e12, reduceIte, Nat.reduceEqDiff, or_self]
    exact ⟨hw.push (WRel.none _), hcs, h.rd, h.out⟩
  by_cases e21 : i.op = 21
  · simp only [doesS, e21, reduceIte, Nat.reduceEqDiff, or_self]
    have hrd := h.rd
    rw [← hrd]
    split
    · exact ⟨(hw.push (WRel.ofNum _ _)).same rfl rfl rfl rfl, hcs, rfl, h.out⟩
    · exact ⟨(hw.push (WRel.ofNum _ _)).same rfl rfl rfl rfl, hcs, rfl, h.out⟩
  have hstd := hc.std ⟨e7, e8, e9, e10, e11⟩
  have num1 : popsL i.op = [105] → 0 < s.st.length ∧ (lastW s.st 0).2 = (lastW t.st 0).2 := fun e => by
    obtain ⟨hp, hf⟩ := hstd.one e
    exact ⟨hp, (hw.st 0 hp).num (letB_i hf)⟩
  have num2 : popsL i.op = [105, 105] → 1 < s.st.length ∧ (lastW s.st 1).2 = (lastW t.st 1).2 ∧ (lastW s.st 0).2 = (lastW t.st 0).2 := fun e => by
    obtain ⟨hp, hf, hf2⟩ := hstd.two e
    exact ⟨hp, (hw.st 1 hp).num (letB_i hf), (hw.st 0 (by omega)).num (letB_i hf2)⟩
  by_cases e2 : i.op = 2 ∨ i.op = 3 ∨ i.op = 4 ∨ i.op = 5 ∨ i.op = 6
  · have e2' : i.op = 2 ∨ i.op = 3 ∨ i.op = 4 ∨ i.op = 5 ∨ i.op = 6 ∨ i.op = 18 := by omega
    obtain ⟨hp, n1, n2⟩ := num2 (by rcases e2 with e | e | e | e | e <;> rw [e] <;> rfl)
    simp only [doesS, if_neg e1, if_pos e2']
    rw [n1, n2]
    exact ⟨(hw.cut 2 hp).push (WRel.ofNum _ _), hcs, h.rd, h.out⟩
  by_cases e18 : i.op = 18
  · obtain ⟨hp, hf, hf2⟩ := hstd.two (c := 114) (d := 114) (by rw [e18]; rfl)
    simp only [doesS, e18, reduceIte, Nat.reduceEqDiff, or_true]
    have q := ((hw.st 1 hp).ref (letB_r hf)).eq_iff h.pr.one ((hw.st 0 (by omega)).ref (letB_r hf2))
    have : sumC 18 (lastW s.st 1).2 (lastW s.st 0).2 = sumC 18 (lastW t.st 1).2 (lastW t.st 0).2 := by
      unfold sumC
      simp [q]
    simp only [Int.cast_ofNat_Int]
    rw [this]
    exact ⟨(hw.cut 2 hp).push (WRel.ofNum _ _), hcs, h.rd, h.out⟩
  by_cases e20 : i.op = 20
  · obtain ⟨hp, _⟩ := num1 (by rw [e20]; rfl)
    simp only [doesS, e20, reduceIte, Nat.reduceEqDiff, or_self, or_true]
    exact ⟨hw.cut 1 hp, hcs, h.rd, h.out⟩
  by_cases e22 : i.op = 22
  · obtain ⟨hp, n1⟩ := num1 (by rw [e22]; rfl)
    simp only [doesS, e22, reduceIte, Nat.reduceEqDiff, or_self]
    rw [n1]
    exact ⟨(hw.cut 1 hp).same rfl rfl rfl rfl, hcs, h.rd, by simp [h.out]⟩
  have hcell : ∀ {x y : Int}, 0 ≤ x → RefRel R x y → ∃ (a b : Nat) (c d : RC), x = (a : Int) ∧ y = (b : Int) ∧ R a b ∧ cellAt s.hs.1 x = c ∧ cellAt t.hs.1 y = d ∧ CRel R (toldC c) (toldC d) := by
    intro x y h0 hr
    rcases hr with ⟨e, _⟩ | ⟨a, b, rfl, rfl, hab⟩
    · omega
    · obtain ⟨c, d, e1, e2, e3⟩ := hcs a b hab
      obtain ⟨c', f1, rfl⟩ := told_get e1
      obtain ⟨d', f2, rfl⟩ := told_get e2
      refine ⟨a, b, c', d', rfl, rfl, hab, ?_, ?_, e3⟩
      · unfold cellAt
        rw [List.getD_eq_getElem?_getD, Int.toNat_natCast, f1]; rfl
      · unfold cellAt
        rw [List.getD_eq_getElem?_getD, Int.toNat_natCast, f2]; rfl
  have hpos : ∀ {x : Int} {wk : Bool}, wantsC s.hs.1 x wk = 0 → 0 ≤ x := fun {x} {wk} hx => by
    unfold wantsC at hx
    split at hx
    · omega
    · omega
  by_cases e14 : i.op = 14 ∨ i.op = 24
  · obtain ⟨hp, hf⟩ := hstd.one (c := 114) (by rcases e14 with e | e <;> rw [e] <;> rfl)
    have hr := (hw.st 0 hp).ref (letB_r hf)
    obtain ⟨wk, hwk⟩ : ∃ wk, wantsC s.hs.1 (lastW s.st 0).2 wk = 0 := by
      rcases e14 with e | e
      · exact ⟨false, by rw [← hends, e]; simp [endsC]⟩
      · exact ⟨true, by rw [← hends, e]; simp [endsC]⟩
    obtain ⟨a, b, c, d, _, _, _, q1, q2, q3⟩ := hcell (hpos hwk) hr
    simp only [doesS, touchS, if_neg e1, if_neg e7, if_neg e8, if_neg e9, if_neg e11, if_neg e12, if_neg e21, if_neg e22, if_neg h13, if_neg h23, if_pos e14, if_neg (show ¬ (i.op = 2 ∨ i.op = 3 ∨ i.op = 4 ∨ i.op = 5 ∨ i.op = 6 ∨ i.op = 18) by omega), if_neg (show ¬ (i.op = 10 ∨ i.op = 20) by omega), q1, q2]
    refine ⟨(hw.cut 1 hp).push ⟨rfl, fun e => by (cases e), fun _ => ?_⟩, hcs, h.rd, h.out⟩
    split
    · exact q3.a
    · exact q3.b
  by_cases e16 : i.op = 16
  · obtain ⟨hp, hf⟩ := hstd.one (c := 114) (by rw [e16]; rfl)
    have hr := (hw.st 0 hp).ref (letB_r hf)
    have hwk : wantsC s.hs.1 (lastW s.st 0).2 false = 0 := by rw [← hends, e16]; simp [endsC]
    obtain ⟨a, b, c, d, _, _, _, q1, q2, q3⟩ := hcell (hpos hwk) hr
    simp only [doesS, touchS, e16, reduceIte, Nat.reduceEqDiff, or_self, q1, q2]
    have : c.num = d.num := q3.num
    rw [this]
    exact ⟨(hw.cut 1 hp).push (WRel.ofNum _ _), hcs, h.rd, h.out⟩
  by_cases e17 : i.op = 17
  · obtain ⟨hp, hf, hf2⟩ := hstd.two (c := 114) (d := 105) (by rw [e17]; rfl)
    have hr := (hw.st 1 hp).ref (letB_r hf)
    have hn := (hw.st 0 (by omega)).num (letB_i hf2)
    have hwk : wantsC s.hs.1 (lastW s.st 1).2 false = 0 := by rw [← hends, e17]; simp [endsC]
    obtain ⟨a, b, c, d, q4, q5, q6, _, _, _⟩ := hcell (hpos hwk) hr
    simp only [doesS, touchS, e17, reduceIte, Nat.reduceEqDiff, or_self]
    refine ⟨(hw.cut 2 hp).heap _ _, ?_, h.rd, h.out⟩
    rw [q4, q5, ← hn]
    refine hcs.edit h.pr.one q6 (note_edit s.hs.1 a _) (note_edit t.hs.1 b _) (fun c d q => ?_)
    exact ⟨rfl, q.a, q.b⟩
  by_cases e15 : i.op = 15
  · obtain ⟨hp, hf, hf2⟩ := hstd.two (c := 114) (d := 114) (by rw [e15]; rfl)
    have hr := (hw.st 1 hp).ref (letB_r hf)
    have hv := (hw.st 0 (by omega)).ref (letB_r hf2)
    have hwk : wantsC s.hs.1 (lastW s.st 1).2 false = 0 := by rw [← hends, e15]; simp [endsC]
    obtain ⟨a, b, c, d, q4, q5, q6, _, _, _⟩ := hcell (hpos hwk) hr
    simp only [doesS, touchS, e15, reduceIte, Nat.reduceEqDiff, or_self]
    refine ⟨(hw.cut 2 hp).heap _ _, ?_, h.rd, h.out⟩
    rw [q4, q5]
    refine hcs.edit h.pr.one q6 (store_edit s.hs a i.n _) (store_edit t.hs b i.n _) (fun c d q => ?_)
    unfold setABL
    split
    · exact ⟨q.num, hv, q.b⟩
    · exact ⟨q.num, q.a, hv⟩
  have hd : ∀ u : MS, doesS E i (-1) u = u := fun u => by
    simp only [doesS, touchS, if_neg e1, if_neg e7, if_neg e8, if_neg e9, if_neg e11, if_neg e12, if_neg e21, if_neg e22, if_neg h13, if_neg h23, if_neg e14, if_neg e16, if_neg e17, if_neg e15, if_neg (show ¬ (i.op = 2 ∨ i.op = 3 ∨ i.op = 4 ∨ i.op = 5 ∨ i.op = 6 ∨ i.op = 18) by omega), if_neg (show ¬ (i.op = 10 ∨ i.op = 20) by omega)]
  rw [hd, hd]
  exact ⟨hw, hcs, h.rd, h.out⟩
end Go.Proofs.YtdmdpindonghdabDoor
namespace Go.Proofs.YtdmdpindonghdabDoor
open Go.RowKit
theorem MInv.gh {E : Env} {s : MS} (h : MInv E s) (hg : GS s) : GH E.n s.hs (flagR (s.lo ++ s.st)) := ⟨h.hh, hg.flag⟩
theorem Alk.coll {E : Env} (hn : NoMix E) {s t : MS} {R : Nat → Nat → Prop} (hs : MInv E s) (gs : GS s) (h : Alk R s t) (m : Nat) : Alk R (collS E m s) t := by
  have k := (hs.gh gs).keptU m
  rw [← rootsS_flag hn hs] at k
  refine ⟨h.pr.kept (h' := unitsC (rootsS E s) m s.hs) ?_, h.at_, h.oc, h.va, h.rd, h.out⟩
  rw [← rootsS_flag hn hs]
  exact k
theorem Alk.rev {s t : MS} {R : Nat → Nat → Prop} (h : Alk R s t) : Alk (Rev R) t s := ⟨h.pr.rev, h.at_.symm, h.oc.symm, h.va.symm, h.rd.symm, h.out.symm⟩
theorem Alk.collR {E : Env} (hn : NoMix E) {s t : MS} {R : Nat → Nat → Prop} (ht : MInv E t) (gt : GS t) (h : Alk R s t) (m : Nat) : Alk R s (collS E m t) := (h.rev.coll hn ht gt m).rev
theorem ends_W {E : Env} {s t : MS} {i : Ins} {R : Nat → Nat → Prop} (h : Alk R s t) (hc : CanI E s i) : endsC s.hs.1 s.st i.op = endsC t.hs.1 t.st i.op := by
  have hw := h.pr.ws
  have hcs := h.pr.cs
  by_cases e : i.op = 7 ∨ i.op = 8 ∨ i.op = 9 ∨ i.op = 10 ∨ i.op = 11
  · unfold endsC
    rcases e with e | e | e | e | e <;> simp [e]
  have hstd := hc.std ⟨by omega, by omega, by omega, by omega, by omega⟩
  by_cases e5 : i.op = 5
  · obtain ⟨hp, _, hf2⟩ := hstd.two (c := 105) (d := 105) (by rw [e5]; rfl)
    have hn := (hw.st 0 (by omega)).num (letB_i hf2)
    unfold endsC
    simp [e5, hn]
  by_cases e14 : i.op = 14 ∨ i.op = 16 ∨ i.op = 24
  · obtain ⟨hp, hf⟩ := hstd.one (c := 114) (by rcases e14 with e | e | e <;> rw [e] <;> rfl)
    have hr := (hw.st 0 hp).ref (letB_r hf)
    have q := wants_R (h1 := s.hs) (h2 := t.hs) hcs hr
    unfold endsC
    rcases e14 with e | e | e <;> simp [e, q]
  by_cases e15 : i.op = 15 ∨ i.op = 17
  · have hr : RefRel R (lastW s.st 1).2 (lastW t.st 1).2 := by
      rcases e15 with e | e
      · obtain ⟨hp, hf, _⟩ := hstd.two (c := 114) (d := 114) (by rw [e]; rfl)
        exact (hw.st 1 hp).ref (letB_r hf)
      · obtain ⟨hp, hf, _⟩ := hstd.two (c := 114) (d := 105) (by rw [e]; rfl)
        exact (hw.st 1 hp).ref (letB_r hf)
    have q := wants_R (h1 := s.hs) (h2 := t.hs) hcs hr
    unfold endsC
    rcases e15 with e | e <;> simp [e, q]
  unfold endsC
  have n1 : ¬ ((i.op : Int) = 14 ∨ (i.op : Int) = 16) := by omega
  have n2 : ¬ ((i.op : Int) = 24) := by omega
  have n3 : ¬ ((i.op : Int) = 15 ∨ (i.op : Int) = 17) := by omega
  have n4 : ¬ ((i.op : Int) = 5) := by omega
  simp only [if_neg n1, if_neg n2, if_neg n3, if_neg n4]
/-- A fresh cell of each is paired. -/
def Fresh' (R : Nat → Nat → Prop) (j k : Nat) (a b : Nat) : Prop := R a b ∨ (a = j ∧ b = k)
theorem alive_told {h : HSt} (hlow : 0 ≤ lowC h) : ¬ AliveH h (lowC h).toNat := by
  obtain ⟨hlt, hu⟩ := lowC_at hlow
  intro ha
  apply ha.1
  rw [colL_some (told_at (List.getElem?_eq_getElem hlt))]
  show colR _ = 0
  unfold colR
  rw [if_pos hu]
theorem begin_told (h : HSt) (k : Nat) (hk : k ≠ (lowC h).toNat) : ((beginC h).2.1.map toldC)[k]? = (h.1.map toldC)[k]? := by
  unfold beginC
  simp only [List.getElem?_map]
  rw [List.getElem?_set_ne (Ne.symm hk)]
theorem begin_new {h : HSt} (hlow : 0 ≤ lowC h) : ∃ c, ((beginC h).2.1.map toldC)[(lowC h).toNat]? = some c ∧ c.weak = false ∧ c.a = -1 ∧ c.b = -1 ∧ c.num = 0 := by
  obtain ⟨hlt, _⟩ := lowC_at hlow
  unfold beginC
  simp only [List.getElem?_map]
  rw [List.getElem?_set_self hlt]
  exact ⟨_, rfl, rfl, rfl, rfl, rfl⟩
set_option maxHeartbeats 1000000 in
theorem Alk.step {E : Env} (he : EnvOk E) (hn : NoMix E) (hnw : ∀ i ∈ E.l, i.op ≠ 23) {s t : MS} {R : Nat → Nat → Prop} (hs : MInv E s) (gs : GS s) (ht : MInv E t) (gt : GS t) (h : Alk R s t) : ∃ R', Alk R' (stepS E s) (stepS E t) := by
  obtain ⟨i, hc⟩ := hs.can he
  have h23 := hnw i hc.mem
  have e1 : stepS E s = stepI E i s := by unfold stepS; rw [hc.get]
  have e2 : stepS E t = stepI E i t := by unfold stepS; rw [← h.at_, hc.get]
  rw [e1, e2]
  have hends := ends_W h hc
  have hw := h.pr.ws
  by_cases h1 : endsC s.hs.1 s.st i.op = 1
  · have h0 := ends_one h1
    rw [step_halt h0, step_halt h0]
    have hstd := hc.std ⟨by omega, by omega, by omega, by omega, by omega⟩
    obtain ⟨hp, hf⟩ := hstd.one (c := 105) (by rw [h0]; rfl)
    exact ⟨R, ⟨h.pr.one, ⟨hw.lol, hw.lo, hw.stl, hw.st⟩, h.pr.cs, h.pr.inn⟩, h.at_, rfl, (hw.st 0 hp).num (letB_i hf), h.rd, h.out⟩
  by_cases h2 : endsC s.hs.1 s.st i.op ≠ 0
  · rw [step_trap h2 h1, step_trap (by rw [← hends]; exact h2) (by rw [← hends]; exact h1)]
    exact ⟨R, ⟨h.pr.one, ⟨hw.lol, hw.lo, hw.stl, hw.st⟩, h.pr.cs, h.pr.inn⟩, h.at_, by simp only [hends], h.va, h.rd, h.out⟩
  have hz : endsC s.hs.1 s.st i.op = 0 := by omega
  have hzt : endsC t.hs.1 t.st i.op = 0 := by rw [← hends]; exact hz
  have hto : ∀ {s' t' : MS}, s'.at_ = t'.at_ → (i.op = 20 → (lastW s'.st 0).2 = (lastW t'.st 0).2) → toS E i s' = toS E i t' := by
    intro s' t' a b
    unfold toS
    rw [a]
    by_cases e : i.op = 20
    · rw [b e]
    · simp [e]
  by_cases h13 : i.op = 13
  · rw [step_take (.inl h13), step_take (.inl h13)]
    have ks := hs.gh gs
    have kt := ht.gh gt
    have fs := full_iff ks
    have ft := full_iff kt
    rw [← rootsS_flag hn hs] at fs
    rw [← rootsS_flag hn ht] at ft
    have hiff : (takeC (rootsS E s) s.hs).1 < 0 ↔ (takeC (rootsS E t) t.hs).1 < 0 := by
      rw [fs, ft, rootsS_flag hn hs, rootsS_flag hn ht]
      exact ⟨h.pr.all (by unfold toldS'; rw [List.length_map]; exact ht.n), h.pr.rev.all (by unfold toldS'; rw [List.length_map]; exact hs.n)⟩
    have kks := ks.keptRoom
    have kkt := kt.keptRoom
    have hp1 := (h.pr.kept kks).keptR kkt
    have grs : GS { s with hs := roomC (flagR (s.lo ++ s.st)) s.hs } := GS.of (s := { s with hs := roomC (flagR (s.lo ++ s.st)) s.hs }) ks.room.g
    have grt : GS { t with hs := roomC (flagR (t.lo ++ t.st)) t.hs } := GS.of (s := { t with hs := roomC (flagR (t.lo ++ t.st)) t.hs }) kt.room.g
    by_cases hneg : (takeC (rootsS E s) s.hs).1 < 0
    · rw [if_pos hneg, if_pos (hiff.1 hneg)]
      have es : (takeC (rootsS E s) s.hs).2 = roomC (flagR (s.lo ++ s.st)) s.hs := by
        rw [rootsS_flag hn hs] at hneg ⊢
        rw [takeC_room] at hneg ⊢
        split at hneg
        · rename_i hlow
          have : (beginC (roomC (flagR (s.lo ++ s.st)) s.hs)).1 = lowC (roomC (flagR (s.lo ++ s.st)) s.hs) := rfl
          omega
        · rename_i hlow
          rw [if_neg hlow]
      have et : (takeC (rootsS E t) t.hs).2 = roomC (flagR (t.lo ++ t.st)) t.hs := by
        have hneg := hiff.1 hneg
        rw [rootsS_flag hn ht] at hneg ⊢
        rw [takeC_room] at hneg ⊢
        split at hneg
        · rename_i hlow
          have : (beginC (roomC (flagR (t.lo ++ t.st)) t.hs)).1 = lowC (roomC (flagR (t.lo ++ t.st)) t.hs) := rfl
          omega
        · rename_i hlow
          rw [if_neg hlow]
      rw [es, et]
      exact ⟨R, ⟨hp1.one, ⟨hw.lol, hw.lo, hw.stl, hw.st⟩, hp1.cs, hp1.inn⟩, h.at_, rfl, h.va, h.rd, h.out⟩
    · have hnegt : ¬ (takeC (rootsS E t) t.hs).1 < 0 := fun e => hneg (hiff.2 e)
      rw [if_neg hneg, if_neg hnegt]
      rw [rootsS_flag hn hs] at hneg ⊢
      rw [rootsS_flag hn ht] at hnegt ⊢
      rw [takeC_room] at hneg ⊢
      rw [takeC_room (flagR (t.lo ++ t.st))] at hnegt ⊢
      generalize roomC (flagR (s.lo ++ s.st)) s.hs = h1 at *
      generalize roomC (flagR (t.lo ++ t.st)) t.hs = h2 at *
      by_cases l1 : 0 ≤ lowC h1
      · by_cases l2 : 0 ≤ lowC h2
        · rw [if_pos l1, if_pos l2]
          have a1 := alive_told l1
          have a2 := alive_told l2
          have hj1 : (beginC h1).1 = ((lowC h1).toNat : Int) := by show lowC h1 = _; omega
          have hj2 : (beginC h2).1 = ((lowC h2).toNat : Int) := by show lowC h2 = _; omega
          have hne : ∀ a b, R a b → a ≠ (lowC h1).toNat ∧ b ≠ (lowC h2).toNat := by
            intro a b hab
            obtain ⟨r1, r2⟩ := hp1.inn a b hab
            refine ⟨fun e => a1 ?_, fun e => a2 ?_⟩
            · rw [← e]; exact grs.flag.alive r1
            · rw [← e]; exact grt.flag.alive r2
          obtain ⟨c1, n1, n2, n3, n4, n5⟩ := begin_new l1
          obtain ⟨c2, m1, m2, m3, m4, m5⟩ := begin_new l2
          have b1 := begin_told h1
          have b2 := begin_told h2
          rw [hj1, hj2]
          generalize (lowC h1).toNat = j1 at *
          generalize (lowC h2).toNat = j2 at *
          generalize (beginC h1).2 = h1' at *
          generalize (beginC h2).2 = h2' at *
          have mono : ∀ {x y : Int}, RefRel R x y → RefRel (Fresh' R j1 j2) x y := fun q => q.mono (fun a b _ _ r => .inl r)
          have hone : OneOne (Fresh' R j1 j2) := by
            refine ⟨fun a b b' p q => ?_, fun a a' b p q => ?_⟩
            · rcases p with p | ⟨p1, p2⟩
              · rcases q with q | ⟨q1, q2⟩
                · exact hp1.one.fn a b b' p q
                · exact absurd q1 (hne a b p).1
              · rcases q with q | ⟨q1, q2⟩
                · exact absurd p1 (hne a b' q).1
                · omega
            · rcases p with p | ⟨p1, p2⟩
              · rcases q with q | ⟨q1, q2⟩
                · exact hp1.one.inj a a' b p q
                · exact absurd q2 (hne a b p).2
              · rcases q with q | ⟨q1, q2⟩
                · exact absurd p2 (hne a' b q).2
                · omega
          have hws : Words (Fresh' R j1 j2) { s with hs := h1', st := s.st ++ [(true, (j1 : Int))] } { t with hs := h2', st := t.st ++ [(true, (j2 : Int))] } :=
            (((hw.mono (fun a b _ _ r => Or.inl r)).heap h1' h2').push (x := (true, (j1 : Int))) (y := (true, (j2 : Int))) ⟨rfl, fun e => by (cases e), fun _ => .inr ⟨j1, j2, rfl, rfl, .inr ⟨rfl, rfl⟩⟩⟩)
          have hcs : CellsR (Fresh' R j1 j2) (h1'.1.map toldC) (h2'.1.map toldC) := by
            intro a b hab
            rcases hab with hab | ⟨rfl, rfl⟩
            · obtain ⟨c, d, q1, q2, q3⟩ := hp1.cs a b hab
              obtain ⟨x1, x2⟩ := hne a b hab
              exact ⟨c, d, by rw [b1 a x1]; exact q1, by rw [b2 b x2]; exact q2, q3.w1, q3.w2, q3.num, mono q3.a, mono q3.b⟩
            · exact ⟨c1, c2, n1, m1, n2, m2, by rw [n5, m5], .inl ⟨n3, m3⟩, .inl ⟨n4, m4⟩⟩
          have hd : ∀ (u : MS) (c : Int), doesS E i c u = { u with st := u.st ++ [(true, c)] } := fun u c => by simp [doesS, touchS, h13]
          have hg1 : goS E i (j1 : Int) { s with hs := h1' } = { s with hs := h1', st := s.st ++ [(true, (j1 : Int))], at_ := toS E i { s with hs := h1' } } := by unfold goS; rw [hd]
          have hg2 : goS E i (j2 : Int) { t with hs := h2' } = { t with hs := h2', st := t.st ++ [(true, (j2 : Int))], at_ := toS E i { t with hs := h2' } } := by unfold goS; rw [hd]
          rw [hg1, hg2]
          obtain ⟨R', hR'⟩ := Pr.of (s := { s with hs := h1', st := s.st ++ [(true, (j1 : Int))], at_ := toS E i { s with hs := h1' } }) (t := { t with hs := h2', st := t.st ++ [(true, (j2 : Int))], at_ := toS E i { t with hs := h2' } }) hone (hws.same rfl rfl rfl rfl) hcs
          exact ⟨R', hR', hto h.at_ (fun e => by omega), h.oc, h.va, h.rd, h.out⟩
        · rw [if_neg l2] at hnegt
          simp at hnegt
      · rw [if_neg l1] at hneg
        simp at hneg
  · rw [step_go hz h13 h23, step_go hzt h13 h23]
    have q := does_W he hs h hc h13 h23 hz
    have o1 := does_oc E i (-1) s
    have o2 := does_oc E i (-1) t
    obtain ⟨R', hR'⟩ := Pr.of (s := goS E i (-1) s) (t := goS E i (-1) t) h.pr.one (q.ws.same rfl rfl rfl rfl) q.cs
    refine ⟨R', hR', hto h.at_ (fun e => ?_), ?_, ?_, q.rd, q.out⟩
    · have hstd := hc.std ⟨by omega, by omega, by omega, by omega, by omega⟩
      obtain ⟨hp, hf⟩ := hstd.one (c := 105) (by rw [e]; rfl)
      exact (hw.st 0 hp).num (letB_i hf)
    · show (doesS E i (-1) s).oc = (doesS E i (-1) t).oc
      rw [o1.1, o2.1]; exact h.oc
    · show (doesS E i (-1) s).va = (doesS E i (-1) t).va
      rw [o1.2, o2.2]; exact h.va
theorem Alk.start (L n : Nat) : Alk (fun _ _ => False) (startS L n) (startS L n) := by
  refine ⟨⟨⟨fun _ _ _ h => h.elim, fun _ _ _ h => h.elim⟩, ⟨rfl, ?_, rfl, ?_⟩, fun _ _ h => h.elim, fun _ _ h => h.elim⟩, rfl, rfl, rfl, rfl, rfl⟩
  · intro j x y h1 h2
    rw [h1] at h2
    cases h2
    have : x = (false, 0) := by
      have := List.mem_of_getElem? h1
      simp only [startS] at this
      exact (List.mem_replicate.1 this).2
    subst this
    exact WRel.ofNum _ _
  · intro j hj
    simp [startS] at hj
/-- An image that is built without Weak has none. -/
def bodyN (c : Nat) : Bool := (bodyC c false).2.all (fun x => x.1 != 23)
theorem bodyN_all : (List.range 256).all bodyN = true := by kernel_rfl
theorem pieceN (c : Nat) (hc : c < 256) (at_ : Nat) : (pieceC c at_ false).all (fun x => x.1 != 23) = true := by
  have h : bodyN c = true := List.all_eq_true.1 bodyN_all c (List.mem_range.2 hc)
  unfold bodyN at h
  unfold pieceC
  split
  · exact h
  · unfold unlC
    rw [List.all_append, h]
    rfl
theorem bgoN (r : List UInt8) : ∀ cs, cs.all (fun x : Nat × Nat => x.1 != 23) = true → (bgo false cs r).all (fun x => x.1 != 23) = true := by
  induction r with
  | nil => intro cs h; exact h
  | cons c r ih =>
    intro cs h
    unfold bgo
    split
    · refine ih _ ?_
      rw [List.all_append, h, pieceN c.toNat (UInt8.toNat_lt c)]
      rfl
    · exact h
theorem placed_ops (cs : List (Nat × Nat)) (h : cs.all (fun x => x.1 != 23) = true) : ∀ p, ∀ i ∈ placed p cs, i.op ≠ 23 := by
  induction cs with
  | nil => intro p i hi; cases hi
  | cons x r ih =>
    intro p i hi
    simp only [List.all_cons, Bool.and_eq_true, bne_iff_ne] at h
    rcases List.mem_cons.1 hi with rfl | hi
    · exact h.1
    · exact ih h.2 _ i hi
theorem built_nw (raw : ByteArray) : ∀ i ∈ codeOf (builtS raw false), i.op ≠ 23 := by
  rw [(built_ok raw false).2.1]
  refine placed_ops _ ?_ 0
  unfold builtC
  rw [List.all_append, bgoN _ proC (by kernel_rfl)]
  rfl
end Go.Proofs.YtdmdpindonghdabDoor
namespace Go.Proofs.YtdmdpindonghdabDoor
open Go.RowKit
/-- Its instructions. -/
def tnC : List (Nat × Nat) := [(12, 0), (8, 1), (21, 0), (9, 0), (8, 0), (20, 11), (19, 27), (13, 0), (9, 0), (7, 0), (17, 0), (9, 0), (7, 1), (15, 0), (8, 1), (13, 0), (10, 0), (19, 3), (7, 1), (12, 0), (18, 0), (20, 45), (7, 1), (16, 0), (22, 0), (7, 1), (14, 0), (8, 1), (19, 27), (1, 0), (0, 0)]
def tnL : List Ins := placed 0 tnC
/-- The types at each of them. -/
def tnT : List (List UInt8 × List UInt8) := [([105, 105], []), ([105, 105], [114]), ([105, 114], []), ([105, 114], [105]), ([105, 114], [105, 105]), ([105, 114], [105]), ([105, 114], []), ([105, 114], []), ([105, 114], [114]), ([105, 114], [114, 114]), ([105, 114], [114, 114, 105]), ([105, 114], [114]), ([105, 114], [114, 114]), ([105, 114], [114, 114, 114]), ([105, 114], [114]), ([105, 114], []), ([105, 114], [114]), ([105, 114], []), ([105, 114], []), ([105, 114], [114]), ([105, 114], [114, 114]), ([105, 114], [105]), ([105, 114], []), ([105, 114], [114]), ([105, 114], [105]), ([105, 114], []), ([105, 114], [114]), ([105, 114], [114]), ([105, 114], []), ([105, 114], []), ([105, 114], [105])]
def tnTy (k : Nat) : ByteArray × ByteArray := (⟨(tnT.getD k ([], [])).1.toArray⟩, ⟨(tnT.getD k ([], [])).2.toArray⟩)
def tnStep (k : Nat) (i : Ins) : Bool :=
  (afterV (tnTy k).1 (tnTy k).2 i.op i.n).2.2 && decide ((afterV (tnTy k).1 (tnTy k).2 i.op i.n).2.1.size ≤ 8) &&
    (!isJump i.op || (decide ((findP i.n tnL 0).toNat < tnL.length) && decide (tnTy (findP i.n tnL 0).toNat = ((afterV (tnTy k).1 (tnTy k).2 i.op i.n).1, (afterV (tnTy k).1 (tnTy k).2 i.op i.n).2.1)))) &&
    (decide (i.op = 0 ∨ i.op = 19) || (decide (k + 1 < tnL.length) && decide (tnTy (k + 1) = ((afterV (tnTy k).1 (tnTy k).2 i.op i.n).1, (afterV (tnTy k).1 (tnTy k).2 i.op i.n).2.1))))
theorem tn_all : ((List.range 31).all fun k => tnStep k (tnL.getD k ⟨0, 0, 0⟩)) = true := by kernel_rfl
theorem tn_len : tnL.length = 31 := by kernel_rfl
theorem tn_typ : Typ tnL 2 tnTy := by
  refine ⟨by kernel_rfl, by rw [tn_len]; omega, ?_⟩
  intro k i hi
  have hk := (List.getElem?_eq_some_iff.1 hi).1
  rw [tn_len] at hk
  have h := List.all_eq_true.1 tn_all k (List.mem_range.2 hk)
  rw [List.getD_eq_getElem?_getD, hi, Option.getD_some] at h
  unfold tnStep at h
  simp only [Bool.and_eq_true, Bool.or_eq_true, decide_eq_true_eq] at h
  obtain ⟨⟨⟨h1, h2⟩, h3⟩, h4⟩ := h
  refine ⟨h1, h2, fun e => ?_, fun e => ?_⟩
  · rcases h3 with h3 | h3
    · rw [e] at h3; cases h3
    · exact h3
  · rcases h4 with h4 | h4
    · exact absurd h4 (by omega)
    · exact h4
theorem tn_img {x : ByteArray} (hx : x.data.toList = imgC 2 tnC) : errOf x = 0 ∧ codeOf x = tnL ∧ byteAt x 1 = 2 ∧ WT (codeOf x) (byteAt x 1) ∧ Det (codeOf x) (byteAt x 1) := by
  obtain ⟨a1, a2, a3⟩ := img_code hx (by omega) (by decide) (by decide) (by kernel_rfl) (by kernel_rfl) (by kernel_rfl)
  refine ⟨a1, a2, a3, ?_, ?_⟩
  · rw [a2, a3]; exact tn_typ.wt
  · rw [a2, a3]; exact tn_typ.det
/-- A chain of cells: from r on these numbers, in these cells. -/
def CH (T : List Cl) (r : Int) (l : List Int) (js : List Nat) : Prop :=
  ∀ P : Int → List Int → List Nat → Prop, P (-1) [] [] → (∀ (j : Nat) (c : Cl) (l : List Int) (js : List Nat), T[j]? = some c → c.weak = false → c.b = -1 → P c.a l js → P (j : Int) (c.num :: l) (j :: js)) → P r l js
theorem CH.nil {T : List Cl} : CH T (-1) [] [] := fun _ h0 _ => h0
theorem CH.cons {T : List Cl} (j : Nat) (c : Cl) (l : List Int) (js : List Nat) (h1 : T[j]? = some c) (h2 : c.weak = false) (h3 : c.b = -1) (h : CH T c.a l js) : CH T (j : Int) (c.num :: l) (j :: js) := fun P q0 q1 => q1 j c l js h1 h2 h3 (h P q0 q1)
theorem CH.ind {T : List Cl} {motive : (r : Int) → (l : List Int) → (js : List Nat) → CH T r l js → Prop} (nil : motive (-1) [] [] CH.nil) (cons : ∀ (j : Nat) (c : Cl) (l : List Int) (js : List Nat) (h1 : T[j]? = some c) (h2 : c.weak = false) (h3 : c.b = -1) (h : CH T c.a l js), motive c.a l js h → motive (j : Int) (c.num :: l) (j :: js) (CH.cons j c l js h1 h2 h3 h)) {r : Int} {l : List Int} {js : List Nat} (t : CH T r l js) : motive r l js t := by
  have h := t (fun r l js => ∃ x : CH T r l js, motive r l js x) ⟨.nil, nil⟩ (fun j c l js h1 h2 h3 hk => hk.elim (fun x hx => ⟨.cons j c l js h1 h2 h3 x, cons j c l js h1 h2 h3 x hx⟩))
  exact h.elim (fun _ hx => hx)
theorem CH.cas {T : List Cl} {motive : (r : Int) → (l : List Int) → (js : List Nat) → CH T r l js → Prop} (nil : motive (-1) [] [] CH.nil) (cons : ∀ (j : Nat) (c : Cl) (l : List Int) (js : List Nat) (h1 : T[j]? = some c) (h2 : c.weak = false) (h3 : c.b = -1) (h : CH T c.a l js), motive (j : Int) (c.num :: l) (j :: js) (CH.cons j c l js h1 h2 h3 h)) {r : Int} {l : List Int} {js : List Nat} (t : CH T r l js) : motive r l js t :=
  CH.ind (motive := motive) nil (fun j c l js h1 h2 h3 h _ => cons j c l js h1 h2 h3 h) t
theorem CH.keep {T T' : List Cl} {rs : List Int} (hk : Kept T T' rs) {r : Int} {l : List Int} {js : List Nat} (h : CH T r l js) (hr : ∀ j : Nat, r = (j : Int) → Rch T rs j) : CH T' r l js := by
  induction h using CH.ind with
  | nil => exact .nil
  | cons j c l js hc hw hb _ ih =>
    have hj := hr j rfl
    obtain ⟨c', g1, g2, g3, g4, g5, _⟩ := hk.cell j c hj hc
    have ih' := ih (fun i hi => .ref j i c hj hc hw (.inl hi))
    rw [← g5 hw] at ih'
    rw [← g4]
    exact .cons j c' l js g1 (g2.trans hw) (g3.trans hb) ih'
theorem CH.len {T : List Cl} {r : Int} {l : List Int} {js : List Nat} (h : CH T r l js) : js.length = l.length := by
  induction h using CH.ind with
  | nil => rfl
  | cons j c l js _ _ _ _ ih => simp [ih]
/-- What can be reached from a chain lies in it. -/
theorem CH.sub {T : List Cl} {r : Int} {l : List Int} {js : List Nat} (h : CH T r l js) : (∀ j : Nat, r = (j : Int) → j ∈ js) ∧ ∀ k ∈ js, ∀ c, T[k]? = some c → c.b = -1 ∧ ∀ j : Nat, c.a = (j : Int) → j ∈ js := by
  induction h using CH.ind with
  | nil => exact ⟨fun j e => by omega, fun k hk => by (cases hk)⟩
  | cons j c l js hc hw hb _ ih =>
    refine ⟨fun i e => ?_, fun k hk d hd => ?_⟩
    · obtain rfl : j = i := by omega
      exact List.mem_cons_self
    · rcases List.mem_cons.1 hk with rfl | hk
      · rw [hc] at hd
        cases hd
        exact ⟨hb, fun i hi => List.mem_cons_of_mem _ (ih.1 i hi)⟩
      · obtain ⟨q1, q2⟩ := ih.2 k hk d hd
        exact ⟨q1, fun i hi => List.mem_cons_of_mem _ (q2 i hi)⟩
theorem CH.reach {T : List Cl} {rs : List Int} {js : List Nat} (hroot : ∀ k : Nat, (k : Int) ∈ rs → k ∈ js) (hcl : ∀ k ∈ js, ∀ c, T[k]? = some c → c.b = -1 ∧ ∀ j : Nat, c.a = (j : Int) → j ∈ js) {k : Nat} (h : Rch T rs k) : k ∈ js := by
  induction h using Rch.ind with
  | root k hk => exact hroot k hk
  | ref k j c _ hc _ hj ih =>
    obtain ⟨q1, q2⟩ := hcl k ih c hc
    rcases hj with hj | hj
    · exact q2 j hj
    · omega
/-- A list of fewer numbers than n does not hold all below n. -/
theorem miss : ∀ (n : Nat) (js : List Nat), js.length < n → ∃ k, k < n ∧ k ∉ js := by
  intro n js h
  refine Classical.byContradiction fun hne => ?_
  have hall : ∀ k, k < n → k ∈ js := fun k hk => Classical.byContradiction fun hm => hne ⟨k, hk, hm⟩
  have : (List.range n).length ≤ js.length := by
    have hnd : (List.range n).Nodup := List.nodup_range
    exact hnd.length_le_of_subset (fun k hk => hall k (List.mem_range.1 hk))
  rw [List.length_range] at this
  omega
end Go.Proofs.YtdmdpindonghdabDoor
namespace Go.Proofs.YtdmdpindonghdabDoor
open Go.RowKit
/-- Whatever is done from k steps on, m steps lead from P to Q. -/
def Leads (E : Env) (us : List Int) (P Q : MS → Prop) (m : Nat) : Prop := ∀ s, P s → ∀ k, ∃ t, Q t ∧ ∀ f, runS E us (f + m) k s = runS E us f (k + m) t
theorem Leads.refl (E : Env) (us : List Int) (P : MS → Prop) : Leads E us P P 0 := fun s h _ => ⟨s, h, fun _ => rfl⟩
theorem Leads.trans {E : Env} {us : List Int} {P Q R : MS → Prop} {m m' : Nat} (h : Leads E us P Q m) (h' : Leads E us Q R m') : Leads E us P R (m + m') := by
  intro s hs k
  obtain ⟨t, ht, e⟩ := h s hs k
  obtain ⟨u, hu, e'⟩ := h' t ht (k + m)
  refine ⟨u, hu, fun f => ?_⟩
  rw [show f + (m + m') = (f + m') + m by omega, e, e', Nat.add_assoc]
theorem Leads.of {E : Env} {us : List Int} {P Q : MS → Prop} (h0 : ∀ s, P s → s.oc = 0) (hc : ∀ s m, P s → P (collS E m s)) (hs : ∀ s, P s → Q (stepS E s)) : Leads E us P Q 1 := by
  intro s hp k
  have hpre : P (preS E us k s) := by
    unfold preS
    split
    · exact hp
    · exact hc s _ hp
  refine ⟨_, hs _ hpre, fun f => ?_⟩
  simp only [runS]
  rw [if_pos (h0 s hp)]
theorem Leads.mono {E : Env} {us : List Int} {P P' Q Q' : MS → Prop} {m : Nat} (h : Leads E us P Q m) (h1 : ∀ s, P' s → P s) (h2 : ∀ s, Q s → Q' s) : Leads E us P' Q' m := by
  intro s hs k
  obtain ⟨t, ht, e⟩ := h s (h1 s hs) k
  exact ⟨t, h2 t ht, e⟩
/-- A plain cell that is looked at. -/
def FC (T : List Cl) (j : Nat) (x a : Int) : Prop := ∃ c, T[j]? = some c ∧ c.weak = false ∧ c.num = x ∧ c.a = a ∧ c.b = -1
theorem FC.keep {T T' : List Cl} {rs : List Int} (hk : Kept T T' rs) {j : Nat} {x a : Int} (h : FC T j x a) (hr : Rch T rs j) : FC T' j x a := by
  obtain ⟨c, h1, h2, h3, h4, h5⟩ := h
  obtain ⟨c', g1, g2, g3, g4, g5, _⟩ := hk.cell j c hr h1
  exact ⟨c', g1, g2.trans h2, g4.trans h3, (g5 h2).trans h4, g3.trans h5⟩
/-- The machine stands at an instruction; local 1 has a chain; maybe a cell more lies on the stack. -/
structure TA (E : Env) (at_ : Nat) (v0 : Int) (st : List (Bool × Int)) (rd : Nat) (out : List Int) (r : Int) (l : List Int) (js : List Nat) (fc : Option (Nat × Int × Int)) (s : MS) : Prop where
  inv : MInv E s
  gs : GS s
  eq : s = ⟨at_, [(false, v0), (true, r)], st, rd, out, 0, 0, s.hs⟩
  ch : CH (toldS' s) r l js
  fc : ∀ j x a, fc = some (j, x, a) → j ∉ js ∧ (true, (j : Int)) ∈ st ∧ FC (toldS' s) j x a
theorem TA.oc {E : Env} {at_ : Nat} {v0 : Int} {st : List (Bool × Int)} {rd : Nat} {out : List Int} {r : Int} {l : List Int} {js : List Nat} {fc : Option (Nat × Int × Int)} {s : MS} (h : TA E at_ v0 st rd out r l js fc s) : s.oc = 0 := by rw [h.eq]
theorem TA.coll {E : Env} (hn : NoMix E) {at_ : Nat} {v0 : Int} {st : List (Bool × Int)} {rd : Nat} {out : List Int} {r : Int} {l : List Int} {js : List Nat} {fc : Option (Nat × Int × Int)} {s : MS} (h : TA E at_ v0 st rd out r l js fc s) (m : Nat) : TA E at_ v0 st rd out r l js fc (collS E m s) := by
  have k := (h.inv.gh h.gs).keptU m
  rw [← rootsS_flag hn h.inv] at k
  have hmem : ∀ v : Int, (true, v) ∈ s.lo ++ s.st → v ∈ rootsS E s := fun v hv => by rw [rootsS_flag hn h.inv]; exact mem_flagR.2 hv
  have hlo : s.lo = [(false, v0), (true, r)] := by rw [h.eq]
  have hst : s.st = st := by rw [h.eq]
  refine ⟨h.inv.coll m, GS.coll hn h.inv h.gs m, ?_, ?_, ?_⟩
  · have e := h.eq
    unfold collS
    rw [e]
  · refine CH.keep (T := toldS' s) k h.ch (fun j e => .root j (hmem _ ?_))
    rw [hlo, ← e]
    simp
  · intro j x a e
    obtain ⟨q1, q2, q3⟩ := h.fc j x a e
    exact ⟨q1, q2, q3.keep k (.root j (hmem _ (by rw [hst]; exact List.mem_append_right _ q2)))⟩
/-- An instruction that touches no cell. -/
theorem TA.go {E : Env} (he : EnvOk E) (hn : NoMix E) {us : List Int} {at_ at' : Nat} {v0 v0' : Int} {st st' : List (Bool × Int)} {rd rd' : Nat} {out out' : List Int} {r : Int} {l : List Int} {js : List Nat} {fc fc' : Option (Nat × Int × Int)} {i : Ins} (hi : E.l[at_]? = some i)
    (hends : ∀ cs, endsC cs st i.op = 0) (h13 : i.op ≠ 13) (h23 : i.op ≠ 23)
    (hgo : ∀ hs, goS E i (-1) ⟨at_, [(false, v0), (true, r)], st, rd, out, 0, 0, hs⟩ = ⟨at', [(false, v0'), (true, r)], st', rd', out', 0, 0, hs⟩)
    (hf : ∀ (j : Nat) (x a : Int), fc' = some (j, x, a) → fc = some (j, x, a) ∧ (true, (j : Int)) ∈ st') :
    Leads E us (TA E at_ v0 st rd out r l js fc) (TA E at' v0' st' rd' out' r l js fc') 1 := by
  refine Leads.of (fun s h => h.oc) (fun s m h => h.coll hn m) (fun s h => ?_)
  have hst : s.st = st := by rw [h.eq]
  have e1 : stepS E s = stepI E i s := by unfold stepS; rw [show s.at_ = at_ by rw [h.eq], hi]
  have e2 : stepS E s = ⟨at', [(false, v0'), (true, r)], st', rd', out', 0, 0, s.hs⟩ := by
    rw [e1, step_go (by rw [hst]; exact hends _) h13 h23]
    have e3 := hgo s.hs
    rw [← h.eq] at e3
    exact e3
  refine ⟨h.inv.step he, GS.step he hn h.inv h.gs, ?_, ?_, ?_⟩
  · rw [e2]
  · rw [e2]; exact h.ch
  · intro j x a e
    obtain ⟨q0, q4⟩ := hf j x a e
    obtain ⟨q1, _, q3⟩ := h.fc j x a q0
    refine ⟨q1, q4, ?_⟩
    rw [e2]; exact q3
/-- A cell is taken. -/
theorem TA.new {E : Env} (he : EnvOk E) (hn : NoMix E) {us : List Int} {at_ : Nat} {v0 : Int} {rd : Nat} {out : List Int} {r : Int} {l : List Int} {js : List Nat} {i : Ins} (hi : E.l[at_]? = some i) (h13 : i.op = 13) (hroom : l.length < E.n) :
    Leads E us (TA E at_ v0 [] rd out r l js none) (fun s => ∃ j : Nat, TA E (at_ + 1) v0 [(true, (j : Int))] rd out r l js (some (j, 0, -1)) s) 1 := by
  refine Leads.of (fun s h => h.oc) (fun s m h => h.coll hn m) (fun s h => ?_)
  have hst : s.st = [] := by rw [h.eq]
  have hlo : s.lo = [(false, v0), (true, r)] := by rw [h.eq]
  have e1 : stepS E s = stepI E i s := by unfold stepS; rw [show s.at_ = at_ by rw [h.eq], hi]
  have ks := h.inv.gh h.gs
  have hfl : flagR (s.lo ++ s.st) = [r] := by rw [hlo, hst]; rfl
  have hfull := full_iff ks
  have hnot : ¬ (takeC (flagR (s.lo ++ s.st)) s.hs).1 < 0 := by
    rw [hfull]
    intro hall
    obtain ⟨k, hk, hm⟩ := miss E.n js (by rw [h.ch.len]; exact hroom)
    refine hm (CH.reach (T := s.hs.1.map toldC) (rs := flagR (s.lo ++ s.st)) ?_ h.ch.sub.2 (hall k hk))
    intro j hj
    rw [hfl] at hj
    exact h.ch.sub.1 j (List.mem_singleton.1 hj).symm
  have kk := ks.keptRoom
  have hch : CH ((roomC (flagR (s.lo ++ s.st)) s.hs).1.map toldC) r l js := CH.keep (T := toldS' s) kk h.ch (fun j e => .root j (by rw [hfl, e]; simp))
  have gr : GS { s with hs := roomC (flagR (s.lo ++ s.st)) s.hs } := GS.of (s := { s with hs := roomC (flagR (s.lo ++ s.st)) s.hs }) ks.room.g
  have hstep := e1
  rw [step_take (.inl h13), rootsS_flag hn h.inv, if_neg hnot] at hstep
  rw [takeC_room] at hnot hstep
  generalize roomC (flagR (s.lo ++ s.st)) s.hs = h1 at *
  by_cases l1 : 0 ≤ lowC h1
  · rw [if_pos l1] at hstep
    have a1 := alive_told l1
    obtain ⟨c1, n1, n2, n3, n4, n5⟩ := begin_new l1
    have b1 := begin_told h1
    have hj1 : (beginC h1).1 = ((lowC h1).toNat : Int) := by show lowC h1 = _; omega
    rw [hj1] at hstep
    generalize (lowC h1).toNat = j at *
    have hnj : j ∉ js := by
      intro hm
      -- a cell of the chain can be reached, and so is alive
      have hre : ∀ (r : Int) (l : List Int) (js : List Nat), CH (h1.1.map toldC) r l js → (∀ i : Nat, r = (i : Int) → Rch (h1.1.map toldC) (flagR (s.lo ++ s.st)) i) → ∀ k ∈ js, Rch (h1.1.map toldC) (flagR (s.lo ++ s.st)) k := by
        intro r l js hc
        induction hc using CH.ind with
        | nil => intro _ k hk; cases hk
        | cons i c l js hg hw hb _ ih =>
          intro hr k hk
          rcases List.mem_cons.1 hk with rfl | hk
          · exact hr k rfl
          · exact ih (fun m hm => .ref i m c (hr i rfl) hg hw (.inl hm)) k hk
      exact a1 (gr.flag.alive (hre r l js hch (fun i e => .root i (by rw [hfl, e]; simp)) j hm))
    have hch2 : ∀ (r : Int) (l : List Int) (js : List Nat), CH (h1.1.map toldC) r l js → j ∉ js → CH ((beginC h1).2.1.map toldC) r l js := by
      intro r l js hc
      induction hc using CH.ind with
      | nil => intro _; exact .nil
      | cons i c l js hg hw hb _ ih =>
        intro hm
        simp only [List.mem_cons, not_or] at hm
        exact .cons i c l js (by rw [b1 i (fun e => hm.1 e.symm)]; exact hg) hw hb (ih hm.2)
    have hc3 := hch2 r l js hch hnj
    generalize (beginC h1).2 = h2 at *
    have e2 : stepS E s = ⟨at_ + 1, [(false, v0), (true, r)], [(true, (j : Int))], rd, out, 0, 0, h2⟩ := by
      have e3 : ({ s with hs := h2 } : MS) = ⟨at_, [(false, v0), (true, r)], [], rd, out, 0, 0, h2⟩ := by rw [h.eq]
      rw [hstep, e3]
      unfold goS
      have e4 : doesS E i (j : Int) ⟨at_, [(false, v0), (true, r)], [], rd, out, 0, 0, h2⟩ = ⟨at_, [(false, v0), (true, r)], [(true, (j : Int))], rd, out, 0, 0, h2⟩ := by simp [doesS, touchS, h13]
      have e5 : toS E i ⟨at_, [(false, v0), (true, r)], [], rd, out, 0, 0, h2⟩ = at_ + 1 := by simp [toS, h13]
      rw [e4, e5]
    refine ⟨j, h.inv.step he, GS.step he hn h.inv h.gs, by rw [e2], by rw [e2]; exact hc3, ?_⟩
    intro j' x a e
    simp only [Option.some.injEq, Prod.mk.injEq] at e
    obtain ⟨rfl, rfl, rfl⟩ := e
    refine ⟨hnj, by simp, ?_⟩
    rw [e2]
    exact ⟨c1, n1, n2, n5, n3, n4⟩
  · rw [if_neg l1] at hnot
    simp at hnot
end Go.Proofs.YtdmdpindonghdabDoor
namespace Go.Proofs.YtdmdpindonghdabDoor
open Go.RowKit
theorem CH.edit {T T' : List Cl} {j : Nat} {f : Cl → Cl} (h : EditT T T' j f) {r : Int} {l : List Int} {js : List Nat} (hc : CH T r l js) (hj : j ∉ js) : CH T' r l js := by
  induction hc using CH.ind with
  | nil => exact .nil
  | cons i c l js hg hw hb _ ih =>
    simp only [List.mem_cons, not_or] at hj
    obtain ⟨c', g1, g2, g3, g4, g5⟩ := h i c hg
    rw [if_neg (Ne.symm hj.1)] at g3 g4 g5
    have ih' := ih hj.2
    rw [← g3] at ih'
    rw [← g5]
    exact .cons i c' l js g1 (g2.trans hw) (g4.trans hb) ih'
theorem FC.wants {s : MS} {j : Nat} {x a : Int} (h : FC (toldS' s) j x a) : wantsC s.hs.1 (j : Int) false = 0 := by
  obtain ⟨c, h1, h2, _⟩ := h
  obtain ⟨d, g1, rfl⟩ := told_get h1
  exact wantsC_of ⟨by omega, d, by simpa using g1, h2⟩
/-- A cell gets its number. -/
theorem TA.note {E : Env} (he : EnvOk E) (hn : NoMix E) {us : List Int} {at_ : Nat} {v0 : Int} {rd : Nat} {out : List Int} {r : Int} {l : List Int} {js : List Nat} {i : Ins} {j : Nat} {x a v : Int} (hi : E.l[at_]? = some i) (h17 : i.op = 17) :
    Leads E us (TA E at_ v0 [(true, (j : Int)), (true, (j : Int)), (false, v)] rd out r l js (some (j, x, a))) (TA E (at_ + 1) v0 [(true, (j : Int))] rd out r l js (some (j, v, a))) 1 := by
  refine Leads.of (fun s h => h.oc) (fun s m h => h.coll hn m) (fun s h => ?_)
  obtain ⟨q1, q2, q3⟩ := h.fc j x a rfl
  have hst : s.st = [(true, (j : Int)), (true, (j : Int)), (false, v)] := by rw [h.eq]
  have e1 : stepS E s = stepI E i s := by unfold stepS; rw [show s.at_ = at_ by rw [h.eq], hi]
  have hends : endsC s.hs.1 s.st i.op = 0 := by
    rw [hst, h17]
    have : lastW [(true, (j : Int)), (true, (j : Int)), (false, v)] 1 = (true, (j : Int)) := rfl
    simp [endsC, this, q3.wants]
  have e2 : stepS E s = ⟨at_ + 1, [(false, v0), (true, r)], [(true, (j : Int))], rd, out, 0, 0, (s.hs.1.modify j (noteS v), s.hs.2)⟩ := by
    rw [e1, step_go hends (by omega) (by omega)]
    have hd : doesS E i (-1) s = ⟨at_, [(false, v0), (true, r)], [(true, (j : Int))], rd, out, 0, 0, (s.hs.1.modify j (noteS v), s.hs.2)⟩ := by
      generalize hh : s.hs = h0
      rw [show s = ⟨at_, [(false, v0), (true, r)], [(true, (j : Int)), (true, (j : Int)), (false, v)], rd, out, 0, 0, h0⟩ by rw [← hh]; exact h.eq]
      simp [doesS, touchS, h17, lastW, cutS]
    have ht : toS E i s = at_ + 1 := by
      unfold toS
      rw [if_neg (by omega), show s.at_ = at_ by rw [h.eq]]
    unfold goS
    rw [hd, ht]
  have hed := note_edit s.hs.1 j v
  refine ⟨h.inv.step he, GS.step he hn h.inv h.gs, by rw [e2], ?_, ?_⟩
  · rw [e2]; exact CH.edit hed h.ch q1
  · intro j' x' a' e
    simp only [Option.some.injEq, Prod.mk.injEq] at e
    obtain ⟨rfl, rfl, rfl⟩ := e
    refine ⟨q1, by simp, ?_⟩
    rw [e2]
    obtain ⟨c, h1, h2, h3, h4, h5⟩ := q3
    obtain ⟨c', g1, g2, g3, g4, g5⟩ := hed j c h1
    rw [if_pos rfl] at g3 g4 g5
    exact ⟨c', g1, g2.trans h2, g5, g3.trans h4, g4.trans h5⟩
/-- A cell gets its first reference. -/
theorem TA.set0 {E : Env} (he : EnvOk E) (hn : NoMix E) {us : List Int} {at_ : Nat} {v0 : Int} {rd : Nat} {out : List Int} {r : Int} {l : List Int} {js : List Nat} {i : Ins} {j : Nat} {x a y : Int} (hi : E.l[at_]? = some i) (h15 : i.op = 15) (h0 : i.n = 0) :
    Leads E us (TA E at_ v0 [(true, (j : Int)), (true, (j : Int)), (true, y)] rd out r l js (some (j, x, a))) (TA E (at_ + 1) v0 [(true, (j : Int))] rd out r l js (some (j, x, y))) 1 := by
  refine Leads.of (fun s h => h.oc) (fun s m h => h.coll hn m) (fun s h => ?_)
  obtain ⟨q1, q2, q3⟩ := h.fc j x a rfl
  have hst : s.st = [(true, (j : Int)), (true, (j : Int)), (true, y)] := by rw [h.eq]
  have e1 : stepS E s = stepI E i s := by unfold stepS; rw [show s.at_ = at_ by rw [h.eq], hi]
  have hends : endsC s.hs.1 s.st i.op = 0 := by
    rw [hst, h15]
    have : lastW [(true, (j : Int)), (true, (j : Int)), (true, y)] 1 = (true, (j : Int)) := rfl
    simp [endsC, this, q3.wants]
  have e2 : stepS E s = ⟨at_ + 1, [(false, v0), (true, r)], [(true, (j : Int))], rd, out, 0, 0, (storeC s.hs.1 s.hs.2.1 j 0 y, s.hs.2)⟩ := by
    rw [e1, step_go hends (by omega) (by omega)]
    have hd : doesS E i (-1) s = ⟨at_, [(false, v0), (true, r)], [(true, (j : Int))], rd, out, 0, 0, (storeC s.hs.1 s.hs.2.1 j 0 y, s.hs.2)⟩ := by
      generalize hh : s.hs = h0'
      rw [show s = ⟨at_, [(false, v0), (true, r)], [(true, (j : Int)), (true, (j : Int)), (true, y)], rd, out, 0, 0, h0'⟩ by rw [← hh]; exact h.eq]
      simp [doesS, touchS, h15, h0, lastW, cutS]
    have ht : toS E i s = at_ + 1 := by
      unfold toS
      rw [if_neg (by omega), show s.at_ = at_ by rw [h.eq]]
    unfold goS
    rw [hd, ht]
  have hed := store_edit s.hs j 0 y
  refine ⟨h.inv.step he, GS.step he hn h.inv h.gs, by rw [e2], ?_, ?_⟩
  · rw [e2]; exact CH.edit hed h.ch q1
  · intro j' x' a' e
    simp only [Option.some.injEq, Prod.mk.injEq] at e
    obtain ⟨rfl, rfl, rfl⟩ := e
    refine ⟨q1, by simp, ?_⟩
    rw [e2]
    obtain ⟨c, h1, h2, h3, h4, h5⟩ := q3
    obtain ⟨c', g1, g2, g3, g4, g5⟩ := hed j c h1
    rw [if_pos rfl] at g3 g4 g5
    exact ⟨c', g1, g2.trans h2, g5.trans h3, g3, g4.trans h5⟩
end Go.Proofs.YtdmdpindonghdabDoor
namespace Go.Proofs.YtdmdpindonghdabDoor
open Go.RowKit
/-- The cell becomes the first of the chain. -/
theorem TA.st1 {E : Env} (he : EnvOk E) (hn : NoMix E) {us : List Int} {at_ : Nat} {v0 : Int} {rd : Nat} {out : List Int} {r : Int} {l : List Int} {js : List Nat} {i : Ins} {j : Nat} {x : Int} (hi : E.l[at_]? = some i) (h8 : i.op = 8) (h1 : i.n = 1) :
    Leads E us (TA E at_ v0 [(true, (j : Int))] rd out r l js (some (j, x, r))) (TA E (at_ + 1) v0 [] rd out (j : Int) (x :: l) (j :: js) none) 1 := by
  refine Leads.of (fun s h => h.oc) (fun s m h => h.coll hn m) (fun s h => ?_)
  obtain ⟨q1, q2, c, g1, g2, g3, g4, g5⟩ := h.fc j x r rfl
  have e1 : stepS E s = stepI E i s := by unfold stepS; rw [show s.at_ = at_ by rw [h.eq], hi]
  have e2 : stepS E s = ⟨at_ + 1, [(false, v0), (true, (j : Int))], [], rd, out, 0, 0, s.hs⟩ := by
    rw [e1, step_go (by rw [h8]; simp [endsC]) (by omega) (by omega)]
    have hd : doesS E i (-1) s = ⟨at_, [(false, v0), (true, (j : Int))], [], rd, out, 0, 0, s.hs⟩ := by
      generalize hh : s.hs = h0
      rw [show s = ⟨at_, [(false, v0), (true, r)], [(true, (j : Int))], rd, out, 0, 0, h0⟩ by rw [← hh]; exact h.eq]
      simp [doesS, h8, h1, lastW, cutS]
    have ht : toS E i s = at_ + 1 := by
      unfold toS
      rw [if_neg (by omega), show s.at_ = at_ by rw [h.eq]]
    unfold goS
    rw [hd, ht]
  refine ⟨h.inv.step he, GS.step he hn h.inv h.gs, by rw [e2], ?_, fun j x a e => by (cases e)⟩
  rw [e2]
  have hch := h.ch
  rw [← g4] at hch
  rw [← g3]
  exact .cons j c l js g1 g2 g5 hch
/-- The first number of the chain. -/
theorem TA.numb {E : Env} (he : EnvOk E) (hn : NoMix E) {us : List Int} {at_ : Nat} {v0 : Int} {rd : Nat} {out : List Int} {r : Int} {x : Int} {l : List Int} {js : List Nat} {i : Ins} (hi : E.l[at_]? = some i) (h16 : i.op = 16) :
    Leads E us (TA E at_ v0 [(true, r)] rd out r (x :: l) js none) (TA E (at_ + 1) v0 [(false, x)] rd out r (x :: l) js none) 1 := by
  refine Leads.of (fun s h => h.oc) (fun s m h => h.coll hn m) (fun s h => ?_)
  have hch := h.ch
  generalize hl : x :: l = l' at hch
  cases hch using CH.cas with
  | nil => cases hl
  | cons j c l2 js2 hg hw hb hrest =>
    cases hl
    obtain ⟨d, d1, rfl⟩ := told_get hg
    have hst : s.st = [(true, (j : Int))] := by rw [h.eq]
    have e1 : stepS E s = stepI E i s := by unfold stepS; rw [show s.at_ = at_ by rw [h.eq], hi]
    have hwt : wantsC s.hs.1 (j : Int) false = 0 := wantsC_of ⟨by omega, d, by simpa using d1, hw⟩
    have hends : endsC s.hs.1 s.st i.op = 0 := by
      rw [hst, h16]
      have : lastW [(true, (j : Int))] 0 = (true, (j : Int)) := rfl
      simp [endsC, this, hwt]
    have e2 : stepS E s = ⟨at_ + 1, [(false, v0), (true, (j : Int))], [(false, (toldC d).num)], rd, out, 0, 0, s.hs⟩ := by
      rw [e1, step_go hends (by omega) (by omega)]
      have hd : doesS E i (-1) s = ⟨at_, [(false, v0), (true, (j : Int))], [(false, (toldC d).num)], rd, out, 0, 0, s.hs⟩ := by
        generalize hh : s.hs = h0 at *
        rw [show s = ⟨at_, [(false, v0), (true, (j : Int))], [(true, (j : Int))], rd, out, 0, 0, h0⟩ by rw [← hh]; exact h.eq]
        have hca : cellAt h0.1 (j : Int) = d := by
          unfold cellAt
          rw [List.getD_eq_getElem?_getD, Int.toNat_natCast, d1]; rfl
        simp [doesS, touchS, h16, lastW, cutS, hca]
        rfl
      have ht : toS E i s = at_ + 1 := by
        unfold toS
        rw [if_neg (by omega), show s.at_ = at_ by rw [h.eq]]
      unfold goS
      rw [hd, ht]
    exact ⟨h.inv.step he, GS.step he hn h.inv h.gs, by rw [e2], by rw [e2]; exact h.ch, fun j x a e => by (cases e)⟩
/-- What the first cell refers to lies on the stack, a chain of its own. -/
def TG (E : Env) (at_ : Nat) (v0 : Int) (rd : Nat) (out : List Int) (l : List Int) (s : MS) : Prop := ∃ r x js a js2, TA E at_ v0 [(true, a)] rd out r (x :: l) js none s ∧ CH (toldS' s) a l js2
theorem TG.coll {E : Env} (hn : NoMix E) {at_ : Nat} {v0 : Int} {rd : Nat} {out : List Int} {l : List Int} {s : MS} (h : TG E at_ v0 rd out l s) (m : Nat) : TG E at_ v0 rd out l (collS E m s) := by
  obtain ⟨r, x, js, a, js2, h1, h2⟩ := h
  refine ⟨r, x, js, a, js2, h1.coll hn m, ?_⟩
  have k := (h1.inv.gh h1.gs).keptU m
  rw [← rootsS_flag hn h1.inv] at k
  refine CH.keep (T := toldS' s) k h2 (fun j e => .root j ?_)
  rw [rootsS_flag hn h1.inv]
  refine mem_flagR.2 (List.mem_append_right _ ?_)
  rw [show s.st = [(true, a)] by rw [h1.eq], e]
  simp
theorem TA.get0 {E : Env} (he : EnvOk E) (hn : NoMix E) {us : List Int} {at_ : Nat} {v0 : Int} {rd : Nat} {out : List Int} {r : Int} {x : Int} {l : List Int} {js : List Nat} {i : Ins} (hi : E.l[at_]? = some i) (h14 : i.op = 14) (h0 : i.n = 0) :
    Leads E us (TA E at_ v0 [(true, r)] rd out r (x :: l) js none) (TG E (at_ + 1) v0 rd out l) 1 := by
  refine Leads.of (fun s h => h.oc) (fun s m h => h.coll hn m) (fun s h => ?_)
  have hch := h.ch
  generalize hl : x :: l = l' at hch
  cases hch using CH.cas with
  | nil => cases hl
  | cons j c l2 js2 hg hw hb hrest =>
    cases hl
    obtain ⟨d, d1, rfl⟩ := told_get hg
    have hst : s.st = [(true, (j : Int))] := by rw [h.eq]
    have e1 : stepS E s = stepI E i s := by unfold stepS; rw [show s.at_ = at_ by rw [h.eq], hi]
    have hwt : wantsC s.hs.1 (j : Int) false = 0 := wantsC_of ⟨by omega, d, by simpa using d1, hw⟩
    have hends : endsC s.hs.1 s.st i.op = 0 := by
      rw [hst, h14]
      have : lastW [(true, (j : Int))] 0 = (true, (j : Int)) := rfl
      simp [endsC, this, hwt]
    have e2 : stepS E s = ⟨at_ + 1, [(false, v0), (true, (j : Int))], [(true, (toldC d).a)], rd, out, 0, 0, s.hs⟩ := by
      rw [e1, step_go hends (by omega) (by omega)]
      have hd : doesS E i (-1) s = ⟨at_, [(false, v0), (true, (j : Int))], [(true, (toldC d).a)], rd, out, 0, 0, s.hs⟩ := by
        generalize hh : s.hs = h0' at *
        rw [show s = ⟨at_, [(false, v0), (true, (j : Int))], [(true, (j : Int))], rd, out, 0, 0, h0'⟩ by rw [← hh]; exact h.eq]
        have hca : cellAt h0'.1 (j : Int) = d := by
          unfold cellAt
          rw [List.getD_eq_getElem?_getD, Int.toNat_natCast, d1]; rfl
        simp [doesS, touchS, h14, h0, lastW, cutS, hca]
        rfl
      have ht : toS E i s = at_ + 1 := by
        unfold toS
        rw [if_neg (by omega), show s.at_ = at_ by rw [h.eq]]
      unfold goS
      rw [hd, ht]
    refine ⟨(j : Int), (toldC d).num, j :: js2, (toldC d).a, js2, ⟨h.inv.step he, GS.step he hn h.inv h.gs, by rw [e2], by rw [e2]; exact h.ch, fun j x a e => by (cases e)⟩, ?_⟩
    rw [e2]
    exact hrest
theorem TG.st1 {E : Env} (he : EnvOk E) (hn : NoMix E) {us : List Int} {at_ : Nat} {v0 : Int} {rd : Nat} {out : List Int} {l : List Int} {i : Ins} (hi : E.l[at_]? = some i) (h8 : i.op = 8) (h1 : i.n = 1) :
    Leads E us (TG E at_ v0 rd out l) (fun s => ∃ r js, TA E (at_ + 1) v0 [] rd out r l js none s) 1 := by
  refine Leads.of (fun s h => by obtain ⟨_, _, _, _, _, h, _⟩ := h; exact h.oc) (fun s m h => h.coll hn m) (fun s h => ?_)
  obtain ⟨r, x, js, a, js2, h, hc⟩ := h
  have e1 : stepS E s = stepI E i s := by unfold stepS; rw [show s.at_ = at_ by rw [h.eq], hi]
  have e2 : stepS E s = ⟨at_ + 1, [(false, v0), (true, a)], [], rd, out, 0, 0, s.hs⟩ := by
    rw [e1, step_go (by rw [h8]; simp [endsC]) (by omega) (by omega)]
    have hd : doesS E i (-1) s = ⟨at_, [(false, v0), (true, a)], [], rd, out, 0, 0, s.hs⟩ := by
      generalize hh : s.hs = h0
      rw [show s = ⟨at_, [(false, v0), (true, r)], [(true, a)], rd, out, 0, 0, h0⟩ by rw [← hh]; exact h.eq]
      simp [doesS, h8, h1, lastW, cutS]
    have ht : toS E i s = at_ + 1 := by
      unfold toS
      rw [if_neg (by omega), show s.at_ = at_ by rw [h.eq]]
    unfold goS
    rw [hd, ht]
  exact ⟨a, js2, h.inv.step he, GS.step he hn h.inv h.gs, by rw [e2], by rw [e2]; exact hc, fun j x a e => by (cases e)⟩
end Go.Proofs.YtdmdpindonghdabDoor
namespace Go.Proofs.YtdmdpindonghdabDoor
open Go.RowKit
/-- Instruction by instruction. -/
theorem tn_at : tnL[2]? = some ⟨21, 0, 3⟩ ∧ tnL[3]? = some ⟨9, 0, 4⟩ ∧ tnL[4]? = some ⟨8, 0, 5⟩ ∧ tnL[5]? = some ⟨20, 11, 7⟩ ∧ tnL[6]? = some ⟨19, 27, 9⟩ ∧ tnL[7]? = some ⟨13, 0, 11⟩ ∧ tnL[8]? = some ⟨9, 0, 12⟩ ∧ tnL[9]? = some ⟨7, 0, 13⟩ ∧ tnL[10]? = some ⟨17, 0, 15⟩ ∧ tnL[11]? = some ⟨9, 0, 16⟩ ∧ tnL[12]? = some ⟨7, 1, 17⟩ ∧ tnL[13]? = some ⟨15, 0, 19⟩ ∧ tnL[14]? = some ⟨8, 1, 21⟩ ∧ tnL[15]? = some ⟨13, 0, 23⟩ ∧ tnL[16]? = some ⟨10, 0, 24⟩ ∧ tnL[17]? = some ⟨19, 3, 25⟩ := by
  refine ⟨?_, ?_, ?_, ?_, ?_, ?_, ?_, ?_, ?_, ?_, ?_, ?_, ?_, ?_, ?_, ?_⟩ <;> kernel_rfl
theorem tn_find : (findP 11 tnL 0).toNat = 7 ∧ (findP 27 tnL 0).toNat = 18 ∧ (findP 3 tnL 0).toNat = 2 ∧ (findP 45 tnL 0).toNat = 29 := by
  refine ⟨?_, ?_, ?_, ?_⟩ <;> kernel_rfl
/-- A number is read, and a cell with it stands ahead of the chain. -/
theorem tn_read {E : Env} (he : EnvOk E) (hn : NoMix E) (hl : E.l = tnL) {us : List Int} {v0 v : Int} {rd : Nat} {r : Int} {l : List Int} {js : List Nat} (hz : E.zs[rd]? = some v) (hv : v ≠ 0) (hroom : l.length + 1 < E.n) :
    Leads E us (TA E 2 v0 [] rd [] r l js none) (fun s => ∃ r' js', TA E 2 v [] (rd + 1) [] r' (v :: l) js' none s) 15 := by
  obtain ⟨i2, i3, i4, i5, _, i7, i8, i9, i10, i11, i12, i13, i14, i15, i16, i17⟩ := tn_at
  obtain ⟨f11, f27, f3, _⟩ := tn_find
  rw [← hl] at i2 i3 i4 i5 i7 i8 i9 i10 i11 i12 i13 i14 i15 i16 i17 f11 f27 f3
  have hrd : rd < E.zs.length := (List.getElem?_eq_some_iff.1 hz).1
  have hgd : E.zs[rd] = v := (List.getElem?_eq_some_iff.1 hz).2
  have none' : ∀ {st : List (Bool × Int)} (j : Nat) (x a : Int), (none : Option (Nat × Int × Int)) = some (j, x, a) → (none : Option (Nat × Int × Int)) = some (j, x, a) ∧ (true, (j : Int)) ∈ st := fun j x a e => by cases e
  have a2 : Leads E us (TA E 2 v0 [] rd [] r l js none) (TA E 3 v0 [(false, v)] (rd + 1) [] r l js none) 1 := TA.go he hn i2 (fun cs => by simp [endsC]) (by simp) (by simp) (fun hs => by simp [goS, doesS, toS, hrd, hgd]) none'
  have a3 : Leads E us (TA E 3 v0 [(false, v)] (rd + 1) [] r l js none) (TA E 4 v0 [(false, v), (false, v)] (rd + 1) [] r l js none) 1 := TA.go he hn i3 (fun cs => by simp [endsC]) (by simp) (by simp) (fun hs => by simp [goS, doesS, toS, lastW]) none'
  have a4 : Leads E us (TA E 4 v0 [(false, v), (false, v)] (rd + 1) [] r l js none) (TA E 5 v [(false, v)] (rd + 1) [] r l js none) 1 := TA.go he hn i4 (fun cs => by simp [endsC]) (by simp) (by simp) (fun hs => by simp [goS, doesS, toS, lastW, cutS]) none'
  have a5 : Leads E us (TA E 5 v [(false, v)] (rd + 1) [] r l js none) (TA E 7 v [] (rd + 1) [] r l js none) 1 := TA.go he hn i5 (fun cs => by simp [endsC]) (by simp) (by simp) (fun hs => by simp [goS, doesS, toS, lastW, cutS, hv, f11]) none'
  have a7 := TA.new (us := us) (v0 := v) (rd := rd + 1) (out := []) (r := r) (l := l) (js := js) he hn i7 rfl (by omega)
  have a8 : ∀ j : Nat, Leads E us (TA E 8 v [(true, (j : Int))] (rd + 1) [] r l js (some (j, 0, -1))) (fun s => ∃ r' js', TA E 15 v [] (rd + 1) [] r' (v :: l) js' none s) 7 := by
    intro j
    have keep : ∀ {st : List (Bool × Int)} {x0 a0 : Int}, (true, (j : Int)) ∈ st → ∀ (j' : Nat) (x a : Int), (some (j, x0, a0) : Option (Nat × Int × Int)) = some (j', x, a) → (some (j, x0, a0) : Option (Nat × Int × Int)) = some (j', x, a) ∧ (true, (j' : Int)) ∈ st := fun hm j' x a e => by
      refine ⟨e, ?_⟩
      simp only [Option.some.injEq, Prod.mk.injEq] at e
      rw [← e.1]; exact hm
    have b8 : Leads E us (TA E 8 v [(true, (j : Int))] (rd + 1) [] r l js (some (j, 0, -1))) (TA E 9 v [(true, (j : Int)), (true, (j : Int))] (rd + 1) [] r l js (some (j, 0, -1))) 1 := TA.go he hn i8 (fun cs => by simp [endsC]) (by simp) (by simp) (fun hs => by simp [goS, doesS, toS, lastW]) (keep (by simp))
    have b9 : Leads E us (TA E 9 v [(true, (j : Int)), (true, (j : Int))] (rd + 1) [] r l js (some (j, 0, -1))) (TA E 10 v [(true, (j : Int)), (true, (j : Int)), (false, v)] (rd + 1) [] r l js (some (j, 0, -1))) 1 := TA.go he hn i9 (fun cs => by simp [endsC]) (by simp) (by simp) (fun hs => by simp [goS, doesS, toS]) (keep (by simp))
    have b10 := TA.note (us := us) (v0 := v) (rd := rd + 1) (out := []) (r := r) (l := l) (js := js) (j := j) (x := 0) (a := -1) (v := v) he hn i10 rfl
    have b11 : Leads E us (TA E 11 v [(true, (j : Int))] (rd + 1) [] r l js (some (j, v, -1))) (TA E 12 v [(true, (j : Int)), (true, (j : Int))] (rd + 1) [] r l js (some (j, v, -1))) 1 := TA.go he hn i11 (fun cs => by simp [endsC]) (by simp) (by simp) (fun hs => by simp [goS, doesS, toS, lastW]) (keep (by simp))
    have b12 : Leads E us (TA E 12 v [(true, (j : Int)), (true, (j : Int))] (rd + 1) [] r l js (some (j, v, -1))) (TA E 13 v [(true, (j : Int)), (true, (j : Int)), (true, r)] (rd + 1) [] r l js (some (j, v, -1))) 1 := TA.go he hn i12 (fun cs => by simp [endsC]) (by simp) (by simp) (fun hs => by simp [goS, doesS, toS]) (keep (by simp))
    have b13 := TA.set0 (us := us) (v0 := v) (rd := rd + 1) (out := []) (r := r) (l := l) (js := js) (j := j) (x := v) (a := -1) (y := r) he hn i13 rfl rfl
    have b14 := TA.st1 (us := us) (v0 := v) (rd := rd + 1) (out := []) (r := r) (l := l) (js := js) (j := j) (x := v) he hn i14 rfl rfl
    exact ((((((b8.trans b9).trans b10).trans b11).trans b12).trans b13).trans b14).mono (fun _ h => h) (fun s h => ⟨_, _, h⟩)
  have a15 : Leads E us (fun s => ∃ r' js', TA E 15 v [] (rd + 1) [] r' (v :: l) js' none s) (fun s => ∃ r' js', TA E 2 v [] (rd + 1) [] r' (v :: l) js' none s) 3 := by
    intro s hs k
    obtain ⟨r', js', hs⟩ := hs
    have c15 := TA.new (us := us) (v0 := v) (rd := rd + 1) (out := []) (r := r') (l := v :: l) (js := js') he hn i15 rfl (by simpa using hroom)
    have c16 : Leads E us (fun s => ∃ j : Nat, TA E 16 v [(true, (j : Int))] (rd + 1) [] r' (v :: l) js' (some (j, 0, -1)) s) (TA E 17 v [] (rd + 1) [] r' (v :: l) js' none) 1 := by
      intro s hs k
      obtain ⟨j, hs⟩ := hs
      exact (TA.go (us := us) (fc' := none) (st' := []) (v0' := v) (rd' := rd + 1) (out' := []) (at' := 17) he hn i16 (fun cs => by simp [endsC]) (by simp) (by simp) (fun hs => by simp [goS, doesS, toS, cutS]) (fun j x a e => by cases e)) s hs k
    have c17 : Leads E us (TA E 17 v [] (rd + 1) [] r' (v :: l) js' none) (TA E 2 v [] (rd + 1) [] r' (v :: l) js' none) 1 := TA.go he hn i17 (fun cs => by simp [endsC]) (by simp) (by simp) (fun hs => by simp [goS, doesS, touchS, toS, f3]) none'
    exact (((c15.trans c16).trans c17).mono (fun _ h => h) (fun s h => ⟨r', js', h⟩)) s hs k
  have a78 : Leads E us (fun s => ∃ j : Nat, TA E 8 v [(true, (j : Int))] (rd + 1) [] r l js (some (j, 0, -1)) s) (fun s => ∃ r' js', TA E 15 v [] (rd + 1) [] r' (v :: l) js' none s) 7 := by
    intro s hs k
    obtain ⟨j, hs⟩ := hs
    exact a8 j s hs k
  exact (((((a2.trans a3).trans a4).trans a5).trans a7).trans a78).trans a15
theorem tn_at2 : tnL[18]? = some ⟨7, 1, 27⟩ ∧ tnL[19]? = some ⟨12, 0, 29⟩ ∧ tnL[20]? = some ⟨18, 0, 30⟩ ∧ tnL[21]? = some ⟨20, 45, 31⟩ ∧ tnL[22]? = some ⟨7, 1, 33⟩ ∧ tnL[23]? = some ⟨16, 0, 35⟩ ∧ tnL[24]? = some ⟨22, 0, 36⟩ ∧ tnL[25]? = some ⟨7, 1, 37⟩ ∧ tnL[26]? = some ⟨14, 0, 39⟩ ∧ tnL[27]? = some ⟨8, 1, 41⟩ ∧ tnL[28]? = some ⟨19, 27, 43⟩ ∧ tnL[29]? = some ⟨1, 0, 45⟩ ∧ tnL[30]? = some ⟨0, 0, 47⟩ := by
  refine ⟨?_, ?_, ?_, ?_, ?_, ?_, ?_, ?_, ?_, ?_, ?_, ?_, ?_⟩ <;> kernel_rfl
/-- The inputs are at an end. -/
theorem tn_last {E : Env} (he : EnvOk E) (hn : NoMix E) (hl : E.l = tnL) {us : List Int} {v0 : Int} {rd : Nat} {r : Int} {l : List Int} {js : List Nat} (hz : ¬ rd < E.zs.length) :
    Leads E us (TA E 2 v0 [] rd [] r l js none) (TA E 18 0 [] rd [] r l js none) 5 := by
  obtain ⟨i2, i3, i4, i5, i6, _⟩ := tn_at
  obtain ⟨_, f27, _, _⟩ := tn_find
  rw [← hl] at i2 i3 i4 i5 i6 f27
  have none' : ∀ {st : List (Bool × Int)} (j : Nat) (x a : Int), (none : Option (Nat × Int × Int)) = some (j, x, a) → (none : Option (Nat × Int × Int)) = some (j, x, a) ∧ (true, (j : Int)) ∈ st := fun j x a e => by cases e
  have a2 : Leads E us (TA E 2 v0 [] rd [] r l js none) (TA E 3 v0 [(false, 0)] rd [] r l js none) 1 := TA.go he hn i2 (fun cs => by simp [endsC]) (by simp) (by simp) (fun hs => by simp [goS, doesS, toS, hz]) none'
  have a3 : Leads E us (TA E 3 v0 [(false, 0)] rd [] r l js none) (TA E 4 v0 [(false, 0), (false, 0)] rd [] r l js none) 1 := TA.go he hn i3 (fun cs => by simp [endsC]) (by simp) (by simp) (fun hs => by simp [goS, doesS, toS, lastW]) none'
  have a4 : Leads E us (TA E 4 v0 [(false, 0), (false, 0)] rd [] r l js none) (TA E 5 0 [(false, 0)] rd [] r l js none) 1 := TA.go he hn i4 (fun cs => by simp [endsC]) (by simp) (by simp) (fun hs => by simp [goS, doesS, toS, lastW, cutS]) none'
  have a5 : Leads E us (TA E 5 0 [(false, 0)] rd [] r l js none) (TA E 6 0 [] rd [] r l js none) 1 := TA.go he hn i5 (fun cs => by simp [endsC]) (by simp) (by simp) (fun hs => by simp [goS, doesS, toS, lastW, cutS]) none'
  have a6 : Leads E us (TA E 6 0 [] rd [] r l js none) (TA E 18 0 [] rd [] r l js none) 1 := TA.go he hn i6 (fun cs => by simp [endsC]) (by simp) (by simp) (fun hs => by simp [goS, doesS, touchS, toS, f27]) none'
  exact (((a2.trans a3).trans a4).trans a5).trans a6
/-- One number is let out. -/
theorem tn_out {E : Env} (he : EnvOk E) (hn : NoMix E) (hl : E.l = tnL) {us : List Int} {v0 : Int} {rd : Nat} {out : List Int} {r x : Int} {l : List Int} {js : List Nat} (hr : r ≠ -1) :
    Leads E us (TA E 18 v0 [] rd out r (x :: l) js none) (fun s => ∃ r' js', TA E 18 v0 [] rd (out ++ [x]) r' l js' none s) 11 := by
  obtain ⟨i18, i19, i20, i21, i22, i23, i24, i25, i26, i27, i28, _⟩ := tn_at2
  obtain ⟨_, f27, _, _⟩ := tn_find
  rw [← hl] at i18 i19 i20 i21 i22 i23 i24 i25 i26 i27 i28 f27
  have none' : ∀ {st : List (Bool × Int)} (j : Nat) (x a : Int), (none : Option (Nat × Int × Int)) = some (j, x, a) → (none : Option (Nat × Int × Int)) = some (j, x, a) ∧ (true, (j : Int)) ∈ st := fun j x a e => by cases e
  have a18 : Leads E us (TA E 18 v0 [] rd out r (x :: l) js none) (TA E 19 v0 [(true, r)] rd out r (x :: l) js none) 1 := TA.go he hn i18 (fun cs => by simp [endsC]) (by simp) (by simp) (fun hs => by simp [goS, doesS, toS]) none'
  have a19 : Leads E us (TA E 19 v0 [(true, r)] rd out r (x :: l) js none) (TA E 20 v0 [(true, r), (true, -1)] rd out r (x :: l) js none) 1 := TA.go he hn i19 (fun cs => by simp [endsC]) (by simp) (by simp) (fun hs => by simp [goS, doesS, toS]) none'
  have a20 : Leads E us (TA E 20 v0 [(true, r), (true, -1)] rd out r (x :: l) js none) (TA E 21 v0 [(false, 0)] rd out r (x :: l) js none) 1 := TA.go he hn i20 (fun cs => by simp [endsC]) (by simp) (by simp) (fun hs => by simp [goS, doesS, toS, lastW, cutS, sumC, hr]) none'
  have a21 : Leads E us (TA E 21 v0 [(false, 0)] rd out r (x :: l) js none) (TA E 22 v0 [] rd out r (x :: l) js none) 1 := TA.go he hn i21 (fun cs => by simp [endsC]) (by simp) (by simp) (fun hs => by simp [goS, doesS, toS, lastW, cutS]) none'
  have a22 : Leads E us (TA E 22 v0 [] rd out r (x :: l) js none) (TA E 23 v0 [(true, r)] rd out r (x :: l) js none) 1 := TA.go he hn i22 (fun cs => by simp [endsC]) (by simp) (by simp) (fun hs => by simp [goS, doesS, toS]) none'
  have a23 := TA.numb (us := us) (v0 := v0) (rd := rd) (out := out) (r := r) (x := x) (l := l) (js := js) he hn i23 rfl
  have a24 : Leads E us (TA E 24 v0 [(false, x)] rd out r (x :: l) js none) (TA E 25 v0 [] rd (out ++ [x]) r (x :: l) js none) 1 := TA.go he hn i24 (fun cs => by simp [endsC]) (by simp) (by simp) (fun hs => by simp [goS, doesS, toS, lastW, cutS]) none'
  have a25 : Leads E us (TA E 25 v0 [] rd (out ++ [x]) r (x :: l) js none) (TA E 26 v0 [(true, r)] rd (out ++ [x]) r (x :: l) js none) 1 := TA.go he hn i25 (fun cs => by simp [endsC]) (by simp) (by simp) (fun hs => by simp [goS, doesS, toS]) none'
  have a26 := TA.get0 (us := us) (v0 := v0) (rd := rd) (out := out ++ [x]) (r := r) (x := x) (l := l) (js := js) he hn i26 rfl rfl
  have a27 := TG.st1 (us := us) (v0 := v0) (rd := rd) (out := out ++ [x]) (l := l) he hn i27 rfl rfl
  have a28 : Leads E us (fun s => ∃ r' js', TA E 28 v0 [] rd (out ++ [x]) r' l js' none s) (fun s => ∃ r' js', TA E 18 v0 [] rd (out ++ [x]) r' l js' none s) 1 := by
    intro s hs k
    obtain ⟨r', js', hs⟩ := hs
    have c : Leads E us (TA E 28 v0 [] rd (out ++ [x]) r' l js' none) (TA E 18 v0 [] rd (out ++ [x]) r' l js' none) 1 := TA.go he hn i28 (fun cs => by simp [endsC]) (by simp) (by simp) (fun hs => by simp [goS, doesS, touchS, toS, f27]) none'
    exact (c.mono (fun _ h => h) (fun s h => ⟨r', js', h⟩)) s hs k
  exact (((((((((a18.trans a19).trans a20).trans a21).trans a22).trans a23).trans a24).trans a25).trans a26).trans a27).trans a28
/-- The chain is at an end. -/
theorem tn_end {E : Env} (he : EnvOk E) (hn : NoMix E) (hl : E.l = tnL) {us : List Int} {v0 : Int} {rd : Nat} {out : List Int} {js : List Nat} :
    Leads E us (TA E 18 v0 [] rd out (-1) [] js none) (TA E 30 v0 [(false, 0)] rd out (-1) [] js none) 5 := by
  obtain ⟨i18, i19, i20, i21, _, _, _, _, _, _, _, i29, _⟩ := tn_at2
  obtain ⟨_, _, _, f45⟩ := tn_find
  rw [← hl] at i18 i19 i20 i21 i29 f45
  have none' : ∀ {st : List (Bool × Int)} (j : Nat) (x a : Int), (none : Option (Nat × Int × Int)) = some (j, x, a) → (none : Option (Nat × Int × Int)) = some (j, x, a) ∧ (true, (j : Int)) ∈ st := fun j x a e => by cases e
  have a18 : Leads E us (TA E 18 v0 [] rd out (-1) [] js none) (TA E 19 v0 [(true, -1)] rd out (-1) [] js none) 1 := TA.go he hn i18 (fun cs => by simp [endsC]) (by simp) (by simp) (fun hs => by simp [goS, doesS, toS]) none'
  have a19 : Leads E us (TA E 19 v0 [(true, -1)] rd out (-1) [] js none) (TA E 20 v0 [(true, -1), (true, -1)] rd out (-1) [] js none) 1 := TA.go he hn i19 (fun cs => by simp [endsC]) (by simp) (by simp) (fun hs => by simp [goS, doesS, toS]) none'
  have a20 : Leads E us (TA E 20 v0 [(true, -1), (true, -1)] rd out (-1) [] js none) (TA E 21 v0 [(false, 1)] rd out (-1) [] js none) 1 := TA.go he hn i20 (fun cs => by simp [endsC]) (by simp) (by simp) (fun hs => by simp [goS, doesS, toS, lastW, cutS, sumC]) none'
  have a21 : Leads E us (TA E 21 v0 [(false, 1)] rd out (-1) [] js none) (TA E 29 v0 [] rd out (-1) [] js none) 1 := TA.go he hn i21 (fun cs => by simp [endsC]) (by simp) (by simp) (fun hs => by simp [goS, doesS, toS, lastW, cutS, f45]) none'
  have a29 : Leads E us (TA E 29 v0 [] rd out (-1) [] js none) (TA E 30 v0 [(false, 0)] rd out (-1) [] js none) 1 := TA.go he hn i29 (fun cs => by simp [endsC]) (by simp) (by simp) (fun hs => by simp [goS, doesS, toS]) none'
  exact (((a18.trans a19).trans a20).trans a21).trans a29
end Go.Proofs.YtdmdpindonghdabDoor
namespace Go.Proofs.YtdmdpindonghdabDoor
open Go.RowKit
/-- Ahead of the chain: local 1 is still a number. -/
structure TZ (E : Env) (at_ : Nat) (st : List (Bool × Int)) (s : MS) : Prop where
  inv : MInv E s
  gs : GS s
  eq : s = ⟨at_, [(false, 0), (false, 0)], st, 0, [], 0, 0, s.hs⟩
theorem TZ.coll {E : Env} (hn : NoMix E) {at_ : Nat} {st : List (Bool × Int)} {s : MS} (h : TZ E at_ st s) (m : Nat) : TZ E at_ st (collS E m s) := by
  refine ⟨h.inv.coll m, GS.coll hn h.inv h.gs m, ?_⟩
  have e := h.eq
  unfold collS
  rw [e]
theorem tn_first {E : Env} (he : EnvOk E) (hn : NoMix E) (hl : E.l = tnL) {us : List Int} : Leads E us (TZ E 0 []) (TA E 2 0 [] 0 [] (-1) [] [] none) 2 := by
  have i0 : E.l[0]? = some ⟨12, 0, 0⟩ := by rw [hl]; kernel_rfl
  have i1 : E.l[1]? = some ⟨8, 1, 1⟩ := by rw [hl]; kernel_rfl
  have a0 : Leads E us (TZ E 0 []) (TZ E 1 [(true, -1)]) 1 := by
    refine Leads.of (fun s h => by rw [h.eq]) (fun s m h => h.coll hn m) (fun s h => ?_)
    have e1 : stepS E s = stepI E ⟨12, 0, 0⟩ s := by unfold stepS; rw [show s.at_ = 0 by rw [h.eq], i0]
    have e2 : stepS E s = ⟨1, [(false, 0), (false, 0)], [(true, -1)], 0, [], 0, 0, s.hs⟩ := by
      rw [e1, step_go (by simp [endsC]) (by simp) (by simp)]
      generalize hh : s.hs = h0
      rw [show s = ⟨0, [(false, 0), (false, 0)], [], 0, [], 0, 0, h0⟩ by rw [← hh]; exact h.eq]
      simp [goS, doesS, toS]
    exact ⟨h.inv.step he, GS.step he hn h.inv h.gs, by rw [e2]⟩
  have a1 : Leads E us (TZ E 1 [(true, -1)]) (TA E 2 0 [] 0 [] (-1) [] [] none) 1 := by
    refine Leads.of (fun s h => by rw [h.eq]) (fun s m h => h.coll hn m) (fun s h => ?_)
    have e1 : stepS E s = stepI E ⟨8, 1, 1⟩ s := by unfold stepS; rw [show s.at_ = 1 by rw [h.eq], i1]
    have e2 : stepS E s = ⟨2, [(false, 0), (true, -1)], [], 0, [], 0, 0, s.hs⟩ := by
      rw [e1, step_go (by simp [endsC]) (by simp) (by simp)]
      generalize hh : s.hs = h0
      rw [show s = ⟨1, [(false, 0), (false, 0)], [(true, -1)], 0, [], 0, 0, h0⟩ by rw [← hh]; exact h.eq]
      simp [goS, doesS, toS, lastW, cutS]
    exact ⟨h.inv.step he, GS.step he hn h.inv h.gs, by rw [e2], .nil, fun j x a e => by (cases e)⟩
  exact a0.trans a1
/-- All numbers are read. -/
theorem tn_reads {E : Env} (he : EnvOk E) (hn : NoMix E) (hl : E.l = tnL) {us : List Int} (hnz : ∀ v ∈ E.zs, v ≠ 0) (hroom : E.zs.length < E.n) : ∀ k, k ≤ E.zs.length → Leads E us (TA E 2 0 [] 0 [] (-1) [] [] none) (fun s => ∃ v0 r js, TA E 2 v0 [] k [] r (E.zs.take k).reverse js none s) (15 * k) := by
  intro k
  induction k with
  | zero => intro _; exact (Leads.refl E us _).mono (fun _ h => h) (fun s h => ⟨0, -1, [], by simpa using h⟩)
  | succ k ih =>
    intro hk
    have hz : E.zs[k]? = some E.zs[k] := List.getElem?_eq_getElem hk
    refine (ih (by omega)).trans (m' := 15) ?_
    intro s hs m
    obtain ⟨v0, r, js, hs⟩ := hs
    have h1 := tn_read (us := us) (v0 := v0) (r := r) (l := (E.zs.take k).reverse) (js := js) he hn hl hz (hnz _ (List.getElem_mem hk)) (by rw [List.length_reverse, List.length_take]; omega)
    refine (h1.mono (fun _ h => h) (fun s h => ?_)) s hs m
    obtain ⟨r', js', h⟩ := h
    refine ⟨E.zs[k], r', js', ?_⟩
    rw [List.take_succ_eq_append_getElem hk, List.reverse_append]
    exact h
/-- All numbers are let out. -/
theorem tn_outs {E : Env} (he : EnvOk E) (hn : NoMix E) (hl : E.l = tnL) {us : List Int} {v0 : Int} {rd : Nat} : ∀ (l out : List Int), Leads E us (fun s => ∃ r js, TA E 18 v0 [] rd out r l js none s) (fun s => ∃ r js, TA E 18 v0 [] rd (out ++ l) r [] js none s) (11 * l.length)
  | [], out => by
    rw [List.append_nil]
    exact Leads.refl E us _
  | x :: l, out => by
    have h2 := tn_outs he hn hl (us := us) (v0 := v0) (rd := rd) l (out ++ [x])
    have h1 : Leads E us (fun s => ∃ r js, TA E 18 v0 [] rd out r (x :: l) js none s) (fun s => ∃ r js, TA E 18 v0 [] rd (out ++ [x]) r l js none s) 11 := by
      intro s hs m
      obtain ⟨r, js, hs⟩ := hs
      have hr : r ≠ -1 := by
        have hc := hs.ch
        generalize hll : x :: l = l' at hc
        cases hc using CH.cas with
        | nil => cases hll
        | cons j c l2 js2 _ _ _ _ => omega
      exact tn_out he hn hl hr s hs m
    have h := h1.trans h2
    rw [List.append_assoc] at h
    rw [show 11 * (x :: l).length = 11 + 11 * l.length by simp only [List.length_cons]; omega]
    exact h
/-- The whole run: the numbers come out the last first. -/
theorem tn_run {E : Env} (he : EnvOk E) (hn : NoMix E) (hl : E.l = tnL) (us : List Int) (hnz : ∀ v ∈ E.zs, v ≠ 0) (hroom : E.zs.length < E.n) (h20 : E.zs.length ≤ 20) {s : MS} (hs : TZ E 0 [] s) :
    (runS E us 2000 0 s).2.oc = 1 ∧ (runS E us 2000 0 s).2.va = 0 ∧ (runS E us 2000 0 s).2.out = E.zs.reverse := by
  have a := (tn_first (us := us) he hn hl).trans (tn_reads he hn hl hnz hroom E.zs.length (Nat.le_refl _))
  rw [List.take_length] at a
  have b : Leads E us (fun s => ∃ v0 r js, TA E 2 v0 [] E.zs.length [] r E.zs.reverse js none s) (fun s => ∃ r js, TA E 18 0 [] E.zs.length [] r E.zs.reverse js none s) 5 := by
    intro s hs m
    obtain ⟨v0, r, js, hs⟩ := hs
    exact ((tn_last he hn hl (by omega)).mono (fun _ h => h) (fun s h => ⟨r, js, h⟩)) s hs m
  have c := tn_outs (us := us) (v0 := 0) (rd := E.zs.length) he hn hl E.zs.reverse []
  have d : Leads E us (fun s => ∃ r js, TA E 18 0 [] E.zs.length ([] ++ E.zs.reverse) r [] js none s) (fun s => ∃ js, TA E 30 0 [(false, 0)] E.zs.length E.zs.reverse (-1) [] js none s) 5 := by
    intro s hs m
    obtain ⟨r, js, hs⟩ := hs
    have hr : r = -1 := by
      have hc := hs.ch
      generalize hll : ([] : List Int) = l' at hc
      cases hc using CH.cas with
      | nil => rfl
      | cons j c l2 js2 _ _ _ _ => cases hll
    subst hr
    exact ((tn_end he hn hl).mono (fun _ h => h) (fun s h => ⟨js, h⟩)) s hs m
  have all := ((a.trans b).trans c).trans d
  rw [List.length_reverse] at all
  obtain ⟨t, ⟨js, ht⟩, e⟩ := all s hs 0
  have i30 : E.l[30]? = some ⟨0, 0, 47⟩ := by rw [hl]; kernel_rfl
  have hrun := e (2000 - (2 + 15 * E.zs.length + 5 + 11 * E.zs.length + 5))
  rw [show 2000 - (2 + 15 * E.zs.length + 5 + 11 * E.zs.length + 5) + (2 + 15 * E.zs.length + 5 + 11 * E.zs.length + 5) = 2000 by omega] at hrun
  rw [hrun, show 2000 - (2 + 15 * E.zs.length + 5 + 11 * E.zs.length + 5) = (2000 - (2 + 15 * E.zs.length + 5 + 11 * E.zs.length + 5) - 1) + 1 by omega]
  generalize 2000 - (2 + 15 * E.zs.length + 5 + 11 * E.zs.length + 5) - 1 = f
  generalize 0 + (2 + 15 * E.zs.length + 5 + 11 * E.zs.length + 5) = k
  have ht2 : ∃ js, TA E 30 0 [(false, 0)] E.zs.length E.zs.reverse (-1) [] js none (preS E us k t) := by
    unfold preS
    split
    · exact ⟨js, ht⟩
    · exact ⟨js, ht.coll hn _⟩
  obtain ⟨js2, ht2⟩ := ht2
  simp only [runS]
  rw [if_pos ht.oc]
  generalize preS E us k t = u at *
  have e1 : stepS E u = { u with oc := 1, va := (lastW u.st 0).2 } := by
    have e0 : stepS E u = stepI E ⟨0, 0, 47⟩ u := by unfold stepS; rw [show u.at_ = 30 by rw [ht2.eq], i30]
    rw [e0]
    exact step_halt rfl
  have hd : ∀ (m k : Nat) (t : MS), t.oc ≠ 0 → runS E us m k t = (k, t) := fun m k t ht => by
    cases m with
    | zero => rfl
    | succ m => simp only [runS, if_neg ht]
  rw [hd _ _ _ (by rw [e1]; simp), e1]
  refine ⟨rfl, ?_, ?_⟩
  · show (lastW u.st 0).2 = 0
    rw [show u.st = [(false, 0)] by rw [ht2.eq]]
    rfl
  · show u.out = E.zs.reverse
    rw [ht2.eq]
end Go.Proofs.YtdmdpindonghdabDoor
namespace Go.Proofs.YtdmdpindonghdabDoor
open Go.RowKit
set_option maxRecDepth 100000 in
set_option maxHeartbeats 1000000 in
theorem sameK_any (l : List Int) (va vb : Value) (w : World) (ha : ZsAt w va l) (hb : ZsAt w vb l) (hl : l.length ≤ 17592186044416) :
    Calls Tryd.prog 20 #[va, vb] w fun e w' => e = .returned (.bool true) ∧ ∃ n, w' = w.drewN n := by
  obtain ⟨pa, ca, ea⟩ := ha.slice
  obtain ⟨pb, cb, eb⟩ := hb.slice
  subst ea
  subst eb
  have HA := hid ha
  have HB := hid hb
  clear ha hb
  go_enter Tryd.func20, Tryd.ntmps20
  go_wp2_with fail
  go_loopg [5] l.length (fun gk x w' => ∃ k : Nat, k ≤ l.length ∧ gk = l.length - k ∧ x = .int .i64 k ∧ ∃ n, w' = w.drewN n)
  case atStart => exact ⟨0, by omega, by omega, rfl, 0, rfl⟩
  case round =>
    obtain ⟨k, hk, hgk, rfl, n, rfl⟩ := hrel
    rcases Nat.lt_or_ge k l.length with hlt | hge
    · have d0 : (0 : Int) ≤ (k : Int) := by omega
      have d1 : (k : Int) < (l.length : Int) := by omega
      have d2 : (k : Int) + 1 ≤ 17592186044416 := by omega
      have hk2 : l[k]? = some l[k] := List.getElem?_eq_getElem hlt
      rcases HA.out with ⟨_, h0⟩ | ⟨ga, c1, e1, hca⟩
      · rw [h0] at hlt; simp at hlt
      rcases HB.out with ⟨_, h0⟩ | ⟨gb, c2, e2, hcb⟩
      · rw [h0] at hlt; simp at hlt
      have x1 := hca k _ hk2
      have x2 := hcb k _ hk2
      cases e1
      cases e2
      generalize l[k] = c at *
      have hne : (c != c) = false := by simp
      clear hca hcb hk2
      go_wp2_with fail
      go_quiet (fail)
      go_wp2_with fail
      go_roundg (l.length - (k + 1))
      case measure => omega
      case rel => exact ⟨k + 1, by omega, rfl, by go_num, ⟨_, rfl⟩⟩
    · have d1 : ¬ (k : Int) < (l.length : Int) := by omega
      go_wp2_with fail
      go_ret
      exact ⟨rfl, n, rfl⟩
def clipN (us : List Int) : List Int := us.map (fun u => (pickN u 100 : Int))
set_option maxRecDepth 100000 in
set_option maxHeartbeats 1000000 in
theorem clipped_any (vu : Value) (us : List Int) (w : World) (hu : ArgInts w vu us) (hl : us.length ≤ 17592186043904) (hr : ∀ u ∈ us, -9223372036854775808 ≤ u ∧ u ≤ 9223372036854775807) :
    Calls Tryd.prog 21 #[vu] w fun e w' => Below w.heap.size w w' ∧ ∃ v, e = .returned v ∧ w'.ownsRow w.heap.size 3 1 v us.length ((clipN us).map (.int .i64)) := by
  obtain ⟨i0, hi0, hz0, hz1, hz2⟩ := info_parts intInfo
  have HU := hid hu
  obtain ⟨p0, c0, e0⟩ := hu.slice
  subst e0
  have HR := hid hr
  clear hu hr
  go_enter Tryd.func21, Tryd.ntmps21
  go_wp2_with fail
  go_loopg [3, 4] us.length (fun g l x w' => ∃ k : Nat, k ≤ us.length ∧ g = us.length - k ∧ x = .int .i64 k ∧ w'.ownsRow w.heap.size 3 1 l k ((clipN (us.take k)).map (.int .i64)) ∧ Below w.heap.size w w')
  case atStart => exact ⟨0, by omega, by omega, rfl, World.ownsRow_nil _ _ _ _, Below.refl _ _⟩
  case round =>
    obtain ⟨k, hk, hg, rfl, hown, hbel⟩ := hrel
    have hz := hbel.size
    have HB := hid hbel
    rcases Nat.lt_or_ge k us.length with hlt | hge
    · have d1 : (k : Int) < (us.length : Int) := by omega
      have d0 : (0 : Int) ≤ (k : Int) := by omega
      have d2 : (k : Int) + 1 ≤ 17592186044416 := by omega
      rcases (HU.out.keep hbel) with ⟨_, h0⟩ | ⟨a, cap, hv, hcell, _⟩
      · rw [h0] at hlt; simp at hlt
      cases hv
      have y0 := hcell k us[k] (List.getElem?_eq_getElem hlt)
      obtain ⟨m1, m2⟩ := HR.out us[k] (List.getElem_mem hlt)
      have hp := hid (pick_any us[k] 100 wr m1 m2 (by omega) (by omega))
      have HNX : Hid ((clipN (us.take (k + 1))).map (Value.int .i64) = (clipN (us.take k)).map (Value.int .i64) ++ [.int .i64 (pickN us[k] 100)]) := hid (by
        unfold clipN
        rw [List.take_succ_eq_append_getElem hlt, List.map_append, List.map_append]
        rfl)
      clear hcell hbel m1 m2
      generalize us[k] = u at *
      generalize (clipN (us.take k)).map (Value.int .i64) = R at *
      go_wp2_with fail
      refine hp.out.mono ?_
      clear hp
      intro e w5 hh
      obtain ⟨hx, hw⟩ := hh
      subst e
      subst w5
      generalize ((pickN u 100 : Nat) : Int) = qv at *
      go_wp2_with (at_builtin; go_must (refine wpList_append_lies _ (by rfl) _ _ _ (by rfl) w.heap.size 3 i0 _ 1 8 Tryd.underlying22 hi0 hz0 hz1 hz2 rfl (by omega) _ k R (by rfl) (hown.alloc _) ⟨wr.heap.size, 0, none⟩ 1 1 [.int .i64 qv] (by rfl) (by rfl) (World.news_of_block (cs := #[.int .i64 qv]) (t := 3) (fr := (0, 0)) (heap_alloc_new wr _)) (by simp [Value.oneCell']) (by omega) (by unfold maxLen; omega) (by omega) (by simp; omega) _ rfl ?_); intro gg gcap w6 hown6 hgrow6 hat6 hlt6)
      go_roundg (us.length - (k + 1))
      case measure => omega
      case rel =>
        refine ⟨k + 1, by omega, rfl, by go_num, ?_, ?_⟩
        · rw [HNX.out]
          exact hown6
        · exact (HB.out.alloc hz _).grown hgrow6 (by simp; omega) (fun j hj => (hown.lt j hj).1)
    · have d1 : ¬ (k : Int) < (us.length : Int) := by omega
      have hke : k = us.length := by omega
      have HO : Hid (wr.ownsRow w.heap.size 3 1 u3 us.length ((clipN us).map (.int .i64))) := hid (by
        rw [List.take_of_length_le (by omega), hke] at hown
        exact hown)
      clear hown hbel hke
      go_wp2_with fail
      go_ret
      exact ⟨HB.out, _, rfl, HO.out⟩
end Go.Proofs.YtdmdpindonghdabDoor
namespace Go.Proofs.YtdmdpindonghdabDoor
open Go.RowKit
theorem clip_fits (us : List Int) : (clipN us).all fitsB = true := by
  rw [List.all_eq_true]
  intro x hx
  obtain ⟨u, _, rfl⟩ := List.mem_map.1 hx
  have := pickN_lt u (n := 100) (by omega)
  unfold fitsB
  simp only [Bool.and_eq_true, decide_eq_true_eq]
  omega
theorem clip_len (us : List Int) : (clipN us).length = us.length := by simp [clipN]
theorem zsK_owns {w : World} {base : Nat} {v : Value} {o : List Int} (h : w.ownsRow base 3 1 v o.length (o.map (.int .i64))) : ZsAt w v o := by
  rcases h.2 with ⟨h1, h2⟩ | ⟨g, cap, cur, hv, hg, hh, h3, h4, h5, h6⟩
  · exact .inl ⟨h1, List.length_eq_zero_iff.1 h2⟩
  · refine .inr ⟨⟨g, 0, none⟩, cap, hv, fun j x hj => ?_⟩
    have hjl := (List.getElem?_eq_some_iff.1 hj).1
    rw [addr_add, cell_of_row w g j _ _ _ hh]
    rw [Nat.mul_one] at h6
    have : (cur.toList.take o.length)[j]? = (o.map (Value.int .i64))[j]? := by rw [h6]
    rw [List.getElem?_take, if_pos hjl, List.getElem?_map, hj, Array.getElem?_toList] at this
    exact this
theorem zsK_below {w w' : World} {v : Value} {zs : List Int} (h : ZsAt w v zs) (hb : Below w.heap.size w w') : ZsAt w' v zs := by
  rcases h with h | ⟨a, cap, hv, hc⟩
  · exact .inl h
  · exact .inr ⟨a, cap, hv, fun j x hj => (hb.cell (p := a.add j) (World.block_lt_of_cell? w _ (hc j x hj))).trans (hc j x hj)⟩
theorem argsK_owns {w : World} {base : Nat} {v : Value} {o : List Int} (h : w.ownsRow base 3 1 v o.length (o.map (.int .i64))) : ArgInts w v o := by
  rcases zsK_owns h with h1 | ⟨a, cap, hv, hc⟩
  · exact .inl h1
  · refine .inr ⟨a, cap, hv, hc, fun hp => ?_⟩
    have hx : o[0]? = some o[0] := List.getElem?_eq_getElem hp
    have := World.block_lt_of_cell? w _ (hc 0 _ hx)
    rw [addK_block] at this
    exact this
/-- The program's machine lies above B, and not where n2 ≤ k < N. -/
def PN (B n2 N : Nat) (W : World) (K : PK) (t : MS) : Prop := ∃ F, PX W K F t ∧ (∀ k, F k → B ≤ k ∧ (k < n2 ∨ N ≤ k)) ∧ B ≤ n2 ∧ n2 ≤ N ∧ N ≤ W.heap.size
def KeepN (n2 N : Nat) (w w' : World) : Prop := ∀ k, n2 ≤ k → k < N → w'.heap[k]? = w.heap[k]?
theorem PN.next {B n2 N : Nat} {w w' : World} {K : PK} {F : Nat → Prop} {t : MS} (hF : ∀ k, F k → B ≤ k ∧ (k < n2 ∨ N ≤ k)) (h1 : B ≤ n2) (h2 : n2 ≤ N) (h3 : N ≤ w.heap.size) (hp : PX w' K (Grown F w w') t) (ht : Touch F w w') : PN B n2 N w' K t ∧ KeepN n2 N w w' ∧ Below B w w' := by
  refine ⟨⟨_, hp, ?_, h1, h2, Nat.le_trans h3 ht.size⟩, fun k hk1 hk2 => ht.block k (by omega) (fun hf => by have := (hF k hf).2; omega), ht.sub (fun k hk => (hF k hk).1) (by omega)⟩
  rintro k (h | h)
  · exact hF k h
  · exact ⟨by omega, .inr (by omega)⟩
theorem pn_step {B n2 N : Nat} {w : World} {K : PK} {E : Env} {s : MS} (h : PN B n2 N w K s) (hke : KE K E) (he : EnvOk E) (hi : MInv E s) (hoc : s.oc = 0) (hz : E.zs.length ≤ 64) (hlen : s.out.length ≤ 8796093022208) :
    Calls Tryd.prog 25 #[.pointer (some ⟨K.b, 0, none⟩)] w fun e w' => e = .returned (.tuple #[.int .i64 (stepS E s).oc, .int .i64 0]) ∧ PN B n2 N w' K (stepS E s) ∧ KeepN n2 N w w' ∧ Below B w w' := by
  obtain ⟨F, h1, h2, h3, h4, h5⟩ := h
  refine (pstep_x h1 hke he hi hoc hz hlen).mono ?_
  rintro e w' ⟨a, b, c⟩
  exact ⟨a, PN.next h2 h3 h4 h5 b c⟩
theorem pn_coll {B n2 N : Nat} {w : World} {K : PK} {E : Env} {s : MS} (h : PN B n2 N w K s) (hke : KE K E) (he : EnvOk E) (hi : MInv E s) (n : Nat) (hn : n ≤ 1000) :
    Calls Tryd.prog 24 #[.pointer (some ⟨K.b, 0, none⟩), .int .i64 n] w fun e w' => e = .returned (.tuple #[.int .i64 (collS E n s).hs.2.1, .int .i64 0]) ∧ PN B n2 N w' K (collS E n s) ∧ KeepN n2 N w w' ∧ Below B w w' := by
  obtain ⟨F, h1, h2, h3, h4, h5⟩ := h
  refine (pcollect_x h1 hke he hi n hn).mono ?_
  rintro e w' ⟨a, b, c⟩
  exact ⟨a, PN.next h2 h3 h4 h5 (b.mono (fun _ h => .inl h)) c⟩
theorem PN.of {B : Nat} {w W : World} {K : PK} {s : MS} (h : PR B w K s) (hb : Below w.heap.size w W) : PN B w.heap.size W.heap.size W K s := by
  obtain ⟨F, h1, h2, h3⟩ := h
  exact ⟨_, h1.bound.below hb, fun k hk => ⟨h2 k hk.1, .inl hk.2⟩, h3, hb.size, Nat.le_refl _⟩
/-- Numbers in memory between n2 and N. -/
def ArgN (n2 N : Nat) (w : World) (v : Value) (zs : List Int) : Prop := ArgInts w v zs ∧ ∀ a n c, v = .slice (some a) n c → 0 < n → n2 ≤ a.block ∧ a.block < N
theorem ArgN.keep {n2 N : Nat} {w w' : World} {v : Value} {zs : List Int} (h : ArgN n2 N w v zs) (hk : KeepN n2 N w w') (hz : w.heap.size ≤ w'.heap.size) : ArgN n2 N w' v zs := by
  refine ⟨?_, h.2⟩
  rcases h.1 with h1 | ⟨a, cap, hv, hc, hl⟩
  · exact .inl h1
  · refine .inr ⟨a, cap, hv, fun j x hj => ?_, fun hp => Nat.lt_of_lt_of_le (hl hp) hz⟩
    have hz : 0 < zs.length := by have := (List.getElem?_eq_some_iff.1 hj).1; omega
    obtain ⟨g1, g2⟩ := h.2 a _ _ hv hz
    exact (World.cell?_of_block (a := a.add j) (by rw [addK_block]; exact hk _ g1 g2)).trans (hc j x hj)
theorem KeepN.trans {n2 N : Nat} {w w' w'' : World} (h : KeepN n2 N w w') (h' : KeepN n2 N w' w'') : KeepN n2 N w w'' := fun k a b => (h' k a b).trans (h k a b)
/-- What the loop of steps by hand comes to. -/
theorem run_done (E : Env) (us : List Int) (f k : Nat) (t : MS) (h : t.oc ≠ 0) : runS E us f k t = (k, t) := by
  cases f with
  | zero => rfl
  | succ f => simp only [runS, if_neg h]
set_option maxRecDepth 100000 in
set_option maxHeartbeats 2000000 in
theorem byhand_any (raw : ByteArray) (vi vu : Value) (zs us : List Int) (cells steps : Int) (w : World) (hr : raw.size ≤ maxLen) (ht : FlowTab w) (hv : ArgInts w vi zs) (hcap : ∀ p n c, vi = .slice p n c → n ≤ c ∧ c ≤ maxLen) (hu : ArgInts w vu us) (hul : us.length ≤ 17592186043904) (hur : ∀ u ∈ us, -9223372036854775808 ≤ u ∧ u ≤ 9223372036854775807)
    (hc1 : -9223372036854775808 ≤ cells) (hc2 : cells ≤ 9223372036854775807) (hs1 : -9223372036854775808 ≤ steps) (hs2 : steps ≤ 9223372036854775807) :
    Calls Tryd.prog 7 #[.string raw, vi, .int .i64 cells, vu, .int .i64 steps] w fun e w' => e = .returned (.bool true) ∧ Below w.heap.size w w' := by
  obtain ⟨q1, q2, q3, q4, q5⟩ := built_ok raw true
  obtain ⟨n1, n2⟩ := roomN_le cells
  have hsz : (builtS raw true).size ≤ maxLen := by
    have h1 := (errOf_zero q1).1
    obtain ⟨⟨⟨h3, h4⟩, _⟩, _⟩ : ((3 ≤ (builtS raw true).size ∧ (builtS raw true).size ≤ 122) ∧ byteAt (builtS raw true) 0 = 84) ∧ byteAt (builtS raw true) 1 ≤ 4 := by simpa [shapedP] using h1
    have : maxLen = 9223372036854775807 := rfl
    omega
  have hzl : (zs.take 64).length ≤ 64 := by rw [List.length_take]; omega
  have hrm := hid (room_any cells w hc1 hc2)
  have hbu := hid (built_any raw true w hr)
  have hso := hid (fun (W : World) (hb : Below w.heap.size w W) => some_any vi zs W (hv.keep hb) hcap)
  obtain ⟨x, hx⟩ : ∃ x, x = builtS raw true := ⟨_, rfl⟩
  rw [← hx] at hbu q1 q2 q3 q4 q5 hsz
  have hmd := hid (fun (W : World) (hb : Below w.heap.size w W) (v : Value) (hv : ArgInts W v (zs.take 64)) => made_any x v (zs.take 64) (roomN cells) W hsz (ht.below hb) hv hzl n1 n2 q1 q4)
  have hcl := hid (fun (W : World) (hb : Below w.heap.size w W) => clipped_any vu us W (hu.keep hb) hul hur)
  have hpq := hid (fun (W : World) => pick_any steps 400 W hs1 hs2 (by omega) (by omega))
  have hq4 := pickN_lt steps (n := 400) (by omega)
  have hle : (clipN us).length ≤ 17592186044416 := by rw [clip_len]; omega
  have hRE : RunErr x (zs.take 64).length ((roomN cells : Nat) : Int) (clipN us) ((pickN steps 400 : Nat) : Int) 0 := by
    refine .inr (.inr ⟨.inr (.inr (.inr ⟨.inr (.inl ⟨q1, q4, rfl⟩), by omega, by omega, hzl, rfl⟩)), clip_fits us, by omega, by omega, rfl⟩)
  have hru := hid (fun (W : World) (hb : Below w.heap.size w W) (v1 v2 : Value) (h1 : ArgInts W v1 (zs.take 64)) (h2 : ArgInts W v2 (clipN us)) => pRun_any x v1 v2 (zs.take 64) (clipN us) (roomN cells) (pickN steps 400) W hsz (ht.below hb) h1 h2 hle 0 hRE)
  have HX : Hid (errOf x = 0 ∧ WT (codeOf x) (byteAt x 1) ∧ Det (codeOf x) (byteAt x 1)) := hid ⟨q1, q4, q5⟩
  obtain ⟨p0, c0, e0⟩ := hv.slice
  subst e0
  obtain ⟨pu, cu, eu⟩ := hu.slice
  subst eu
  clear hr ht hv hcap hu hur hc1 hc2 hs1 hs2 q1 q2 q3 q4 q5 hsz hx hRE
  go_enter Tryd.func7, Tryd.ntmps7
  go_wp2_with fail
  refine hrm.out.mono ?_
  clear hrm
  intro e w1 hh
  obtain ⟨hx, hw⟩ := hh
  subst e
  subst w1
  go_wp2_with fail
  refine hbu.out.mono ?_
  clear hbu
  intro e w1 hh
  obtain ⟨hx, hb1⟩ := hh
  subst e
  have hs1 := hid (hso.out w1 hb1)
  have HB1 := hid hb1
  clear hb1
  go_wp2_with fail
  refine hs1.out.mono ?_
  clear hs1
  intro e w2 hh
  obtain ⟨⟨v1, hx, hv1⟩, hw⟩ := hh
  subst e
  subst w2
  have hm1 := hid (hmd.out w1 HB1.out v1 hv1)
  clear hv1 hmd
  go_wp2_with fail
  refine hm1.out.mono ?_
  clear hm1
  intro e w2 hh
  obtain ⟨K, hx, hM⟩ := hh
  subst e
  have hB2 := HB1.out.trans (hM.below.mono HB1.out.size)
  have hc2 := hid (hcl.out w2 hB2)
  have HB2 := hid hB2
  have HM := hid hM
  have hz12 := hM.below.size
  have hz01 := HB1.out.size
  clear hM hcl hB2
  go_wp2_with fail
  refine hc2.out.mono ?_
  clear hc2
  intro e w3 hh
  obtain ⟨hb3, vu', hx, hou⟩ := hh
  subst e
  rw [← clip_len us] at hou
  obtain ⟨pv, cv, ev⟩ := owns_slice hou
  subst ev
  have HB3 := hid (HB2.out.trans (hb3.mono HB2.out.size))
  have HAU := hid (argsK_owns hou)
  have HP3 := hid (HM.out.pr.keep hb3)
  have hgu : ∀ b, pv = some b → w2.heap.size ≤ b.block := by
    intro b hb
    rcases hou.2 with ⟨h1, _⟩ | ⟨g, cap, cur, h1, h2, _⟩
    · rw [hb] at h1; cases h1
    · rw [hb] at h1
      cases h1
      exact h2
  have hpq3 := hid (hpq.out w3)
  have hz23 := hb3.size
  have HB23 := hid hb3
  clear hb3 hou hpq
  obtain ⟨cus, hcus⟩ : ∃ cus, cus = clipN us := ⟨_, rfl⟩
  have HCF := hid (clip_fits us)
  rw [← hcus] at HAU hru hle HCF ⊢
  clear hcus
  go_wp2_with fail
  refine hpq3.out.mono ?_
  clear hpq3
  intro e w4 hh
  obtain ⟨hx, hw⟩ := hh
  subst e
  subst w4
  generalize pickN steps 400 = q at *
  have hs3 := hid (hso.out w3 HB3.out)
  clear hso
  go_wp2_with fail
  refine hs3.out.mono ?_
  clear hs3
  intro e w4 hh
  obtain ⟨⟨v2, hx, hv2⟩, hw⟩ := hh
  subst e
  subst w4
  have hr3 := hid (hru.out w3 HB3.out v2 (.slice pv cus.length cv) hv2 HAU.out)
  clear hru hv2
  go_wp2_with fail
  refine hr3.out.mono ?_
  clear hr3
  intro e w5 hh
  rcases hh with ⟨h0, _⟩ | ⟨_, n', q', hn', hq', _, _, _, hb5, fs', vo, he', hwt', hi', hs', hx, hown⟩
  · exact absurd rfl h0
  obtain rfl : n' = roomN cells := by omega
  obtain rfl : q' = q := by omega
  obtain ⟨hxe, hxw, hxd⟩ := HX.out
  have hM := HM.out
  have hE : envOf x fs' (zs.take 64) (roomN cells) = envOf x K.fs (zs.take 64) (roomN cells) := env_det hxe hxw hxd hM.set hM.still hi' hs'
  rw [hE] at hx hown
  have hke := hM.ke
  have hok := hM.ok
  have hin := hM.inv
  have hzs : (envOf x K.fs (zs.take 64) (roomN cells)).zs.length ≤ 64 := hzl
  have hol := run_out (envOf x K.fs (zs.take 64) (roomN cells)) cus q' 0 (startS (byteAt x 1) (roomN cells)) (Nat.le_refl _)
  obtain ⟨E, hEd⟩ : ∃ E, E = envOf x K.fs (zs.take 64) (roomN cells) := ⟨_, rfl⟩
  obtain ⟨s0, hs0⟩ : ∃ s0, s0 = startS (byteAt x 1) (roomN cells) := ⟨_, rfl⟩
  have h00 : s0.oc = 0 := by rw [hs0]; rfl
  have h01 : s0.out.length = 0 := by rw [hs0]; rfl
  rw [← hEd] at hke hok hin hzs hx hown hol
  rw [← hs0] at hin hx hown HP3 hol
  obtain ⟨R, hR⟩ : ∃ R, R = runS E cus q' 0 s0 := ⟨_, rfl⟩
  rw [← hR] at hx hown hol
  subst e
  obtain ⟨po', co', eo'⟩ := owns_slice hown
  subst eo'
  obtain ⟨oR, hoR⟩ : ∃ oR : Obj, oR = .cells #[.int .i64 R.2.oc, .int .i64 R.2.va, .int .i64 R.1, .slice po' R.2.out.length co'] 55 := ⟨_, rfl⟩
  have hb6 : Below w5.heap.size w5 (w5.alloc oR) := (Below.refl _ _).alloc (Nat.le_refl _) _
  have hb36 : Below w3.heap.size w3 (w5.alloc oR) := hb5.trans (hb6.mono hb5.size)
  have hz6 : (w5.alloc oR).heap.size = w5.heap.size + 1 := by simp
  have hz35 := hb5.size
  have HPN : Hid (PN w.heap.size w2.heap.size (w5.alloc oR).heap.size (w5.alloc oR) K s0) := hid (by
    have h1 := PN.of (hM.pr.mono hz01) (W := w5.alloc oR) (HB23.out.trans (hb36.mono hz23))
    rw [← hs0] at h1
    exact h1)
  have HAN : Hid (ArgN w2.heap.size (w5.alloc oR).heap.size (w5.alloc oR) (.slice pv cus.length cv) cus) := hid ⟨HAU.out.keep hb36, fun a n c h _ => by
    cases h
    refine ⟨hgu a rfl, ?_⟩
    rcases HAU.out with ⟨h1, _⟩ | ⟨a', cap, h1, _, h2⟩
    · cases h1
    · cases h1
      have := h2 (by assumption)
      omega⟩
  have HRB := hid (heap_alloc_new w5 oR)
  have HZO := hid (zsK_below (zsK_owns hown) hb6)
  have hgo : ∀ b, po' = some b → w2.heap.size ≤ b.block ∧ b.block < (w5.alloc oR).heap.size := by
    intro b hb
    rcases hown.2 with ⟨h1, _⟩ | ⟨g, cap, cur, h1, h2, h3, _⟩
    · rw [hb] at h1; cases h1
    · rw [hb] at h1
      cases h1
      have := (Array.getElem?_eq_some_iff.1 h3).1
      exact ⟨by simp only; omega, by simp only; omega⟩
  have HB6 := hid (HB3.out.trans (hb36.mono HB3.out.size))
  have HINV := hid hin
  have HRD := hid hR
  have hw2 : w2.heap.size ≤ w5.heap.size := by omega
  obtain ⟨N, hN⟩ : ∃ N, N = (w5.alloc oR).heap.size := ⟨_, rfl⟩
  have hNz : N = w5.heap.size + 1 := by rw [hN, hz6]
  rw [← hN] at HPN HAN hgo
  have HEQ := hid (show oR = .cells #[.int .i64 R.2.oc, .int .i64 R.2.va, .int .i64 R.1, .slice po' R.2.out.length co'] 55 from hoR)
  rw [hoR] at HPN HAN HRB HZO HB6
  unfold endV
  clear hin hR hE hxe hxw hxd hM HX HM he' hwt' hi' hs' hown hb5 hb6 hb36 HB1 HB2 HB3 HP3 HAU HB23 hs0 hEd hn' hq' hN hz6 hoR hgu
  rcases Nat.eq_zero_or_pos cus.length with hc0 | hc0
  · have hnil : cus = [] := List.length_eq_zero_iff.1 hc0
    subst hnil
    simp only [List.length_nil] at *
    go_wp2_with fail
    go_loopg [19, 20] q' (fun gk x y w' => ∃ (k : Nat) (t : MS) (b : Bool), k ≤ q' ∧ gk = q' - k ∧ x = .int .i64 k ∧ y = .bool b ∧ (b = true → t.oc = 0) ∧ (b = false → t.oc ≠ 0) ∧ PN w.heap.size w2.heap.size N w' K t ∧ MInv E t ∧ t.out.length ≤ k ∧ KeepN w2.heap.size N (w5.alloc (.cells #[.int .i64 R.2.oc, .int .i64 R.2.va, .int .i64 R.1, .slice po' R.2.out.length co'] 55)) w' ∧ Below w.heap.size w w' ∧ runS E [] (q' - k) k t = runS E [] q' 0 s0)
    case atStart => exact ⟨0, s0, true, by omega, by omega, rfl, rfl, fun _ => h00, fun h => by (cases h), HPN.out, HINV.out, by omega, fun _ _ _ => rfl, HB6.out, rfl⟩
    case round =>
      obtain ⟨k, t, b, hk, hgk, rfl, rfl, hbt, hbf, hP, hI, ho, hK, hB, hR⟩ := hrel
      have HP := hid hP
      have HI2 := hid hI
      have HB7 := hid hB
      have HK := hid hK
      have HR := hid hR
      clear hP hI hB hK hR HINV HB6
      rcases Nat.lt_or_ge k q' with hlt | hge
      · have d1 : (k : Int) < (q' : Int) := by omega
        cases b
        · have HEND : Hid (runS E [] (q' - k) k t = (k, t)) := hid (run_done E [] _ k t (hbf rfl))
          clear hbt hbf
          have hRk : R = (k, t) := by rw [HRD.out, ← HR.out]; exact HEND.out
          have hPX := HP.out
          obtain ⟨F, hpx, hF, _, _, _⟩ := HP.out
          have hst := hid (px_state hpx hke hok HI2.out)
          have HPX := hid hpx
          have hrb := (HK.out w5.heap.size (by omega) (by omega)).trans HRB.out
          have HRB2 := hid hrb
          have HZO2 : Hid (ZsAt wr (.slice po' R.2.out.length co') R.2.out) := hid (by
            rcases HZO.out with h1 | ⟨a, cap, h1, h2⟩
            · exact .inl h1
            · cases h1
              obtain ⟨g1, g2⟩ := hgo a rfl
              exact .inr ⟨a, co', rfl, fun j y hj => (World.cell?_of_block (a := a.add j) (by rw [addK_block]; exact HK.out _ g1 g2)).trans (h2 j y hj)⟩)
          have hzr : N ≤ wr.heap.size := by
            obtain ⟨_, _, _, _, _, h⟩ := HP.out
            exact h
          subst hRk
          simp only at hol HRB2 HZO2
          clear HP HRB HZO hpx hF hPX HR HEND HRD HAN HPN hrb HK
          go_wp2_with fail
          refine hst.out.mono ?_
          clear hst
          intro e w8 hh
          obtain ⟨pl, hb8, y1, y2, hx, o1, o2, _⟩ := hh
          subst e
          obtain ⟨z1, kz1, e1⟩ := owns_slice o1
          obtain ⟨z2, kz2, e2⟩ := owns_slice o2
          subst e1
          subst e2
          have hb9 : Below w8.heap.size w8 (w8.alloc (stBox t.oc t.va pl t.hs.2.1 t.hs.2.2 (.slice z1 (locsS E t).length kz1) (.slice z2 (stkS E t).length kz2))) := (Below.refl _ _).alloc (Nat.le_refl _) _
          have hb89 := hb8.trans (hb9.mono hb8.size)
          have hPX9 := HPX.out.below hb89
          have hou := hid (show Calls Tryd.prog 19 #[.pointer (some ⟨K.b, 0, none⟩)] _ (CopyPost t.out _) from by
            obtain ⟨vI, vO, lo4, st8, hm, _⟩ := hPX9
            exact poutput_any hm (by omega))
          have RB9 := hid ((hb89.block w5.heap.size (by omega)).trans HRB2.out)
          have ZO9 := hid (zsK_below HZO2.out hb89)
          have RS9 := hid (heap_alloc_new w8 (stBox t.oc t.va pl t.hs.2.1 t.hs.2.2 (.slice z1 (locsS E t).length kz1) (.slice z2 (stkS E t).length kz2)))
          have HB9 := hid (HB7.out.trans (hb89.mono HB7.out.size))
          have hz8 := hb8.size
          have hz9 : (w8.alloc (stBox t.oc t.va pl t.hs.2.1 t.hs.2.2 (.slice z1 (locsS E t).length kz1) (.slice z2 (stkS E t).length kz2))).heap.size = w8.heap.size + 1 := by simp
          unfold stBox at hou RB9 ZO9 RS9 HB9 hz9
          generalize (locsS E t).length = n3 at *
          generalize (stkS E t).length = n4 at *
          clear hb8 hb9 hb89 o1 o2 hPX9 HPX HRB2 HZO2 HB7 HI2
          go_wp2_with fail
          refine hou.out.mono ?_
          clear hou
          intro e w10 hh
          obtain ⟨hb10, vo2, hx, hown2⟩ := hh
          subst e
          obtain ⟨po2, co2, eo2⟩ := owns_slice hown2
          subst eo2
          have hz10 := hb10.size
          rw [hz9] at hz10
          have rB := (hb10.block w5.heap.size (by omega)).trans RB9.out
          have rS := (hb10.block w8.heap.size (by omega)).trans RS9.out
          have b0 := cell_of_row w10 w5.heap.size 0 _ _ _ rB
          have b1 := cell_of_row w10 w5.heap.size 1 _ _ _ rB
          have b2 := cell_of_row w10 w5.heap.size 2 _ _ _ rB
          have b3 := cell_of_row w10 w5.heap.size 3 _ _ _ rB
          simp only [List.getElem?_toArray, List.getElem?_cons_zero, List.getElem?_cons_succ] at b0 b1 b2 b3
          have HRB10 := hid rB
          have HRS10 := hid rS
          have hsk := hid (sameK_any t.out _ _ w10 (zsK_below ZO9.out hb10) (zsK_owns hown2) (by omega))
          have HB10 := hid (HB9.out.trans (hb10.mono HB9.out.size))
          clear hb10 hown2 ZO9 RB9 RS9 HB9 rB rS
          go_wp2_with fail
          refine hsk.out.mono ?_
          clear hsk
          intro e w11 hh
          obtain ⟨hx, nd, hw11⟩ := hh
          subst e
          have hbd : Below w10.heap.size w10 w11 := by rw [hw11]; exact ⟨rfl, rfl, rfl, Nat.le_refl _, fun _ _ => rfl⟩
          have rB := (hbd.block w5.heap.size (by omega)).trans HRB10.out
          have rS := (hbd.block w8.heap.size (by omega)).trans HRS10.out
          have d0 := cell_of_row w11 w5.heap.size 0 _ _ _ rB
          have d1' := cell_of_row w11 w5.heap.size 1 _ _ _ rB
          have d2' := cell_of_row w11 w5.heap.size 2 _ _ _ rB
          have f0 := cell_of_row w11 w8.heap.size 0 _ _ _ rS
          have f1 := cell_of_row w11 w8.heap.size 1 _ _ _ rS
          simp only [List.getElem?_toArray, List.getElem?_cons_zero, List.getElem?_cons_succ] at d0 d1' d2' f0 f1
          have HB11 := hid (HB10.out.trans (hbd.mono HB10.out.size))
          clear hbd rB rS HRB10 HRS10 HB10 hw11 b0 b1 b2 b3
          go_wp2_with fail
          go_ret
          exact ⟨rfl, HB11.out⟩
        · have h0 := hbt rfl
          have HR2 : Hid (runS E [] (q' - (k + 1)) (k + 1) (stepS E (preS E [] k t)) = runS E [] q' 0 s0) := hid (by
            have := HR.out
            rw [show q' - k = (q' - (k + 1)) + 1 by omega] at this
            simp only [runS, if_pos h0] at this
            exact this)
          have hst := hid (fun (W : World) (hW : PN w.heap.size w2.heap.size N W K (preS E [] k t)) => pn_step hW hke hok HI2.out.pre ((pre_oc E [] k t).1.trans h0) hzs (by rw [(pre_oc E [] k t).2]; omega))
          have hout : Hid ((stepS E (preS E [] k t)).out.length ≤ k + 1) := hid (by
            have := stepS_out E (preS E [] k t)
            rw [(pre_oc E [] k t).2] at this
            omega)
          have HI3 : Hid (MInv E (stepS E (preS E [] k t))) := hid (HI2.out.pre.step hok)
          clear hbt hbf h0 HR
          have HPr : Hid (preS E [] k t = t) := hid rfl
          have hs1 := hid (hst.out wr (by rw [HPr.out]; exact HP.out))
          clear hst HP HI2
          go_wp2_with fail
          refine hs1.out.mono ?_
          clear hs1
          intro e w8 hp
          obtain ⟨hx, hP2, hK2, hB2⟩ := hp
          subst e
          have HP2 := hid hP2
          have HB9 := hid (HB7.out.trans hB2)
          have HK9 := hid (HK.out.trans hK2)
          clear hP2 hB2 hK2
          go_wp2_with fail
          go_roundg (q' - (k + 1))
          case measure => omega
          case rel => exact ⟨k + 1, _, ((stepS E (preS E [] k t)).oc : Int) == 0, by omega, rfl, by go_num, rfl, fun h => by simpa using h, fun h => by simpa using h, HP2.out, HI3.out, hout.out, HK9.out, HB9.out, HR2.out⟩
      · have d1 : ¬ (k : Int) < (q' : Int) := by omega
        have HEND : Hid (runS E [] (q' - k) k t = (k, t)) := hid (by rw [show q' - k = 0 by omega]; rfl)
        clear hbt hbf
        have hRk : R = (k, t) := by rw [HRD.out, ← HR.out]; exact HEND.out
        have hPX := HP.out
        obtain ⟨F, hpx, hF, _, _, _⟩ := HP.out
        have hst := hid (px_state hpx hke hok HI2.out)
        have HPX := hid hpx
        have hrb := (HK.out w5.heap.size (by omega) (by omega)).trans HRB.out
        have HRB2 := hid hrb
        have HZO2 : Hid (ZsAt wr (.slice po' R.2.out.length co') R.2.out) := hid (by
          rcases HZO.out with h1 | ⟨a, cap, h1, h2⟩
          · exact .inl h1
          · cases h1
            obtain ⟨g1, g2⟩ := hgo a rfl
            exact .inr ⟨a, co', rfl, fun j y hj => (World.cell?_of_block (a := a.add j) (by rw [addK_block]; exact HK.out _ g1 g2)).trans (h2 j y hj)⟩)
        have hzr : N ≤ wr.heap.size := by
          obtain ⟨_, _, _, _, _, h⟩ := HP.out
          exact h
        subst hRk
        simp only at hol HRB2 HZO2
        clear HP HRB HZO hpx hF hPX HR HEND HRD HAN HPN hrb HK
        go_wp2_with fail
        refine hst.out.mono ?_
        clear hst
        intro e w8 hh
        obtain ⟨pl, hb8, y1, y2, hx, o1, o2, _⟩ := hh
        subst e
        obtain ⟨z1, kz1, e1⟩ := owns_slice o1
        obtain ⟨z2, kz2, e2⟩ := owns_slice o2
        subst e1
        subst e2
        have hb9 : Below w8.heap.size w8 (w8.alloc (stBox t.oc t.va pl t.hs.2.1 t.hs.2.2 (.slice z1 (locsS E t).length kz1) (.slice z2 (stkS E t).length kz2))) := (Below.refl _ _).alloc (Nat.le_refl _) _
        have hb89 := hb8.trans (hb9.mono hb8.size)
        have hPX9 := HPX.out.below hb89
        have hou := hid (show Calls Tryd.prog 19 #[.pointer (some ⟨K.b, 0, none⟩)] _ (CopyPost t.out _) from by
          obtain ⟨vI, vO, lo4, st8, hm, _⟩ := hPX9
          exact poutput_any hm (by omega))
        have RB9 := hid ((hb89.block w5.heap.size (by omega)).trans HRB2.out)
        have ZO9 := hid (zsK_below HZO2.out hb89)
        have RS9 := hid (heap_alloc_new w8 (stBox t.oc t.va pl t.hs.2.1 t.hs.2.2 (.slice z1 (locsS E t).length kz1) (.slice z2 (stkS E t).length kz2)))
        have HB9 := hid (HB7.out.trans (hb89.mono HB7.out.size))
        have hz8 := hb8.size
        have hz9 : (w8.alloc (stBox t.oc t.va pl t.hs.2.1 t.hs.2.2 (.slice z1 (locsS E t).length kz1) (.slice z2 (stkS E t).length kz2))).heap.size = w8.heap.size + 1 := by simp
        unfold stBox at hou RB9 ZO9 RS9 HB9 hz9
        generalize (locsS E t).length = n3 at *
        generalize (stkS E t).length = n4 at *
        clear hb8 hb9 hb89 o1 o2 hPX9 HPX HRB2 HZO2 HB7 HI2
        go_wp2_with fail
        refine hou.out.mono ?_
        clear hou
        intro e w10 hh
        obtain ⟨hb10, vo2, hx, hown2⟩ := hh
        subst e
        obtain ⟨po2, co2, eo2⟩ := owns_slice hown2
        subst eo2
        have hz10 := hb10.size
        rw [hz9] at hz10
        have rB := (hb10.block w5.heap.size (by omega)).trans RB9.out
        have rS := (hb10.block w8.heap.size (by omega)).trans RS9.out
        have b0 := cell_of_row w10 w5.heap.size 0 _ _ _ rB
        have b1 := cell_of_row w10 w5.heap.size 1 _ _ _ rB
        have b2 := cell_of_row w10 w5.heap.size 2 _ _ _ rB
        have b3 := cell_of_row w10 w5.heap.size 3 _ _ _ rB
        simp only [List.getElem?_toArray, List.getElem?_cons_zero, List.getElem?_cons_succ] at b0 b1 b2 b3
        have HRB10 := hid rB
        have HRS10 := hid rS
        have hsk := hid (sameK_any t.out _ _ w10 (zsK_below ZO9.out hb10) (zsK_owns hown2) (by omega))
        have HB10 := hid (HB9.out.trans (hb10.mono HB9.out.size))
        clear hb10 hown2 ZO9 RB9 RS9 HB9 rB rS
        go_wp2_with fail
        refine hsk.out.mono ?_
        clear hsk
        intro e w11 hh
        obtain ⟨hx, nd, hw11⟩ := hh
        subst e
        have hbd : Below w10.heap.size w10 w11 := by rw [hw11]; exact ⟨rfl, rfl, rfl, Nat.le_refl _, fun _ _ => rfl⟩
        have rB := (hbd.block w5.heap.size (by omega)).trans HRB10.out
        have rS := (hbd.block w8.heap.size (by omega)).trans HRS10.out
        have d0 := cell_of_row w11 w5.heap.size 0 _ _ _ rB
        have d1' := cell_of_row w11 w5.heap.size 1 _ _ _ rB
        have d2' := cell_of_row w11 w5.heap.size 2 _ _ _ rB
        have f0 := cell_of_row w11 w8.heap.size 0 _ _ _ rS
        have f1 := cell_of_row w11 w8.heap.size 1 _ _ _ rS
        simp only [List.getElem?_toArray, List.getElem?_cons_zero, List.getElem?_cons_succ] at d0 d1' d2' f0 f1
        have HB11 := hid (HB10.out.trans (hbd.mono HB10.out.size))
        clear hbd rB rS HRB10 HRS10 HB10 hw11 b0 b1 b2 b3
        go_wp2_with fail
        go_ret
        exact ⟨rfl, HB11.out⟩
  · go_wp2_with fail
    go_loopg [19, 20] q' (fun gk x y w' => ∃ (k : Nat) (t : MS) (b : Bool), k ≤ q' ∧ gk = q' - k ∧ x = .int .i64 k ∧ y = .bool b ∧ (b = true → t.oc = 0) ∧ (b = false → t.oc ≠ 0) ∧ PN w.heap.size w2.heap.size N w' K t ∧ MInv E t ∧ t.out.length ≤ k ∧ KeepN w2.heap.size N (w5.alloc (.cells #[.int .i64 R.2.oc, .int .i64 R.2.va, .int .i64 R.1, .slice po' R.2.out.length co'] 55)) w' ∧ Below w.heap.size w w' ∧ runS E cus (q' - k) k t = runS E cus q' 0 s0)
    case atStart => exact ⟨0, s0, true, by omega, by omega, rfl, rfl, fun _ => h00, fun h => by (cases h), HPN.out, HINV.out, by omega, fun _ _ _ => rfl, HB6.out, rfl⟩
    case round =>
      obtain ⟨k, t, b, hk, hgk, rfl, rfl, hbt, hbf, hP, hI, ho, hK, hB, hR⟩ := hrel
      have HP := hid hP
      have HI2 := hid hI
      have HB7 := hid hB
      have HK := hid hK
      have HR := hid hR
      clear hP hI hB hK hR HINV HB6
      rcases Nat.lt_or_ge k q' with hlt | hge
      · have d1 : (k : Int) < (q' : Int) := by omega
        cases b
        · have HEND : Hid (runS E cus (q' - k) k t = (k, t)) := hid (run_done E cus _ k t (hbf rfl))
          clear hbt hbf
          have hRk : R = (k, t) := by rw [HRD.out, ← HR.out]; exact HEND.out
          have hPX := HP.out
          obtain ⟨F, hpx, hF, _, _, _⟩ := HP.out
          have hst := hid (px_state hpx hke hok HI2.out)
          have HPX := hid hpx
          have hrb := (HK.out w5.heap.size (by omega) (by omega)).trans HRB.out
          have HRB2 := hid hrb
          have HZO2 : Hid (ZsAt wr (.slice po' R.2.out.length co') R.2.out) := hid (by
            rcases HZO.out with h1 | ⟨a, cap, h1, h2⟩
            · exact .inl h1
            · cases h1
              obtain ⟨g1, g2⟩ := hgo a rfl
              exact .inr ⟨a, co', rfl, fun j y hj => (World.cell?_of_block (a := a.add j) (by rw [addK_block]; exact HK.out _ g1 g2)).trans (h2 j y hj)⟩)
          have hzr : N ≤ wr.heap.size := by
            obtain ⟨_, _, _, _, _, h⟩ := HP.out
            exact h
          subst hRk
          simp only at hol HRB2 HZO2
          clear HP HRB HZO hpx hF hPX HR HEND HRD HAN HPN hrb HK
          go_wp2_with fail
          refine hst.out.mono ?_
          clear hst
          intro e w8 hh
          obtain ⟨pl, hb8, y1, y2, hx, o1, o2, _⟩ := hh
          subst e
          obtain ⟨z1, kz1, e1⟩ := owns_slice o1
          obtain ⟨z2, kz2, e2⟩ := owns_slice o2
          subst e1
          subst e2
          have hb9 : Below w8.heap.size w8 (w8.alloc (stBox t.oc t.va pl t.hs.2.1 t.hs.2.2 (.slice z1 (locsS E t).length kz1) (.slice z2 (stkS E t).length kz2))) := (Below.refl _ _).alloc (Nat.le_refl _) _
          have hb89 := hb8.trans (hb9.mono hb8.size)
          have hPX9 := HPX.out.below hb89
          have hou := hid (show Calls Tryd.prog 19 #[.pointer (some ⟨K.b, 0, none⟩)] _ (CopyPost t.out _) from by
            obtain ⟨vI, vO, lo4, st8, hm, _⟩ := hPX9
            exact poutput_any hm (by omega))
          have RB9 := hid ((hb89.block w5.heap.size (by omega)).trans HRB2.out)
          have ZO9 := hid (zsK_below HZO2.out hb89)
          have RS9 := hid (heap_alloc_new w8 (stBox t.oc t.va pl t.hs.2.1 t.hs.2.2 (.slice z1 (locsS E t).length kz1) (.slice z2 (stkS E t).length kz2)))
          have HB9 := hid (HB7.out.trans (hb89.mono HB7.out.size))
          have hz8 := hb8.size
          have hz9 : (w8.alloc (stBox t.oc t.va pl t.hs.2.1 t.hs.2.2 (.slice z1 (locsS E t).length kz1) (.slice z2 (stkS E t).length kz2))).heap.size = w8.heap.size + 1 := by simp
          unfold stBox at hou RB9 ZO9 RS9 HB9 hz9
          generalize (locsS E t).length = n3 at *
          generalize (stkS E t).length = n4 at *
          clear hb8 hb9 hb89 o1 o2 hPX9 HPX HRB2 HZO2 HB7 HI2
          go_wp2_with fail
          refine hou.out.mono ?_
          clear hou
          intro e w10 hh
          obtain ⟨hb10, vo2, hx, hown2⟩ := hh
          subst e
          obtain ⟨po2, co2, eo2⟩ := owns_slice hown2
          subst eo2
          have hz10 := hb10.size
          rw [hz9] at hz10
          have rB := (hb10.block w5.heap.size (by omega)).trans RB9.out
          have rS := (hb10.block w8.heap.size (by omega)).trans RS9.out
          have b0 := cell_of_row w10 w5.heap.size 0 _ _ _ rB
          have b1 := cell_of_row w10 w5.heap.size 1 _ _ _ rB
          have b2 := cell_of_row w10 w5.heap.size 2 _ _ _ rB
          have b3 := cell_of_row w10 w5.heap.size 3 _ _ _ rB
          simp only [List.getElem?_toArray, List.getElem?_cons_zero, List.getElem?_cons_succ] at b0 b1 b2 b3
          have HRB10 := hid rB
          have HRS10 := hid rS
          have hsk := hid (sameK_any t.out _ _ w10 (zsK_below ZO9.out hb10) (zsK_owns hown2) (by omega))
          have HB10 := hid (HB9.out.trans (hb10.mono HB9.out.size))
          clear hb10 hown2 ZO9 RB9 RS9 HB9 rB rS
          go_wp2_with fail
          refine hsk.out.mono ?_
          clear hsk
          intro e w11 hh
          obtain ⟨hx, nd, hw11⟩ := hh
          subst e
          have hbd : Below w10.heap.size w10 w11 := by rw [hw11]; exact ⟨rfl, rfl, rfl, Nat.le_refl _, fun _ _ => rfl⟩
          have rB := (hbd.block w5.heap.size (by omega)).trans HRB10.out
          have rS := (hbd.block w8.heap.size (by omega)).trans HRS10.out
          have d0 := cell_of_row w11 w5.heap.size 0 _ _ _ rB
          have d1' := cell_of_row w11 w5.heap.size 1 _ _ _ rB
          have d2' := cell_of_row w11 w5.heap.size 2 _ _ _ rB
          have f0 := cell_of_row w11 w8.heap.size 0 _ _ _ rS
          have f1 := cell_of_row w11 w8.heap.size 1 _ _ _ rS
          simp only [List.getElem?_toArray, List.getElem?_cons_zero, List.getElem?_cons_succ] at d0 d1' d2' f0 f1
          have HB11 := hid (HB10.out.trans (hbd.mono HB10.out.size))
          clear hbd rB rS HRB10 HRS10 HB10 hw11 b0 b1 b2 b3
          go_wp2_with fail
          go_ret
          exact ⟨rfl, HB11.out⟩
        · have h0 := hbt rfl
          have HR2 : Hid (runS E cus (q' - (k + 1)) (k + 1) (stepS E (preS E cus k t)) = runS E cus q' 0 s0) := hid (by
            have := HR.out
            rw [show q' - k = (q' - (k + 1)) + 1 by omega] at this
            simp only [runS, if_pos h0] at this
            exact this)
          have hst := hid (fun (W : World) (hW : PN w.heap.size w2.heap.size N W K (preS E cus k t)) => pn_step hW hke hok HI2.out.pre ((pre_oc E cus k t).1.trans h0) hzs (by rw [(pre_oc E cus k t).2]; omega))
          have hout : Hid ((stepS E (preS E cus k t)).out.length ≤ k + 1) := hid (by
            have := stepS_out E (preS E cus k t)
            rw [(pre_oc E cus k t).2] at this
            omega)
          have HI3 : Hid (MInv E (stepS E (preS E cus k t))) := hid (HI2.out.pre.step hok)
          clear hbt hbf h0 HR
          obtain ⟨m, hm0⟩ : ∃ m, m = k % cus.length := ⟨_, rfl⟩
          have hml : m < cus.length := by rw [hm0]; exact Nat.mod_lt _ hc0
          have hmod : (k : Int) % (cus.length : Int) = (m : Int) := by rw [hm0]; rfl
          have d3 : (0 : Int) ≤ (m : Int) := by omega
          have d4 : (m : Int) < (cus.length : Int) := by omega
          have q0 : (0 : Int) < (cus.length : Int) := by omega
          have hzr : (w5.alloc (.cells #[.int .i64 R.2.oc, .int .i64 R.2.va, .int .i64 R.1, .slice po' R.2.out.length co'] 55)).heap.size ≤ wr.heap.size := by
            obtain ⟨_, _, _, _, _, h⟩ := HP.out
            simp
            omega
          have hub := HAN.out.keep HK.out hzr
          rcases hub.1 with ⟨_, hn⟩ | ⟨a, cap, hv, hcell, _⟩
          · rw [hn] at hc0; simp at hc0
          cases hv
          have y0 := hcell m cus[m] (List.getElem?_eq_getElem hml)
          have hfit := List.all_eq_true.1 HCF.out cus[m] (List.getElem_mem hml)
          unfold fitsB at hfit
          simp only [Bool.and_eq_true, decide_eq_true_eq] at hfit
          obtain ⟨u, hu⟩ : ∃ u : Nat, cus[m] = (u : Int) := ⟨cus[m].toNat, by omega⟩
          rw [hu] at y0 hfit
          have HPr : Hid (preS E cus k t = collS E u t) := hid (by
            unfold preS
            rw [if_neg (by omega), ← hm0, List.getD_eq_getElem?_getD, List.getElem?_eq_getElem hml]
            simp [hu])
          have hcl := hid (pn_coll HP.out hke hok HI2.out u (by omega))
          clear hcell hub hu hfit hm0 HP HI2 hzr
          go_wp2_with fail
          refine hcl.out.mono ?_
          clear hcl
          intro e w7 hp
          obtain ⟨hx, hP1, hK1, hB1⟩ := hp
          subst e
          have hs1 := hid (hst.out w7 (by rw [HPr.out]; exact hP1))
          have HB8 := hid (HB7.out.trans hB1)
          have HK8 := hid (HK.out.trans hK1)
          clear hst hP1 hB1 hK1 HB7 HK y0
          go_wp2_with fail
          refine hs1.out.mono ?_
          clear hs1
          intro e w8 hp
          obtain ⟨hx, hP2, hK2, hB2⟩ := hp
          subst e
          have HP2 := hid hP2
          have HB9 := hid (HB8.out.trans hB2)
          have HK9 := hid (HK8.out.trans hK2)
          clear hP2 hB2 hK2
          go_wp2_with fail
          go_roundg (q' - (k + 1))
          case measure => omega
          case rel => exact ⟨k + 1, _, ((stepS E (preS E cus k t)).oc : Int) == 0, by omega, rfl, by go_num, rfl, fun h => by simpa using h, fun h => by simpa using h, HP2.out, HI3.out, hout.out, HK9.out, HB9.out, HR2.out⟩
      · have d1 : ¬ (k : Int) < (q' : Int) := by omega
        have HEND : Hid (runS E cus (q' - k) k t = (k, t)) := hid (by rw [show q' - k = 0 by omega]; rfl)
        clear hbt hbf
        have hRk : R = (k, t) := by rw [HRD.out, ← HR.out]; exact HEND.out
        have hPX := HP.out
        obtain ⟨F, hpx, hF, _, _, _⟩ := HP.out
        have hst := hid (px_state hpx hke hok HI2.out)
        have HPX := hid hpx
        have hrb := (HK.out w5.heap.size (by omega) (by omega)).trans HRB.out
        have HRB2 := hid hrb
        have HZO2 : Hid (ZsAt wr (.slice po' R.2.out.length co') R.2.out) := hid (by
          rcases HZO.out with h1 | ⟨a, cap, h1, h2⟩
          · exact .inl h1
          · cases h1
            obtain ⟨g1, g2⟩ := hgo a rfl
            exact .inr ⟨a, co', rfl, fun j y hj => (World.cell?_of_block (a := a.add j) (by rw [addK_block]; exact HK.out _ g1 g2)).trans (h2 j y hj)⟩)
        have hzr : N ≤ wr.heap.size := by
          obtain ⟨_, _, _, _, _, h⟩ := HP.out
          exact h
        subst hRk
        simp only at hol HRB2 HZO2
        clear HP HRB HZO hpx hF hPX HR HEND HRD HAN HPN hrb HK
        go_wp2_with fail
        refine hst.out.mono ?_
        clear hst
        intro e w8 hh
        obtain ⟨pl, hb8, y1, y2, hx, o1, o2, _⟩ := hh
        subst e
        obtain ⟨z1, kz1, e1⟩ := owns_slice o1
        obtain ⟨z2, kz2, e2⟩ := owns_slice o2
        subst e1
        subst e2
        have hb9 : Below w8.heap.size w8 (w8.alloc (stBox t.oc t.va pl t.hs.2.1 t.hs.2.2 (.slice z1 (locsS E t).length kz1) (.slice z2 (stkS E t).length kz2))) := (Below.refl _ _).alloc (Nat.le_refl _) _
        have hb89 := hb8.trans (hb9.mono hb8.size)
        have hPX9 := HPX.out.below hb89
        have hou := hid (show Calls Tryd.prog 19 #[.pointer (some ⟨K.b, 0, none⟩)] _ (CopyPost t.out _) from by
          obtain ⟨vI, vO, lo4, st8, hm, _⟩ := hPX9
          exact poutput_any hm (by omega))
        have RB9 := hid ((hb89.block w5.heap.size (by omega)).trans HRB2.out)
        have ZO9 := hid (zsK_below HZO2.out hb89)
        have RS9 := hid (heap_alloc_new w8 (stBox t.oc t.va pl t.hs.2.1 t.hs.2.2 (.slice z1 (locsS E t).length kz1) (.slice z2 (stkS E t).length kz2)))
        have HB9 := hid (HB7.out.trans (hb89.mono HB7.out.size))
        have hz8 := hb8.size
        have hz9 : (w8.alloc (stBox t.oc t.va pl t.hs.2.1 t.hs.2.2 (.slice z1 (locsS E t).length kz1) (.slice z2 (stkS E t).length kz2))).heap.size = w8.heap.size + 1 := by simp
        unfold stBox at hou RB9 ZO9 RS9 HB9 hz9
        generalize (locsS E t).length = n3 at *
        generalize (stkS E t).length = n4 at *
        clear hb8 hb9 hb89 o1 o2 hPX9 HPX HRB2 HZO2 HB7 HI2
        go_wp2_with fail
        refine hou.out.mono ?_
        clear hou
        intro e w10 hh
        obtain ⟨hb10, vo2, hx, hown2⟩ := hh
        subst e
        obtain ⟨po2, co2, eo2⟩ := owns_slice hown2
        subst eo2
        have hz10 := hb10.size
        rw [hz9] at hz10
        have rB := (hb10.block w5.heap.size (by omega)).trans RB9.out
        have rS := (hb10.block w8.heap.size (by omega)).trans RS9.out
        have b0 := cell_of_row w10 w5.heap.size 0 _ _ _ rB
        have b1 := cell_of_row w10 w5.heap.size 1 _ _ _ rB
        have b2 := cell_of_row w10 w5.heap.size 2 _ _ _ rB
        have b3 := cell_of_row w10 w5.heap.size 3 _ _ _ rB
        simp only [List.getElem?_toArray, List.getElem?_cons_zero, List.getElem?_cons_succ] at b0 b1 b2 b3
        have HRB10 := hid rB
        have HRS10 := hid rS
        have hsk := hid (sameK_any t.out _ _ w10 (zsK_below ZO9.out hb10) (zsK_owns hown2) (by omega))
        have HB10 := hid (HB9.out.trans (hb10.mono HB9.out.size))
        clear hb10 hown2 ZO9 RB9 RS9 HB9 rB rS
        go_wp2_with fail
        refine hsk.out.mono ?_
        clear hsk
        intro e w11 hh
        obtain ⟨hx, nd, hw11⟩ := hh
        subst e
        have hbd : Below w10.heap.size w10 w11 := by rw [hw11]; exact ⟨rfl, rfl, rfl, Nat.le_refl _, fun _ _ => rfl⟩
        have rB := (hbd.block w5.heap.size (by omega)).trans HRB10.out
        have rS := (hbd.block w8.heap.size (by omega)).trans HRS10.out
        have d0 := cell_of_row w11 w5.heap.size 0 _ _ _ rB
        have d1' := cell_of_row w11 w5.heap.size 1 _ _ _ rB
        have d2' := cell_of_row w11 w5.heap.size 2 _ _ _ rB
        have f0 := cell_of_row w11 w8.heap.size 0 _ _ _ rS
        have f1 := cell_of_row w11 w8.heap.size 1 _ _ _ rS
        simp only [List.getElem?_toArray, List.getElem?_cons_zero, List.getElem?_cons_succ] at d0 d1' d2' f0 f1
        have HB11 := hid (HB10.out.trans (hbd.mono HB10.out.size))
        clear hbd rB rS HRB10 HRS10 HB10 hw11 b0 b1 b2 b3
        go_wp2_with fail
        go_ret
        exact ⟨rfl, HB11.out⟩
end Go.Proofs.YtdmdpindonghdabDoor
namespace Go.Proofs.YtdmdpindonghdabDoor
open Go.RowKit
theorem conv12 (w : World) (a0 a1 a2 a3 a4 a5 a6 a7 a8 a9 b0 b1 : Int) : (convert 66 9 (.slice (some ⟨w.heap.size, 0, none⟩) 12 12)).run Tryd.prog (w.alloc (.cells #[.int .u8 a0, .int .u8 a1, .int .u8 a2, .int .u8 a3, .int .u8 a4, .int .u8 a5, .int .u8 a6, .int .u8 a7, .int .u8 a8, .int .u8 a9, .int .u8 b0, .int .u8 b1] 5)) = .ok (.string (strOfNums [a0, a1, a2, a3, a4, a5, a6, a7, a8, a9, b0, b1])) (w.alloc (.cells #[.int .u8 a0, .int .u8 a1, .int .u8 a2, .int .u8 a3, .int .u8 a4, .int .u8 a5, .int .u8 a6, .int .u8 a7, .int .u8 a8, .int .u8 a9, .int .u8 b0, .int .u8 b1] 5)) := by
  refine run_convert_bytes_arg (P := Tryd.prog) _ 66 5 Tryd.underlying66 Tryd.underlying5 w.heap.size 0 12 12 [a0, a1, a2, a3, a4, a5, a6, a7, a8, a9, b0, b1] rfl (fun i hi => ?_) 9 Tryd.underlying9
  rw [Nat.zero_add, cell_of_row _ w.heap.size i _ _ _ (heap_alloc_new w (.cells #[.int .u8 a0, .int .u8 a1, .int .u8 a2, .int .u8 a3, .int .u8 a4, .int .u8 a5, .int .u8 a6, .int .u8 a7, .int .u8 a8, .int .u8 a9, .int .u8 b0, .int .u8 b1] 5))]
  exact conv_get [a0, a1, a2, a3, a4, a5, a6, a7, a8, a9, b0, b1] i hi
theorem cv_1 (w : World) : (convert 66 9 (.slice (some ⟨w.heap.size + 1, 0, none⟩) 8 8)).run Tryd.prog ((w.alloc (.cells #[.int .u8 12, .int .u8 8, .int .u8 1] 5)).alloc (.cells #[.int .u8 21, .int .u8 9, .int .u8 8, .int .u8 0, .int .u8 20, .int .u8 11, .int .u8 19, .int .u8 27] 5)) = .ok (.string (strOfNums [21, 9, 8, 0, 20, 11, 19, 27])) ((w.alloc (.cells #[.int .u8 12, .int .u8 8, .int .u8 1] 5)).alloc (.cells #[.int .u8 21, .int .u8 9, .int .u8 8, .int .u8 0, .int .u8 20, .int .u8 11, .int .u8 19, .int .u8 27] 5)) := by
  have h := conv8 (w.alloc (.cells #[.int .u8 12, .int .u8 8, .int .u8 1] 5)) 21 9 8 0 20 11 19 27
  simp only [World.size_alloc] at h
  exact h
theorem cv_2 (w : World) : (convert 66 9 (.slice (some ⟨w.heap.size + 1 + 1, 0, none⟩) 12 12)).run Tryd.prog (((w.alloc (.cells #[.int .u8 12, .int .u8 8, .int .u8 1] 5)).alloc (.cells #[.int .u8 21, .int .u8 9, .int .u8 8, .int .u8 0, .int .u8 20, .int .u8 11, .int .u8 19, .int .u8 27] 5)).alloc (.cells #[.int .u8 13, .int .u8 9, .int .u8 7, .int .u8 0, .int .u8 17, .int .u8 9, .int .u8 7, .int .u8 1, .int .u8 15, .int .u8 0, .int .u8 8, .int .u8 1] 5)) = .ok (.string (strOfNums [13, 9, 7, 0, 17, 9, 7, 1, 15, 0, 8, 1])) (((w.alloc (.cells #[.int .u8 12, .int .u8 8, .int .u8 1] 5)).alloc (.cells #[.int .u8 21, .int .u8 9, .int .u8 8, .int .u8 0, .int .u8 20, .int .u8 11, .int .u8 19, .int .u8 27] 5)).alloc (.cells #[.int .u8 13, .int .u8 9, .int .u8 7, .int .u8 0, .int .u8 17, .int .u8 9, .int .u8 7, .int .u8 1, .int .u8 15, .int .u8 0, .int .u8 8, .int .u8 1] 5)) := by
  have h := conv12 ((w.alloc (.cells #[.int .u8 12, .int .u8 8, .int .u8 1] 5)).alloc (.cells #[.int .u8 21, .int .u8 9, .int .u8 8, .int .u8 0, .int .u8 20, .int .u8 11, .int .u8 19, .int .u8 27] 5)) 13 9 7 0 17 9 7 1 15 0 8 1
  simp only [World.size_alloc] at h
  exact h
theorem cv_3 (w : World) : (convert 66 9 (.slice (some ⟨w.heap.size + 1 + 1 + 1, 0, none⟩) 4 4)).run Tryd.prog ((((w.alloc (.cells #[.int .u8 12, .int .u8 8, .int .u8 1] 5)).alloc (.cells #[.int .u8 21, .int .u8 9, .int .u8 8, .int .u8 0, .int .u8 20, .int .u8 11, .int .u8 19, .int .u8 27] 5)).alloc (.cells #[.int .u8 13, .int .u8 9, .int .u8 7, .int .u8 0, .int .u8 17, .int .u8 9, .int .u8 7, .int .u8 1, .int .u8 15, .int .u8 0, .int .u8 8, .int .u8 1] 5)).alloc (.cells #[.int .u8 13, .int .u8 10, .int .u8 19, .int .u8 3] 5)) = .ok (.string (strOfNums [13, 10, 19, 3])) ((((w.alloc (.cells #[.int .u8 12, .int .u8 8, .int .u8 1] 5)).alloc (.cells #[.int .u8 21, .int .u8 9, .int .u8 8, .int .u8 0, .int .u8 20, .int .u8 11, .int .u8 19, .int .u8 27] 5)).alloc (.cells #[.int .u8 13, .int .u8 9, .int .u8 7, .int .u8 0, .int .u8 17, .int .u8 9, .int .u8 7, .int .u8 1, .int .u8 15, .int .u8 0, .int .u8 8, .int .u8 1] 5)).alloc (.cells #[.int .u8 13, .int .u8 10, .int .u8 19, .int .u8 3] 5)) := by
  have h := conv4 (((w.alloc (.cells #[.int .u8 12, .int .u8 8, .int .u8 1] 5)).alloc (.cells #[.int .u8 21, .int .u8 9, .int .u8 8, .int .u8 0, .int .u8 20, .int .u8 11, .int .u8 19, .int .u8 27] 5)).alloc (.cells #[.int .u8 13, .int .u8 9, .int .u8 7, .int .u8 0, .int .u8 17, .int .u8 9, .int .u8 7, .int .u8 1, .int .u8 15, .int .u8 0, .int .u8 8, .int .u8 1] 5)) 13 10 19 3
  simp only [World.size_alloc] at h
  exact h
theorem cv_4 (w : World) : (convert 66 9 (.slice (some ⟨w.heap.size + 1 + 1 + 1 + 1, 0, none⟩) 6 6)).run Tryd.prog (((((w.alloc (.cells #[.int .u8 12, .int .u8 8, .int .u8 1] 5)).alloc (.cells #[.int .u8 21, .int .u8 9, .int .u8 8, .int .u8 0, .int .u8 20, .int .u8 11, .int .u8 19, .int .u8 27] 5)).alloc (.cells #[.int .u8 13, .int .u8 9, .int .u8 7, .int .u8 0, .int .u8 17, .int .u8 9, .int .u8 7, .int .u8 1, .int .u8 15, .int .u8 0, .int .u8 8, .int .u8 1] 5)).alloc (.cells #[.int .u8 13, .int .u8 10, .int .u8 19, .int .u8 3] 5)).alloc (.cells #[.int .u8 7, .int .u8 1, .int .u8 12, .int .u8 18, .int .u8 20, .int .u8 45] 5)) = .ok (.string (strOfNums [7, 1, 12, 18, 20, 45])) (((((w.alloc (.cells #[.int .u8 12, .int .u8 8, .int .u8 1] 5)).alloc (.cells #[.int .u8 21, .int .u8 9, .int .u8 8, .int .u8 0, .int .u8 20, .int .u8 11, .int .u8 19, .int .u8 27] 5)).alloc (.cells #[.int .u8 13, .int .u8 9, .int .u8 7, .int .u8 0, .int .u8 17, .int .u8 9, .int .u8 7, .int .u8 1, .int .u8 15, .int .u8 0, .int .u8 8, .int .u8 1] 5)).alloc (.cells #[.int .u8 13, .int .u8 10, .int .u8 19, .int .u8 3] 5)).alloc (.cells #[.int .u8 7, .int .u8 1, .int .u8 12, .int .u8 18, .int .u8 20, .int .u8 45] 5)) := by
  have h := conv6 ((((w.alloc (.cells #[.int .u8 12, .int .u8 8, .int .u8 1] 5)).alloc (.cells #[.int .u8 21, .int .u8 9, .int .u8 8, .int .u8 0, .int .u8 20, .int .u8 11, .int .u8 19, .int .u8 27] 5)).alloc (.cells #[.int .u8 13, .int .u8 9, .int .u8 7, .int .u8 0, .int .u8 17, .int .u8 9, .int .u8 7, .int .u8 1, .int .u8 15, .int .u8 0, .int .u8 8, .int .u8 1] 5)).alloc (.cells #[.int .u8 13, .int .u8 10, .int .u8 19, .int .u8 3] 5)) 7 1 12 18 20 45
  simp only [World.size_alloc] at h
  exact h
theorem cv_5 (w : World) : (convert 66 9 (.slice (some ⟨w.heap.size + 1 + 1 + 1 + 1 + 1, 0, none⟩) 12 12)).run Tryd.prog ((((((w.alloc (.cells #[.int .u8 12, .int .u8 8, .int .u8 1] 5)).alloc (.cells #[.int .u8 21, .int .u8 9, .int .u8 8, .int .u8 0, .int .u8 20, .int .u8 11, .int .u8 19, .int .u8 27] 5)).alloc (.cells #[.int .u8 13, .int .u8 9, .int .u8 7, .int .u8 0, .int .u8 17, .int .u8 9, .int .u8 7, .int .u8 1, .int .u8 15, .int .u8 0, .int .u8 8, .int .u8 1] 5)).alloc (.cells #[.int .u8 13, .int .u8 10, .int .u8 19, .int .u8 3] 5)).alloc (.cells #[.int .u8 7, .int .u8 1, .int .u8 12, .int .u8 18, .int .u8 20, .int .u8 45] 5)).alloc (.cells #[.int .u8 7, .int .u8 1, .int .u8 16, .int .u8 22, .int .u8 7, .int .u8 1, .int .u8 14, .int .u8 0, .int .u8 8, .int .u8 1, .int .u8 19, .int .u8 27] 5)) = .ok (.string (strOfNums [7, 1, 16, 22, 7, 1, 14, 0, 8, 1, 19, 27])) ((((((w.alloc (.cells #[.int .u8 12, .int .u8 8, .int .u8 1] 5)).alloc (.cells #[.int .u8 21, .int .u8 9, .int .u8 8, .int .u8 0, .int .u8 20, .int .u8 11, .int .u8 19, .int .u8 27] 5)).alloc (.cells #[.int .u8 13, .int .u8 9, .int .u8 7, .int .u8 0, .int .u8 17, .int .u8 9, .int .u8 7, .int .u8 1, .int .u8 15, .int .u8 0, .int .u8 8, .int .u8 1] 5)).alloc (.cells #[.int .u8 13, .int .u8 10, .int .u8 19, .int .u8 3] 5)).alloc (.cells #[.int .u8 7, .int .u8 1, .int .u8 12, .int .u8 18, .int .u8 20, .int .u8 45] 5)).alloc (.cells #[.int .u8 7, .int .u8 1, .int .u8 16, .int .u8 22, .int .u8 7, .int .u8 1, .int .u8 14, .int .u8 0, .int .u8 8, .int .u8 1, .int .u8 19, .int .u8 27] 5)) := by
  have h := conv12 (((((w.alloc (.cells #[.int .u8 12, .int .u8 8, .int .u8 1] 5)).alloc (.cells #[.int .u8 21, .int .u8 9, .int .u8 8, .int .u8 0, .int .u8 20, .int .u8 11, .int .u8 19, .int .u8 27] 5)).alloc (.cells #[.int .u8 13, .int .u8 9, .int .u8 7, .int .u8 0, .int .u8 17, .int .u8 9, .int .u8 7, .int .u8 1, .int .u8 15, .int .u8 0, .int .u8 8, .int .u8 1] 5)).alloc (.cells #[.int .u8 13, .int .u8 10, .int .u8 19, .int .u8 3] 5)).alloc (.cells #[.int .u8 7, .int .u8 1, .int .u8 12, .int .u8 18, .int .u8 20, .int .u8 45] 5)) 7 1 16 22 7 1 14 0 8 1 19 27
  simp only [World.size_alloc] at h
  exact h
theorem cv_6 (w : World) : (convert 66 9 (.slice (some ⟨w.heap.size + 1 + 1 + 1 + 1 + 1 + 1, 0, none⟩) 3 3)).run Tryd.prog (((((((w.alloc (.cells #[.int .u8 12, .int .u8 8, .int .u8 1] 5)).alloc (.cells #[.int .u8 21, .int .u8 9, .int .u8 8, .int .u8 0, .int .u8 20, .int .u8 11, .int .u8 19, .int .u8 27] 5)).alloc (.cells #[.int .u8 13, .int .u8 9, .int .u8 7, .int .u8 0, .int .u8 17, .int .u8 9, .int .u8 7, .int .u8 1, .int .u8 15, .int .u8 0, .int .u8 8, .int .u8 1] 5)).alloc (.cells #[.int .u8 13, .int .u8 10, .int .u8 19, .int .u8 3] 5)).alloc (.cells #[.int .u8 7, .int .u8 1, .int .u8 12, .int .u8 18, .int .u8 20, .int .u8 45] 5)).alloc (.cells #[.int .u8 7, .int .u8 1, .int .u8 16, .int .u8 22, .int .u8 7, .int .u8 1, .int .u8 14, .int .u8 0, .int .u8 8, .int .u8 1, .int .u8 19, .int .u8 27] 5)).alloc (.cells #[.int .u8 1, .int .u8 0, .int .u8 0] 5)) = .ok (.string (strOfNums [1, 0, 0])) (((((((w.alloc (.cells #[.int .u8 12, .int .u8 8, .int .u8 1] 5)).alloc (.cells #[.int .u8 21, .int .u8 9, .int .u8 8, .int .u8 0, .int .u8 20, .int .u8 11, .int .u8 19, .int .u8 27] 5)).alloc (.cells #[.int .u8 13, .int .u8 9, .int .u8 7, .int .u8 0, .int .u8 17, .int .u8 9, .int .u8 7, .int .u8 1, .int .u8 15, .int .u8 0, .int .u8 8, .int .u8 1] 5)).alloc (.cells #[.int .u8 13, .int .u8 10, .int .u8 19, .int .u8 3] 5)).alloc (.cells #[.int .u8 7, .int .u8 1, .int .u8 12, .int .u8 18, .int .u8 20, .int .u8 45] 5)).alloc (.cells #[.int .u8 7, .int .u8 1, .int .u8 16, .int .u8 22, .int .u8 7, .int .u8 1, .int .u8 14, .int .u8 0, .int .u8 8, .int .u8 1, .int .u8 19, .int .u8 27] 5)).alloc (.cells #[.int .u8 1, .int .u8 0, .int .u8 0] 5)) := by
  have h := conv3 ((((((w.alloc (.cells #[.int .u8 12, .int .u8 8, .int .u8 1] 5)).alloc (.cells #[.int .u8 21, .int .u8 9, .int .u8 8, .int .u8 0, .int .u8 20, .int .u8 11, .int .u8 19, .int .u8 27] 5)).alloc (.cells #[.int .u8 13, .int .u8 9, .int .u8 7, .int .u8 0, .int .u8 17, .int .u8 9, .int .u8 7, .int .u8 1, .int .u8 15, .int .u8 0, .int .u8 8, .int .u8 1] 5)).alloc (.cells #[.int .u8 13, .int .u8 10, .int .u8 19, .int .u8 3] 5)).alloc (.cells #[.int .u8 7, .int .u8 1, .int .u8 12, .int .u8 18, .int .u8 20, .int .u8 45] 5)).alloc (.cells #[.int .u8 7, .int .u8 1, .int .u8 16, .int .u8 22, .int .u8 7, .int .u8 1, .int .u8 14, .int .u8 0, .int .u8 8, .int .u8 1, .int .u8 19, .int .u8 27] 5)) 1 0 0
  simp only [World.size_alloc] at h
  exact h
attribute [local go_sem] conv3 cv_1 cv_2 cv_3 cv_4 cv_5 cv_6
theorem turner_bytes : ((⟨#[84, 2]⟩ : ByteArray) ++ strOfNums [12, 8, 1] ++ strOfNums [21, 9, 8, 0, 20, 11, 19, 27] ++ strOfNums [13, 9, 7, 0, 17, 9, 7, 1, 15, 0, 8, 1] ++ strOfNums [13, 10, 19, 3] ++ strOfNums [7, 1, 12, 18, 20, 45] ++ strOfNums [7, 1, 16, 22, 7, 1, 14, 0, 8, 1, 19, 27] ++ strOfNums [1, 0, 0]).data.toList = imgC 2 tnC := by
  kernel_rfl
set_option maxRecDepth 100000 in
set_option maxHeartbeats 2000000 in
theorem turner_any (w : World) : Calls Tryd.prog 23 #[] w fun e w' => (∃ x : ByteArray, e = .returned (.string x) ∧ x.data.toList = imgC 2 tnC) ∧ Below w.heap.size w w' := by
  have HB : Hid (Below w.heap.size w (((((((w.alloc (.cells #[.int .u8 12, .int .u8 8, .int .u8 1] 5)).alloc (.cells #[.int .u8 21, .int .u8 9, .int .u8 8, .int .u8 0, .int .u8 20, .int .u8 11, .int .u8 19, .int .u8 27] 5)).alloc (.cells #[.int .u8 13, .int .u8 9, .int .u8 7, .int .u8 0, .int .u8 17, .int .u8 9, .int .u8 7, .int .u8 1, .int .u8 15, .int .u8 0, .int .u8 8, .int .u8 1] 5)).alloc (.cells #[.int .u8 13, .int .u8 10, .int .u8 19, .int .u8 3] 5)).alloc (.cells #[.int .u8 7, .int .u8 1, .int .u8 12, .int .u8 18, .int .u8 20, .int .u8 45] 5)).alloc (.cells #[.int .u8 7, .int .u8 1, .int .u8 16, .int .u8 22, .int .u8 7, .int .u8 1, .int .u8 14, .int .u8 0, .int .u8 8, .int .u8 1, .int .u8 19, .int .u8 27] 5)).alloc (.cells #[.int .u8 1, .int .u8 0, .int .u8 0] 5))) := hid ((((((((Below.refl _ _).alloc (Nat.le_refl _) _).alloc (by simp only [World.size_alloc]; omega) _).alloc (by simp only [World.size_alloc]; omega) _).alloc (by simp only [World.size_alloc]; omega) _).alloc (by simp only [World.size_alloc]; omega) _).alloc (by simp only [World.size_alloc]; omega) _).alloc (by simp only [World.size_alloc]; omega) _)
  have hz1 : ¬ 9223372036854775807 < 2 + (strOfNums [12, 8, 1]).size := by simp [strOfNums_size]
  have hz2 : ¬ 9223372036854775807 < 2 + (strOfNums [12, 8, 1]).size + (strOfNums [21, 9, 8, 0, 20, 11, 19, 27]).size := by simp [strOfNums_size]
  have hz3 : ¬ 9223372036854775807 < 2 + (strOfNums [12, 8, 1]).size + (strOfNums [21, 9, 8, 0, 20, 11, 19, 27]).size + (strOfNums [13, 9, 7, 0, 17, 9, 7, 1, 15, 0, 8, 1]).size := by simp [strOfNums_size]
  have hz4 : ¬ 9223372036854775807 < 2 + (strOfNums [12, 8, 1]).size + (strOfNums [21, 9, 8, 0, 20, 11, 19, 27]).size + (strOfNums [13, 9, 7, 0, 17, 9, 7, 1, 15, 0, 8, 1]).size + (strOfNums [13, 10, 19, 3]).size := by simp [strOfNums_size]
  have hz5 : ¬ 9223372036854775807 < 2 + (strOfNums [12, 8, 1]).size + (strOfNums [21, 9, 8, 0, 20, 11, 19, 27]).size + (strOfNums [13, 9, 7, 0, 17, 9, 7, 1, 15, 0, 8, 1]).size + (strOfNums [13, 10, 19, 3]).size + (strOfNums [7, 1, 12, 18, 20, 45]).size := by simp [strOfNums_size]
  have hz6 : ¬ 9223372036854775807 < 2 + (strOfNums [12, 8, 1]).size + (strOfNums [21, 9, 8, 0, 20, 11, 19, 27]).size + (strOfNums [13, 9, 7, 0, 17, 9, 7, 1, 15, 0, 8, 1]).size + (strOfNums [13, 10, 19, 3]).size + (strOfNums [7, 1, 12, 18, 20, 45]).size + (strOfNums [7, 1, 16, 22, 7, 1, 14, 0, 8, 1, 19, 27]).size := by simp [strOfNums_size]
  have hz7 : ¬ 9223372036854775807 < 2 + (strOfNums [12, 8, 1]).size + (strOfNums [21, 9, 8, 0, 20, 11, 19, 27]).size + (strOfNums [13, 9, 7, 0, 17, 9, 7, 1, 15, 0, 8, 1]).size + (strOfNums [13, 10, 19, 3]).size + (strOfNums [7, 1, 12, 18, 20, 45]).size + (strOfNums [7, 1, 16, 22, 7, 1, 14, 0, 8, 1, 19, 27]).size + (strOfNums [1, 0, 0]).size := by simp [strOfNums_size]
  go_enter Tryd.func23, Tryd.ntmps23
  go_wp2_with fail
  go_ret
  exact ⟨⟨_, rfl, turner_bytes⟩, HB.out⟩
end Go.Proofs.YtdmdpindonghdabDoor
namespace Go.Proofs.YtdmdpindonghdabDoor
open Go.RowKit
/-- The run of the image that turns a list round. -/
theorem run_turn {x : ByteArray} (hx : x.data.toList = imgC 2 tnC) {zt : List Int} (hnz : ∀ v ∈ zt, v ≠ 0) (h20 : zt.length ≤ 20) {cus : List Int} (hcf : cus.all fitsB = true) (hcul : cus.length ≤ 17592186044416) (n : Nat) (hn1 : zt.length < n) (hn2 : n ≤ 32) {vI vu : Value} {W : World} (hft : FlowTab W) (hv : ArgInts W vI zt) (hu : ArgInts W vu cus) :
    Calls Tryd.prog 22 #[.string x, vI, .int .i64 n, vu, .int .i64 2000] W fun e w' => ∃ (st : Int) (p : Option Addr) (c : Nat), e = .returned (.tuple #[.agg #[.int .i64 1, .int .i64 0, .int .i64 st, .slice p zt.length c], .int .i64 0]) ∧ Below W.heap.size W w' ∧ w'.ownsRow W.heap.size 3 1 (.slice p zt.length c) zt.length (zt.reverse.map (.int .i64)) := by
  obtain ⟨i1, i2, i3, i4, i5⟩ := tn_img hx
  have hXs : x.size ≤ maxLen := by
    have h1 := (errOf_zero i1).1
    obtain ⟨⟨⟨h3, h4⟩, _⟩, _⟩ : ((3 ≤ x.size ∧ x.size ≤ 122) ∧ byteAt x 0 = 84) ∧ byteAt x 1 ≤ 4 := by simpa [shapedP] using h1
    have : maxLen = 9223372036854775807 := rfl
    omega
  have hRE : RunErr x zt.length ((n : Nat) : Int) cus 2000 0 := .inr (.inr ⟨.inr (.inr (.inr ⟨.inr (.inl ⟨i1, i4, rfl⟩), by omega, by omega, by omega, rfl⟩)), hcf, by omega, by omega, rfl⟩)
  refine (pRun_any x vI vu zt cus n 2000 W hXs hft hv hu hcul 0 hRE).mono ?_
  intro e w' hh
  rcases hh with ⟨h0, _⟩ | ⟨_, n', q', hn', hq', _, _, _, hb5, fs', vo, he', hwt', hi', hs', hx, hown⟩
  · exact absurd rfl h0
  obtain rfl : n' = n := by omega
  obtain rfl : q' = 2000 := by omega
  have hok : EnvOk (envOf x fs' zt n') := env_ok i1 i4 hi' hs' (by omega) hn2
  have hnm : NoMix (envOf x fs' zt n') := noMix_of i1 i4 hi' hs' i5
  have hTZ : TZ (envOf x fs' zt n') 0 [] (startS (byteAt x 1) n') := by
    refine ⟨start_inv_m hok, GS.start _ _, ?_⟩
    rw [i3]
    rfl
  have hrun := tn_run hok hnm (show codeOf x = tnL from i2) cus hnz hn1 h20 hTZ
  obtain ⟨r1, r2, r3⟩ := hrun
  rw [r3] at hown
  have e3 : (envOf x fs' zt n').zs = zt := rfl
  rw [e3, List.length_reverse] at hown
  obtain ⟨p, c, ev⟩ := owns_slice hown
  subst ev
  refine ⟨((runS (envOf x fs' zt n') cus 2000 0 (startS (byteAt x 1) n')).1 : Int), p, c, ?_, hb5, hown⟩
  rw [hx]
  unfold endV
  rw [r1, r2]
  rfl
theorem Below.drewN' (w : World) (n : Nat) : Below w.heap.size w (w.drewN n) := ⟨rfl, rfl, rfl, Nat.le_refl _, fun _ _ => rfl⟩
/-- A 0 is taken for a 1. -/
def oneZ (v : Int) : Int := if v = 0 then 1 else v
theorem oneZ_ne (v : Int) : oneZ v ≠ 0 := by unfold oneZ; split <;> omega
def inN (zs : List Int) : List Int := (zs.take 20).map oneZ
theorem inN_len (zs : List Int) : (inN zs).length ≤ 20 := by simp [inN]; omega
theorem inN_ne (zs : List Int) : ∀ v ∈ inN zs, v ≠ 0 := by
  intro v hv
  obtain ⟨u, _, rfl⟩ := List.mem_map.1 hv
  exact oneZ_ne u
set_option maxRecDepth 100000 in
set_option maxHeartbeats 20000000 in
theorem turned_any (vi vu : Value) (zs us : List Int) (cells : Int) (w : World) (ht : FlowTab w) (hv : ArgInts w vi zs) (hzl : zs.length ≤ 17592186043904) (hu : ArgInts w vu us) (hul : us.length ≤ 17592186043904) (hur : ∀ u ∈ us, -9223372036854775808 ≤ u ∧ u ≤ 9223372036854775807)
    (hc1 : -9223372036854775808 ≤ cells) (hc2 : cells ≤ 9223372036854775807) :
    Calls Tryd.prog 6 #[vi, .int .i64 cells, vu] w fun e w' => e = .returned (.bool true) ∧ Below w.heap.size w w' := by
  obtain ⟨i0, hi0, hz0, hz1, hz2⟩ := info_parts intInfo
  have HV := hid hv
  obtain ⟨p0, c0, e0⟩ := hv.slice
  subst e0
  obtain ⟨pu, cu, eu⟩ := hu.slice
  subst eu
  have hcl := hid (fun (W : World) (hb : Below w.heap.size w W) => clipped_any (.slice pu us.length cu) us W (hu.keep hb) hul hur)
  have HFT := hid ht
  obtain ⟨N, hN⟩ : ∃ N, N = (inN zs).length := ⟨_, rfl⟩
  have hN20 : N ≤ 20 := by rw [hN]; exact inN_len zs
  have hNz : N ≤ zs.length := by rw [hN]; simp [inN]; omega
  have hNd : N = 20 ∨ N = zs.length := by rw [hN]; simp [inN]; omega
  clear ht hv hu hur
  go_enter Tryd.func6, Tryd.ntmps6
  go_wp2_with fail
  go_loopg [7, 9] N (fun g l x w' => ∃ k : Nat, k ≤ N ∧ g = N - k ∧ x = .int .i64 k ∧ w'.ownsRow w.heap.size 3 1 l k (((inN zs).take k).map (.int .i64)) ∧ Below w.heap.size w w')
  case atStart => exact ⟨0, by omega, by omega, rfl, World.ownsRow_nil _ _ _ _, Below.refl _ _⟩
  case round =>
    obtain ⟨k, hk, hg, rfl, hown, hbel⟩ := hrel
    have hz := hbel.size
    have HB := hid hbel
    have d0 : (0 : Int) ≤ (k : Int) := by omega
    rcases Nat.lt_or_ge k N with hlt | hge
    · have hlz : k < zs.length := by omega
      have d1 : (k : Int) < (zs.length : Int) := by omega
      have d2 : (k : Int) < 20 := by omega
      have d3 : (k : Int) + 1 ≤ 17592186044416 := by omega
      rcases (HV.out.keep hbel) with ⟨_, h0⟩ | ⟨a, cap, hv, hcell, _⟩
      · rw [h0] at hlz; simp at hlz
      cases hv
      have y0 := hcell k zs[k] (List.getElem?_eq_getElem hlz)
      have hgN : (inN zs)[k]? = some (oneZ zs[k]) := by
        unfold inN
        rw [List.getElem?_map, List.getElem?_take, if_pos (by omega), List.getElem?_eq_getElem hlz]
        rfl
      have HNX : Hid (((inN zs).take (k + 1)).map (Value.int .i64) = ((inN zs).take k).map (Value.int .i64) ++ [.int .i64 (oneZ zs[k])]) := hid (by
        rw [List.take_add_one, hgN, List.map_append]
        rfl)
      clear hcell hbel hgN
      generalize zs[k] = u at *
      generalize ((inN zs).take k).map (Value.int .i64) = R at *
      by_cases hu0 : u = 0
      · have e1 : oneZ u = 1 := by unfold oneZ; rw [if_pos hu0]
        rw [e1] at HNX
        clear e1
        go_wp2_with (at_builtin; go_must (refine wpList_append_lies _ (by rfl) _ _ _ (by rfl) w.heap.size 3 i0 _ 1 8 Tryd.underlying22 hi0 hz0 hz1 hz2 rfl (by omega) _ k R (by rfl) (hown.alloc _) ⟨wr.heap.size, 0, none⟩ 1 1 [.int .i64 1] (by rfl) (by rfl) (World.news_of_block (cs := #[.int .i64 1]) (t := 3) (fr := (0, 0)) (heap_alloc_new wr _)) (by simp [Value.oneCell']) (by omega) (by unfold maxLen; omega) (by omega) (by simp; omega) _ rfl ?_); intro gg gcap w6 hown6 hgrow6 hat6 hlt6)
        go_roundg (N - (k + 1))
        case measure => omega
        case rel =>
          refine ⟨k + 1, by omega, rfl, by go_num, ?_, ?_⟩
          · rw [HNX.out]
            exact hown6
          · exact (HB.out.alloc hz _).grown hgrow6 (by simp; omega) (fun j hj => (hown.lt j hj).1)
      · have e1 : oneZ u = u := by unfold oneZ; rw [if_neg hu0]
        rw [e1] at HNX
        have q0 : (u == 0) = false := by simp [hu0]
        clear e1 hu0
        go_wp2_with (at_builtin; go_must (refine wpList_append_lies _ (by rfl) _ _ _ (by rfl) w.heap.size 3 i0 _ 1 8 Tryd.underlying22 hi0 hz0 hz1 hz2 rfl (by omega) _ k R (by rfl) (hown.alloc _) ⟨wr.heap.size, 0, none⟩ 1 1 [.int .i64 u] (by rfl) (by rfl) (World.news_of_block (cs := #[.int .i64 u]) (t := 3) (fr := (0, 0)) (heap_alloc_new wr _)) (by simp [Value.oneCell']) (by omega) (by unfold maxLen; omega) (by omega) (by simp; omega) _ rfl ?_); intro gg gcap w6 hown6 hgrow6 hat6 hlt6; apply Hid.out)
        refine hid ?_
        repeat (first | go_values | go_skip | go_guarded | go_step | go_upon)
        go_roundg (N - (k + 1))
        case measure => omega
        case rel =>
          refine ⟨k + 1, by omega, rfl, by go_num, ?_, ?_⟩
          · rw [HNX.out]
            exact hown6
          · exact (HB.out.alloc hz _).grown hgrow6 (by simp; omega) (fun j hj => (hown.lt j hj).1)
    · have hke : k = N := by omega
      have HIN : Hid (ArgInts wr u7 (inN zs)) := hid (by
        rw [List.take_of_length_le (by omega), hke, hN] at hown
        exact argsK_owns hown)
      obtain ⟨pi, ci, ei⟩ := HIN.out.slice
      subst ei
      have HNL : Hid ((inN zs).length = N) := hid hN.symm
      clear hown hbel hz
      subst hke
      rw [← hN] at HIN ⊢
      clear hN
      by_cases hkz : (k : Int) < (zs.length : Int)
      · have d2 : ¬ (k : Int) < 20 := by omega
        go_wp2_with fail
        generalize wr = W0 at *
        go_loopg [8, 11] k (fun g l x w' => ∃ j m : Nat, j + m = k ∧ g = m ∧ x = .int .i64 ((m : Int) - 1) ∧ w'.ownsRow W0.heap.size 3 1 l j (((inN zs).reverse.take j).map (.int .i64)) ∧ Below W0.heap.size W0 w')
        case atStart => exact ⟨0, k, by omega, rfl, by go_num, World.ownsRow_nil _ _ _ _, Below.refl _ _⟩
        case round =>
          obtain ⟨j, m, hjm, hg2, rfl, hown, hbel⟩ := hrel
          have hzw := hbel.size
          have HB2 := hid hbel
          cases m with
          | succ m =>
            have e1 : ((m + 1 : Nat) : Int) - 1 = (m : Int) := by omega
            rw [e1]
            clear e1
            have t0 : (0 : Int) ≤ (m : Int) := by omega
            have t1 : (m : Int) < (k : Int) := by omega
            have t2 : -9223372036854775808 ≤ (m : Int) - 1 := by omega
            have t3 : (m : Int) - 1 ≤ 9223372036854775807 := by omega
            have hml : m < (inN zs).length := by rw [HNL.out]; omega
            rcases (HIN.out.keep hbel) with ⟨_, h0⟩ | ⟨a, cap, hv2, hcell2, _⟩
            · rw [h0] at hml; simp at hml
            cases hv2
            have y0 := hcell2 m (inN zs)[m] (List.getElem?_eq_getElem hml)
            have hgR : (inN zs).reverse[j]? = some (inN zs)[m] := by
              rw [List.getElem?_reverse (by omega), show (inN zs).length - 1 - j = m by omega]
              exact List.getElem?_eq_getElem hml
            have HNX : Hid (((inN zs).reverse.take (j + 1)).map (Value.int .i64) = ((inN zs).reverse.take j).map (Value.int .i64) ++ [.int .i64 (inN zs)[m]]) := hid (by
              rw [List.take_add_one, hgR, List.map_append]
              rfl)
            clear hcell2 hbel hgR
            generalize (inN zs)[m] = u at *
            generalize ((inN zs).reverse.take j).map (Value.int .i64) = R at *
            go_wp2_with (at_builtin; go_must (refine wpList_append_lies _ (by rfl) _ _ _ (by rfl) W0.heap.size 3 i0 _ 1 8 Tryd.underlying22 hi0 hz0 hz1 hz2 rfl (by omega) _ j R (by rfl) (hown.alloc _) ⟨wr.heap.size, 0, none⟩ 1 1 [.int .i64 u] (by rfl) (by rfl) (World.news_of_block (cs := #[.int .i64 u]) (t := 3) (fr := (0, 0)) (heap_alloc_new wr _)) (by simp [Value.oneCell']) (by omega) (by unfold maxLen; omega) (by omega) (by simp; omega) _ rfl ?_); intro gg gcap w6 hown6 hgrow6 hat6 hlt6)
            go_roundg m
            case measure => omega
            case rel =>
              refine ⟨j + 1, m, by omega, rfl, by go_num, ?_, ?_⟩
              · rw [HNX.out]
                exact hown6
              · exact (HB2.out.alloc hzw _).grown hgrow6 (by simp; omega) (fun j hj => (hown.lt j hj).1)
          | zero =>
            have hjk : j = k := by omega
            subst hjk
            have HWN : Hid (wr.ownsRow W0.heap.size 3 1 u8 (inN zs).reverse.length ((inN zs).reverse.map (.int .i64))) := hid (by
              have hlen := HNL.out
              rw [List.take_of_length_le (by simp; omega)] at hown
              rw [List.length_reverse, hlen]
              exact hown)
            obtain ⟨pw, cw, ew⟩ := owns_slice HWN.out
            subst ew
            have e2 : ((0 : Nat) : Int) - 1 = -1 := by omega
            rw [e2]
            clear e2 hown hbel
            have HBW := hid (HB.out.trans (HB2.out.mono HB.out.size))
            have hc6 := hid (hcl.out wr HBW.out)
            clear hcl
            go_wp2_with fail
            refine hc6.out.mono ?_
            clear hc6
            intro e w7 hh
            obtain ⟨hb7, vu7, hx, hou⟩ := hh
            subst e
            rw [← clip_len us] at hou
            obtain ⟨pv, cv, ev⟩ := owns_slice hou
            subst ev
            have HAU := hid (argsK_owns hou)
            have HB7 := hid (HBW.out.trans (hb7.mono HBW.out.size))
            have HIN7 := hid ((HIN.out.keep HB2.out).keep hb7)
            have HWN7 := hid (owns_keep HWN.out (fun g hg => hb7.block g (HWN.out.lt g hg).2))
            obtain ⟨cus, hcus⟩ : ∃ cus, cus = clipN us := ⟨_, rfl⟩
            rw [← hcus] at HAU ⊢
            have hcf : cus.all fitsB = true := by rw [hcus]; exact clip_fits us
            have hcul : cus.length ≤ 17592186044416 := by rw [hcus, clip_len]; omega
            have hlen := HNL.out
            have hpk := hid (fun (W : World) => pick_any cells (33 - (j + 1)) W hc1 hc2 (by omega) (by omega))
            have hplt := pickN_lt cells (n := 33 - (j + 1)) (by omega)
            have hcast : ((33 - (j + 1) : Nat) : Int) = 33 - ((j : Int) + 1) := by omega
            obtain ⟨pn, hpn⟩ : ∃ pn, pn = pickN cells (33 - (j + 1)) := ⟨_, rfl⟩
            rw [← hpn] at hpk hplt
            rw [hcast] at hpk
            have htu := hid (fun (W : World) => turner_any W)
            have hru := hid (fun (W : World) (hb : Below w7.heap.size w7 W) (x : ByteArray) (hx : x.data.toList = imgC 2 tnC) => (run_turn hx (inN_ne zs) (inN_len zs) hcf hcul (j + 1 + pn) (by omega) (by omega) (HFT.out.below (HB7.out.trans (hb.mono HB7.out.size))) (HIN7.out.keep hb) (HAU.out.keep hb)).mono (R' := fun e w' => ∃ (st : Int) (p : Option Addr) (c : Nat), e = .returned (.tuple #[.agg #[.int .i64 1, .int .i64 0, .int .i64 st, .slice p j c], .int .i64 0]) ∧ Below W.heap.size W w' ∧ Below w7.heap.size w7 w' ∧ w'.ownsRow W.heap.size 3 1 (.slice p j c) (inN zs).reverse.length ((inN zs).reverse.map (.int .i64))) (fun e w' hh => by
              obtain ⟨st, p, c, h1, h2, h3⟩ := hh
              rw [hlen] at h1 h3
              exact ⟨st, p, c, h1, h2, hb.trans (h2.mono hb.size), by rw [List.length_reverse, hlen]; exact h3⟩))
            have m1 : (j : Int) + 1 ≤ 21 := by omega
            have m2 : (0 : Int) ≤ (j : Int) := by omega
            have m3 : (pn : Int) ≤ 31 := by omega
            have m4 : (0 : Int) ≤ (pn : Int) := by omega
            have hrl : (inN zs).reverse.length = j := by rw [List.length_reverse]; exact hlen
            rw [hrl] at HWN7 ⊢
            clear hb7 hou hcus HAU hcf HIN HWN HIN7 hplt hcast hpn HNL hlen HBW HB2 HB
            go_wp2_with fail
            refine (htu.out _).mono ?_
            clear htu
            intro e w8 hh
            obtain ⟨⟨x, hx, hxi⟩, hb8⟩ := hh
            subst e
            have hr8 := hid (hru.out w8 hb8 x hxi)
            have HX8 := hid hb8
            clear hru hxi hb8
            go_wp2_with fail
            refine (hpk.out _).mono ?_
            clear hpk
            intro e w8' hh
            obtain ⟨hx, hw8⟩ := hh
            subst e
            subst w8'
            have ecast : ((j + 1 + pn : Nat) : Int) = (j : Int) + 1 + (pn : Int) := by omega
            rw [ecast] at hr8
            clear ecast
            go_wp2_with fail
            refine hr8.out.mono ?_
            clear hr8
            intro e w9 hh
            obtain ⟨st9, p9, c9, hx9, hb9, hb79, hz9⟩ := hh
            subst hx9
            have HZ9 := hid hz9
            have HB79 := hid hb79
            have hz79 := hb79.size
            have HRB := hid (heap_alloc_new w9 (.cells #[.int .i64 1, .int .i64 0, .int .i64 st9, .slice p9 j c9] 55))
            have hbA : Below w9.heap.size w9 (w9.alloc (.cells #[.int .i64 1, .int .i64 0, .int .i64 st9, .slice p9 j c9] 55)) := (Below.refl _ _).alloc (Nat.le_refl _) _
            have HBF := hid (HB7.out.trans ((hb79.trans (hbA.mono hz79)).mono HB7.out.size))
            have HZW := hid (owns_keep HWN7.out (fun g hg => hb79.block g (HWN7.out.lt g hg).2))
            have HS1 : Hid (ZsAt (w9.alloc (.cells #[.int .i64 1, .int .i64 0, .int .i64 st9, .slice p9 j c9] 55)) (.slice p9 j c9) (inN zs).reverse) := hid (zsK_below (zsK_owns HZ9.out) hbA)
            have HS2 : Hid (ZsAt (w9.alloc (.cells #[.int .i64 1, .int .i64 0, .int .i64 st9, .slice p9 j c9] 55)) (.slice pw j cw) (inN zs).reverse) := hid (zsK_below (zsK_owns (by rw [hrl]; exact HZW.out)) hbA)
            have hsm := hid (sameK_any (inN zs).reverse (.slice p9 j c9) (.slice pw j cw) _ HS1.out HS2.out (by omega))
            clear hz9 hb9 hb79 hbA HZ9 HZW HS1 HS2 HWN7 HB79 HX8 hrl
            go_wp2_with fail
            refine hsm.out.mono ?_
            clear hsm
            intro e w10 hh
            obtain ⟨hx10, nn, hw10⟩ := hh
            subst hx10
            have hbd := Below.drewN' (w9.alloc (.cells #[.int .i64 1, .int .i64 0, .int .i64 st9, .slice p9 j c9] 55)) nn
            rw [← hw10] at hbd
            have HB10 := hid (HBF.out.trans (hbd.mono HBF.out.size))
            have rb := (hbd.block w9.heap.size (by simp)).trans HRB.out
            have q0 := cell_of_row w10 w9.heap.size 0 _ _ _ rb
            have q1 := cell_of_row w10 w9.heap.size 1 _ _ _ rb
            simp only [List.getElem?_toArray, List.getElem?_cons_zero, List.getElem?_cons_succ] at q0 q1
            clear hbd hw10 rb HRB HBF
            go_wp2_with fail
            go_ret
            exact ⟨rfl, HB10.out⟩
      · go_wp2_with fail
        generalize wr = W0 at *
        go_loopg [8, 11] k (fun g l x w' => ∃ j m : Nat, j + m = k ∧ g = m ∧ x = .int .i64 ((m : Int) - 1) ∧ w'.ownsRow W0.heap.size 3 1 l j (((inN zs).reverse.take j).map (.int .i64)) ∧ Below W0.heap.size W0 w')
        case atStart => exact ⟨0, k, by omega, rfl, by go_num, World.ownsRow_nil _ _ _ _, Below.refl _ _⟩
        case round =>
          obtain ⟨j, m, hjm, hg2, rfl, hown, hbel⟩ := hrel
          have hzw := hbel.size
          have HB2 := hid hbel
          cases m with
          | succ m =>
            have e1 : ((m + 1 : Nat) : Int) - 1 = (m : Int) := by omega
            rw [e1]
            clear e1
            have t0 : (0 : Int) ≤ (m : Int) := by omega
            have t1 : (m : Int) < (k : Int) := by omega
            have t2 : -9223372036854775808 ≤ (m : Int) - 1 := by omega
            have t3 : (m : Int) - 1 ≤ 9223372036854775807 := by omega
            have hml : m < (inN zs).length := by rw [HNL.out]; omega
            rcases (HIN.out.keep hbel) with ⟨_, h0⟩ | ⟨a, cap, hv2, hcell2, _⟩
            · rw [h0] at hml; simp at hml
            cases hv2
            have y0 := hcell2 m (inN zs)[m] (List.getElem?_eq_getElem hml)
            have hgR : (inN zs).reverse[j]? = some (inN zs)[m] := by
              rw [List.getElem?_reverse (by omega), show (inN zs).length - 1 - j = m by omega]
              exact List.getElem?_eq_getElem hml
            have HNX : Hid (((inN zs).reverse.take (j + 1)).map (Value.int .i64) = ((inN zs).reverse.take j).map (Value.int .i64) ++ [.int .i64 (inN zs)[m]]) := hid (by
              rw [List.take_add_one, hgR, List.map_append]
              rfl)
            clear hcell2 hbel hgR
            generalize (inN zs)[m] = u at *
            generalize ((inN zs).reverse.take j).map (Value.int .i64) = R at *
            go_wp2_with (at_builtin; go_must (refine wpList_append_lies _ (by rfl) _ _ _ (by rfl) W0.heap.size 3 i0 _ 1 8 Tryd.underlying22 hi0 hz0 hz1 hz2 rfl (by omega) _ j R (by rfl) (hown.alloc _) ⟨wr.heap.size, 0, none⟩ 1 1 [.int .i64 u] (by rfl) (by rfl) (World.news_of_block (cs := #[.int .i64 u]) (t := 3) (fr := (0, 0)) (heap_alloc_new wr _)) (by simp [Value.oneCell']) (by omega) (by unfold maxLen; omega) (by omega) (by simp; omega) _ rfl ?_); intro gg gcap w6 hown6 hgrow6 hat6 hlt6)
            go_roundg m
            case measure => omega
            case rel =>
              refine ⟨j + 1, m, by omega, rfl, by go_num, ?_, ?_⟩
              · rw [HNX.out]
                exact hown6
              · exact (HB2.out.alloc hzw _).grown hgrow6 (by simp; omega) (fun j hj => (hown.lt j hj).1)
          | zero =>
            have hjk : j = k := by omega
            subst hjk
            have HWN : Hid (wr.ownsRow W0.heap.size 3 1 u8 (inN zs).reverse.length ((inN zs).reverse.map (.int .i64))) := hid (by
              have hlen := HNL.out
              rw [List.take_of_length_le (by simp; omega)] at hown
              rw [List.length_reverse, hlen]
              exact hown)
            obtain ⟨pw, cw, ew⟩ := owns_slice HWN.out
            subst ew
            have e2 : ((0 : Nat) : Int) - 1 = -1 := by omega
            rw [e2]
            clear e2 hown hbel
            have HBW := hid (HB.out.trans (HB2.out.mono HB.out.size))
            have hc6 := hid (hcl.out wr HBW.out)
            clear hcl
            go_wp2_with fail
            refine hc6.out.mono ?_
            clear hc6
            intro e w7 hh
            obtain ⟨hb7, vu7, hx, hou⟩ := hh
            subst e
            rw [← clip_len us] at hou
            obtain ⟨pv, cv, ev⟩ := owns_slice hou
            subst ev
            have HAU := hid (argsK_owns hou)
            have HB7 := hid (HBW.out.trans (hb7.mono HBW.out.size))
            have HIN7 := hid ((HIN.out.keep HB2.out).keep hb7)
            have HWN7 := hid (owns_keep HWN.out (fun g hg => hb7.block g (HWN.out.lt g hg).2))
            obtain ⟨cus, hcus⟩ : ∃ cus, cus = clipN us := ⟨_, rfl⟩
            rw [← hcus] at HAU ⊢
            have hcf : cus.all fitsB = true := by rw [hcus]; exact clip_fits us
            have hcul : cus.length ≤ 17592186044416 := by rw [hcus, clip_len]; omega
            have hlen := HNL.out
            have hpk := hid (fun (W : World) => pick_any cells (33 - (j + 1)) W hc1 hc2 (by omega) (by omega))
            have hplt := pickN_lt cells (n := 33 - (j + 1)) (by omega)
            have hcast : ((33 - (j + 1) : Nat) : Int) = 33 - ((j : Int) + 1) := by omega
            obtain ⟨pn, hpn⟩ : ∃ pn, pn = pickN cells (33 - (j + 1)) := ⟨_, rfl⟩
            rw [← hpn] at hpk hplt
            rw [hcast] at hpk
            have htu := hid (fun (W : World) => turner_any W)
            have hru := hid (fun (W : World) (hb : Below w7.heap.size w7 W) (x : ByteArray) (hx : x.data.toList = imgC 2 tnC) => (run_turn hx (inN_ne zs) (inN_len zs) hcf hcul (j + 1 + pn) (by omega) (by omega) (HFT.out.below (HB7.out.trans (hb.mono HB7.out.size))) (HIN7.out.keep hb) (HAU.out.keep hb)).mono (R' := fun e w' => ∃ (st : Int) (p : Option Addr) (c : Nat), e = .returned (.tuple #[.agg #[.int .i64 1, .int .i64 0, .int .i64 st, .slice p j c], .int .i64 0]) ∧ Below W.heap.size W w' ∧ Below w7.heap.size w7 w' ∧ w'.ownsRow W.heap.size 3 1 (.slice p j c) (inN zs).reverse.length ((inN zs).reverse.map (.int .i64))) (fun e w' hh => by
              obtain ⟨st, p, c, h1, h2, h3⟩ := hh
              rw [hlen] at h1 h3
              exact ⟨st, p, c, h1, h2, hb.trans (h2.mono hb.size), by rw [List.length_reverse, hlen]; exact h3⟩))
            have m1 : (j : Int) + 1 ≤ 21 := by omega
            have m2 : (0 : Int) ≤ (j : Int) := by omega
            have m3 : (pn : Int) ≤ 31 := by omega
            have m4 : (0 : Int) ≤ (pn : Int) := by omega
            have hrl : (inN zs).reverse.length = j := by rw [List.length_reverse]; exact hlen
            rw [hrl] at HWN7 ⊢
            clear hb7 hou hcus HAU hcf HIN HWN HIN7 hplt hcast hpn HNL hlen HBW HB2 HB
            go_wp2_with fail
            refine (htu.out _).mono ?_
            clear htu
            intro e w8 hh
            obtain ⟨⟨x, hx, hxi⟩, hb8⟩ := hh
            subst e
            have hr8 := hid (hru.out w8 hb8 x hxi)
            have HX8 := hid hb8
            clear hru hxi hb8
            go_wp2_with fail
            refine (hpk.out _).mono ?_
            clear hpk
            intro e w8' hh
            obtain ⟨hx, hw8⟩ := hh
            subst e
            subst w8'
            have ecast : ((j + 1 + pn : Nat) : Int) = (j : Int) + 1 + (pn : Int) := by omega
            rw [ecast] at hr8
            clear ecast
            go_wp2_with fail
            refine hr8.out.mono ?_
            clear hr8
            intro e w9 hh
            obtain ⟨st9, p9, c9, hx9, hb9, hb79, hz9⟩ := hh
            subst hx9
            have HZ9 := hid hz9
            have HB79 := hid hb79
            have hz79 := hb79.size
            have HRB := hid (heap_alloc_new w9 (.cells #[.int .i64 1, .int .i64 0, .int .i64 st9, .slice p9 j c9] 55))
            have hbA : Below w9.heap.size w9 (w9.alloc (.cells #[.int .i64 1, .int .i64 0, .int .i64 st9, .slice p9 j c9] 55)) := (Below.refl _ _).alloc (Nat.le_refl _) _
            have HBF := hid (HB7.out.trans ((hb79.trans (hbA.mono hz79)).mono HB7.out.size))
            have HZW := hid (owns_keep HWN7.out (fun g hg => hb79.block g (HWN7.out.lt g hg).2))
            have HS1 : Hid (ZsAt (w9.alloc (.cells #[.int .i64 1, .int .i64 0, .int .i64 st9, .slice p9 j c9] 55)) (.slice p9 j c9) (inN zs).reverse) := hid (zsK_below (zsK_owns HZ9.out) hbA)
            have HS2 : Hid (ZsAt (w9.alloc (.cells #[.int .i64 1, .int .i64 0, .int .i64 st9, .slice p9 j c9] 55)) (.slice pw j cw) (inN zs).reverse) := hid (zsK_below (zsK_owns (by rw [hrl]; exact HZW.out)) hbA)
            have hsm := hid (sameK_any (inN zs).reverse (.slice p9 j c9) (.slice pw j cw) _ HS1.out HS2.out (by omega))
            clear hz9 hb9 hb79 hbA HZ9 HZW HS1 HS2 HWN7 HB79 HX8 hrl
            go_wp2_with fail
            refine hsm.out.mono ?_
            clear hsm
            intro e w10 hh
            obtain ⟨hx10, nn, hw10⟩ := hh
            subst hx10
            have hbd := Below.drewN' (w9.alloc (.cells #[.int .i64 1, .int .i64 0, .int .i64 st9, .slice p9 j c9] 55)) nn
            rw [← hw10] at hbd
            have HB10 := hid (HBF.out.trans (hbd.mono HBF.out.size))
            have rb := (hbd.block w9.heap.size (by simp)).trans HRB.out
            have q0 := cell_of_row w10 w9.heap.size 0 _ _ _ rb
            have q1 := cell_of_row w10 w9.heap.size 1 _ _ _ rb
            simp only [List.getElem?_toArray, List.getElem?_cons_zero, List.getElem?_cons_succ] at q0 q1
            clear hbd hw10 rb HRB HBF
            go_wp2_with fail
            go_ret
            exact ⟨rfl, HB10.out⟩
end Go.Proofs.YtdmdpindonghdabDoor
namespace Go.Proofs.YtdmdpindonghdabDoor
open Go.ChangeShapes Go.WideShapes Go.ChangeAt Go.ChangeMaps Go.RowKit
set_option maxRecDepth 100000 in
/-- A list of numbers that is handed in, each in its range. -/
theorem ints_argR {H : Type} {enc : TypeId × Value → H} {W : World} {v : Value} {d : DataW H} {p : List MemPlace} {base : Nat} (hok : Value.okWide Tryd.prog W .any base 22 v) (h : DataW.Trod enc Tryd.prog W 0 (fun _ => true) true 22 v d p) (hlt : ∀ x ∈ p, x.block < W.heap.size) (hw : (d.weights Tryd.prog 22).all (· ≤ reachBytes) = true) :
    ∃ zs : List Int, ArgInts W v zs ∧ zs.length ≤ 17592186043904 ∧ (∀ p n c, v = .slice p n c → n ≤ c ∧ c ≤ maxLen) ∧ ∀ u ∈ zs, -9223372036854775808 ≤ u ∧ u ≤ 9223372036854775807 := by
  obtain ⟨a0, len, cap, rfl⟩ := okWide_slice Tryd.underlying22 hok
  obtain ⟨fuel, hf⟩ := h
  rcases open_ints Tryd.underlying22 Tryd.underlying3 cellsInt hf with ⟨hcs, hx⟩ | ⟨a, len', cap', zs, hcs, _, hl, hm, hz, hx, hcell, hwf⟩
  · simp [Value.cells] at hcs
    obtain ⟨rfl, rfl, rfl⟩ := hcs
    exact ⟨[], .inl ⟨rfl, rfl⟩, by simp, fun p n c h => by cases h; exact ⟨Nat.le_refl _, Nat.zero_le _⟩, fun u hu => by cases hu⟩
  · simp [Value.cells] at hcs
    obtain ⟨rfl, rfl, rfl⟩ := hcs
    simp only [Prod.mk.injEq] at hx
    obtain ⟨rfl, rfl⟩ := hx
    simp only [if_true] at hz
    have hlz : (zs.take len).length = len := by rw [List.length_take]; omega
    refine ⟨zs.take len, .inr ⟨a, cap, by rw [hlz], ?_, ?_⟩, ?_, fun p n c h => by cases h; exact ⟨hl, hm⟩, fun u hu => int_range (hwf u (List.mem_of_mem_take hu))⟩
    · intro j x hj
      have hjl := (List.getElem?_eq_some_iff.1 hj).1
      rw [hlz] at hjl
      rw [List.getElem?_take, if_pos hjl] at hj
      rw [hcell j (by omega), List.getD_eq_getElem?_getD, hj]
      rfl
    · intro hp
      exact hlt (.cell a.block (a.off + 0)) (MemPlace.mem_row.2 ⟨0, by omega, rfl⟩)
    · rw [hlz]
      have := hw
      simp only [DataW.weights, Tryd.underlying22, List.all_cons, Bool.and_eq_true, decide_eq_true_eq, bytesInt] at this
      have h2 := this.1
      simp only [lits, List.length_map, hlz] at h2
      have : reachBytes = 140737488351232 := rfl
      omega
set_option maxRecDepth 100000 in
theorem turned_lifted (os : Os) (started : os.Started) (H : Type) (enc : TypeId × Value → H) :
    ReturnsInHanded {} Tryd.checked os 6 .any (fun w args => (Rows.turnedSpec.pre enc Tryd.prog Tryd.f6 Rows.turnedRow.domain false w args ∧ laidMetH Tryd.prog Rows.turnedRow.laid w) ∧ sizedMet enc Tryd.prog Tryd.f6 (OpenSpec.ofChange Rows.turnedSpec) false w args)
      (Rows.turnedSpec.post enc Tryd.prog Tryd.f6 false true false false) := by
  refine returnsInHanded_of_change_and (C := Tryd.checked) (X := fun w _ => laidMetH Tryd.prog Rows.turnedRow.laid w) (fun _ _ _ hh h => h.of_heap hh) knobs started (by kernel_rfl) Tryd.func6
    (ChangeSpec.witness_shaped (enc := enc) (C := Tryd.checked) (os := os) (X := fun w _ => laidMetH Tryd.prog Rows.turnedRow.laid w) false (World.laidAll Tryd.prog os Rows.turnedRow.laid) #[.slice none 0 0, .int .i64 0, .slice none 0 0] 8 (World.laidAll_os _ _ _)
      (World.shaped_of_ZipB (by kernel_rfl) (by kernel_rfl)) (by kernel_rfl) (by kernel_rfl) (by kernel_rfl)
      (by rw [MakeChecks.laidMetH_plain _ _ _ (by kernel_rfl)]; exact laidMet_laidAll _ (by kernel_rfl) (by kernel_rfl))) ?_
  intro W base args ds gs before hval0 hW _ hsz hL _
  have hval : ∀ (j : Nat) t v, Tryd.f6.params[j]? = some t → args[j]? = some v → Value.okWide Tryd.prog W .any base t v := hval0
  have hW' := hW
  obtain ⟨p, q, hA0, hV, rfl, _, _⟩ := hW
  have hA : DataW.TrodAll enc Tryd.prog W 0 (fun _ => true) true Tryd.f6.params.toList args.toList ds p := hA0
  obtain ⟨rfl, rfl⟩ := trodVars_none hV
  have hlt : ∀ x ∈ p, x.block < W.heap.size := fun x hx => by
    have := hW'.lt x (by simpa using hx)
    exact this
  rw [Tryd.params6] at hA hval hsz
  obtain ⟨v0, v1, v2, d0, d1, d2, p0, p1, p2, rfl, rfl, rfl, h0, h1, h2⟩ := trodAll_three hA
  obtain ⟨n, rfl, rfl, rfl, hn⟩ := open_int Tryd.underlying3 (hval 1 3 v1 rfl rfl) h1
  have hw0 : (d0.weights Tryd.prog 22).all (· ≤ reachBytes) = true := by
    have := hsz
    simp only [List.append_nil, List.cons_append, List.nil_append, DataW.weightsEach, List.all_append, Bool.and_eq_true] at this
    exact this.1
  have hw2 : (d2.weights Tryd.prog 22).all (· ≤ reachBytes) = true := by
    have := hsz
    simp only [List.append_nil, List.cons_append, List.nil_append, DataW.weightsEach, List.all_append, Bool.and_eq_true] at this
    exact this.2.2.1
  have hlt0 : ∀ x ∈ p0, x.block < W.heap.size := fun x hx => hlt x (by simp [hx])
  have hlt2 : ∀ x ∈ p2, x.block < W.heap.size := fun x hx => hlt x (by simp [hx])
  obtain ⟨us, hu, hul, _, hur⟩ := ints_argR (hval 2 22 v2 rfl rfl) h2 hlt2 hw2
  obtain ⟨zs, hz, hzl, _, _⟩ := ints_argR (hval 0 22 v0 rfl rfl) h0 hlt0 hw0
  have t1 := flow_of_laid hL
  obtain ⟨n1, n2⟩ := int_range hn
  refine (turned_any v0 v2 zs us n W t1 hz hzl hu hul hur n1 n2).mono fun e W' ⟨he, hb⟩ => ?_
  subst he
  have hr0 : DataW.Trod enc Tryd.prog W' 0 (fun b => decide (b < W.heap.size)) true 22 v0 d0 p0 := Below.trod laidOutP (by kernel_rfl) (of_decide_eq_true (by kernel_rfl)) h0 hb hlt0
  have hr2 : DataW.Trod enc Tryd.prog W' 0 (fun b => decide (b < W.heap.size)) true 22 v2 d2 p2 := Below.trod laidOutP (by kernel_rfl) (of_decide_eq_true (by kernel_rfl)) h2 hb hlt2
  exact ⟨_, rfl, _, _, _, [], _, [], hW', trodAll_mk1 (shut_bool Tryd.underlying4 _), trodAll_mk3 hr0 (shut_int Tryd.underlying3 hn) hr2, rfl, hb.frame _, fun h => by cases h⟩
theorem turned_holds : Rows.TurnedSaid :=
  OpenClaim.holds_of_wide 6 Tryd.f6 rfl rfl rfl rfl rfl rfl rfl ⟨rfl, rfl, rfl, rfl, rfl⟩ rfl rfl rfl rfl rfl (by kernel_rfl) Tryd.func6 (by kernel_rfl)
    (of_decide_eq_true (by kernel_rfl)) (by unfold Func.isWrapper; first | (rw [if_pos (by decide +kernel)]; kernel_rfl) | (rw [if_neg (by decide +kernel)]; exact ⟨rfl, rfl⟩))
    (fun os started H enc _ => turned_lifted os started H enc)
theorem turned_card_holds : Rows.TurnedCardSaid :=
  Claim7.holds_tied_plain_at .later [] [.data, .data] true Rows.turnedCard.stood.harness false
    turned_holds (fun _ h => by cases h) (by kernel_rfl) (fun _ h => by cases h) turned_row_tie rfl ⟨rfl, rfl⟩ (by kernel_rfl) rfl
    (fun f fn hf hfn => by
      obtain rfl : f = 6 := Option.some.inj ((show Tryd.prog.funcNamed "tint/tintkeep.Turned" = some 6 by kernel_rfl).symm.trans hf) |>.symm
      obtain rfl : fn = Tryd.f6 := (Option.some.inj (Tryd.func6.symm.trans hfn)).symm
      exact ⟨by kernel_rfl, fun j t ht => by
        rw [Tryd.params6] at ht
        have hm : t ∈ [22, 3, 22] := by simpa using Array.mem_of_getElem? ht
        have hall : ([22, 3, 22].all fun u => !Tryd.prog.wantsStandIn u) = true := by kernel_rfl
        exact (show Tryd.prog.wantsStandIn t = false by simpa using List.all_eq_true.1 hall t hm)⟩)
    (by kernel_rfl)
#print axioms turned_card_holds
end Go.Proofs.YtdmdpindonghdabDoor
