/- What the proofs of these statements stand on, part 7: FiA, FiB, FiC, SmA, SmB, SmC, SnA, KpF, KpS, KpT, SmD, SmE, SmF, KpG. -/
import Derived.Test.YtdmdpindonghdabDoorRows
import Derived.Test.YtdmdpindonghdabDoorOwn6
import Derived.WalkKit
import Derived.WalkSmall
import Derived.Deep.AppendLies
import Derived.Deep.DeepMust
import Derived.Deep.LoopGhost
import Derived.WalkSpells
import Derived.WalkLawsBesides
import Derived.BigRegion
import Derived.Deep.QuietTactic
import Derived.BigQuiet
import Derived.Deep.RegionHeld3
import Derived.OwnWalk
import Derived.Laws.StructEq
import Derived.Deep.RegionLaw
import Derived.Deep.DeepCutAuto
import Derived.Laws.MakeOwn
import Derived.Laws.IdiomCopy
import Derived.Laws.BytesArg
import Derived.ProofKit
import Derived.OpenShut
import Derived.Lay
import Derived.SevenTiedAt
import Derived.Stop.Joined
import Derived.Carry
import Derived.Deep.SlicePairs
namespace Go.Proofs.YtdmdpindonghdabDoor
open Go.RowKit
/-- From cells to cells, by units: what is not to be freed was there, as it is. -/
def UK (T : List Cl) (ph hd : Nat) (T' : List Cl) (ph' hd' : Nat) : Prop := ∀ (k : Nat) (c' : Cl), T'[k]? = some c' → Alive T' ph' hd' k → Alive T ph hd k ∧ ∃ c, T[k]? = some c ∧ c'.weak = c.weak ∧ (c'.a = c.a ∨ c'.a = -1) ∧ (c'.b = c.b ∨ c'.b = -1)
theorem UK.refl (T : List Cl) (ph hd : Nat) : UK T ph hd T ph hd := fun _ c' h1 h2 => ⟨h2, c', h1, rfl, .inl rfl, .inl rfl⟩
theorem UK.trans {T T' T'' : List Cl} {ph ph' ph'' hd hd' hd'' : Nat} (h : UK T ph hd T' ph' hd') (h' : UK T' ph' hd' T'' ph'' hd'') : UK T ph hd T'' ph'' hd'' := by
  intro k c'' h1 h2
  obtain ⟨a1, c', b1, b2, b3, b4⟩ := h' k c'' h1 h2
  obtain ⟨a2, c, d1, d2, d3, d4⟩ := h k c' b1 a1
  refine ⟨a2, c, d1, b2.trans d2, ?_, ?_⟩
  · rcases b3 with e | e
    · rw [e]; exact d3
    · exact .inr e
  · rcases b4 with e | e
    · rw [e]; exact d4
    · exact .inr e
theorem UK.paint {T T' : List Cl} {ph ph' hd hd' : Nat} (h : Paint T T') (h2 : ph ≠ 2) (hc : ∀ k, colL T k = 0 → colL T' k = 0) : UK T ph hd T' ph' hd' := by
  intro k c' h1 ha
  obtain ⟨c, e1, e2⟩ := h.get k c' h1
  refine ⟨⟨fun e => ha.1 (hc k e), fun e => h2 e.1⟩, c, e1, ?_, ?_, ?_⟩
  · rw [e2]
  · rw [e2]; exact .inl rfl
  · rw [e2]; exact .inl rfl
theorem shades_zero (T : List Cl) (rs : List Int) (k : Nat) (h : colL T k = 0) : colL (shadesL T rs) k = 0 := by
  rw [shades_colL, if_neg (fun e => by omega)]
  exact h
theorem black_zero {T : List Cl} {g : Nat} {c : Cl} (hg : T[g]? = some c) (h2 : c.col = 2) (k : Nat) (h : colL T k = 0) : colL (blackL T g) k = 0 := by
  have hlt := (List.getElem?_eq_some_iff.1 hg).1
  have hne : k ≠ g := fun e => by rw [e, colL_some hg] at h; omega
  unfold blackL
  have hs : ∀ (U : List Cl) (r : Int), colL U k = 0 → colL (shadeL U r) k = 0 := fun U r hU => by
    rw [shade_colL, if_neg (fun e => by omega)]; exact hU
  split
  · rw [colL_paint _ _ _ _ hlt, if_neg hne]; exact h
  · rw [colL_paint _ _ _ _ (by rw [shadeL_len, shadeL_len]; exact hlt), if_neg hne]
    exact hs _ _ (hs _ _ h)
theorem UK.forget (T : List Cl) (hd : Nat) : UK T 1 hd (forgetL T) 2 0 := by
  intro k c' h1 ha
  obtain ⟨c, e1, rfl⟩ := forget_get h1
  obtain ⟨_, q2, q3, _, q5, _⟩ := fgL_all T c
  refine ⟨⟨?_, by omega⟩, c, e1, q2, q5, .inl q3⟩
  have := ha.1
  rw [forget_colL] at this
  exact this
theorem UK.sweep {T : List Cl} {hd ph' hd' : Nat} (hh : hd < T.length) (hph : (ph' = 2 ∧ hd' = hd + 1) ∨ (ph' = 0 ∧ hd' = 0 ∧ hd + 1 = T.length)) (hng : ∀ c ∈ T, c.col ≤ 3 ∧ c.col ≠ 2) : UK T 2 hd (sweepL T hd) ph' hd' := by
  intro k c' h1 ha
  have ha1 := ha.1
  have ha2 := ha.2
  rw [sweep_colL hh] at ha1 ha2
  rw [sweep_get hh] at h1
  obtain ⟨g1, g2⟩ := hng T[hd] (List.getElem_mem hh)
  by_cases e : k = hd
  · subst e
    rw [if_pos rfl] at h1 ha1
    by_cases c1 : T[k].col = 1
    · rw [if_pos c1] at ha1; exact absurd rfl ha1
    rw [if_neg c1] at h1 ha1
    by_cases c3 : T[k].col = 3
    · rw [if_pos c3] at h1
      cases h1
      refine ⟨⟨?_, ?_⟩, T[k], List.getElem?_eq_getElem hh, rfl, .inl rfl, .inl rfl⟩
      · rw [colL_some (List.getElem?_eq_getElem hh)]; omega
      · rw [colL_some (List.getElem?_eq_getElem hh)]; omega
    · rw [if_neg c3] at ha1
      omega
  · rw [if_neg e] at h1 ha1 ha2
    refine ⟨⟨ha1, ?_⟩, c', h1, rfl, .inl rfl, .inl rfl⟩
    rintro ⟨_, q2, q3⟩
    have hk := (List.getElem?_eq_some_iff.1 h1).1
    rcases hph with ⟨p1, p2⟩ | ⟨p1, p2, p3⟩
    · exact ha2 ⟨p1, by omega, q3⟩
    · omega
theorem GInv.uk {T : List Cl} {ph hd : Nat} {rs : List Int} (h : GInv T ph hd rs) (h2 : ph ≤ 2) (hh : ph = 2 → hd < T.length) : UK T ph hd (unitL T ph hd rs).1 (unitL T ph hd rs).2.1 (unitL T ph hd rs).2.2 := by
  unfold unitL
  by_cases e0 : ph = 0
  · rw [if_pos e0]
    exact UK.paint (shades_paint rs T) (by omega) (fun k => shades_zero T rs k)
  rw [if_neg e0]
  by_cases e2 : ph = 2
  · rw [if_pos e2]
    subst e2
    have hlt := hh rfl
    have hng : ∀ c ∈ T, c.col ≤ 3 ∧ c.col ≠ 2 := fun c hc => ⟨h.col3 c hc, h.nogrey rfl c hc⟩
    split
    · exact UK.sweep hlt (.inr ⟨rfl, rfl, by omega⟩) hng
    · exact UK.sweep hlt (.inl ⟨rfl, rfl⟩) hng
  rw [if_neg e2]
  have e1 : ph = 1 := by omega
  subst e1
  by_cases hg : 0 ≤ greyL T
  · rw [if_pos hg]
    obtain ⟨c, hc, hc2⟩ := greyL_pos hg
    exact UK.paint (black_paint T _) (by omega) (fun k => black_zero hc hc2 k)
  rw [if_neg hg]
  have hs : UK T 1 hd (shadesL T rs) 1 hd := UK.paint (shades_paint rs T) (by omega) (fun k => shades_zero T rs k)
  by_cases hg2 : greyL (shadesL T rs) < 0
  · rw [if_pos hg2]
    exact hs.trans (UK.forget _ _)
  · rw [if_neg hg2]
    exact hs
def UKH (h h' : HSt) : Prop := UK (h.1.map toldC) h.2.1 h.2.2 (h'.1.map toldC) h'.2.1 h'.2.2
theorem UKH.refl (h : HSt) : UKH h h := UK.refl _ _ _
theorem UKH.trans {h h' h'' : HSt} (a : UKH h h') (b : UKH h' h'') : UKH h h'' := UK.trans a b
theorem GH.uk {n : Nat} {h : HSt} {rs : List Int} (k : GH n h rs) : UKH h (stepC rs h) := by
  unfold UKH
  have hu := told_unit k.ok.ok k.ok.x rs
  have := k.g.uk k.ok.ok.phz (by simpa using k.ok.ok.hand)
  rw [hu] at this
  exact this
theorem GH.uks {n : Nat} {h : HSt} {rs : List Int} (k : GH n h rs) : ∀ m, UKH h (unitsC rs m h)
  | 0 => UKH.refl _
  | m + 1 => (GH.uks k m).trans (k.units m).uk
theorem GH.ukIdle {n : Nat} {h : HSt} {rs : List Int} (k : GH n h rs) : UKH h (idleC rs h) := by
  have := idleC_ind (rs := rs) (P := fun h' => GH n h' rs ∧ UKH h h') (fun _ q => ⟨q.1.unit, q.2.trans q.1.uk⟩) (⟨k, UKH.refl h⟩ : GH n h rs ∧ UKH h h)
  exact this.2
theorem GH.ukRoom {n : Nat} {h : HSt} {rs : List Int} (k : GH n h rs) : UKH h (roomC rs h) := by
  unfold roomC
  split
  · exact UKH.refl _
  split
  · exact k.ukIdle
  · exact (k.ukIdle.trans k.idle.uk).trans k.idle.unit.ukIdle
/-- A cell's number, of this kind. -/
def KindR (h : HSt) (wk : Bool) (r : Int) : Prop := 0 ≤ r ∧ ∃ c, h.1[r.toNat]? = some c ∧ c.weak = wk
/-- Cells that are not to be freed refer to plain ones. -/
def KI (h : HSt) : Prop := ∀ (k : Nat) (c : RC), h.1[k]? = some c → AliveH h k → ∀ j : Nat, (c.a = (j : Int) ∨ c.b = (j : Int)) → KindR h false j
theorem told_get {h : HSt} {k : Nat} {c' : Cl} (hc : (h.1.map toldC)[k]? = some c') : ∃ c, h.1[k]? = some c ∧ c' = toldC c := by
  rw [List.getElem?_map] at hc
  cases hk : h.1[k]? with
  | none => rw [hk] at hc; cases hc
  | some c => rw [hk] at hc; exact ⟨c, rfl, (Option.some.inj hc).symm⟩
theorem UKH.get {h h' : HSt} (u : UKH h h') {k : Nat} {c' : RC} (hc : h'.1[k]? = some c') (ha : AliveH h' k) : AliveH h k ∧ ∃ c, h.1[k]? = some c ∧ c'.weak = c.weak ∧ (c'.a = c.a ∨ c'.a = -1) ∧ (c'.b = c.b ∨ c'.b = -1) := by
  obtain ⟨a, c, e1, e2, e3, e4⟩ := u k (toldC c') (told_at hc) ha
  obtain ⟨d, f1, f2⟩ := told_get e1
  subst f2
  exact ⟨a, d, f1, e2, e3, e4⟩
theorem UKH.kind {h h' : HSt} (u : UKH h h') {wk : Bool} {r : Int} (hr : KindR h wk r) (hl : h'.1.length = h.1.length) (ha : ∀ k : Nat, r = (k : Int) → AliveH h' k) : KindR h' wk r := by
  obtain ⟨h0, c, hc, hw⟩ := hr
  have hlt := (List.getElem?_eq_some_iff.1 hc).1
  obtain ⟨c', hc'⟩ : ∃ c', h'.1[r.toNat]? = some c' := ⟨_, List.getElem?_eq_getElem (by omega)⟩
  obtain ⟨_, d, f1, f2, _⟩ := u.get hc' (ha r.toNat (by omega))
  rw [hc] at f1
  cases f1
  exact ⟨h0, c', hc', f2.trans hw⟩
theorem KI.uk {h h' : HSt} (q : KI h) (u : UKH h h') (hl : h'.1.length = h.1.length) (g : GInvH h') : KI h' := by
  intro k c' hc ha j hj
  obtain ⟨a, c, e1, _, e3, e4⟩ := u.get hc ha
  refine u.kind (q k c e1 a j ?_) hl (fun i hi => ?_)
  · rcases hj with hj | hj
    · rcases e3 with e | e
      · exact .inl (e ▸ hj)
      · omega
    · rcases e4 with e | e
      · exact .inr (e ▸ hj)
      · omega
  · obtain rfl : j = i := by omega
    exact g.refs hc ha hj
/-- A cell is written that was free, or one whose references are plain. -/
theorem KI.put {h h' : HSt} (q : KI h) {r : Nat} (hsame : ∀ k, k ≠ r → (∀ c', h'.1[k]? = some c' → ∃ c, h.1[k]? = some c ∧ c'.weak = c.weak ∧ c'.a = c.a ∧ c'.b = c.b) ∧ (∀ c, h.1[k]? = some c → ∃ c', h'.1[k]? = some c' ∧ c'.weak = c.weak) ∧ (AliveH h' k → AliveH h k))
    (hr : ∀ c', h'.1[r]? = some c' → ∀ j : Nat, (c'.a = (j : Int) ∨ c'.b = (j : Int)) → KindR h' false j)
    (hn : ∀ k c, h.1[k]? = some c → k ≠ r → AliveH h k → (c.a = (r : Int) ∨ c.b = (r : Int)) → KindR h' false r) : KI h' := by
  intro k c' hc ha j hj
  by_cases e : k = r
  · subst e
    exact hr c' hc j hj
  obtain ⟨h1, _, h3⟩ := hsame k e
  obtain ⟨c, e1, e2, e3, e4⟩ := h1 c' hc
  rw [e3, e4] at hj
  by_cases ej : j = r
  · subst ej
    exact hn k c e1 e (h3 ha) hj
  obtain ⟨_, d, hd, hw⟩ := q k c e1 (h3 ha) j hj
  obtain ⟨d', f1, f2⟩ := (hsame j ej).2.1 d (by simpa using hd)
  exact ⟨by omega, d', by simpa using f1, f2.trans hw⟩
end Go.Proofs.YtdmdpindonghdabDoor
namespace Go.Proofs.YtdmdpindonghdabDoor
open Go.RowKit
/-- What is known of a word: (0, 0) nothing; (1, 0) a plain cell or None, (2, 0) a weak one or None; (3, 0) a plain cell, (4, 0) a weak one; (5, 0) None; (6, n) what local n holds; (7, n) 0 just if local n is not None. -/
def resA (lo : List (Nat × Nat)) (v : Nat × Nat) : Nat × Nat := if v.1 = 6 then lo.getD v.2 (0, 0) else if v.1 = 7 then (0, 0) else v
def isPl (v : Nat × Nat) : Bool := v.1 == 1 || v.1 == 3 || v.1 == 5
def isWk (v : Nat × Nat) : Bool := v.1 == 2 || v.1 == 4 || v.1 == 5
def knowA (v : Nat × Nat) : Nat × Nat := if v.1 = 1 then (3, 0) else if v.1 = 2 then (4, 0) else v
def storeA (lo : List (Nat × Nat)) (n : Nat) (v : Nat × Nat) (r : List (Nat × Nat)) : Option (List (Nat × Nat) × List (Nat × Nat)) :=
  if n = 0 then some (lo.set 0 (0, 0), r.map (resA lo))
  else if n = 3 then (if isWk (resA lo v) = true then some (lo.set 3 (2, 0), r.map (resA lo)) else none)
  else if isPl (resA lo v) = true then some (lo.set n (1, 0), r.map (resA lo)) else none
def loadA (lo st : List (Nat × Nat)) (n : Nat) : Option (List (Nat × Nat) × List (Nat × Nat)) :=
  if n < lo.length then (if lo.getD n (0, 0) = (3, 0) then some (lo.set n (1, 0), (3, 0) :: st) else if lo.getD n (0, 0) = (4, 0) then some (lo.set n (2, 0), (4, 0) :: st) else some (lo, (6, n) :: st)) else none
/-- What is known behind an instruction. -/
def opA (lo st : List (Nat × Nat)) (op n : Nat) : Option (List (Nat × Nat) × List (Nat × Nat)) :=
  if op = 1 ∨ op = 21 then some (lo, (0, 0) :: st)
  else if op = 7 then loadA lo st n
  else if op = 12 then some (lo, (5, 0) :: st)
  else if op = 13 then some (lo, (3, 0) :: st)
  else match st with
  | [] => none
  | v :: r =>
    if op = 8 then storeA lo n v r
    else if op = 9 then some (lo, v :: v :: r)
    else if op = 22 then some (lo, r)
    else if op = 20 then (if v.1 = 7 then some (lo.set v.2 (knowA (lo.getD v.2 (0, 0))), r) else none)
    else if op = 23 then (if isPl (resA lo v) = true then some (lo, (4, 0) :: r) else none)
    else if op = 14 then (if v = (3, 0) then some (lo, (1, 0) :: r) else none)
    else if op = 24 then (if v = (4, 0) ∧ n = 0 then some (lo, (1, 0) :: r) else none)
    else if op = 16 then (if v = (3, 0) then some (lo, (0, 0) :: r) else none)
    else match r with
    | [] => none
    | u :: r =>
      if op = 2 then some (lo, (0, 0) :: r)
      else if op = 18 then (if v = (5, 0) ∧ u.1 = 6 then some (lo, (7, u.2) :: r) else some (lo, (0, 0) :: r))
      else if op = 17 then (if u = (3, 0) then some (lo, r) else none)
      else if op = 15 then (if u = (3, 0) ∧ isPl (resA lo v) = true then some (lo, r) else none)
      else none
def runA (A : List (Nat × Nat) × List (Nat × Nat)) : List (Nat × Nat) → Option (List (Nat × Nat) × List (Nat × Nat))
  | [] => some A
  | x :: r => (opA A.1 A.2 x.1 x.2).bind fun B => runA B r
theorem runA_append (a b : List (Nat × Nat)) : ∀ A, runA A (a ++ b) = (runA A a).bind fun B => runA B b := by
  induction a with
  | nil => intro A; rfl
  | cons x r ih =>
    intro A
    simp only [List.cons_append, runA]
    cases opA A.1 A.2 x.1 x.2 with
    | none => rfl
    | some B => exact ih B
def topA : List (Nat × Nat) × List (Nat × Nat) := ([(0, 0), (1, 0), (1, 0), (2, 0)], [])
def iniA : List (Nat × Nat) × List (Nat × Nat) := ([(0, 0), (0, 0), (0, 0), (0, 0)], [])
def kn (n : Nat) : List (Nat × Nat) × List (Nat × Nat) := (topA.1.set n (knowA (topA.1.getD n (0, 0))), [])
def bodyA (c : Nat) (weak : Bool) : Bool := if (bodyC c weak).1 = 0 then decide (runA topA (bodyC c weak).2 = some topA) else decide (runA (kn (bodyC c weak).1) (bodyC c weak).2 = some topA)
theorem bodyA_all : (List.range 256).all (fun c => bodyA c true && bodyA c false) = true := by kernel_rfl
theorem bodyA_ok (c : Nat) (hc : c < 256) (weak : Bool) : bodyA c weak = true := by
  have h := List.all_eq_true.1 bodyA_all c (List.mem_range.2 hc)
  rw [Bool.and_eq_true] at h
  cases weak
  · exact h.2
  · exact h.1
theorem unlA (n : Nat) (h : n = 1 ∨ n = 2 ∨ n = 3) : runA topA [(7, n), (12, 0), (18, 0)] = some (topA.1, [(7, n)]) := by
  rcases h with rfl | rfl | rfl <;> kernel_rfl
theorem brA (n t : Nat) : runA (topA.1, [(7, n)]) [(20, t)] = some (kn n) := by
  simp only [runA, opA]
  rfl
structure BldA (cs : List (Nat × Nat)) : Prop where
  run : runA iniA cs = some topA
  aim : ∀ a t b, cs = a ++ (20, t) :: b → ∃ a' b' m, cs = a' ++ b' ∧ t = csize a' ∧ runA iniA a' = some topA ∧ runA iniA a = some (topA.1, [(7, m)])
theorem BldA.start : BldA proC := by
  refine ⟨by kernel_rfl, ?_⟩
  intro a t b h
  exfalso
  have : (20, t) ∈ proC := by rw [h]; simp
  simp [proC] at this
structure PieceA (at_ : Nat) (cs : List (Nat × Nat)) : Prop where
  run : runA topA cs = some topA
  aim : ∀ a t b, cs = a ++ (20, t) :: b → t = at_ + csize cs ∧ ∃ m, runA topA a = some (topA.1, [(7, m)])
theorem piece_A (c : Nat) (hc : c < 256) (at_ : Nat) (weak : Bool) : PieceA at_ (pieceC c at_ weak) := by
  have h := body_ok c hc weak
  have hA := bodyA_ok c hc weak
  unfold bodyOk at h
  unfold bodyA at hA
  simp only [Bool.and_eq_true, decide_eq_true_eq] at h
  obtain ⟨⟨⟨⟨⟨_, h2⟩, _⟩, _⟩, h5⟩, _⟩ := h
  unfold pieceC
  generalize (bodyC c weak).1 = n at *
  generalize (bodyC c weak).2 = cs at *
  split
  · rename_i hn
    rw [if_pos hn, decide_eq_true_eq] at hA
    exact ⟨hA, fun a t b he => (no_branch h2 he).elim⟩
  · rename_i hn
    rw [if_neg hn, decide_eq_true_eq] at hA
    have hsz : csize (unlC n at_ cs) = 6 + csize cs := by
      unfold unlC
      rw [csize_append]
      have : csize [(7, n), (12, 0), (18, 0), (20, at_ + 6 + csize cs)] = 6 := rfl
      omega
    refine ⟨?_, ?_⟩
    · unfold unlC
      rw [show [(7, n), (12, 0), (18, 0), (20, at_ + 6 + csize cs)] = [(7, n), (12, 0), (18, 0)] ++ [(20, at_ + 6 + csize cs)] from rfl, List.append_assoc, runA_append, unlA n (by omega), Option.bind_some, runA_append, brA, Option.bind_some]
      exact hA
    · intro a t b he
      unfold unlC at he
      match a, he with
      | [], he => simp at he
      | [_], he => simp at he
      | [_, _], he => simp at he
      | [a0, a1, a2], he =>
        simp only [List.cons_append, List.nil_append, List.cons.injEq, Prod.mk.injEq, true_and] at he
        obtain ⟨rfl, rfl, rfl, ht, _⟩ := he
        exact ⟨by rw [hsz]; omega, n, unlA n (by omega)⟩
      | a0 :: a1 :: a2 :: a3 :: ar, he =>
        simp only [List.cons_append, List.nil_append, List.cons.injEq] at he
        exact (no_branch h2 he.2.2.2.2).elim
theorem BldA.more {cs p : List (Nat × Nat)} (h : BldA cs) (hp : PieceA (csize cs) p) : BldA (cs ++ p) := by
  have hrun : runA iniA (cs ++ p) = some topA := by rw [runA_append, h.run]; exact hp.run
  refine ⟨hrun, ?_⟩
  intro a t b he
  rcases List.append_eq_append_iff.1 he with ⟨a', e1, e2⟩ | ⟨c', e1, e2⟩
  · obtain ⟨q1, m, q2⟩ := hp.aim a' t b e2
    refine ⟨cs ++ p, [], m, by simp, by rw [csize_append]; exact q1, hrun, ?_⟩
    rw [e1, runA_append, h.run]
    exact q2
  · match c', e1, e2 with
    | [], e1, e2 =>
      simp only [List.append_nil] at e1
      simp only [List.nil_append] at e2
      obtain ⟨q1, m, q2⟩ := hp.aim [] t b (by simpa using e2.symm)
      refine ⟨cs ++ p, [], m, by simp, by rw [csize_append]; exact q1, hrun, ?_⟩
      rw [← e1, h.run]
      exact q2
    | y :: c', e1, e2 =>
      simp only [List.cons_append, List.cons.injEq] at e2
      obtain ⟨rfl, e2⟩ := e2
      obtain ⟨a2, b2, m, q1, q2, q3, q4⟩ := h.aim a t c' e1
      exact ⟨a2, b2 ++ p, m, by rw [q1]; simp, q2, q3, q4⟩
theorem bgo_A (weak : Bool) (r : List UInt8) : ∀ cs, BldA cs → BldA (bgo weak cs r) := by
  induction r with
  | nil => intro cs h; exact h
  | cons c r ih =>
    intro cs h
    unfold bgo
    split
    · exact ih _ (h.more (piece_A c.toNat (UInt8.toNat_lt c) (csize cs) weak))
    · exact h
/-- What is known at each instruction of code. -/
structure AbsOk (l : List Ins) (T : Nat → List (Nat × Nat) × List (Nat × Nat)) : Prop where
  init : T 0 = iniA
  fall : ∀ k i, l[k]? = some i → i.op ≠ 19 → opA (T k).1 (T k).2 i.op i.n = some (T (k + 1))
  br : ∀ k i, l[k]? = some i → i.op = 20 → (∃ m, T k = (topA.1, [(7, m)])) ∧ T (findP i.n l 0).toNat = topA
  jmp : ∀ k i, l[k]? = some i → i.op = 19 → T k = topA ∧ T (findP i.n l 0).toNat = topA
theorem BldA.abs {cs : List (Nat × Nat)} (h : BldA cs) (h0 : Bld cs) : AbsOk (placed 0 (cs ++ [(19, 9)])) (fun k => (runA iniA (cs.take k)).getD iniA) := by
  obtain ⟨r6, h6⟩ := h0.six
  have hfind9 : findP 9 (placed 0 (cs ++ [(19, 9)])) 0 = 6 := by
    rw [← h6]
    cases r6 with
    | nil => exact findP_placed proC (19, 9) [] 0 0
    | cons y r6 => rw [List.append_assoc]; exact findP_placed proC y (r6 ++ [(19, 9)]) 0 0
  have hpro : runA iniA proC = some topA := by kernel_rfl
  have hfind : ∀ a' b', cs = a' ++ b' → findP (csize a') (placed 0 (cs ++ [(19, 9)])) 0 = (a'.length : Int) := by
    intro a' b' he
    rw [he, List.append_assoc]
    cases b' with
    | nil => have := findP_placed a' (19, 9) [] 0 0; simpa using this
    | cons y b' => have := findP_placed a' y (b' ++ [(19, 9)]) 0 0; simpa using this
  have hT : ∀ k, ∃ p, runA iniA (cs.take k) = some p := by
    intro k
    have hr := h.run
    rw [← List.take_append_drop k cs, runA_append] at hr
    cases hq : runA iniA (cs.take k) with
    | none => rw [hq] at hr; simp at hr
    | some p => exact ⟨p, rfl⟩
  have hj : ∀ k i, (placed 0 (cs ++ [(19, 9)]))[k]? = some i → (k < cs.length ∧ ∃ x, cs[k]? = some x ∧ i.op = x.1 ∧ i.n = x.2) ∨ (k = cs.length ∧ i.op = 19 ∧ i.n = 9) := by
    intro k i hi
    rw [placed_at] at hi
    rcases Nat.lt_or_ge k cs.length with hk | hk
    · left
      refine ⟨hk, cs[k], List.getElem?_eq_getElem hk, ?_⟩
      rw [List.getElem?_append_left hk, List.getElem?_eq_getElem hk] at hi
      simp only [Option.map_some, Option.some.injEq, Nat.zero_add] at hi
      rw [← hi]
      exact ⟨rfl, rfl⟩
    · right
      rw [List.getElem?_append_right hk] at hi
      rcases Nat.eq_or_lt_of_le hk with e | hlt
      · rw [← e] at hi
        simp only [Nat.sub_self, List.getElem?_cons_zero, Option.map_some, Option.some.injEq] at hi
        rw [← hi]
        exact ⟨e.symm, rfl, rfl⟩
      · have : ([(19, 9)] : List (Nat × Nat))[k - cs.length]? = none := by rw [List.getElem?_eq_none]; simp; omega
        rw [this] at hi
        simp at hi
  have hsplit : ∀ k (hk : k < cs.length), cs = cs.take k ++ cs[k] :: cs.drop (k + 1) := by
    intro k hk
    rw [List.getElem_cons_drop]
    exact (List.take_append_drop k cs).symm
  refine ⟨by simp [runA], ?_, ?_, ?_⟩
  · intro k i hi h19
    rcases hj k i hi with ⟨hk, x, hx, i1, i2⟩ | ⟨_, i1, _⟩
    · obtain ⟨p, hp⟩ := hT k
      obtain ⟨p', hp'⟩ := hT (k + 1)
      have hxk : cs[k] = x := by rw [List.getElem?_eq_getElem hk] at hx; exact Option.some.inj hx
      simp only [hp, hp', Option.getD_some, i1, i2]
      rw [List.take_succ_eq_append_getElem hk, hxk, runA_append, hp, Option.bind_some] at hp'
      simp only [runA] at hp'
      cases ho : opA p.1 p.2 x.1 x.2 with
      | none => rw [ho] at hp'; cases hp'
      | some B => rw [ho] at hp'; exact hp'
    · exact absurd i1 h19
  · intro k i hi h20
    rcases hj k i hi with ⟨hk, x, hx, i1, i2⟩ | ⟨_, i1, _⟩
    · have hxk : cs[k] = x := by rw [List.getElem?_eq_getElem hk] at hx; exact Option.some.inj hx
      obtain ⟨x1, x2⟩ := x
      simp only at i1 i2
      obtain rfl : x1 = 20 := by omega
      obtain ⟨a', b', m, q1, q2, q3, q4⟩ := h.aim (cs.take k) x2 (cs.drop (k + 1)) (by rw [← hxk]; exact hsplit k hk)
      have hf := hfind a' b' q1
      have htk : cs.take a'.length = a' := by rw [q1]; simp
      refine ⟨⟨m, by simp only [q4, Option.getD_some]⟩, ?_⟩
      rw [i2, q2, hf]
      simp only [Int.toNat_natCast, htk, q3, Option.getD_some]
    · omega
  · intro k i hi h19
    rcases hj k i hi with ⟨hk, x, hx, i1, _⟩ | ⟨hk, _, i2⟩
    · have hop : x.1 ≠ 0 ∧ x.1 ≠ 19 := by
        have := List.all_eq_true.1 h0.ends x (List.mem_of_getElem? hx)
        simpa using this
      omega
    · rw [hk, i2, hfind9]
      have : cs.take 6 = proC := by rw [← h6]; rfl
      simp only [List.take_length, h.run, Option.getD_some, Int.reduceToNat, this, hpro, and_self]
theorem built_abs (raw : ByteArray) (weak : Bool) : ∃ T, AbsOk (codeOf (builtS raw weak)) T := by
  obtain ⟨h1, _⟩ := bgo_ok weak raw.data.toList proC Bld.start (by decide)
  rw [(built_ok raw weak).2.1]
  exact ⟨_, (bgo_A weak raw.data.toList proC BldA.start).abs h1⟩
end Go.Proofs.YtdmdpindonghdabDoor
namespace Go.Proofs.YtdmdpindonghdabDoor
open Go.RowKit
structure HV (h : HSt) (lo : List (Bool × Int)) (v : Nat × Nat) (x : Bool × Int) : Prop where
  p : v.1 = 1 → x.1 = true ∧ (x.2 = -1 ∨ KindR h false x.2)
  w : v.1 = 2 → x.1 = true ∧ (x.2 = -1 ∨ KindR h true x.2)
  pn : v.1 = 3 → x.1 = true ∧ KindR h false x.2
  wn : v.1 = 4 → x.1 = true ∧ KindR h true x.2
  nu : v.1 = 5 → x = (true, -1)
  lc : v.1 = 6 → lo[v.2]? = some x
  ts : v.1 = 7 → ∃ y, lo[v.2]? = some y ∧ (x.2 = 0 → y.2 ≠ -1)
theorem HV.any (h : HSt) (lo : List (Bool × Int)) (x : Bool × Int) : HV h lo (0, 0) x := by constructor <;> intro e <;> simp at e
theorem HV.mkP {h : HSt} {x : Bool × Int} (h1 : x.1 = true) (h2 : x.2 = -1 ∨ KindR h false x.2) (lo : List (Bool × Int)) : HV h lo (1, 0) x :=
  ⟨fun _ => ⟨h1, h2⟩, fun e => by simp at e, fun e => by simp at e, fun e => by simp at e, fun e => by simp at e, fun e => by simp at e, fun e => by simp at e⟩
theorem HV.mkW {h : HSt} {x : Bool × Int} (h1 : x.1 = true) (h2 : x.2 = -1 ∨ KindR h true x.2) (lo : List (Bool × Int)) : HV h lo (2, 0) x :=
  ⟨fun e => by simp at e, fun _ => ⟨h1, h2⟩, fun e => by simp at e, fun e => by simp at e, fun e => by simp at e, fun e => by simp at e, fun e => by simp at e⟩
theorem HV.mkPN {h : HSt} {x : Bool × Int} (h1 : x.1 = true) (h2 : KindR h false x.2) (lo : List (Bool × Int)) : HV h lo (3, 0) x :=
  ⟨fun e => by simp at e, fun e => by simp at e, fun _ => ⟨h1, h2⟩, fun e => by simp at e, fun e => by simp at e, fun e => by simp at e, fun e => by simp at e⟩
theorem HV.mkWN {h : HSt} {x : Bool × Int} (h1 : x.1 = true) (h2 : KindR h true x.2) (lo : List (Bool × Int)) : HV h lo (4, 0) x :=
  ⟨fun e => by simp at e, fun e => by simp at e, fun e => by simp at e, fun _ => ⟨h1, h2⟩, fun e => by simp at e, fun e => by simp at e, fun e => by simp at e⟩
theorem HV.mkN (h : HSt) (lo : List (Bool × Int)) : HV h lo (5, 0) (true, -1) :=
  ⟨fun e => by simp at e, fun e => by simp at e, fun e => by simp at e, fun e => by simp at e, fun _ => rfl, fun e => by simp at e, fun e => by simp at e⟩
theorem HV.mkL {h : HSt} {lo : List (Bool × Int)} {n : Nat} {x : Bool × Int} (h1 : lo[n]? = some x) : HV h lo (6, n) x :=
  ⟨fun e => by simp at e, fun e => by simp at e, fun e => by simp at e, fun e => by simp at e, fun e => by simp at e, fun _ => h1, fun e => by simp at e⟩
theorem HV.mkT {h : HSt} {lo : List (Bool × Int)} {n : Nat} {x y : Bool × Int} (h1 : lo[n]? = some y) (h2 : x.2 = 0 → y.2 ≠ -1) : HV h lo (7, n) x :=
  ⟨fun e => by simp at e, fun e => by simp at e, fun e => by simp at e, fun e => by simp at e, fun e => by simp at e, fun e => by simp at e, fun _ => ⟨y, h1, h2⟩⟩
theorem HV.free {h : HSt} {lo : List (Bool × Int)} {v : Nat × Nat} {x : Bool × Int} (q : HV h lo v x) (hv : v.1 ≤ 5) (lo' : List (Bool × Int)) : HV h lo' v x :=
  ⟨q.p, q.w, q.pn, q.wn, q.nu, fun e => by omega, fun e => by omega⟩
theorem HV.heap {h h' : HSt} {lo : List (Bool × Int)} {v : Nat × Nat} {x : Bool × Int} (q : HV h lo v x) (hk : x.1 = true → ∀ wk, KindR h wk x.2 → KindR h' wk x.2) : HV h' lo v x :=
  ⟨fun e => ⟨(q.p e).1, (q.p e).2.imp id (hk (q.p e).1 _)⟩, fun e => ⟨(q.w e).1, (q.w e).2.imp id (hk (q.w e).1 _)⟩, fun e => ⟨(q.pn e).1, hk (q.pn e).1 _ (q.pn e).2⟩, fun e => ⟨(q.wn e).1, hk (q.wn e).1 _ (q.wn e).2⟩, q.nu, q.lc, q.ts⟩
/-- What is known holds of a machine. -/
structure HA (lo st : List (Nat × Nat)) (s : MS) : Prop where
  lol : lo.length = s.lo.length
  lo : ∀ (n : Nat) (v : Nat × Nat) (x : Bool × Int), lo[n]? = some v → s.lo[n]? = some x → v.1 ≤ 4 ∧ HV s.hs s.lo v x
  stl : st.length = s.st.length
  st : ∀ (j : Nat) (v : Nat × Nat), st[j]? = some v → HV s.hs s.lo v (lastW s.st j)
theorem lastW_top (st : List (Bool × Int)) (x : Bool × Int) : lastW (st ++ [x]) 0 = x := by
  unfold lastW
  simp
theorem lastW_under (st : List (Bool × Int)) (x : Bool × Int) {j : Nat} (h : j < st.length) : lastW (st ++ [x]) (j + 1) = lastW st j := by
  unfold lastW
  rw [List.length_append, List.length_singleton, List.getElem?_append_left (by omega)]
  congr 2
  omega
theorem lastW_take (st : List (Bool × Int)) {j k : Nat} (h : j + k < st.length) : lastW (st.take (st.length - k)) j = lastW st (j + k) := by
  unfold lastW
  rw [List.length_take, Nat.min_eq_left (by omega), List.getElem?_take_of_lt (by omega)]
  congr 2
  omega
theorem HA.push {lo st : List (Nat × Nat)} {s : MS} (h : HA lo st s) {v : Nat × Nat} {x : Bool × Int} (hv : HV s.hs s.lo v x) : HA lo (v :: st) { s with st := s.st ++ [x] } := by
  refine ⟨h.lol, h.lo, by simp [h.stl], ?_⟩
  intro j u hu
  cases j with
  | zero =>
    simp only [List.getElem?_cons_zero, Option.some.injEq] at hu
    subst hu
    simp only [lastW_top]
    exact hv
  | succ j =>
    simp only [List.getElem?_cons_succ] at hu
    have hj := (List.getElem?_eq_some_iff.1 hu).1
    simp only
    rw [lastW_under _ _ (by rw [← h.stl]; exact hj)]
    exact h.st j u hu
theorem HA.cut {lo st : List (Nat × Nat)} {s : MS} (h : HA lo st s) (k : Nat) (hk : k ≤ st.length) : HA lo (st.drop k) { s with st := cutS s k } := by
  have hl := h.stl
  refine ⟨h.lol, h.lo, by simp only [cutS, List.length_drop, List.length_take]; omega, ?_⟩
  intro j u hu
  rw [List.getElem?_drop] at hu
  have hj := (List.getElem?_eq_some_iff.1 hu).1
  simp only [cutS]
  rw [lastW_take _ (by omega), Nat.add_comm]
  exact h.st _ u hu
theorem HA.heap {lo st : List (Nat × Nat)} {s : MS} (h : HA lo st s) {h' : HSt} (hk : ∀ x ∈ s.lo ++ s.st, x.1 = true → ∀ wk, KindR s.hs wk x.2 → KindR h' wk x.2) : HA lo st { s with hs := h' } := by
  refine ⟨h.lol, fun n v x h1 h2 => ⟨(h.lo n v x h1 h2).1, (h.lo n v x h1 h2).2.heap (hk x (List.mem_append_left _ (List.mem_of_getElem? h2)))⟩, h.stl, ?_⟩
  intro j u hu
  have hj := (List.getElem?_eq_some_iff.1 hu).1
  exact (h.st j u hu).heap (hk _ (List.mem_append_right _ (lastW_mem (by rw [← h.stl]; exact hj))))
theorem HA.res {lo st : List (Nat × Nat)} {s : MS} (h : HA lo st s) {v : Nat × Nat} {x : Bool × Int} (hv : HV s.hs s.lo v x) (lo' : List (Bool × Int)) : HV s.hs lo' (resA lo v) x := by
  unfold resA
  split
  · rename_i e
    have h1 := hv.lc e
    have hl := (List.getElem?_eq_some_iff.1 h1).1
    rw [List.getD_eq_getElem?_getD, List.getElem?_eq_getElem (by rw [h.lol]; exact hl), Option.getD_some]
    obtain ⟨q1, q2⟩ := h.lo v.2 _ x (List.getElem?_eq_getElem (by rw [h.lol]; exact hl)) h1
    exact q2.free (by omega) lo'
  · split
    · exact HV.any _ _ _
    · exact ⟨hv.p, hv.w, hv.pn, hv.wn, hv.nu, fun e => by omega, fun e => by omega⟩
theorem HV.pl {h : HSt} {lo : List (Bool × Int)} {v : Nat × Nat} {x : Bool × Int} (q : HV h lo v x) (hv : isPl v = true) : x.1 = true ∧ (x.2 = -1 ∨ KindR h false x.2) := by
  unfold isPl at hv
  simp only [Bool.or_eq_true, beq_iff_eq] at hv
  rcases hv with (e | e) | e
  · exact q.p e
  · exact ⟨(q.pn e).1, .inr (q.pn e).2⟩
  · rw [q.nu e]; exact ⟨rfl, .inl rfl⟩
theorem HV.wk {h : HSt} {lo : List (Bool × Int)} {v : Nat × Nat} {x : Bool × Int} (q : HV h lo v x) (hv : isWk v = true) : x.1 = true ∧ (x.2 = -1 ∨ KindR h true x.2) := by
  unfold isWk at hv
  simp only [Bool.or_eq_true, beq_iff_eq] at hv
  rcases hv with (e | e) | e
  · exact q.w e
  · exact ⟨(q.wn e).1, .inr (q.wn e).2⟩
  · rw [q.nu e]; exact ⟨rfl, .inl rfl⟩
theorem HA.locals {lo st : List (Nat × Nat)} {s : MS} (h : HA lo st s) {n : Nat} {w : Nat × Nat} (hw : w.1 ≤ 4) (hx : ∀ x, s.lo[n]? = some x → HV s.hs s.lo w x) : HA (lo.set n w) st s := by
  refine ⟨by rw [List.length_set]; exact h.lol, ?_, h.stl, h.st⟩
  intro m v x h1 h2
  rw [List.getElem?_set] at h1
  split at h1
  · rename_i e
    subst e
    split at h1
    · cases h1
      exact ⟨hw, hx x h2⟩
    · cases h1
  · exact h.lo m v x h1 h2
theorem HA.load {lo st lo' st' : List (Nat × Nat)} {s : MS} (h : HA lo st s) {n : Nat} (ho : loadA lo st n = some (lo', st')) : HA lo' st' { s with st := s.st ++ [s.lo.getD n (false, 0)] } := by
  unfold loadA at ho
  split at ho
  · rename_i hn
    have hn' : n < s.lo.length := by rw [← h.lol]; exact hn
    have e : s.lo.getD n (false, 0) = s.lo[n] := by rw [List.getD_eq_getElem?_getD, List.getElem?_eq_getElem hn']; rfl
    have ev : lo.getD n (0, 0) = lo[n] := by rw [List.getD_eq_getElem?_getD, List.getElem?_eq_getElem hn]; rfl
    obtain ⟨q1, q2⟩ := h.lo n lo[n] s.lo[n] (List.getElem?_eq_getElem hn) (List.getElem?_eq_getElem hn')
    rw [e]
    rw [ev] at ho
    split at ho
    · rename_i e3
      cases ho
      rw [e3] at q2
      refine HA.push (h.locals (by simp) (fun x hx => ?_)) q2
      rw [List.getElem?_eq_getElem hn'] at hx
      cases hx
      exact HV.mkP (q2.pn rfl).1 (.inr (q2.pn rfl).2) _
    split at ho
    · rename_i _ e4
      cases ho
      rw [e4] at q2
      refine HA.push (h.locals (by simp) (fun x hx => ?_)) q2
      rw [List.getElem?_eq_getElem hn'] at hx
      cases hx
      exact HV.mkW (q2.wn rfl).1 (.inr (q2.wn rfl).2) _
    · cases ho
      exact h.push (HV.mkL (List.getElem?_eq_getElem hn'))
  · cases ho
theorem HA.store {lo r lo' st' : List (Nat × Nat)} {v : Nat × Nat} {s : MS} (h : HA lo (v :: r) s) {n : Nat} (ho : storeA lo n v r = some (lo', st')) : HA lo' st' { s with lo := s.lo.set n (lastW s.st 0), st := cutS s 1 } := by
  have hv := h.st 0 v rfl
  have hres := h.res hv s.lo
  have main : ∀ w : Nat × Nat, w.1 ≤ 4 → HV s.hs [] w (lastW s.st 0) → HA (lo.set n w) (r.map (resA lo)) { s with lo := s.lo.set n (lastW s.st 0), st := cutS s 1 } := by
    intro w hw hx
    have hc := h.cut 1 (by simp)
    refine ⟨by simp [h.lol], ?_, by have := hc.stl; simpa using this, ?_⟩
    · intro m u x h1 h2
      simp only at h2
      rw [List.getElem?_set] at h1 h2
      split at h1
      · rename_i e
        subst e
        rw [if_pos rfl] at h2
        split at h1
        · cases h1
          split at h2
          · cases h2
            exact ⟨hw, hx.free (by omega) _⟩
          · cases h2
        · cases h1
      · rename_i e
        rw [if_neg e] at h2
        obtain ⟨q1, q2⟩ := h.lo m u x h1 h2
        exact ⟨q1, q2.free (by omega) _⟩
    · intro j u hu
      rw [List.getElem?_map] at hu
      cases hj : r[j]? with
      | none => rw [hj] at hu; cases hu
      | some u0 =>
        rw [hj] at hu
        cases hu
        exact h.res (hc.st j u0 hj) _
  unfold storeA at ho
  split at ho
  · rename_i e
    subst e
    cases ho
    exact main (0, 0) (by simp) (HV.any _ _ _)
  split at ho
  · rename_i e
    subst e
    split at ho
    · rename_i hk
      cases ho
      obtain ⟨a1, a2⟩ := hres.wk hk
      exact main (2, 0) (by simp) (HV.mkW a1 a2 _)
    · cases ho
  split at ho
  · rename_i hk
    cases ho
    obtain ⟨a1, a2⟩ := hres.pl hk
    exact main (1, 0) (by simp) (HV.mkP a1 a2 _)
  · cases ho
/-- Behind a branch that is not taken. -/
theorem HA.fall {lo r : List (Nat × Nat)} {v : Nat × Nat} {s : MS} (h : HA lo (v :: r) s) (hv : v.1 = 7) (hz : (lastW s.st 0).2 = 0) : HA (lo.set v.2 (knowA (lo.getD v.2 (0, 0)))) r { s with st := cutS s 1 } := by
  obtain ⟨y, h1, h2⟩ := (h.st 0 v rfl).ts hv
  have hc := h.cut 1 (by simp)
  have hn := (List.getElem?_eq_some_iff.1 h1).1
  have hn' : v.2 < lo.length := by rw [h.lol]; exact hn
  have ev : lo.getD v.2 (0, 0) = lo[v.2] := by rw [List.getD_eq_getElem?_getD, List.getElem?_eq_getElem hn']; rfl
  obtain ⟨q1, q2⟩ := h.lo v.2 lo[v.2] y (List.getElem?_eq_getElem hn') h1
  rw [ev]
  refine HA.locals hc ?_ (fun x hx => ?_)
  · unfold knowA
    split
    · simp
    split
    · simp
    · exact q1
  · simp only at hx
    rw [h1] at hx
    cases hx
    have hy := h2 hz
    unfold knowA
    split
    · rename_i e
      obtain ⟨a1, a2⟩ := q2.p e
      exact HV.mkPN a1 (a2.resolve_left hy) _
    split
    · rename_i e
      obtain ⟨a1, a2⟩ := q2.w e
      exact HV.mkWN a1 (a2.resolve_left hy) _
    · exact q2
theorem wantsC_of {h : HSt} {wk : Bool} {r : Int} (q : KindR h wk r) : wantsC h.1 r wk = 0 := by
  obtain ⟨h0, c, hc, hw⟩ := q
  unfold wantsC
  rw [if_neg (by omega), hc, Option.map_some, hw, if_pos rfl]
end Go.Proofs.YtdmdpindonghdabDoor
namespace Go.Proofs.YtdmdpindonghdabDoor
open Go.RowKit
/-- Two references that are paired. -/
def RefRel (R : Nat → Nat → Prop) (x y : Int) : Prop := (x = -1 ∧ y = -1) ∨ ∃ a b : Nat, x = (a : Int) ∧ y = (b : Int) ∧ R a b
structure WRel (R : Nat → Nat → Prop) (x y : Bool × Int) : Prop where
  ty : x.1 = y.1
  num : x.1 = false → x.2 = y.2
  ref : x.1 = true → RefRel R x.2 y.2
structure CRel (R : Nat → Nat → Prop) (c d : Cl) : Prop where
  w1 : c.weak = false
  w2 : d.weak = false
  num : c.num = d.num
  a : RefRel R c.a d.a
  b : RefRel R c.b d.b
theorem RefRel.mono {R R' : Nat → Nat → Prop} {x y : Int} (h : RefRel R x y) (hr : ∀ a b : Nat, x = (a : Int) → y = (b : Int) → R a b → R' a b) : RefRel R' x y := by
  rcases h with h | ⟨a, b, h1, h2, h3⟩
  · exact .inl h
  · exact .inr ⟨a, b, h1, h2, hr a b h1 h2 h3⟩
theorem WRel.mono {R R' : Nat → Nat → Prop} {x y : Bool × Int} (h : WRel R x y) (hr : x.1 = true → ∀ a b : Nat, x.2 = (a : Int) → y.2 = (b : Int) → R a b → R' a b) : WRel R' x y := ⟨h.ty, h.num, fun e => (h.ref e).mono (hr e)⟩
theorem WRel.ofNum (R : Nat → Nat → Prop) (v : Int) : WRel R (false, v) (false, v) := ⟨rfl, fun _ => rfl, fun e => by (cases e)⟩
theorem WRel.none (R : Nat → Nat → Prop) : WRel R (true, -1) (true, -1) := ⟨rfl, fun e => by (cases e), fun _ => .inl ⟨rfl, rfl⟩⟩
/-- Locals and stacks that are paired. -/
structure Words (R : Nat → Nat → Prop) (s t : MS) : Prop where
  lol : s.lo.length = t.lo.length
  lo : ∀ (j : Nat) (x y : Bool × Int), s.lo[j]? = some x → t.lo[j]? = some y → WRel R x y
  stl : s.st.length = t.st.length
  st : ∀ j, j < s.st.length → WRel R (lastW s.st j) (lastW t.st j)
def CellsR (R : Nat → Nat → Prop) (T U : List Cl) : Prop := ∀ a b, R a b → ∃ c d, T[a]? = some c ∧ U[b]? = some d ∧ CRel R c d
structure OneOne (R : Nat → Nat → Prop) : Prop where
  fn : ∀ a b b', R a b → R a b' → b = b'
  inj : ∀ a a' b, R a b → R a' b → a = a'
def toldS' (s : MS) : List Cl := s.hs.1.map toldC
theorem Words.mono {R R' : Nat → Nat → Prop} {s t : MS} (h : Words R s t) (hr : ∀ a b : Nat, (true, (a : Int)) ∈ s.lo ++ s.st → (true, (b : Int)) ∈ t.lo ++ t.st → R a b → R' a b) : Words R' s t := by
  refine ⟨h.lol, fun j x y h1 h2 => (h.lo j x y h1 h2).mono (fun e a b ha hb => ?_), h.stl, fun j hj => (h.st j hj).mono (fun e a b ha hb => ?_)⟩
  · refine hr a b (List.mem_append_left _ (List.mem_of_getElem? (i := j) ?_)) (List.mem_append_left _ (List.mem_of_getElem? (i := j) ?_))
    · rw [h1, ← e, ← ha]
    · rw [h2, ← e, ← hb, (h.lo j x y h1 h2).ty]
  · refine hr a b (List.mem_append_right _ ?_) (List.mem_append_right _ ?_)
    · have := lastW_mem hj
      rw [← e, ← ha]; exact this
    · have := lastW_mem (st := t.st) (k := j) (by rw [← h.stl]; exact hj)
      have e2 := (h.st j hj).ty
      rw [← e, ← hb, e2]; exact this
theorem mem_lastW {st : List (Bool × Int)} {x : Bool × Int} (h : x ∈ st) : ∃ j, j < st.length ∧ lastW st j = x := by
  obtain ⟨j, hj, e⟩ := List.getElem_of_mem h
  refine ⟨st.length - 1 - j, by omega, ?_⟩
  unfold lastW
  rw [show st.length - 1 - (st.length - 1 - j) = j by omega, List.getElem?_eq_getElem hj, e]
  rfl
/-- The root of one that is paired with a root of the other. -/
theorem Words.root {R : Nat → Nat → Prop} {s t : MS} (h : Words R s t) {a : Nat} (ha : (a : Int) ∈ flagR (s.lo ++ s.st)) : ∃ b, R a b ∧ (b : Int) ∈ flagR (t.lo ++ t.st) := by
  have hm := mem_flagR.1 ha
  have key : ∀ y : Bool × Int, y ∈ t.lo ++ t.st → WRel R (true, (a : Int)) y → ∃ b, R a b ∧ (b : Int) ∈ flagR (t.lo ++ t.st) := by
    intro y hy hw
    rcases hw.ref rfl with ⟨e, _⟩ | ⟨a', b, e1, e2, e3⟩
    · simp only at e; omega
    · simp only at e1
      obtain rfl : a = a' := by omega
      refine ⟨b, e3, mem_flagR.2 ?_⟩
      rw [← e2]
      have := hw.ty
      simp only at this
      rw [this]
      exact hy
  rcases List.mem_append.1 hm with hm | hm
  · obtain ⟨j, hj, e⟩ := List.getElem_of_mem hm
    have hj' : j < t.lo.length := by rw [← h.lol]; exact hj
    exact key t.lo[j] (List.mem_append_left _ (List.getElem_mem hj')) (h.lo j _ _ (by rw [List.getElem?_eq_getElem hj, e]) (List.getElem?_eq_getElem hj'))
  · obtain ⟨j, hj, e⟩ := mem_lastW hm
    have := h.st j hj
    rw [e] at this
    exact key _ (List.mem_append_right _ (lastW_mem (by rw [← h.stl]; exact hj))) this
theorem Rch.pair {R : Nat → Nat → Prop} {s t : MS} {T U : List Cl} (h : Words R s t) (hc : CellsR R T U) {a : Nat} (ha : Rch T (flagR (s.lo ++ s.st)) a) : ∃ b, R a b ∧ Rch U (flagR (t.lo ++ t.st)) b := by
  induction ha using Rch.ind with
  | root k hk =>
    obtain ⟨b, h1, h2⟩ := h.root hk
    exact ⟨b, h1, .root b h2⟩
  | ref k j c _ hg hw hj ih =>
    obtain ⟨b, h1, h2⟩ := ih
    obtain ⟨c', d, e1, e2, e3⟩ := hc k b h1
    rw [hg] at e1
    cases e1
    rcases hj with hj | hj
    · rcases e3.a with ⟨e, _⟩ | ⟨a', b', f1, f2, f3⟩
      · omega
      · obtain rfl : j = a' := by omega
        exact ⟨b', f3, .ref b b' d h2 e2 e3.w2 (.inl f2)⟩
    · rcases e3.b with ⟨e, _⟩ | ⟨a', b', f1, f2, f3⟩
      · omega
      · obtain rfl : j = a' := by omega
        exact ⟨b', f3, .ref b b' d h2 e2 e3.w2 (.inr f2)⟩
/-- Backwards. -/
def Rev (R : Nat → Nat → Prop) (a b : Nat) : Prop := R b a
theorem RefRel.rev {R : Nat → Nat → Prop} {x y : Int} (h : RefRel R x y) : RefRel (Rev R) y x := by
  rcases h with ⟨h1, h2⟩ | ⟨a, b, h1, h2, h3⟩
  · exact .inl ⟨h2, h1⟩
  · exact .inr ⟨b, a, h2, h1, h3⟩
theorem WRel.rev {R : Nat → Nat → Prop} {x y : Bool × Int} (h : WRel R x y) : WRel (Rev R) y x := ⟨h.ty.symm, fun e => (h.num (h.ty.trans e)).symm, fun e => (h.ref (h.ty.trans e)).rev⟩
theorem CRel.rev {R : Nat → Nat → Prop} {c d : Cl} (h : CRel R c d) : CRel (Rev R) d c := ⟨h.w2, h.w1, h.num.symm, h.a.rev, h.b.rev⟩
theorem Words.rev {R : Nat → Nat → Prop} {s t : MS} (h : Words R s t) : Words (Rev R) t s := ⟨h.lol.symm, fun j x y h1 h2 => (h.lo j y x h2 h1).rev, h.stl.symm, fun j hj => (h.st j (by rw [h.stl]; exact hj)).rev⟩
theorem CellsR.rev {R : Nat → Nat → Prop} {T U : List Cl} (h : CellsR R T U) : CellsR (Rev R) U T := fun a b hr => by
  obtain ⟨c, d, h1, h2, h3⟩ := h b a hr
  exact ⟨d, c, h2, h1, h3.rev⟩
theorem OneOne.rev {R : Nat → Nat → Prop} (h : OneOne R) : OneOne (Rev R) := ⟨fun a b b' h1 h2 => h.inj b b' a h1 h2, fun a a' b h1 h2 => h.fn b a a' h1 h2⟩
/-- What is paired, and can be reached. -/
def Only' (R : Nat → Nat → Prop) (P Q : Nat → Prop) (a b : Nat) : Prop := R a b ∧ P a ∧ Q b
/-- The pairing of two machines, of cells that can be reached. -/
structure Pr (R : Nat → Nat → Prop) (s t : MS) : Prop where
  one : OneOne R
  ws : Words R s t
  cs : CellsR R (toldS' s) (toldS' t)
  inn : ∀ a b, R a b → Rch (toldS' s) (flagR (s.lo ++ s.st)) a ∧ Rch (toldS' t) (flagR (t.lo ++ t.st)) b
theorem Pr.of {R : Nat → Nat → Prop} {s t : MS} (h1 : OneOne R) (h2 : Words R s t) (h3 : CellsR R (toldS' s) (toldS' t)) : ∃ R', Pr R' s t := by
  refine ⟨Only' R (Rch (toldS' s) (flagR (s.lo ++ s.st))) (Rch (toldS' t) (flagR (t.lo ++ t.st))), ⟨fun a b b' p q => h1.fn a b b' p.1 q.1, fun a a' b p q => h1.inj a a' b p.1 q.1⟩, ?_, ?_, fun a b h => h.2⟩
  · exact h2.mono (fun a b ha hb hr => ⟨hr, .root a (mem_flagR.2 ha), .root b (mem_flagR.2 hb)⟩)
  · intro a b ⟨hr, ha, hb⟩
    obtain ⟨c, d, e1, e2, e3⟩ := h3 a b hr
    refine ⟨c, d, e1, e2, e3.w1, e3.w2, e3.num, e3.a.mono (fun a' b' f1 f2 f3 => ⟨f3, ?_, ?_⟩), e3.b.mono (fun a' b' f1 f2 f3 => ⟨f3, ?_, ?_⟩)⟩
    · exact .ref a a' c ha e1 e3.w1 (.inl f1)
    · exact .ref b b' d hb e2 e3.w2 (.inl f2)
    · exact .ref a a' c ha e1 e3.w1 (.inr f1)
    · exact .ref b b' d hb e2 e3.w2 (.inr f2)
theorem Pr.rev {R : Nat → Nat → Prop} {s t : MS} (h : Pr R s t) : Pr (Rev R) t s := ⟨h.one.rev, h.ws.rev, h.cs.rev, fun a b hr => ⟨(h.inn b a hr).2, (h.inn b a hr).1⟩⟩
/-- Units of one. -/
theorem Pr.kept {R : Nat → Nat → Prop} {s t : MS} (h : Pr R s t) {h' : HSt} (hk : Kept (toldS' s) (h'.1.map toldC) (flagR (s.lo ++ s.st))) : Pr R { s with hs := h' } t := by
  refine ⟨h.one, ⟨h.ws.lol, h.ws.lo, h.ws.stl, h.ws.st⟩, ?_, ?_⟩
  · intro a b hr
    obtain ⟨c, d, e1, e2, e3⟩ := h.cs a b hr
    obtain ⟨c', g1, g2, g3, g4, g5, _⟩ := hk.cell a c (h.inn a b hr).1 e1
    refine ⟨c', d, g1, e2, g2.trans e3.w1, e3.w2, g4.trans e3.num, ?_, ?_⟩
    · rw [g5 e3.w1]; exact e3.a
    · rw [g3]; exact e3.b
  · intro a b hr
    exact ⟨hk.on (h.inn a b hr).1, (h.inn a b hr).2⟩
theorem Pr.keptR {R : Nat → Nat → Prop} {s t : MS} (h : Pr R s t) {h' : HSt} (hk : Kept (toldS' t) (h'.1.map toldC) (flagR (t.lo ++ t.st))) : Pr R s { t with hs := h' } := by
  have := (h.rev.kept hk).rev
  exact this
/-- One to one among so many numbers: all are met. -/
theorem pigeon : ∀ (n : Nat) (f : Nat → Nat), (∀ i, i < n → f i < n) → (∀ i j, i < n → j < n → f i = f j → i = j) → ∀ k, k < n → ∃ i, i < n ∧ f i = k := by
  intro n
  induction n with
  | zero => intro f _ _ k hk; omega
  | succ n ih =>
    intro f h1 h2 k hk
    by_cases hfn : f n = n
    · by_cases hkn : k = n
      · exact ⟨n, by omega, by omega⟩
      · have hlt : ∀ i, i < n → f i < n := by
          intro i hi
          have a := h1 i (by omega)
          have b : f i ≠ n := fun e => by have := h2 i n (by omega) (by omega) (by omega); omega
          omega
        obtain ⟨i, hi, e⟩ := ih f hlt (fun i j hi hj e => h2 i j (by omega) (by omega) e) k (by omega)
        exact ⟨i, by omega, e⟩
    · -- swap n and f n
      have ha := h1 n (by omega)
      obtain ⟨g, hg⟩ : ∃ g : Nat → Nat, ∀ i, g i = if f i = n then f n else f i := ⟨fun i => if f i = n then f n else f i, fun _ => rfl⟩
      have g1 : ∀ i, i < n → g i < n := by
        intro i hi
        rw [hg]
        split
        · omega
        · have := h1 i (by omega); omega
      have g2 : ∀ i j, i < n → j < n → g i = g j → i = j := by
        intro i j hi hj e
        rw [hg, hg] at e
        split at e
        · rename_i e1
          split at e
          · rename_i e2
            exact h2 i j (by omega) (by omega) (by omega)
          · have := h2 n j (by omega) (by omega) e; omega
        · split at e
          · have := h2 i n (by omega) (by omega) e; omega
          · exact h2 i j (by omega) (by omega) e
      by_cases hkn : k = f n
      · exact ⟨n, by omega, hkn.symm⟩
      by_cases hk2 : k = n
      · obtain ⟨i, hi, e⟩ := ih g g1 g2 (f n) (by omega)
        rw [hg] at e
        split at e
        · rename_i e1
          exact ⟨i, by omega, by omega⟩
        · have := h2 i n (by omega) (by omega) e; omega
      · obtain ⟨i, hi, e⟩ := ih g g1 g2 k (by omega)
        rw [hg] at e
        split at e
        · omega
        · exact ⟨i, by omega, e⟩
/-- Where all of one can be reached, all of the other can. -/
theorem Pr.all {R : Nat → Nat → Prop} {s t : MS} (h : Pr R s t) {n : Nat} (hl : (toldS' t).length = n) (ha : ∀ j, j < n → Rch (toldS' s) (flagR (s.lo ++ s.st)) j) : ∀ j, j < n → Rch (toldS' t) (flagR (t.lo ++ t.st)) j := by
  have hex : ∀ a, a < n → ∃ b, R a b := fun a hlt => by
    obtain ⟨b, h1, _⟩ := Rch.pair h.ws h.cs (ha a hlt)
    exact ⟨b, h1⟩
  obtain ⟨f, hf⟩ : ∃ f : Nat → Nat, ∀ a, a < n → R a (f a) := by
    refine ⟨fun a => if h : a < n then (hex a h).choose else 0, fun a hlt => ?_⟩
    simp only [dif_pos hlt]
    exact (hex a hlt).choose_spec
  intro j hj
  obtain ⟨i, hi, e⟩ := pigeon n f (fun i hi => by
    obtain ⟨c, d, _, e2, _⟩ := h.cs i (f i) (hf i hi)
    have := (List.getElem?_eq_some_iff.1 e2).1
    omega) (fun i j hi hj e => h.one.inj i j (f i) (hf i hi) (by rw [e]; exact hf j hj)) j hj
  have := (h.inn i (f i) (hf i hi)).2
  rw [e] at this
  exact this
end Go.Proofs.YtdmdpindonghdabDoor
namespace Go.Proofs.YtdmdpindonghdabDoor
open Go.RowKit
theorem Words.push {R : Nat → Nat → Prop} {s t : MS} (h : Words R s t) {x y : Bool × Int} (hx : WRel R x y) : Words R { s with st := s.st ++ [x] } { t with st := t.st ++ [y] } := by
  refine ⟨h.lol, h.lo, by simp [h.stl], fun j hj => ?_⟩
  simp only [List.length_append, List.length_singleton] at hj
  cases j with
  | zero => simp only [lastW_top]; exact hx
  | succ j =>
    simp only
    rw [lastW_under _ _ (by omega), lastW_under _ _ (by rw [← h.stl]; omega)]
    exact h.st j (by omega)
theorem Words.cut {R : Nat → Nat → Prop} {s t : MS} (h : Words R s t) (k : Nat) (hk : k ≤ s.st.length) : Words R { s with st := cutS s k } { t with st := cutS t k } := by
  have hl := h.stl
  refine ⟨h.lol, h.lo, by simp only [cutS, List.length_take]; omega, fun j hj => ?_⟩
  simp only [cutS, List.length_take] at hj ⊢
  rw [lastW_take _ (by omega), lastW_take _ (by omega)]
  exact h.st _ (by omega)
theorem Words.heap {R : Nat → Nat → Prop} {s t : MS} (h : Words R s t) (h1 h2 : HSt) : Words R { s with hs := h1 } { t with hs := h2 } := ⟨h.lol, h.lo, h.stl, h.st⟩
theorem Words.same {R : Nat → Nat → Prop} {s t s' t' : MS} (h : Words R s t) (e1 : s'.lo = s.lo) (e2 : s'.st = s.st) (e3 : t'.lo = t.lo) (e4 : t'.st = t.st) : Words R s' t' :=
  ⟨by rw [e1, e3]; exact h.lol, by rw [e1, e3]; exact h.lo, by rw [e2, e4]; exact h.stl, by rw [e2, e4]; exact h.st⟩
theorem Words.store {R : Nat → Nat → Prop} {s t : MS} (h : Words R s t) (n : Nat) (hp : 0 < s.st.length) : Words R { s with lo := s.lo.set n (lastW s.st 0), st := cutS s 1 } { t with lo := t.lo.set n (lastW t.st 0), st := cutS t 1 } := by
  have hc := h.cut 1 hp
  refine ⟨by simp [h.lol], ?_, hc.stl, hc.st⟩
  intro j x y h1 h2
  simp only at h1 h2
  rw [List.getElem?_set] at h1 h2
  by_cases e : n = j
  · rw [if_pos e] at h1 h2
    split at h1
    · split at h2
      · cases h1
        cases h2
        exact h.st 0 hp
      · cases h2
    · cases h1
  · rw [if_neg e] at h1 h2
    exact h.lo j x y h1 h2
/-- One cell is written. -/
def EditT (T T' : List Cl) (r : Nat) (f : Cl → Cl) : Prop := ∀ (k : Nat) (c : Cl), T[k]? = some c → ∃ c', T'[k]? = some c' ∧ c'.weak = c.weak ∧ c'.a = (if k = r then f c else c).a ∧ c'.b = (if k = r then f c else c).b ∧ c'.num = (if k = r then f c else c).num
theorem CellsR.edit {R : Nat → Nat → Prop} {T U T' U' : List Cl} {r r' : Nat} {f g : Cl → Cl} (h : CellsR R T U) (ho : OneOne R) (hr : R r r') (h1 : EditT T T' r f) (h2 : EditT U U' r' g) (hfg : ∀ c d, CRel R c d → (f c).num = (g d).num ∧ RefRel R (f c).a (g d).a ∧ RefRel R (f c).b (g d).b) : CellsR R T' U' := by
  intro a b hab
  obtain ⟨c, d, e1, e2, e3⟩ := h a b hab
  obtain ⟨c', p1, p2, p3, p4, p5⟩ := h1 a c e1
  obtain ⟨d', q1, q2, q3, q4, q5⟩ := h2 b d e2
  refine ⟨c', d', p1, q1, p2.trans e3.w1, q2.trans e3.w2, ?_, ?_, ?_⟩
  all_goals by_cases e : a = r
  · have e' : b = r' := by subst e; exact ho.fn a b r' hab hr
    rw [p5, q5, if_pos e, if_pos e']
    exact (hfg c d e3).1
  · have e' : b ≠ r' := by rintro rfl; exact e (ho.inj a r b hab hr)
    rw [p5, q5, if_neg e, if_neg e']
    exact e3.num
  · have e' : b = r' := by subst e; exact ho.fn a b r' hab hr
    rw [p3, q3, if_pos e, if_pos e']
    exact (hfg c d e3).2.1
  · have e' : b ≠ r' := by rintro rfl; exact e (ho.inj a r b hab hr)
    rw [p3, q3, if_neg e, if_neg e']
    exact e3.a
  · have e' : b = r' := by subst e; exact ho.fn a b r' hab hr
    rw [p4, q4, if_pos e, if_pos e']
    exact (hfg c d e3).2.2
  · have e' : b ≠ r' := by rintro rfl; exact e (ho.inj a r b hab hr)
    rw [p4, q4, if_neg e, if_neg e']
    exact e3.b
theorem note_edit (cs : List RC) (r : Nat) (v : Int) : EditT (cs.map toldC) ((cs.modify r (noteS v)).map toldC) r (noteL v) := by
  intro k c hc
  rw [List.getElem?_map] at hc
  cases hk : cs[k]? with
  | none => rw [hk] at hc; cases hc
  | some x =>
    rw [hk] at hc
    cases hc
    rw [List.getElem?_map, List.getElem?_modify, hk]
    by_cases e : r = k
    · subst e
      simp [noteL, noteS, toldC]
    · simp [e, Ne.symm e, toldC]
theorem store_edit (h : HSt) (r m : Nat) (v : Int) : EditT (h.1.map toldC) ((storeC h.1 h.2.1 r m v).map toldC) r (setABL m v) := by
  obtain ⟨U, hU⟩ : ∃ U, U = (if h.2.1 = 1 then shadeL (h.1.map toldC) v else h.1.map toldC) := ⟨_, rfl⟩
  have hp : Paint (h.1.map toldC) U := by
    rw [hU]; split
    · exact shade_paint _ _
    · exact Paint.refl _
  have ht := told_store h.1 h.2.1 r m v
  rw [← hU] at ht
  intro k c hc
  obtain ⟨u, e1, e2⟩ := hp.back k c hc
  have ew : u.weak = c.weak := by rw [e2]
  have ea : u.a = c.a := by rw [e2]
  have eb : u.b = c.b := by rw [e2]
  have en : u.num = c.num := by rw [e2]
  rw [ht, List.getElem?_modify, e1]
  by_cases e : r = k
  · subst e
    simp only [if_true, Option.map_eq_map, Option.map_some]
    refine ⟨_, rfl, ?_⟩
    unfold setABL
    split
    · exact ⟨ew, rfl, eb, en⟩
    · exact ⟨ew, ea, rfl, en⟩
  · simp only [if_neg e, if_neg (Ne.symm e), Option.map_eq_map, Option.map_some]
    exact ⟨u, rfl, ew, ea, eb, en⟩
theorem wants_R {R : Nat → Nat → Prop} {h1 h2 : HSt} {x y : Int} (hc : CellsR R (h1.1.map toldC) (h2.1.map toldC)) (hr : RefRel R x y) (wk : Bool) : wantsC h1.1 x wk = wantsC h2.1 y wk := by
  rcases hr with ⟨rfl, rfl⟩ | ⟨a, b, rfl, rfl, hab⟩
  · unfold wantsC
    rw [if_pos (by omega), if_pos (by omega)]
  · obtain ⟨c, d, e1, e2, e3⟩ := hc a b hab
    obtain ⟨c', f1, rfl⟩ := told_get e1
    obtain ⟨d', f2, rfl⟩ := told_get e2
    have w1 : c'.weak = false := e3.w1
    have w2 : d'.weak = false := e3.w2
    unfold wantsC
    rw [if_neg (show ¬ ((a : Nat) : Int) < 0 by omega), if_neg (show ¬ ((b : Nat) : Int) < 0 by omega)]
    simp only [Int.toNat_natCast, f1, f2, Option.map_some, w1, w2]
theorem RefRel.eq_iff {R : Nat → Nat → Prop} (ho : OneOne R) {x y x' y' : Int} (h : RefRel R x y) (h' : RefRel R x' y') : x = x' ↔ y = y' := by
  rcases h with ⟨rfl, rfl⟩ | ⟨a, b, rfl, rfl, hab⟩
  · rcases h' with ⟨rfl, rfl⟩ | ⟨a', b', rfl, rfl, hab'⟩
    · simp
    · constructor <;> intro e <;> omega
  · rcases h' with ⟨rfl, rfl⟩ | ⟨a', b', rfl, rfl, hab'⟩
    · constructor <;> intro e <;> omega
    · constructor
      · intro e
        obtain rfl : a = a' := by omega
        rw [ho.fn a b b' hab hab']
      · intro e
        obtain rfl : b = b' := by omega
        rw [ho.inj a a' b hab hab']
/-- Two machines that are alike. -/
structure Alk (R : Nat → Nat → Prop) (s t : MS) : Prop where
  pr : Pr R s t
  at_ : s.at_ = t.at_
  oc : s.oc = t.oc
  va : s.va = t.va
  rd : s.rd = t.rd
  out : s.out = t.out
structure Does (R : Nat → Nat → Prop) (s t : MS) : Prop where
  ws : Words R s t
  cs : CellsR R (toldS' s) (toldS' t)
  rd : s.rd = t.rd
  out : s.out = t.out
set_option maxHeartbeats 1000000 in
/-- An instruction that takes no cell. -/
theorem does_W {E : Env} {s t : MS} {i : Ins} {R : Nat → Nat → Prop} (he : EnvOk E) (hs : MInv E s) (h : Alk R s t) (hc : CanI E s i) (h13 : i.op ≠ 13) (h23 : i.op ≠ 23) (hends : endsC s.hs.1 s.st i.op = 0) : Does R (doesS E i (-1) s) (doesS E i (-1) t) := by
  have hw := h.pr.ws
  have hcs := h.pr.cs
  have hl := hw.stl
  by_cases e1 : i.op = 1
  · simp only [doesS, e1, if_true]
    exact ⟨hw.push (WRel.ofNum _ _), hcs, h.rd, h.out⟩
  by_cases e7 : i.op = 7
  · simp only [doesS, e7, reduceIte, Nat.reduceEqDiff, or_self]
    have hn := he.wf.arg i hc.mem (.inl e7)
    have hnl : i.n < s.lo.length := by have := hs.lo he; omega
    have hnt : i.n < t.lo.length := by have := hw.lol; omega
    have hx := hw.lo i.n _ _ (List.getElem?_eq_getElem hnl) (List.getElem?_eq_getElem hnt)
    rw [List.getD_eq_getElem?_getD, List.getElem?_eq_getElem hnl, List.getD_eq_getElem?_getD, List.getElem?_eq_getElem hnt]
    exact ⟨hw.push hx, hcs, h.rd, h.out⟩
  by_cases e8 : i.op = 8
  · simp only [doesS, e8, reduceIte, Nat.reduceEqDiff, or_self]
    exact ⟨hw.store i.n (can_one hc (.inl e8)), hcs, h.rd, h.out⟩
  by_cases e9 : i.op = 9
  · simp only [doesS, e9, reduceIte, Nat.reduceEqDiff, or_self]
    exact ⟨hw.push (hw.st 0 (can_one hc (.inr (.inl e9)))), hcs, h.rd, h.out⟩
  by_cases e10 : i.op = 10
  · simp only [doesS, e10, reduceIte, Nat.reduceEqDiff, or_self, true_or]
    exact ⟨hw.cut 1 (can_one hc (.inr (.inr e10))), hcs, h.rd, h.out⟩
  by_cases e11 : i.op = 11
  · simp only [doesS, e11, reduceIte, Nat.reduceEqDiff, or_self]
    have hp := can_two hc e11
    have q := ((hw.cut 2 hp).push (hw.st 0 (by omega))).push (hw.st 1 hp)
    refine ⟨?_, hcs, h.rd, h.out⟩
    simpa using q
  by_cases e12 : i.op = 12
  · simp only [doesS, e12, reduceIte, Nat.reduceEqDiff, or_self]
    exact ⟨hw.push (WRel.none _), hcs, h.rd, h.out⟩
  by_cases e21 : i.op = 21
  · simp only [doesS, e21, reduceIte, Nat.reduceEqDiff, or_self]
    have hrd := h.rd
    rw [← hrd]
    split
    · exact ⟨(hw.push (WRel.ofNum _ _)).same rfl rfl rfl rfl, hcs, rfl, h.out⟩
    · exact ⟨(hw.push (WRel.ofNum _ _)).same rfl rfl rfl rfl, hcs, rfl, h.out⟩
  have hstd := hc.std ⟨e7, e8, e9, e10, e11⟩
  have num1 : popsL i.op = [105] → 0 < s.st.length ∧ (lastW s.st 0).2 = (lastW t.st 0).2 := fun e => by
    obtain ⟨hp, hf⟩ := hstd.one e
    exact ⟨hp, (hw.st 0 hp).num (letB_i hf)⟩
  have num2 : popsL i.op = [105, 105] → 1 < s.st.length ∧ (lastW s.st 1).2 = (lastW t.st 1).2 ∧ (lastW s.st 0).2 = (lastW t.st 0).2 := fun e => by
    obtain ⟨hp, hf, hf2⟩ := hstd.two e
    exact ⟨hp, (hw.st 1 hp).num (letB_i hf), (hw.st 0 (by omega)).num (letB_i hf2)⟩
  by_cases e2 : i.op = 2 ∨ i.op = 3 ∨ i.op = 4 ∨ i.op = 5 ∨ i.op = 6
  · have e2' : i.op = 2 ∨ i.op = 3 ∨ i.op = 4 ∨ i.op = 5 ∨ i.op = 6 ∨ i.op = 18 := by omega
    obtain ⟨hp, n1, n2⟩ := num2 (by rcases e2 with e | e | e | e | e <;> rw [e] <;> rfl)
    simp only [doesS, if_neg e1, if_pos e2']
    rw [n1, n2]
    exact ⟨(hw.cut 2 hp).push (WRel.ofNum _ _), hcs, h.rd, h.out⟩
  by_cases e18 : i.op = 18
  · obtain ⟨hp, hf, hf2⟩ := hstd.two (c := 114) (d := 114) (by rw [e18]; rfl)
    simp only [doesS, e18, reduceIte, Nat.reduceEqDiff, or_true]
    have q := ((hw.st 1 hp).ref (letB_r hf)).eq_iff h.pr.one ((hw.st 0 (by omega)).ref (letB_r hf2))
    have : sumC 18 (lastW s.st 1).2 (lastW s.st 0).2 = sumC 18 (lastW t.st 1).2 (lastW t.st 0).2 := by
      unfold sumC
      simp [q]
    simp only [Int.cast_ofNat_Int]
    rw [this]
    exact ⟨(hw.cut 2 hp).push (WRel.ofNum _ _), hcs, h.rd, h.out⟩
  by_cases e20 : i.op = 20
  · obtain ⟨hp, _⟩ := num1 (by rw [e20]; rfl)
    simp only [doesS, e20, reduceIte, Nat.reduceEqDiff, or_self, or_true]
    exact ⟨hw.cut 1 hp, hcs, h.rd, h.out⟩
  by_cases e22 : i.op = 22
  · obtain ⟨hp, n1⟩ := num1 (by rw [e22]; rfl)
    simp only [doesS, e22, reduceIte, Nat.reduceEqDiff, or_self]
    rw [n1]
    exact ⟨(hw.cut 1 hp).same rfl rfl rfl rfl, hcs, h.rd, by simp [h.out]⟩
  have hcell : ∀ {x y : Int}, 0 ≤ x → RefRel R x y → ∃ (a b : Nat) (c d : RC), x = (a : Int) ∧ y = (b : Int) ∧ R a b ∧ cellAt s.hs.1 x = c ∧ cellAt t.hs.1 y = d ∧ CRel R (toldC c) (toldC d) := by
    intro x y h0 hr
    rcases hr with ⟨e, _⟩ | ⟨a, b, rfl, rfl, hab⟩
    · omega
    · obtain ⟨c, d, e1, e2, e3⟩ := hcs a b hab
      obtain ⟨c', f1, rfl⟩ := told_get e1
      obtain ⟨d', f2, rfl⟩ := told_get e2
      refine ⟨a, b, c', d', rfl, rfl, hab, ?_, ?_, e3⟩
      · unfold cellAt
        rw [List.getD_eq_getElem?_getD, Int.toNat_natCast, f1]; rfl
      · unfold cellAt
        rw [List.getD_eq_getElem?_getD, Int.toNat_natCast, f2]; rfl
  have hpos : ∀ {x : Int} {wk : Bool}, wantsC s.hs.1 x wk = 0 → 0 ≤ x := fun {x} {wk} hx => by
    unfold wantsC at hx
    split at hx
    · omega
    · omega
  by_cases e14 : i.op = 14 ∨ i.op = 24
  · obtain ⟨hp, hf⟩ := hstd.one (c := 114) (by rcases e14 with e | e <;> rw [e] <;> rfl)
    have hr := (hw.st 0 hp).ref (letB_r hf)
    obtain ⟨wk, hwk⟩ : ∃ wk, wantsC s.hs.1 (lastW s.st 0).2 wk = 0 := by
      rcases e14 with e | e
      · exact ⟨false, by rw [← hends, e]; simp [endsC]⟩
      · exact ⟨true, by rw [← hends, e]; simp [endsC]⟩
    obtain ⟨a, b, c, d, _, _, _, q1, q2, q3⟩ := hcell (hpos hwk) hr
    simp only [doesS, touchS, if_neg e1, if_neg e7, if_neg e8, if_neg e9, if_neg e11, if_neg e12, if_neg e21, if_neg e22, if_neg h13, if_neg h23, if_pos e14, if_neg (show ¬ (i.op = 2 ∨ i.op = 3 ∨ i.op = 4 ∨ i.op = 5 ∨ i.op = 6 ∨ i.op = 18) by omega), if_neg (show ¬ (i.op = 10 ∨ i.op = 20) by omega), q1, q2]
    refine ⟨(hw.cut 1 hp).push ⟨rfl, fun e => by (cases e), fun _ => ?_⟩, hcs, h.rd, h.out⟩
    split
    · exact q3.a
    · exact q3.b
  by_cases e16 : i.op = 16
  · obtain ⟨hp, hf⟩ := hstd.one (c := 114) (by rw [e16]; rfl)
    have hr := (hw.st 0 hp).ref (letB_r hf)
    have hwk : wantsC s.hs.1 (lastW s.st 0).2 false = 0 := by rw [← hends, e16]; simp [endsC]
    obtain ⟨a, b, c, d, _, _, _, q1, q2, q3⟩ := hcell (hpos hwk) hr
    simp only [doesS, touchS, e16, reduceIte, Nat.reduceEqDiff, or_self, q1, q2]
    have : c.num = d.num := q3.num
    rw [this]
    exact ⟨(hw.cut 1 hp).push (WRel.ofNum _ _), hcs, h.rd, h.out⟩
  by_cases e17 : i.op = 17
  · obtain ⟨hp, hf, hf2⟩ := hstd.two (c := 114) (d := 105) (by rw [e17]; rfl)
    have hr := (hw.st 1 hp).ref (letB_r hf)
    have hn := (hw.st 0 (by omega)).num (letB_i hf2)
    have hwk : wantsC s.hs.1 (lastW s.st 1).2 false = 0 := by rw [← hends, e17]; simp [endsC]
    obtain ⟨a, b, c, d, q4, q5, q6, _, _, _⟩ := hcell (hpos hwk) hr
    simp only [doesS, touchS, e17, reduceIte, Nat.reduceEqDiff, or_self]
    refine ⟨(hw.cut 2 hp).heap _ _, ?_, h.rd, h.out⟩
    rw [q4, q5, ← hn]
    refine hcs.edit h.pr.one q6 (note_edit s.hs.1 a _) (note_edit t.hs.1 b _) (fun c d q => ?_)
    exact ⟨rfl, q.a, q.b⟩
  by_cases e15 : i.op = 15
  · obtain ⟨hp, hf, hf2⟩ := hstd.two (c := 114) (d := 114) (by rw [e15]; rfl)
    have hr := (hw.st 1 hp).ref (letB_r hf)
    have hv := (hw.st 0 (by omega)).ref (letB_r hf2)
    have hwk : wantsC s.hs.1 (lastW s.st 1).2 false = 0 := by rw [← hends, e15]; simp [endsC]
    obtain ⟨a, b, c, d, q4, q5, q6, _, _, _⟩ := hcell (hpos hwk) hr
    simp only [doesS, touchS, e15, reduceIte, Nat.reduceEqDiff, or_self]
    refine ⟨(hw.cut 2 hp).heap _ _, ?_, h.rd, h.out⟩
    rw [q4, q5]
    refine hcs.edit h.pr.one q6 (store_edit s.hs a i.n _) (store_edit t.hs b i.n _) (fun c d q => ?_)
    unfold setABL
    split
    · exact ⟨q.num, hv, q.b⟩
    · exact ⟨q.num, q.a, hv⟩
  have hd : ∀ u : MS, doesS E i (-1) u = u := fun u => by
    simp only [doesS, touchS, if_neg e1, if_neg e7, if_neg e8, if_neg e9, if_neg e11, if_neg e12, if_neg e21, if_neg e22, if_neg h13, if_neg h23, if_neg e14, if_neg e16, if_neg e17, if_neg e15, if_neg (show ¬ (i.op = 2 ∨ i.op = 3 ∨ i.op = 4 ∨ i.op = 5 ∨ i.op = 6 ∨ i.op = 18) by omega), if_neg (show ¬ (i.op = 10 ∨ i.op = 20) by omega)]
  rw [hd, hd]
  exact ⟨hw, hcs, h.rd, h.out⟩
end Go.Proofs.YtdmdpindonghdabDoor
namespace Go.Proofs.YtdmdpindonghdabDoor
open Go.RowKit
theorem MInv.gh {E : Env} {s : MS} (h : MInv E s) (hg : GS s) : GH E.n s.hs (flagR (s.lo ++ s.st)) := ⟨h.hh, hg.flag⟩
theorem Alk.coll {E : Env} (hn : NoMix E) {s t : MS} {R : Nat → Nat → Prop} (hs : MInv E s) (gs : GS s) (h : Alk R s t) (m : Nat) : Alk R (collS E m s) t := by
  have k := (hs.gh gs).keptU m
  rw [← rootsS_flag hn hs] at k
  refine ⟨h.pr.kept (h' := unitsC (rootsS E s) m s.hs) ?_, h.at_, h.oc, h.va, h.rd, h.out⟩
  rw [← rootsS_flag hn hs]
  exact k
theorem Alk.rev {s t : MS} {R : Nat → Nat → Prop} (h : Alk R s t) : Alk (Rev R) t s := ⟨h.pr.rev, h.at_.symm, h.oc.symm, h.va.symm, h.rd.symm, h.out.symm⟩
theorem Alk.collR {E : Env} (hn : NoMix E) {s t : MS} {R : Nat → Nat → Prop} (ht : MInv E t) (gt : GS t) (h : Alk R s t) (m : Nat) : Alk R s (collS E m t) := (h.rev.coll hn ht gt m).rev
theorem ends_W {E : Env} {s t : MS} {i : Ins} {R : Nat → Nat → Prop} (h : Alk R s t) (hc : CanI E s i) : endsC s.hs.1 s.st i.op = endsC t.hs.1 t.st i.op := by
  have hw := h.pr.ws
  have hcs := h.pr.cs
  by_cases e : i.op = 7 ∨ i.op = 8 ∨ i.op = 9 ∨ i.op = 10 ∨ i.op = 11
  · unfold endsC
    rcases e with e | e | e | e | e <;> simp [e]
  have hstd := hc.std ⟨by omega, by omega, by omega, by omega, by omega⟩
  by_cases e5 : i.op = 5
  · obtain ⟨hp, _, hf2⟩ := hstd.two (c := 105) (d := 105) (by rw [e5]; rfl)
    have hn := (hw.st 0 (by omega)).num (letB_i hf2)
    unfold endsC
    simp [e5, hn]
  by_cases e14 : i.op = 14 ∨ i.op = 16 ∨ i.op = 24
  · obtain ⟨hp, hf⟩ := hstd.one (c := 114) (by rcases e14 with e | e | e <;> rw [e] <;> rfl)
    have hr := (hw.st 0 hp).ref (letB_r hf)
    have q := wants_R (h1 := s.hs) (h2 := t.hs) hcs hr
    unfold endsC
    rcases e14 with e | e | e <;> simp [e, q]
  by_cases e15 : i.op = 15 ∨ i.op = 17
  · have hr : RefRel R (lastW s.st 1).2 (lastW t.st 1).2 := by
      rcases e15 with e | e
      · obtain ⟨hp, hf, _⟩ := hstd.two (c := 114) (d := 114) (by rw [e]; rfl)
        exact (hw.st 1 hp).ref (letB_r hf)
      · obtain ⟨hp, hf, _⟩ := hstd.two (c := 114) (d := 105) (by rw [e]; rfl)
        exact (hw.st 1 hp).ref (letB_r hf)
    have q := wants_R (h1 := s.hs) (h2 := t.hs) hcs hr
    unfold endsC
    rcases e15 with e | e <;> simp [e, q]
  unfold endsC
  have n1 : ¬ ((i.op : Int) = 14 ∨ (i.op : Int) = 16) := by omega
  have n2 : ¬ ((i.op : Int) = 24) := by omega
  have n3 : ¬ ((i.op : Int) = 15 ∨ (i.op : Int) = 17) := by omega
  have n4 : ¬ ((i.op : Int) = 5) := by omega
  simp only [if_neg n1, if_neg n2, if_neg n3, if_neg n4]
/-- A fresh cell of each is paired. -/
def Fresh' (R : Nat → Nat → Prop) (j k : Nat) (a b : Nat) : Prop := R a b ∨ (a = j ∧ b = k)
theorem alive_told {h : HSt} (hlow : 0 ≤ lowC h) : ¬ AliveH h (lowC h).toNat := by
  obtain ⟨hlt, hu⟩ := lowC_at hlow
  intro ha
  apply ha.1
  rw [colL_some (told_at (List.getElem?_eq_getElem hlt))]
  show colR _ = 0
  unfold colR
  rw [if_pos hu]
theorem begin_told (h : HSt) (k : Nat) (hk : k ≠ (lowC h).toNat) : ((beginC h).2.1.map toldC)[k]? = (h.1.map toldC)[k]? := by
  unfold beginC
  simp only [List.getElem?_map]
  rw [List.getElem?_set_ne (Ne.symm hk)]
theorem begin_new {h : HSt} (hlow : 0 ≤ lowC h) : ∃ c, ((beginC h).2.1.map toldC)[(lowC h).toNat]? = some c ∧ c.weak = false ∧ c.a = -1 ∧ c.b = -1 ∧ c.num = 0 := by
  obtain ⟨hlt, _⟩ := lowC_at hlow
  unfold beginC
  simp only [List.getElem?_map]
  rw [List.getElem?_set_self hlt]
  exact ⟨_, rfl, rfl, rfl, rfl, rfl⟩
set_option maxHeartbeats 1000000 in
theorem Alk.step {E : Env} (he : EnvOk E) (hn : NoMix E) (hnw : ∀ i ∈ E.l, i.op ≠ 23) {s t : MS} {R : Nat → Nat → Prop} (hs : MInv E s) (gs : GS s) (ht : MInv E t) (gt : GS t) (h : Alk R s t) : ∃ R', Alk R' (stepS E s) (stepS E t) := by
  obtain ⟨i, hc⟩ := hs.can he
  have h23 := hnw i hc.mem
  have e1 : stepS E s = stepI E i s := by unfold stepS; rw [hc.get]
  have e2 : stepS E t = stepI E i t := by unfold stepS; rw [← h.at_, hc.get]
  rw [e1, e2]
  have hends := ends_W h hc
  have hw := h.pr.ws
  by_cases h1 : endsC s.hs.1 s.st i.op = 1
  · have h0 := ends_one h1
    rw [step_halt h0, step_halt h0]
    have hstd := hc.std ⟨by omega, by omega, by omega, by omega, by omega⟩
    obtain ⟨hp, hf⟩ := hstd.one (c := 105) (by rw [h0]; rfl)
    exact ⟨R, ⟨h.pr.one, ⟨hw.lol, hw.lo, hw.stl, hw.st⟩, h.pr.cs, h.pr.inn⟩, h.at_, rfl, (hw.st 0 hp).num (letB_i hf), h.rd, h.out⟩
  by_cases h2 : endsC s.hs.1 s.st i.op ≠ 0
  · rw [step_trap h2 h1, step_trap (by rw [← hends]; exact h2) (by rw [← hends]; exact h1)]
    exact ⟨R, ⟨h.pr.one, ⟨hw.lol, hw.lo, hw.stl, hw.st⟩, h.pr.cs, h.pr.inn⟩, h.at_, by simp only [hends], h.va, h.rd, h.out⟩
  have hz : endsC s.hs.1 s.st i.op = 0 := by omega
  have hzt : endsC t.hs.1 t.st i.op = 0 := by rw [← hends]; exact hz
  have hto : ∀ {s' t' : MS}, s'.at_ = t'.at_ → (i.op = 20 → (lastW s'.st 0).2 = (lastW t'.st 0).2) → toS E i s' = toS E i t' := by
    intro s' t' a b
    unfold toS
    rw [a]
    by_cases e : i.op = 20
    · rw [b e]
    · simp [e]
  by_cases h13 : i.op = 13
  · rw [step_take (.inl h13), step_take (.inl h13)]
    have ks := hs.gh gs
    have kt := ht.gh gt
    have fs := full_iff ks
    have ft := full_iff kt
    rw [← rootsS_flag hn hs] at fs
    rw [← rootsS_flag hn ht] at ft
    have hiff : (takeC (rootsS E s) s.hs).1 < 0 ↔ (takeC (rootsS E t) t.hs).1 < 0 := by
      rw [fs, ft, rootsS_flag hn hs, rootsS_flag hn ht]
      exact ⟨h.pr.all (by unfold toldS'; rw [List.length_map]; exact ht.n), h.pr.rev.all (by unfold toldS'; rw [List.length_map]; exact hs.n)⟩
    have kks := ks.keptRoom
    have kkt := kt.keptRoom
    have hp1 := (h.pr.kept kks).keptR kkt
    have grs : GS { s with hs := roomC (flagR (s.lo ++ s.st)) s.hs } := GS.of (s := { s with hs := roomC (flagR (s.lo ++ s.st)) s.hs }) ks.room.g
    have grt : GS { t with hs := roomC (flagR (t.lo ++ t.st)) t.hs } := GS.of (s := { t with hs := roomC (flagR (t.lo ++ t.st)) t.hs }) kt.room.g
    by_cases hneg : (takeC (rootsS E s) s.hs).1 < 0
    · rw [if_pos hneg, if_pos (hiff.1 hneg)]
      have es : (takeC (rootsS E s) s.hs).2 = roomC (flagR (s.lo ++ s.st)) s.hs := by
        rw [rootsS_flag hn hs] at hneg ⊢
        rw [takeC_room] at hneg ⊢
        split at hneg
        · rename_i hlow
          have : (beginC (roomC (flagR (s.lo ++ s.st)) s.hs)).1 = lowC (roomC (flagR (s.lo ++ s.st)) s.hs) := rfl
          omega
        · rename_i hlow
          rw [if_neg hlow]
      have et : (takeC (rootsS E t) t.hs).2 = roomC (flagR (t.lo ++ t.st)) t.hs := by
        have hneg := hiff.1 hneg
        rw [rootsS_flag hn ht] at hneg ⊢
        rw [takeC_room] at hneg ⊢
        split at hneg
        · rename_i hlow
          have : (beginC (roomC (flagR (t.lo ++ t.st)) t.hs)).1 = lowC (roomC (flagR (t.lo ++ t.st)) t.hs) := rfl
          omega
        · rename_i hlow
          rw [if_neg hlow]
      rw [es, et]
      exact ⟨R, ⟨hp1.one, ⟨hw.lol, hw.lo, hw.stl, hw.st⟩, hp1.cs, hp1.inn⟩, h.at_, rfl, h.va, h.rd, h.out⟩
    · have hnegt : ¬ (takeC (rootsS E t) t.hs).1 < 0 := fun e => hneg (hiff.2 e)
      rw [if_neg hneg, if_neg hnegt]
      rw [rootsS_flag hn hs] at hneg ⊢
      rw [rootsS_flag hn ht] at hnegt ⊢
      rw [takeC_room] at hneg ⊢
      rw [takeC_room (flagR (t.lo ++ t.st))] at hnegt ⊢
      generalize roomC (flagR (s.lo ++ s.st)) s.hs = h1 at *
      generalize roomC (flagR (t.lo ++ t.st)) t.hs = h2 at *
      by_cases l1 : 0 ≤ lowC h1
      · by_cases l2 : 0 ≤ lowC h2
        · rw [if_pos l1, if_pos l2]
          have a1 := alive_told l1
          have a2 := alive_told l2
          have hj1 : (beginC h1).1 = ((lowC h1).toNat : Int) := by show lowC h1 = _; omega
          have hj2 : (beginC h2).1 = ((lowC h2).toNat : Int) := by show lowC h2 = _; omega
          have hne : ∀ a b, R a b → a ≠ (lowC h1).toNat ∧ b ≠ (lowC h2).toNat := by
            intro a b hab
            obtain ⟨r1, r2⟩ := hp1.inn a b hab
            refine ⟨fun e => a1 ?_, fun e => a2 ?_⟩
            · rw [← e]; exact grs.flag.alive r1
            · rw [← e]; exact grt.flag.alive r2
          obtain ⟨c1, n1, n2, n3, n4, n5⟩ := begin_new l1
          obtain ⟨c2, m1, m2, m3, m4, m5⟩ := begin_new l2
          have b1 := begin_told h1
          have b2 := begin_told h2
          rw [hj1, hj2]
          generalize (lowC h1).toNat = j1 at *
          generalize (lowC h2).toNat = j2 at *
          generalize (beginC h1).2 = h1' at *
          generalize (beginC h2).2 = h2' at *
          have mono : ∀ {x y : Int}, RefRel R x y → RefRel (Fresh' R j1 j2) x y := fun q => q.mono (fun a b _ _ r => .inl r)
          have hone : OneOne (Fresh' R j1 j2) := by
            refine ⟨fun a b b' p q => ?_, fun a a' b p q => ?_⟩
            · rcases p with p | ⟨p1, p2⟩
              · rcases q with q | ⟨q1, q2⟩
                · exact hp1.one.fn a b b' p q
                · exact absurd q1 (hne a b p).1
              · rcases q with q | ⟨q1, q2⟩
                · exact absurd p1 (hne a b' q).1
                · omega
            · rcases p with p | ⟨p1, p2⟩
              · rcases q with q | ⟨q1, q2⟩
                · exact hp1.one.inj a a' b p q
                · exact absurd q2 (hne a b p).2
              · rcases q with q | ⟨q1, q2⟩
                · exact absurd p2 (hne a' b q).2
                · omega
          have hws : Words (Fresh' R j1 j2) { s with hs := h1', st := s.st ++ [(true, (j1 : Int))] } { t with hs := h2', st := t.st ++ [(true, (j2 : Int))] } :=
            (((hw.mono (fun a b _ _ r => Or.inl r)).heap h1' h2').push (x := (true, (j1 : Int))) (y := (true, (j2 : Int))) ⟨rfl, fun e => by (cases e), fun _ => .inr ⟨j1, j2, rfl, rfl, .inr ⟨rfl, rfl⟩⟩⟩)
          have hcs : CellsR (Fresh' R j1 j2) (h1'.1.map toldC) (h2'.1.map toldC) := by
            intro a b hab
            rcases hab with hab | ⟨rfl, rfl⟩
            · obtain ⟨c, d, q1, q2, q3⟩ := hp1.cs a b hab
              obtain ⟨x1, x2⟩ := hne a b hab
              exact ⟨c, d, by rw [b1 a x1]; exact q1, by rw [b2 b x2]; exact q2, q3.w1, q3.w2, q3.num, mono q3.a, mono q3.b⟩
            · exact ⟨c1, c2, n1, m1, n2, m2, by rw [n5, m5], .inl ⟨n3, m3⟩, .inl ⟨n4, m4⟩⟩
          have hd : ∀ (u : MS) (c : Int), doesS E i c u = { u with st := u.st ++ [(true, c)] } := fun u c => by simp [doesS, touchS, h13]
          have hg1 : goS E i (j1 : Int) { s with hs := h1' } = { s with hs := h1', st := s.st ++ [(true, (j1 : Int))], at_ := toS E i { s with hs := h1' } } := by unfold goS; rw [hd]
          have hg2 : goS E i (j2 : Int) { t with hs := h2' } = { t with hs := h2', st := t.st ++ [(true, (j2 : Int))], at_ := toS E i { t with hs := h2' } } := by unfold goS; rw [hd]
          rw [hg1, hg2]
          obtain ⟨R', hR'⟩ := Pr.of (s := { s with hs := h1', st := s.st ++ [(true, (j1 : Int))], at_ := toS E i { s with hs := h1' } }) (t := { t with hs := h2', st := t.st ++ [(true, (j2 : Int))], at_ := toS E i { t with hs := h2' } }) hone (hws.same rfl rfl rfl rfl) hcs
          exact ⟨R', hR', hto h.at_ (fun e => by omega), h.oc, h.va, h.rd, h.out⟩
        · rw [if_neg l2] at hnegt
          simp at hnegt
      · rw [if_neg l1] at hneg
        simp at hneg
  · rw [step_go hz h13 h23, step_go hzt h13 h23]
    have q := does_W he hs h hc h13 h23 hz
    have o1 := does_oc E i (-1) s
    have o2 := does_oc E i (-1) t
    obtain ⟨R', hR'⟩ := Pr.of (s := goS E i (-1) s) (t := goS E i (-1) t) h.pr.one (q.ws.same rfl rfl rfl rfl) q.cs
    refine ⟨R', hR', hto h.at_ (fun e => ?_), ?_, ?_, q.rd, q.out⟩
    · have hstd := hc.std ⟨by omega, by omega, by omega, by omega, by omega⟩
      obtain ⟨hp, hf⟩ := hstd.one (c := 105) (by rw [e]; rfl)
      exact (hw.st 0 hp).num (letB_i hf)
    · show (doesS E i (-1) s).oc = (doesS E i (-1) t).oc
      rw [o1.1, o2.1]; exact h.oc
    · show (doesS E i (-1) s).va = (doesS E i (-1) t).va
      rw [o1.2, o2.2]; exact h.va
theorem Alk.start (L n : Nat) : Alk (fun _ _ => False) (startS L n) (startS L n) := by
  refine ⟨⟨⟨fun _ _ _ h => h.elim, fun _ _ _ h => h.elim⟩, ⟨rfl, ?_, rfl, ?_⟩, fun _ _ h => h.elim, fun _ _ h => h.elim⟩, rfl, rfl, rfl, rfl, rfl⟩
  · intro j x y h1 h2
    rw [h1] at h2
    cases h2
    have : x = (false, 0) := by
      have := List.mem_of_getElem? h1
      simp only [startS] at this
      exact (List.mem_replicate.1 this).2
    subst this
    exact WRel.ofNum _ _
  · intro j hj
    simp [startS] at hj
/-- An image that is built without Weak has none. -/
def bodyN (c : Nat) : Bool := (bodyC c false).2.all (fun x => x.1 != 23)
theorem bodyN_all : (List.range 256).all bodyN = true := by kernel_rfl
theorem pieceN (c : Nat) (hc : c < 256) (at_ : Nat) : (pieceC c at_ false).all (fun x => x.1 != 23) = true := by
  have h : bodyN c = true := List.all_eq_true.1 bodyN_all c (List.mem_range.2 hc)
  unfold bodyN at h
  unfold pieceC
  split
  · exact h
  · unfold unlC
    rw [List.all_append, h]
    rfl
theorem bgoN (r : List UInt8) : ∀ cs, cs.all (fun x : Nat × Nat => x.1 != 23) = true → (bgo false cs r).all (fun x => x.1 != 23) = true := by
  induction r with
  | nil => intro cs h; exact h
  | cons c r ih =>
    intro cs h
    unfold bgo
    split
    · refine ih _ ?_
      rw [List.all_append, h, pieceN c.toNat (UInt8.toNat_lt c)]
      rfl
    · exact h
theorem placed_ops (cs : List (Nat × Nat)) (h : cs.all (fun x => x.1 != 23) = true) : ∀ p, ∀ i ∈ placed p cs, i.op ≠ 23 := by
  induction cs with
  | nil => intro p i hi; cases hi
  | cons x r ih =>
    intro p i hi
    simp only [List.all_cons, Bool.and_eq_true, bne_iff_ne] at h
    rcases List.mem_cons.1 hi with rfl | hi
    · exact h.1
    · exact ih h.2 _ i hi
theorem built_nw (raw : ByteArray) : ∀ i ∈ codeOf (builtS raw false), i.op ≠ 23 := by
  rw [(built_ok raw false).2.1]
  refine placed_ops _ ?_ 0
  unfold builtC
  rw [List.all_append, bgoN _ proC (by kernel_rfl)]
  rfl
end Go.Proofs.YtdmdpindonghdabDoor
namespace Go.Proofs.YtdmdpindonghdabDoor
open Go.RowKit
/-- What is met so far: which cells, in which order, whether every reference was sound. -/
structure Sn where
  ins : List Bool
  todo : List Nat
  sound : Bool
def meetS (v : Int) (S : Sn) : Sn :=
  if v = -1 then S else if v < 0 ∨ (S.ins.length : Int) ≤ v then { S with sound := false }
  else if S.ins.getD v.toNat false = false then { S with ins := S.ins.set v.toNat true, todo := S.todo ++ [v.toNat] } else S
def meetsS (rs : List Int) (S : Sn) : Sn := rs.foldl (fun S v => meetS v S) S
def lookS (cs : List Cl) (k : Nat) (S : Sn) : Sn := match cs[k]? with | none => S | some c => if c.weak = true then S else meetS c.b (meetS c.a S)
/-- What is always so while it goes on. -/
structure SnOk (n : Nat) (S : Sn) : Prop where
  len : S.ins.length = n
  cnt : S.todo.length = S.ins.countP (fun b => b)
  mem : ∀ k, S.ins[k]? = some true ↔ k ∈ S.todo
  sound : S.sound = true
theorem SnOk.todo_le {n : Nat} {S : Sn} (h : SnOk n S) : S.todo.length ≤ n := by
  rw [h.cnt, ← h.len]; exact List.countP_le_length
theorem SnOk.lt {n : Nat} {S : Sn} (h : SnOk n S) {k : Nat} (hk : k ∈ S.todo) : k < n := by
  have := (List.getElem?_eq_some_iff.1 ((h.mem k).2 hk)).1
  rw [h.len] at this
  exact this
theorem count_set : ∀ (l : List Bool) (k : Nat), l[k]? = some false → (l.set k true).countP (fun b => b) = l.countP (fun b => b) + 1
  | [], k, h => by simp at h
  | a :: r, 0, h => by
    simp only [List.getElem?_cons_zero, Option.some.injEq] at h
    subst h
    simp
  | a :: r, k + 1, h => by
    simp only [List.getElem?_cons_succ] at h
    simp only [List.set_cons_succ, List.countP_cons, count_set r k h]
    omega
theorem SnOk.meet {n : Nat} {S : Sn} (h : SnOk n S) (v : Int) (hv : -1 ≤ v ∧ v < (n : Int)) :
    SnOk n (meetS v S) ∧ (∀ k, k ∈ (meetS v S).todo ↔ k ∈ S.todo ∨ v = (k : Int)) ∧ ∃ e, (meetS v S).todo = S.todo ++ e := by
  unfold meetS
  by_cases h1 : v = -1
  · rw [if_pos h1]
    refine ⟨h, fun k => ⟨.inl, ?_⟩, [], by simp⟩
    rintro (h | h)
    · exact h
    · omega
  rw [if_neg h1, if_neg (by rw [h.len]; omega)]
  have hlt : v.toNat < S.ins.length := by rw [h.len]; omega
  by_cases hf : S.ins.getD v.toNat false = false
  · rw [if_pos hf]
    have hg : S.ins[v.toNat]? = some false := by
      rw [List.getD_eq_getElem?_getD, List.getElem?_eq_getElem hlt] at hf
      rw [List.getElem?_eq_getElem hlt]
      simpa using hf
    refine ⟨⟨by simp [h.len], ?_, ?_, h.sound⟩, ?_, [v.toNat], rfl⟩
    · rw [List.length_append, List.length_singleton, h.cnt]
      exact (count_set S.ins v.toNat hg).symm
    · intro k
      simp only [List.mem_append, List.mem_singleton]
      rw [List.getElem?_set]
      by_cases e : v.toNat = k
      · subst e; simp [hlt]
      · rw [if_neg e, h.mem k]
        constructor
        · exact .inl
        · rintro (h | h)
          · exact h
          · exact absurd h.symm e
    · intro k
      simp only [List.mem_append, List.mem_singleton]
      constructor
      · rintro (h | h)
        · exact .inl h
        · exact .inr (by omega)
      · rintro (h | h)
        · exact .inl h
        · exact .inr (by omega)
  · rw [if_neg hf]
    refine ⟨h, fun k => ⟨.inl, ?_⟩, [], by simp⟩
    rintro (hk | hk)
    · exact hk
    · refine (h.mem k).1 ?_
      have : v.toNat = k := by omega
      subst this
      rw [List.getElem?_eq_getElem hlt]
      rw [List.getD_eq_getElem?_getD, List.getElem?_eq_getElem hlt] at hf
      simpa using hf
/-- What is known once the first i of those to do are done. -/
structure SnInv (cs : List Cl) (rs : List Int) (i : Nat) (S : Sn) : Prop where
  ok : SnOk cs.length S
  rch : ∀ k ∈ S.todo, Rch cs rs k
  root : ∀ k : Nat, (k : Int) ∈ rs → k ∈ S.todo
  done : ∀ (j k : Nat) (c : Cl), j < i → S.todo[j]? = some k → cs[k]? = some c → c.weak = false → ∀ q : Nat, (c.a = (q : Int) ∨ c.b = (q : Int)) → q ∈ S.todo
theorem meets_ok {n : Nat} : ∀ (rs : List Int) (S : Sn), SnOk n S → (∀ r ∈ rs, -1 ≤ r ∧ r < (n : Int)) → SnOk n (meetsS rs S) ∧ ∀ k, k ∈ (meetsS rs S).todo ↔ k ∈ S.todo ∨ (k : Int) ∈ rs
  | [], S, h, _ => ⟨h, fun k => by simp [meetsS]⟩
  | r :: rs, S, h, hr => by
    obtain ⟨h1, h2, _⟩ := h.meet r (hr r (List.mem_cons_self))
    obtain ⟨h3, h4⟩ := meets_ok rs (meetS r S) h1 (fun x hx => hr x (List.mem_cons_of_mem _ hx))
    refine ⟨h3, fun k => ?_⟩
    show k ∈ (meetsS rs (meetS r S)).todo ↔ _
    rw [h4, h2, List.mem_cons]
    constructor
    · rintro ((h | h) | h)
      · exact .inl h
      · exact .inr (.inl h.symm)
      · exact .inr (.inr h)
    · rintro (h | h | h)
      · exact .inl (.inl h)
      · exact .inl (.inr h.symm)
      · exact .inr h
def startSn (n : Nat) : Sn := ⟨List.replicate n false, [], true⟩
theorem start_ok (n : Nat) : SnOk n (startSn n) := by
  refine ⟨by simp [startSn], ?_, ?_, rfl⟩
  · simp [startSn, List.countP_replicate]
  · intro k
    simp only [startSn, List.not_mem_nil, iff_false]
    intro h
    have := List.mem_of_getElem? h
    rw [List.mem_replicate] at this
    exact absurd this.2 (by simp)
theorem SnInv.start {cs : List Cl} {rs : List Int} (hr : ∀ r ∈ rs, -1 ≤ r ∧ r < (cs.length : Int)) : SnInv cs rs 0 (meetsS rs (startSn cs.length)) := by
  obtain ⟨h1, h2⟩ := meets_ok rs _ (start_ok cs.length) hr
  refine ⟨h1, ?_, fun k hk => (h2 k).2 (.inr hk), fun j k c hj => by omega⟩
  intro k hk
  rcases (h2 k).1 hk with h | h
  · simp [startSn] at h
  · exact .root k h
theorem SnInv.next {cs : List Cl} {rs : List Int} {i k : Nat} {S : Sn} (h : SnInv cs rs i S) (hrefs : ∀ c ∈ cs, -1 ≤ c.a ∧ c.a < (cs.length : Int) ∧ -1 ≤ c.b ∧ c.b < (cs.length : Int)) (hi : S.todo[i]? = some k) : SnInv cs rs (i + 1) (lookS cs k S) := by
  have hk := List.mem_of_getElem? hi
  have hkl := h.ok.lt hk
  have hc : cs[k]? = some cs[k] := List.getElem?_eq_getElem hkl
  unfold lookS
  rw [hc]
  simp only
  by_cases hw : cs[k].weak = true
  · rw [if_pos hw]
    refine ⟨h.ok, h.rch, h.root, ?_⟩
    intro j k' c hj hjk hck hcw q hq
    by_cases e : j = i
    · subst e
      obtain rfl := Option.some.inj (hi.symm.trans hjk)
      obtain rfl := Option.some.inj (hc.symm.trans hck)
      rw [hw] at hcw; cases hcw
    · exact h.done j k' c (by omega) hjk hck hcw q hq
  · rw [if_neg hw]
    have hw' : cs[k].weak = false := by simpa using hw
    obtain ⟨r1, r2, r3, r4⟩ := hrefs cs[k] (List.getElem_mem hkl)
    obtain ⟨a1, a2, e1, a3⟩ := h.ok.meet cs[k].a ⟨r1, r2⟩
    obtain ⟨b1, b2, e2, b3⟩ := a1.meet cs[k].b ⟨r3, r4⟩
    have hsub : ∀ q, q ∈ S.todo → q ∈ (meetS cs[k].b (meetS cs[k].a S)).todo := fun q hq => (b2 q).2 (.inl ((a2 q).2 (.inl hq)))
    refine ⟨b1, ?_, fun q hq => hsub q (h.root q hq), ?_⟩
    · intro q hq
      rcases (b2 q).1 hq with hq | hq
      · rcases (a2 q).1 hq with hq | hq
        · exact h.rch q hq
        · exact .ref k q cs[k] (h.rch k hk) hc hw' (.inl hq)
      · exact .ref k q cs[k] (h.rch k hk) hc hw' (.inr hq)
    · intro j k' c hj hjk hck hcw q hq
      have hil := (List.getElem?_eq_some_iff.1 hi).1
      have hjl : j < S.todo.length := by omega
      rw [b3, a3, List.append_assoc, List.getElem?_append_left hjl] at hjk
      by_cases e : j = i
      · subst e
        obtain rfl := Option.some.inj (hi.symm.trans hjk)
        obtain rfl := Option.some.inj (hc.symm.trans hck)
        rcases hq with hq | hq
        · exact (b2 q).2 (.inl ((a2 q).2 (.inr hq)))
        · exact (b2 q).2 (.inr hq)
      · exact hsub q (h.done j k' c (by omega) hjk hck hcw q hq)
/-- At the end just what can be reached has been met. -/
theorem SnInv.fin {cs : List Cl} {rs : List Int} {i : Nat} {S : Sn} (h : SnInv cs rs i S) (hi : S.todo.length ≤ i) (k : Nat) : S.ins[k]? = some true ↔ Rch cs rs k := by
  rw [h.ok.mem]
  constructor
  · exact h.rch k
  · intro hr
    induction hr using Rch.ind with
    | root k hk => exact h.root k hk
    | ref k q c _ hc hw hq ih =>
      obtain ⟨j, hj, e⟩ := List.mem_iff_getElem.1 ih
      exact h.done j k c (by omega) (by rw [List.getElem?_eq_getElem hj, e]) hc hw q hq
end Go.Proofs.YtdmdpindonghdabDoor
namespace Go.Proofs.YtdmdpindonghdabDoor
open Go.RowKit
set_option maxRecDepth 100000 in
set_option maxHeartbeats 1000000 in
theorem sameK_any (l : List Int) (va vb : Value) (w : World) (ha : ZsAt w va l) (hb : ZsAt w vb l) (hl : l.length ≤ 17592186044416) :
    Calls Tryd.prog 20 #[va, vb] w fun e w' => e = .returned (.bool true) ∧ ∃ n, w' = w.drewN n := by
  obtain ⟨pa, ca, ea⟩ := ha.slice
  obtain ⟨pb, cb, eb⟩ := hb.slice
  subst ea
  subst eb
  have HA := hid ha
  have HB := hid hb
  clear ha hb
  go_enter Tryd.func20, Tryd.ntmps20
  go_wp2_with fail
  go_loopg [5] l.length (fun gk x w' => ∃ k : Nat, k ≤ l.length ∧ gk = l.length - k ∧ x = .int .i64 k ∧ ∃ n, w' = w.drewN n)
  case atStart => exact ⟨0, by omega, by omega, rfl, 0, rfl⟩
  case round =>
    obtain ⟨k, hk, hgk, rfl, n, rfl⟩ := hrel
    rcases Nat.lt_or_ge k l.length with hlt | hge
    · have d0 : (0 : Int) ≤ (k : Int) := by omega
      have d1 : (k : Int) < (l.length : Int) := by omega
      have d2 : (k : Int) + 1 ≤ 17592186044416 := by omega
      have hk2 : l[k]? = some l[k] := List.getElem?_eq_getElem hlt
      rcases HA.out with ⟨_, h0⟩ | ⟨ga, c1, e1, hca⟩
      · rw [h0] at hlt; simp at hlt
      rcases HB.out with ⟨_, h0⟩ | ⟨gb, c2, e2, hcb⟩
      · rw [h0] at hlt; simp at hlt
      have x1 := hca k _ hk2
      have x2 := hcb k _ hk2
      cases e1
      cases e2
      generalize l[k] = c at *
      have hne : (c != c) = false := by simp
      clear hca hcb hk2
      go_wp2_with fail
      go_quiet (fail)
      go_wp2_with fail
      go_roundg (l.length - (k + 1))
      case measure => omega
      case rel => exact ⟨k + 1, by omega, rfl, by go_num, ⟨_, rfl⟩⟩
    · have d1 : ¬ (k : Int) < (l.length : Int) := by omega
      go_wp2_with fail
      go_ret
      exact ⟨rfl, n, rfl⟩
def clipN (us : List Int) : List Int := us.map (fun u => (pickN u 100 : Int))
set_option maxRecDepth 100000 in
set_option maxHeartbeats 1000000 in
theorem clipped_any (vu : Value) (us : List Int) (w : World) (hu : ArgInts w vu us) (hl : us.length ≤ 17592186043904) (hr : ∀ u ∈ us, -9223372036854775808 ≤ u ∧ u ≤ 9223372036854775807) :
    Calls Tryd.prog 21 #[vu] w fun e w' => Below w.heap.size w w' ∧ ∃ v, e = .returned v ∧ w'.ownsRow w.heap.size 3 1 v us.length ((clipN us).map (.int .i64)) := by
  obtain ⟨i0, hi0, hz0, hz1, hz2⟩ := info_parts intInfo
  have HU := hid hu
  obtain ⟨p0, c0, e0⟩ := hu.slice
  subst e0
  have HR := hid hr
  clear hu hr
  go_enter Tryd.func21, Tryd.ntmps21
  go_wp2_with fail
  go_loopg [3, 4] us.length (fun g l x w' => ∃ k : Nat, k ≤ us.length ∧ g = us.length - k ∧ x = .int .i64 k ∧ w'.ownsRow w.heap.size 3 1 l k ((clipN (us.take k)).map (.int .i64)) ∧ Below w.heap.size w w')
  case atStart => exact ⟨0, by omega, by omega, rfl, World.ownsRow_nil _ _ _ _, Below.refl _ _⟩
  case round =>
    obtain ⟨k, hk, hg, rfl, hown, hbel⟩ := hrel
    have hz := hbel.size
    have HB := hid hbel
    rcases Nat.lt_or_ge k us.length with hlt | hge
    · have d1 : (k : Int) < (us.length : Int) := by omega
      have d0 : (0 : Int) ≤ (k : Int) := by omega
      have d2 : (k : Int) + 1 ≤ 17592186044416 := by omega
      rcases (HU.out.keep hbel) with ⟨_, h0⟩ | ⟨a, cap, hv, hcell, _⟩
      · rw [h0] at hlt; simp at hlt
      cases hv
      have y0 := hcell k us[k] (List.getElem?_eq_getElem hlt)
      obtain ⟨m1, m2⟩ := HR.out us[k] (List.getElem_mem hlt)
      have hp := hid (pick_any us[k] 100 wr m1 m2 (by omega) (by omega))
      have HNX : Hid ((clipN (us.take (k + 1))).map (Value.int .i64) = (clipN (us.take k)).map (Value.int .i64) ++ [.int .i64 (pickN us[k] 100)]) := hid (by
        unfold clipN
        rw [List.take_succ_eq_append_getElem hlt, List.map_append, List.map_append]
        rfl)
      clear hcell hbel m1 m2
      generalize us[k] = u at *
      generalize (clipN (us.take k)).map (Value.int .i64) = R at *
      go_wp2_with fail
      refine hp.out.mono ?_
      clear hp
      intro e w5 hh
      obtain ⟨hx, hw⟩ := hh
      subst e
      subst w5
      generalize ((pickN u 100 : Nat) : Int) = qv at *
      go_wp2_with (at_builtin; go_must (refine wpList_append_lies _ (by rfl) _ _ _ (by rfl) w.heap.size 3 i0 _ 1 8 Tryd.underlying22 hi0 hz0 hz1 hz2 rfl (by omega) _ k R (by rfl) (hown.alloc _) ⟨wr.heap.size, 0, none⟩ 1 1 [.int .i64 qv] (by rfl) (by rfl) (World.news_of_block (cs := #[.int .i64 qv]) (t := 3) (fr := (0, 0)) (heap_alloc_new wr _)) (by simp [Value.oneCell']) (by omega) (by unfold maxLen; omega) (by omega) (by simp; omega) _ rfl ?_); intro gg gcap w6 hown6 hgrow6 hat6 hlt6)
      go_roundg (us.length - (k + 1))
      case measure => omega
      case rel =>
        refine ⟨k + 1, by omega, rfl, by go_num, ?_, ?_⟩
        · rw [HNX.out]
          exact hown6
        · exact (HB.out.alloc hz _).grown hgrow6 (by simp; omega) (fun j hj => (hown.lt j hj).1)
    · have d1 : ¬ (k : Int) < (us.length : Int) := by omega
      have hke : k = us.length := by omega
      have HO : Hid (wr.ownsRow w.heap.size 3 1 u3 us.length ((clipN us).map (.int .i64))) := hid (by
        rw [List.take_of_length_le (by omega), hke] at hown
        exact hown)
      clear hown hbel hke
      go_wp2_with fail
      go_ret
      exact ⟨HB.out, _, rfl, HO.out⟩
end Go.Proofs.YtdmdpindonghdabDoor
namespace Go.Proofs.YtdmdpindonghdabDoor
open Go.RowKit
/-- Where what is seen lies. -/
structure SK where
  b : Nat
  gc : Nat
  kc : Nat
  gi : Nat
  base : Nat
def SK.row (k : SK) (n : Nat) (vT : Value) (snd : Bool) : Array Value := #[.slice (some ⟨k.gc, 0, none⟩) n k.kc, .slice (some ⟨k.gi, 0, none⟩) n n, vT, .bool snd]
structure SeenAt (W : World) (k : SK) (n : Nat) (vT : Value) (S : Sn) : Prop where
  row : W.heap[k.b]? = some (.cells (k.row n vT S.sound) 40)
  ins : W.heap[k.gi]? = some (.cells (S.ins.map Value.bool).toArray 4)
  len : S.ins.length = n
  todo : W.ownsRow k.base 3 1 vT S.todo.length (S.todo.map (fun (j : Nat) => Value.int .i64 j))
  tb : vT.ownBlock ≠ some k.b
  ti : vT.ownBlock ≠ some k.gi
  ne : k.b ≠ k.gi
  bb : k.base ≤ k.b
  bi : k.base ≤ k.gi
/-- What may turn. -/
def SK.In (k : SK) (vT : Value) (j : Nat) : Prop := j = k.b ∨ j = k.gi ∨ vT.ownBlock = some j
def MeetPost (k : SK) (n : Nat) (vT : Value) (S : Sn) (w : World) (e : Ending) (w' : World) : Prop :=
  e = .returned (.tuple #[]) ∧ ∃ vT', SeenAt w' k n vT' S ∧ Touch (k.In vT) w w' ∧ ∀ j, vT'.ownBlock = some j → vT.ownBlock = some j ∨ w.heap.size ≤ j
set_option maxRecDepth 100000 in
set_option maxHeartbeats 1000000 in
theorem meet_none (k : SK) (n : Nat) (vT : Value) (S : Sn) (w : World) (h : SeenAt w k n vT S) :
    Calls Tryd.prog 30 #[.pointer (some ⟨k.b, 0, none⟩), .int .i64 (-1)] w (MeetPost k n vT S w) := by
  have HF : Hid (MeetPost k n vT S w (.returned (.tuple #[])) w) := hid ⟨rfl, vT, h, Touch.refl _ _, fun j hj => .inl hj⟩
  clear h
  go_enter Tryd.func30, Tryd.ntmps30
  go_wp2_with fail
  go_end0
  exact HF.out
theorem meet_fin {k : SK} {n v : Nat} {vT : Value} {S : Sn} {w w6 : World} {o : Obj} {gg gcap : Nat} (hh : SeenAt w k n vT S) (hiz : k.gi < w.heap.size) (hbz : k.b < w.heap.size)
    (hgrow : ((w.setCell ⟨k.gi, v, none⟩ (.bool true)).alloc o).grownBy w6 vT.ownBlock) (hown : w6.ownsRow k.base 3 1 (.slice (some ⟨gg, 0, none⟩) (S.todo.length + 1) gcap) (S.todo.length + 1) (S.todo.map (fun (j : Nat) => Value.int .i64 j) ++ [.int .i64 v])) (hat : vT.ownBlock = some gg ∨ gg = ((w.setCell ⟨k.gi, v, none⟩ (.bool true)).alloc o).heap.size) :
    MeetPost k n vT { S with ins := S.ins.set v true, todo := S.todo ++ [v] } w (.returned (.tuple #[])) (w6.setCell ⟨k.b, 2, none⟩ (.slice (some ⟨gg, 0, none⟩) (S.todo.length + 1) gcap)) := by
  have ho : Only k.gi w (w.setCell ⟨k.gi, v, none⟩ (.bool true)) := (Only.refl _ _).set _ _
  have hz1 : ((w.setCell ⟨k.gi, v, none⟩ (.bool true)).alloc o).heap.size = w.heap.size + 1 := by rw [alloc_size, ho.size]
  have hz6 := hgrow.size
  have ho7 : Only k.b w6 (w6.setCell ⟨k.b, 2, none⟩ (.slice (some ⟨gg, 0, none⟩) (S.todo.length + 1) gcap)) := (Only.refl _ _).set _ _
  have hblk : ∀ j, j < w.heap.size → vT.ownBlock ≠ some j → w6.heap[j]? = (w.setCell ⟨k.gi, v, none⟩ (.bool true)).heap[j]? := fun j hj hne => by
    rw [hgrow.block j (by omega) (fun e => hne e.symm)]
    exact heap_alloc_old _ _ (by rw [ho.size]; exact hj)
  have hr6 : w6.heap[k.b]? = some (.cells (k.row n vT S.sound) 40) := (hblk k.b hbz hh.tb).trans ((ho.block k.b hh.ne).trans hh.row)
  have hi6 : w6.heap[k.gi]? = _ := (hblk k.gi hiz hh.ti).trans (setCell_row v (.bool true) hh.ins)
  have hgb : gg ≠ k.b := fun e => by
    rcases hat with h | h
    · exact hh.tb (by rw [h, e])
    · omega
  have hgi : gg ≠ k.gi := fun e => by
    rcases hat with h | h
    · exact hh.ti (by rw [h, e])
    · omega
  refine ⟨rfl, .slice (some ⟨gg, 0, none⟩) (S.todo.length + 1) gcap, ⟨?_, ?_, ?_, ?_, ?_, ?_, hh.ne, hh.bb, hh.bi⟩, ?_, ?_⟩
  · have := setCell_row 2 (.slice (some ⟨gg, 0, none⟩) (S.todo.length + 1) gcap) hr6
    rw [this]
    simp [SK.row]
  · rw [ho7.block k.gi (Ne.symm hh.ne), hi6]
    simp [List.map_set]
  · simp [hh.len]
  · have h1 := owns_keep hown (w' := w6.setCell ⟨k.b, 2, none⟩ (.slice (some ⟨gg, 0, none⟩) (S.todo.length + 1) gcap)) (fun g hg => ho7.block g (by
      simp only [Value.ownBlock, Option.some.injEq] at hg
      rw [← hg]; exact hgb))
    simpa using h1
  · simp only [Value.ownBlock, ne_eq, Option.some.injEq]; exact hgb
  · simp only [Value.ownBlock, ne_eq, Option.some.injEq]; exact hgi
  · have t1 : Touch (k.In vT) w (w.setCell ⟨k.gi, v, none⟩ (.bool true)) := ⟨ho.os, ho.tape, ho.output, by rw [ho.size]; exact Nat.le_refl _, fun j _ hj => ho.block j (fun e => hj (.inr (.inl e)))⟩
    refine ⟨?_, ?_, ?_, ?_, ?_⟩
    · rw [ho7.os, hgrow.os]; exact ho.os
    · rw [ho7.tape, hgrow.tape]; exact ho.tape
    · rw [ho7.output, hgrow.output]; exact ho.output
    · rw [ho7.size]; omega
    · intro j hj hn
      rw [ho7.block j (fun e => hn (.inl e)), hblk j hj (fun e => hn (.inr (.inr e)))]
      exact t1.block j hj hn
  · intro j hj
    simp only [Value.ownBlock, Option.some.injEq] at hj
    subst hj
    rcases hat with h | h
    · exact .inl h
    · exact .inr (by omega)
set_option maxRecDepth 100000 in
set_option maxHeartbeats 1000000 in
theorem meet_new (k : SK) (n v : Nat) (vT : Value) (S : Sn) (w : World) (h : SeenAt w k n vT S) (hv : v < n) (hn : n ≤ 100) (ht : S.todo.length ≤ n) (hf : S.ins[v]? = some false) :
    Calls Tryd.prog 30 #[.pointer (some ⟨k.b, 0, none⟩), .int .i64 v] w (MeetPost k n vT { S with ins := S.ins.set v true, todo := S.todo ++ [v] } w) := by
  obtain ⟨pt, ct, et⟩ := owns_slice h.todo
  subst et
  have r0 := cell_of_row w k.b 0 _ _ _ h.row
  have r1 := cell_of_row w k.b 1 _ _ _ h.row
  have r2 := cell_of_row w k.b 2 _ _ _ h.row
  have f2 := frozen_of_row w k.b 2 _ _ h.row
  unfold SK.row at r0 r1 r2
  simp only [List.getElem?_toArray, List.getElem?_cons_zero, List.getElem?_cons_succ] at r0 r1 r2
  have i0 := cell_of_row w k.gi v _ _ _ h.ins
  rw [List.getElem?_toArray, List.getElem?_map, hf] at i0
  simp only [Option.map_some] at i0
  have fi := frozen_of_row w k.gi v _ _ h.ins
  have d0 : (0 : Int) ≤ (v : Int) := by omega
  have d1 : (v : Int) < (n : Int) := by omega
  have d2 : ¬ (v : Int) < 0 := by omega
  have d3 : ¬ (n : Int) ≤ (v : Int) := by omega
  have d4 : ((v : Int) == -1) = false := by simp
  have hne := h.ne
  have ho : Only k.gi w (w.setCell ⟨k.gi, v, none⟩ (.bool true)) := (Only.refl _ _).set _ _
  have hown : (w.setCell ⟨k.gi, v, none⟩ (.bool true)).ownsRow k.base 3 1 (.slice pt S.todo.length ct) S.todo.length (S.todo.map (fun (j : Nat) => Value.int .i64 j)) := owns_keep h.todo (fun g hg => ho.block g (fun e => h.ti (by rw [hg, e])))
  have hbz : k.b < w.heap.size := World.block_lt_of_cell? w _ r0
  have hiz : k.gi < w.heap.size := World.block_lt_of_cell? w _ i0
  have hbb := h.bb
  have hsz : (w.setCell ⟨k.gi, v, none⟩ (.bool true)).heap.size = w.heap.size := ho.size
  have hfar : some k.b ≠ (Value.slice pt S.todo.length ct).ownBlock := fun e => h.tb e.symm
  have rW : (w.setCell ⟨k.gi, v, none⟩ (.bool true)).heap[k.b]? = _ := (ho.block k.b hne).trans h.row
  have iW := setCell_row v (.bool true) h.ins
  have RW := hid rW
  have IW := hid iW
  have HOO := hid ho
  obtain ⟨i0', hi0, hz0, hz1, hz2⟩ := info_parts intInfo
  have HH := hid h
  clear h rW iW ho
  go_enter Tryd.func30, Tryd.ntmps30
  go_wp2_with (at_builtin; go_must (refine wpList_append_lies _ (by rfl) _ _ _ (by rfl) k.base 3 i0' _ 1 8 Tryd.underlying22 hi0 hz0 hz1 hz2 rfl (by omega) _ S.todo.length (S.todo.map (fun (j : Nat) => Value.int .i64 j)) (by rfl) (hown.alloc _) ⟨w.heap.size, 0, none⟩ 1 1 [.int .i64 v] (by rfl) (by rfl) (World.news_of_block (cs := #[.int .i64 v]) (t := 3) (fr := (0, 0)) (by rw [← hsz]; exact heap_alloc_new _ _)) (by simp [Value.oneCell']) (by omega) (by unfold maxLen; omega) (by omega) (by simp; omega) _ rfl ?_); intro gg gcap w6 hown6 hgrow6 hat6 hlt6; have s2 := (hgrow6.cell_far ⟨k.b, 2, none⟩ (by simp; omega) hfar); have s3 := (hgrow6.frozen_far ⟨k.b, 2, none⟩ (by simp; omega) hfar))
  have HFN := hid (meet_fin HH.out hiz hbz hgrow6 hown6 hat6)
  go_end0
  exact HFN.out
set_option maxRecDepth 100000 in
set_option maxHeartbeats 1000000 in
theorem meet_old (k : SK) (n v : Nat) (vT : Value) (S : Sn) (w : World) (h : SeenAt w k n vT S) (hv : v < n) (hf : S.ins[v]? = some true) :
    Calls Tryd.prog 30 #[.pointer (some ⟨k.b, 0, none⟩), .int .i64 v] w (MeetPost k n vT S w) := by
  have r0 := cell_of_row w k.b 0 _ _ _ h.row
  have r1 := cell_of_row w k.b 1 _ _ _ h.row
  unfold SK.row at r0 r1
  simp only [List.getElem?_toArray, List.getElem?_cons_zero, List.getElem?_cons_succ] at r0 r1
  have i0 := cell_of_row w k.gi v _ _ _ h.ins
  rw [List.getElem?_toArray, List.getElem?_map, hf] at i0
  simp only [Option.map_some] at i0
  have d0 : (0 : Int) ≤ (v : Int) := by omega
  have d1 : (v : Int) < (n : Int) := by omega
  have d2 : ¬ (v : Int) < 0 := by omega
  have d3 : ¬ (n : Int) ≤ (v : Int) := by omega
  have d4 : ((v : Int) == -1) = false := by simp
  have HF : Hid (MeetPost k n vT S w (.returned (.tuple #[])) w) := hid ⟨rfl, vT, h, Touch.refl _ _, fun j hj => .inl hj⟩
  clear h
  go_enter Tryd.func30, Tryd.ntmps30
  go_wp2_with fail
  go_end0
  exact HF.out
theorem meet_any (k : SK) (n : Nat) (v : Int) (vT : Value) (S : Sn) (w : World) (h : SeenAt w k n vT S) (hs : SnOk n S) (hn : n ≤ 100) (hv : -1 ≤ v ∧ v < (n : Int)) :
    Calls Tryd.prog 30 #[.pointer (some ⟨k.b, 0, none⟩), .int .i64 v] w (MeetPost k n vT (meetS v S) w) := by
  by_cases h1 : v = -1
  · subst h1
    have : meetS (-1) S = S := by unfold meetS; rw [if_pos rfl]
    rw [this]
    exact meet_none k n vT S w h
  obtain ⟨q, rfl⟩ : ∃ q : Nat, v = (q : Int) := ⟨v.toNat, by omega⟩
  have hq : q < S.ins.length := by rw [hs.len]; omega
  unfold meetS
  rw [if_neg h1, if_neg (by rw [hs.len]; omega), Int.toNat_natCast]
  cases hb : S.ins[q] with
  | false =>
    have hg : S.ins[q]? = some false := by rw [List.getElem?_eq_getElem hq, hb]
    rw [if_pos (by rw [List.getD_eq_getElem?_getD, hg]; rfl)]
    exact meet_new k n q vT S w h (by omega) hn hs.todo_le hg
  | true =>
    have hg : S.ins[q]? = some true := by rw [List.getElem?_eq_getElem hq, hb]
    rw [if_neg (by rw [List.getD_eq_getElem?_getD, hg]; simp)]
    exact meet_old k n q vT S w h (by omega) hg
end Go.Proofs.YtdmdpindonghdabDoor
namespace Go.Proofs.YtdmdpindonghdabDoor
open Go.RowKit
/-- What was seen has gone on from S to S'. -/
structure SeenTo (k : SK) (n : Nat) (vT : Value) (w : World) (vT' : Value) (S' : Sn) (w' : World) : Prop where
  at_ : SeenAt w' k n vT' S'
  touch : Touch (k.In vT) w w'
  own : ∀ j, vT'.ownBlock = some j → vT.ownBlock = some j ∨ w.heap.size ≤ j
theorem SeenTo.refl {k : SK} {n : Nat} {vT : Value} {S : Sn} {w : World} (h : SeenAt w k n vT S) : SeenTo k n vT w vT S w := ⟨h, Touch.refl _ _, fun _ h => .inl h⟩
theorem SeenTo.trans {k : SK} {n : Nat} {vT vT1 vT2 : Value} {S1 S2 : Sn} {w w1 w2 : World} (h : SeenTo k n vT w vT1 S1 w1) (h' : SeenTo k n vT1 w1 vT2 S2 w2) : SeenTo k n vT w vT2 S2 w2 := by
  refine ⟨h'.at_, h.touch.trans h'.touch (fun j hj hi => ?_), fun j hj => ?_⟩
  · rcases hi with hi | hi | hi
    · exact .inl hi
    · exact .inr (.inl hi)
    · rcases h.own j hi with e | e
      · exact .inr (.inr e)
      · omega
  · rcases h'.own j hj with e | e
    · exact h.own j e
    · exact .inr (Nat.le_trans h.touch.size e)
theorem SeenAt.below {k : SK} {n : Nat} {vT : Value} {S : Sn} {w w' : World} (h : SeenAt w k n vT S) (hb : Below w.heap.size w w') : SeenAt w' k n vT S :=
  ⟨(hb.block k.b (Array.getElem?_eq_some_iff.1 h.row).1).trans h.row, (hb.block k.gi (Array.getElem?_eq_some_iff.1 h.ins).1).trans h.ins, h.len, owns_keep h.todo (fun g hg => hb.block g (h.todo.lt g hg).2), h.tb, h.ti, h.ne, h.bb, h.bi⟩
theorem SeenTo.below {k : SK} {n : Nat} {vT vT' : Value} {S' : Sn} {w w' w'' : World} (h : SeenTo k n vT w vT' S' w') (hb : Below w'.heap.size w' w'') : SeenTo k n vT w vT' S' w'' :=
  ⟨h.at_.below hb, h.touch.trans (Touch.below (F := k.In vT) hb) (fun _ _ h => h), h.own⟩
/-- A block that what is seen leaves alone. -/
def SK.Off (k : SK) (vT : Value) (w : World) (g : Nat) : Prop := g < w.heap.size ∧ ¬ k.In vT g
theorem LsAt.off {k : SK} {n : Nat} {vT vT' : Value} {S' : Sn} {w w' : World} {v : Value} {m : Nat} {cs : List Value} (h : LsAt w (k.Off vT w) v m cs) (ht : SeenTo k n vT w vT' S' w') : LsAt w' (k.Off vT w) v m cs := by
  rcases h with h | ⟨g, cap, hv, hp, hc⟩
  · exact .inl h
  · exact .inr ⟨g, cap, hv, hp, fun j u hj => (World.cell?_of_block (a := ⟨g, j, none⟩) (ht.touch.block g hp.1 hp.2)).trans (hc j u hj)⟩
theorem rootsC_take {Q : List (Nat × Int)} {j : Nat} (h : j < Q.length) : rootsC (Q.take (j + 1)) = rootsC (Q.take j) ++ (if Q[j].1 = 1 then [Q[j].2] else []) := rootsC_next h
theorem meetsS_snoc (rs : List Int) (v : Int) (S : Sn) : meetsS (rs ++ [v]) S = meetS v (meetsS rs S) := by unfold meetsS; rw [List.foldl_append]; rfl
set_option maxRecDepth 100000 in
set_option maxHeartbeats 1000000 in
theorem meets_any (k : SK) (n : Nat) (vQ vT : Value) (Q : List (Nat × Int)) (S : Sn) (w : World) (h : SeenAt w k n vT S) (hs : SnOk n S) (hn : n ≤ 100) (hQ : LsAt w (k.Off vT w) vQ Q.length (Q.flatMap slCells)) (hql : Q.length ≤ 100) (hr : ∀ r ∈ rootsC Q, -1 ≤ r ∧ r < (n : Int)) :
    Calls Tryd.prog 29 #[.pointer (some ⟨k.b, 0, none⟩), vQ] w fun e w' => e = .returned (.tuple #[]) ∧ ∃ vT', SeenTo k n vT w vT' (meetsS (rootsC Q) S) w' := by
  obtain ⟨pq, cq, eq⟩ := hQ.slice
  subst eq
  have HQ := hid hQ
  have HH := hid h
  have HS := hid hs
  have HR := hid hr
  clear h hQ hs hr
  go_enter Tryd.func29, Tryd.ntmps29
  go_wp2_with fail
  go_loopg [4] Q.length (fun gk x w' => ∃ j : Nat, j ≤ Q.length ∧ gk = Q.length - j ∧ x = .int .i64 j ∧ ∃ vT', SeenTo k n vT w vT' (meetsS (rootsC (Q.take j)) S) w' ∧ SnOk n (meetsS (rootsC (Q.take j)) S))
  case atStart => exact ⟨0, by omega, by omega, rfl, vT, SeenTo.refl HH.out, HS.out⟩
  case round =>
    obtain ⟨j, hj, hgk, rfl, vT1, hT, hok⟩ := hrel
    rcases Nat.lt_or_ge j Q.length with hlt | hge
    · have d0 : (0 : Int) ≤ (j : Int) := by omega
      have d1 : (j : Int) < (Q.length : Int) := by omega
      obtain ⟨g, cap, eg, hgs, hc⟩ := (HQ.out.off hT).some (by omega)
      cases eg
      have y0 := hc _ _ (flat_at slCells 2 (fun _ => rfl) Q j 0 hlt (by omega))
      have y1 := hc _ _ (flat_at slCells 2 (fun _ => rfl) Q j 1 hlt (by omega))
      rw [Nat.add_zero] at y0
      have HNX := hid (rootsC_take hlt)
      have hrv : Q[j].1 = 1 → -1 ≤ Q[j].2 ∧ Q[j].2 < (n : Int) := fun e => HR.out _ (by
        unfold rootsC
        exact List.mem_map.2 ⟨Q[j], List.mem_filter.2 ⟨List.getElem_mem hlt, by simp [e]⟩, rfl⟩)
      have hme := hid (fun (e : Q[j].1 = 1) => meet_any k n Q[j].2 vT1 _ wr hT.at_ hok hn (hrv e))
      have HME2 := hid (fun (e : Q[j].1 = 1) => (hok.meet Q[j].2 (hrv e)).1)
      have HT := hid hT
      have HOK := hid hok
      clear hc hT hok hrv
      generalize Q[j] = q at *
      obtain ⟨qt, qv⟩ := q
      simp only at y0 y1
      by_cases hq : qt = 1
      · subst hq
        have hm1 := hid (hme.out rfl)
        have HO2 := hid (HME2.out rfl)
        clear hme HME2
        go_wp2_with fail
        refine hm1.out.mono ?_
        clear hm1
        intro e w5 hh
        obtain ⟨hx, vT2, a1, a2, a3⟩ := hh
        subst e
        have HT2 := hid (HT.out.trans ⟨a1, a2, a3⟩)
        clear a1 a2 a3 y0 y1
        go_wp2_with fail
        go_roundg (Q.length - (j + 1))
        case measure => omega
        case rel =>
          refine ⟨j + 1, by omega, rfl, by go_num, vT2, ?_, ?_⟩
          · rw [HNX.out, if_pos trivial, meetsS_snoc]; exact HT2.out
          · rw [HNX.out, if_pos trivial, meetsS_snoc]; exact HO2.out
      · have hq1 : ((qt : Int) == 1) = false := by simp; omega
        clear hme HME2
        go_wp2_with fail
        go_roundg (Q.length - (j + 1))
        case measure => omega
        case rel =>
          refine ⟨j + 1, by omega, rfl, by go_num, vT1, ?_, ?_⟩
          · rw [HNX.out, if_neg hq, List.append_nil]; exact HT.out
          · rw [HNX.out, if_neg hq, List.append_nil]; exact HOK.out
    · have d1 : ¬ (j : Int) < (Q.length : Int) := by omega
      rw [List.take_of_length_le (by omega)] at hT
      have HT := hid hT
      clear hT hok
      go_wp2_with fail
      go_end0
      exact ⟨rfl, vT1, HT.out⟩
theorem boolInfo : (Tryd.prog.info? 4).map (fun i => (i.zero, i.size, i.bytes)) = some (some (.bool false), 1, 1) := by kernel_rfl
theorem make_bools (n : Nat) (h : n ≤ 100) (w : World) : Sem.run Tryd.prog (Instr.makeSlice 38 (.int .i64 (n : Int)) (.int .i64 (n : Int))) w = .ok (.slice (some ⟨w.heap.size, 0, none⟩) n n) (w.alloc (.cells (Array.replicate n (Value.bool false)) 4)) := by
  obtain ⟨i0, hi, hz0, hz1, hz2⟩ := info_parts boolInfo
  have := run_make (P := Tryd.prog) w 38 4 i0 _ Tryd.underlying38 hi hz0 .i64 .i64 (n : Int) (n : Int) (by omega) (by omega) (by rw [hz2]; omega) (by omega)
  rw [this, hz1, show Value.cells (.bool false) = #[.bool false] from rfl, Int.toNat_natCast, Nat.mul_one]
  rw [show madeCells #[Value.bool false] n = Array.replicate n (Value.bool false) from Array.toList_inj.1 (by rw [toList_madeCells_one]; simp)]
/-- What seen leaves. -/
structure Saw (cs : List Cl) (rs : List Int) (k : SK) (vT : Value) (S : Sn) (w w' : World) : Prop where
  at_ : SeenAt w' k cs.length vT S
  below : Below w.heap.size w w'
  base : k.base = w.heap.size
  ok : SnOk cs.length S
  ins : ∀ j, S.ins[j]? = some true ↔ Rch cs rs j
  cells : LsAt w' (fun g => w.heap.size ≤ g ∧ g < w'.heap.size) (.slice (some ⟨k.gc, 0, none⟩) cs.length k.kc) cs.length (cs.flatMap clCells)
set_option maxRecDepth 100000 in
set_option maxHeartbeats 2000000 in
theorem seen_any {w : World} {K : PK} {E : Env} {F : Nat → Prop} {s : MS} (h : PX w K F s) (hke : KE K E) (he : EnvOk E) (hi : MInv E s) :
    Calls Tryd.prog 12 #[.pointer (some ⟨K.b, 0, none⟩)] w fun e w' => ∃ k vT S, e = .returned (.pointer (some ⟨k.b, 0, none⟩)) ∧ Saw (s.hs.1.map toldC) (rootsS E s) k vT S w w' := by
  have hn := hi.n
  have hn1 := he.n1
  have hn2 := he.n32
  have hhp := hid (show Calls Tryd.prog 14 #[.pointer (some ⟨K.b, 0, none⟩)] w (HeapPost (s.hs.1.map toldC) w) from by
    obtain ⟨vI, vO, lo4, st8, hm, _⟩ := h
    exact pheap_any hm (by omega))
  have hst := hid (fun (W : World) (hb : Below w.heap.size w W) => px_state (h.below hb) hke he hi)
  clear h
  go_enter Tryd.func12, Tryd.ntmps12
  go_wp2_with fail
  refine hhp.out.mono ?_
  clear hhp
  intro e w1 hh
  obtain ⟨hb1, vh, hx, oh⟩ := hh
  subst e
  have hcl : (s.hs.1.map toldC).length = E.n := by rw [List.length_map]; exact hn
  obtain ⟨gc, kc, ec⟩ : ∃ gc kc, vh = .slice (some ⟨gc, 0, none⟩) (s.hs.1.map toldC).length kc := by
    rcases oh.2 with ⟨_, h2⟩ | ⟨g, cap, cur, h1, _⟩
    · omega
    · exact ⟨g, cap, h1⟩
  subst ec
  have hs1 := hid (hst.out w1 hb1)
  have HB1 := hid hb1
  have OH := hid oh
  have HGC := hid (oh.lt gc rfl).1
  clear hst hb1 oh
  go_wp2_with fail
  refine hs1.out.mono ?_
  clear hs1
  intro e w2 hh
  obtain ⟨pl, hb2, v1, v2, hx, o1, o2, _⟩ := hh
  subst e
  obtain ⟨q1, k1, e1⟩ := owns_slice o1
  obtain ⟨q2, k2, e2⟩ := owns_slice o2
  subst e1
  subst e2
  have hmk := fun (W : World) => make_bools E.n (by omega) W
  obtain ⟨cs, hcs⟩ : ∃ cs, cs = s.hs.1.map toldC := ⟨_, rfl⟩
  have hrs : ∀ r ∈ rootsS E s, -1 ≤ r ∧ r < (E.n : Int) := hi.roots he
  have hrf : ∀ c ∈ cs, -1 ≤ c.a ∧ c.a < (cs.length : Int) ∧ -1 ≤ c.b ∧ c.b < (cs.length : Int) := by
    intro c hc
    rw [hcs] at hc ⊢
    obtain ⟨d, hd, rfl⟩ := List.mem_map.1 hc
    have a1 := hi.hok.refs d hd
    have a2 := hi.hx.cell d hd
    rw [List.length_map]
    exact ⟨a2.lowA, a1.1, a2.lowB, a1.2⟩
  have hl1 : (locsS E s).length ≤ 100 := by
    have := hi.lo he
    have := he.wf.loc
    unfold locsS slotsC; rw [List.length_zipWith]; omega
  have hl2 : (stkS E s).length ≤ 100 := by
    have := hi.st he
    unfold stkS slotsC; rw [List.length_zipWith]; omega
  have hrE : rootsS E s = rootsC (locsS E s) ++ rootsC (stkS E s) := by unfold rootsS; exact rootsC_append _ _
  rw [← hcs] at OH hcl
  have HCS := hid hcs
  generalize locsS E s = Q1 at *
  generalize stkS E s = Q2 at *
  obtain ⟨rs, hrs0⟩ : ∃ rs, rs = rootsS E s := ⟨_, rfl⟩
  rw [← hrs0] at hrs hrE
  have HRS0 := hid hrs0
  clear hrs0
  obtain ⟨oS, hoS⟩ : ∃ oS : Obj, oS = .cells #[.int .i64 s.oc, .int .i64 s.va, .int .i64 pl, .int .i64 s.hs.2.1, .int .i64 s.hs.2.2, .slice q1 Q1.length k1, .slice q2 Q2.length k2] 47 := ⟨_, rfl⟩
  obtain ⟨oI, hoI⟩ : ∃ oI : Obj, oI = .cells (Array.replicate E.n (Value.bool false)) 4 := ⟨_, rfl⟩
  obtain ⟨oR, hoR⟩ : ∃ oR : Obj, oR = .cells #[.slice (some ⟨gc, 0, none⟩) E.n kc, .slice (some ⟨w2.heap.size + 1, 0, none⟩) E.n E.n, .slice none 0 0, .bool true] 40 := ⟨_, rfl⟩
  obtain ⟨k, hk⟩ : ∃ k : SK, k = ⟨w2.heap.size + 1 + 1, gc, kc, w2.heap.size + 1, w.heap.size⟩ := ⟨_, rfl⟩
  have hb3 : Below w2.heap.size w2 (((w2.alloc oS).alloc oI).alloc oR) := (((Below.refl _ _).alloc (Nat.le_refl _) _).alloc (by simp) _).alloc (by simp; omega) _
  have hz3 : (((w2.alloc oS).alloc oI).alloc oR).heap.size = w2.heap.size + 3 := by simp
  have hz12 := hb2.size
  have hz01 := HB1.out.size
  have hA0 : SeenAt (((w2.alloc oS).alloc oI).alloc oR) k E.n (.slice none 0 0) (startSn E.n) := by
    subst hk
    refine ⟨?_, ?_, by simp [startSn], ⟨rfl, .inl ⟨rfl, rfl⟩⟩, by simp [Value.ownBlock], by simp [Value.ownBlock], by simp, by simp only; omega, by simp only; omega⟩
    · rw [hoR]; exact heap_three_third w2 oS oI _
    · have h1 : (((w2.alloc oS).alloc oI).alloc oR).heap[w2.heap.size + 1]? = some oI := by
        have := heap_alloc_new (w2.alloc oS) oI
        rw [alloc_size] at this
        rw [heap_alloc_old _ _ (by simp)]
        exact this
      rw [h1, hoI]
      simp [startSn]
  have hoff : ∀ g, g < w2.heap.size + 1 → k.Off (.slice none 0 0) (((w2.alloc oS).alloc oI).alloc oR) g := fun g hg => by
    subst hk
    refine ⟨by omega, ?_⟩
    rintro (h | h | h)
    · simp only at h; omega
    · simp only at h; omega
    · cases h
  have L1 : LsAt (((w2.alloc oS).alloc oI).alloc oR) (k.Off (.slice none 0 0) (((w2.alloc oS).alloc oI).alloc oR)) (.slice q1 Q1.length k1) Q1.length (Q1.flatMap slCells) := by
    rcases LsAt.of_owns o1 with h | ⟨g, cap, hv, hp, hc⟩
    · exact .inl h
    · exact .inr ⟨g, cap, hv, hoff g (by omega), fun j u hj => (hb3.cell (p := ⟨g, j, none⟩) hp.2).trans (hc j u hj)⟩
  have L2 : LsAt (((w2.alloc oS).alloc oI).alloc oR) (k.Off (.slice none 0 0) (((w2.alloc oS).alloc oI).alloc oR)) (.slice q2 Q2.length k2) Q2.length (Q2.flatMap slCells) := by
    rcases LsAt.of_owns o2 with h | ⟨g, cap, hv, hp, hc⟩
    · exact .inl h
    · exact .inr ⟨g, cap, hv, hoff g (by omega), fun j u hj => (hb3.cell (p := ⟨g, j, none⟩) hp.2).trans (hc j u hj)⟩
  have LC : LsAt (((w2.alloc oS).alloc oI).alloc oR) (k.Off (.slice none 0 0) (((w2.alloc oS).alloc oI).alloc oR)) (.slice (some ⟨gc, 0, none⟩) cs.length kc) cs.length (cs.flatMap clCells) := by
    have h13 : Below w1.heap.size w1 (((w2.alloc oS).alloc oI).alloc oR) := hb2.trans (hb3.mono hb2.size)
    rcases LsAt.of_owns OH.out with h | ⟨g, cap, hv, hp, hc⟩
    · exact .inl h
    · exact .inr ⟨g, cap, hv, hoff g (by omega), fun j u hj => (h13.cell (p := ⟨g, j, none⟩) hp.2).trans (hc j u hj)⟩
  have rS3 : (((w2.alloc oS).alloc oI).alloc oR).heap[w2.heap.size]? = some oS := heap_three_first w2 oS oI oR
  have hm1 := hid (meets_any k E.n _ _ Q1 _ _ hA0 (start_ok E.n) (by omega) L1 hl1 (fun r hr => hrs r (by rw [hrE]; exact List.mem_append_left _ hr)))
  have HL2 := hid L2
  have HLC := hid LC
  have HRS := hid rS3
  have HOFS := hid (hoff w2.heap.size (by omega))
  have HB3 := hid ((HB1.out.trans (hb2.mono hz01)).trans (hb3.mono (by omega)))
  have HOK1 := hid (meets_ok (n := E.n) (rootsC Q1) _ (start_ok E.n) (fun r hr => hrs r (by rw [hrE]; exact List.mem_append_left _ hr))).1
  have HA0 := hid hA0
  have HKB : Hid (k.base = w.heap.size ∧ k.gc = gc ∧ k.kc = kc ∧ k.b = w2.heap.size + 1 + 1) := hid (by subst hk; exact ⟨rfl, rfl, rfl, rfl⟩)
  clear hA0 L1 L2 LC rS3 hoff hb2 hb3 o1 o2 OH HB1 hcs
  have hkb := HKB.out.2.2.2
  rw [hoS, hoI, hoR] at hm1
  rw [hkb] at hm1
  go_wp2_with fail
  refine hm1.out.mono ?_
  clear hm1
  rw [← hoS, ← hoI, ← hoR]
  intro e w4 hh
  obtain ⟨hx, vT4, hT4⟩ := hh
  subst e
  generalize (((w2.alloc oS).alloc oI).alloc oR) = W3 at *
  have hz4 := hT4.touch.size
  have rS4 := (hT4.touch.block w2.heap.size HOFS.out.1 HOFS.out.2).trans HRS.out
  rw [hoS] at rS4
  have c6 := cell_of_row w4 w2.heap.size 6 _ _ _ rS4
  simp only [List.getElem?_toArray, List.getElem?_cons_zero, List.getElem?_cons_succ] at c6
  have hL2 : LsAt w4 (k.Off vT4 w4) (.slice q2 Q2.length k2) Q2.length (Q2.flatMap slCells) := by
    rcases HL2.out.off hT4 with h | ⟨g, cap, hv, hp, hc⟩
    · exact .inl h
    · refine .inr ⟨g, cap, hv, ⟨Nat.lt_of_lt_of_le hp.1 hz4, ?_⟩, hc⟩
      rintro (h | h | h)
      · exact hp.2 (.inl h)
      · exact hp.2 (.inr (.inl h))
      · rcases hT4.own g h with e | e
        · exact hp.2 (.inr (.inr e))
        · have := hp.1; omega
  have hm2 := hid (meets_any k E.n _ vT4 Q2 _ w4 hT4.at_ HOK1.out (by omega) hL2 hl2 (fun r hr => hrs r (by rw [hrE]; exact List.mem_append_right _ hr)))
  have HT4 := hid hT4
  rw [hkb] at hm2
  clear hT4 rS4 hL2 HL2
  go_wp2_with fail
  refine hm2.out.mono ?_
  clear hm2
  intro e w5 hh
  obtain ⟨hx, vT5, hT5⟩ := hh
  subst e
  have hT5' := HT4.out.trans hT5
  have hms : meetsS (rootsC Q2) (meetsS (rootsC Q1) (startSn E.n)) = meetsS rs (startSn cs.length) := by
    rw [hrE, hcl]
    unfold meetsS
    rw [List.foldl_append]
  rw [hms] at hT5'
  have HT5 := hid hT5'
  have HIN0 := hid (SnInv.start (cs := cs) (rs := rs) (fun r hr => by rw [hcl]; exact hrs r hr))
  clear hT5 hT5' hms HT4 c6 HOK1 HOFS HRS hz4
  have hclE : cs.length = E.n := hcl
  go_wp2_with fail
  go_loopg [6] cs.length (fun gk x w' => ∃ (i : Nat) (S : Sn) (vT : Value), i ≤ S.todo.length ∧ gk = cs.length - i ∧ x = .int .i64 i ∧ SeenTo k E.n (.slice none 0 0) W3 vT S w' ∧ SnInv cs rs i S)
  case atStart => exact ⟨0, _, vT5, by omega, by omega, rfl, HT5.out, HIN0.out⟩
  case round =>
    obtain ⟨i, S, vT, hi', hgk, rfl, hT, hI⟩ := hrel
    obtain ⟨pt, ct, et⟩ := owns_slice hT.at_.todo
    subst et
    have r2 := cell_of_row wr k.b 2 _ _ _ hT.at_.row
    unfold SK.row at r2
    simp only [List.getElem?_toArray, List.getElem?_cons_zero, List.getElem?_cons_succ] at r2
    rw [hkb] at r2
    have htl := hI.ok.todo_le
    rcases Nat.lt_or_ge i S.todo.length with hlt | hge
    · have d0 : (0 : Int) ≤ (i : Int) := by omega
      have d1 : (i : Int) < (S.todo.length : Int) := by omega
      obtain ⟨q, hq⟩ : ∃ q, S.todo[i]? = some q := ⟨_, List.getElem?_eq_getElem hlt⟩
      have hql := hI.ok.lt (List.mem_of_getElem? hq)
      obtain ⟨gt, et⟩ : ∃ gt, pt = some ⟨gt, 0, none⟩ := by
        rcases hT.at_.todo.2 with ⟨_, h2⟩ | ⟨g, cap, cur, h1, _⟩
        · omega
        · cases h1; exact ⟨g, rfl⟩
      subst et
      have t0 := hT.at_.todo.cells (g := gt) rfl i (.int .i64 q) (by rw [List.getElem?_map, hq]; rfl)
      rw [addr_add] at t0
      have e0 : (0 : Int) ≤ (q : Int) := by omega
      have e1' : (q : Int) < (E.n : Int) := by omega
      obtain ⟨g, cap, eg, hgs, hc⟩ := (HLC.out.off hT).some (by omega)
      cases eg
      have x0 := hc _ _ (flat_at clCells 5 (fun _ => rfl) cs q 0 hql (by omega))
      have x1 := hc _ _ (flat_at clCells 5 (fun _ => rfl) cs q 1 hql (by omega))
      have x2 := hc _ _ (flat_at clCells 5 (fun _ => rfl) cs q 2 hql (by omega))
      have x3 := hc _ _ (flat_at clCells 5 (fun _ => rfl) cs q 3 hql (by omega))
      have x4 := hc _ _ (flat_at clCells 5 (fun _ => rfl) cs q 4 hql (by omega))
      rw [Nat.add_zero] at x0
      have hnext := hI.next hrf hq
      have hrq := hrf cs[q] (List.getElem_mem hql)
      have hlk : lookS cs q S = if cs[q].weak = true then S else meetS cs[q].b (meetS cs[q].a S) := by
        unfold lookS; rw [List.getElem?_eq_getElem hql]
      rw [hlk] at hnext
      have HNEXT := hid hnext
      have HTT := hid hT
      have HII := hid hI
      clear hc hnext hlk hT hI hq
      generalize cs[q] = c at *
      obtain ⟨co, wk, ra, rb, nn⟩ := c
      simp only at x0 x1 x2 x3 x4
      simp only at hrq
      obtain ⟨oC, hoC⟩ : ∃ oC : Obj, oC = .cells #[.int .i64 co, .bool wk, .int .i64 ra, .int .i64 rb, .int .i64 nn] 42 := ⟨_, rfl⟩
      have hbC : Below wr.heap.size wr (wr.alloc oC) := (Below.refl _ _).alloc (Nat.le_refl _) _
      have hTC := HTT.out.below hbC
      have rC := heap_alloc_new wr oC
      cases wk
      · have hok1 : SnOk E.n S := by rw [← hclE]; exact HII.out.ok
        have hm1 := hid (meet_any k E.n ra _ S _ hTC.at_ hok1 (by omega) (by rw [← hclE]; exact ⟨hrq.1, hrq.2.1⟩))
        have HOK2 := hid (hok1.meet ra (by rw [← hclE]; exact ⟨hrq.1, hrq.2.1⟩)).1
        have HTC := hid hTC
        have hcr : ¬ k.In (.slice (some ⟨gt, 0, none⟩) S.todo.length ct) wr.heap.size := by
          have hat := HTT.out.at_
          rintro (h | h | h)
          · have := (Array.getElem?_eq_some_iff.1 hat.row).1; omega
          · have := (Array.getElem?_eq_some_iff.1 hat.ins).1; omega
          · have := (hat.todo.lt _ h).2; omega
        have HCR := hid hcr
        have HRC := hid rC
        have hzC : (wr.alloc oC).heap.size = wr.heap.size + 1 := by simp
        rw [hkb] at hm1
        clear hTC rC hbC hcr hok1
        rw [hoC] at hm1
        have b1 := cell_of_row _ wr.heap.size 1 _ _ _ (show (wr.alloc oC).heap[wr.heap.size]? = _ from by rw [HRC.out, hoC])
        go_wp2_with fail
        refine hm1.out.mono ?_
        clear hm1 b1
        rw [← hoC]
        intro e w6 hh
        obtain ⟨hx, vT6, a1, a2, a3⟩ := hh
        subst e
        have hT6 : SeenTo k E.n (.slice none 0 0) W3 vT6 _ w6 := HTC.out.trans ⟨a1, a2, a3⟩
        have rC6 := (a2.block wr.heap.size (by omega) HCR.out).trans HRC.out
        rw [hoC] at rC6
        have b3 := cell_of_row w6 wr.heap.size 3 _ _ _ rC6
        simp only [List.getElem?_toArray, List.getElem?_cons_zero, List.getElem?_cons_succ] at b3
        have hm2 := hid (meet_any k E.n rb _ _ w6 a1 HOK2.out (by omega) (by rw [← hclE]; exact ⟨hrq.2.2.1, hrq.2.2.2⟩))
        have HT6 := hid hT6
        rw [hkb] at hm2
        clear a1 a2 a3 hT6 rC6 HTC HCR HRC
        go_wp2_with fail
        refine hm2.out.mono ?_
        clear hm2
        intro e w7 hh
        obtain ⟨hx, vT7, a1, a2, a3⟩ := hh
        subst e
        have HT7 := hid (HT6.out.trans ⟨a1, a2, a3⟩)
        clear a1 a2 a3 b3 HT6
        go_wp2_with fail
        go_roundg (cs.length - (i + 1))
        case measure => omega
        case rel =>
          have hn2 := HNEXT.out
          rw [if_neg (by simp)] at hn2
          refine ⟨i + 1, _, vT7, ?_, rfl, by go_num, HT7.out, hn2⟩
          have hok := HII.out.ok
          obtain ⟨p1, _, e1, p2⟩ := hok.meet ra ⟨hrq.1, hrq.2.1⟩
          obtain ⟨_, _, e2, p3⟩ := p1.meet rb ⟨hrq.2.2.1, hrq.2.2.2⟩
          rw [p3, p2]
          simp only [List.length_append]
          omega
      · have HTC := hid hTC
        rw [hoC] at HTC
        clear hTC rC hbC hoC
        simp only at HNEXT
        go_wp2_with fail
        go_roundg (cs.length - (i + 1))
        case measure => omega
        case rel =>
          have hn2 := HNEXT.out
          rw [if_pos trivial] at hn2
          exact ⟨i + 1, S, _, by omega, rfl, by go_num, HTC.out, hn2⟩
    · have d1 : ¬ (i : Int) < (S.todo.length : Int) := by omega
      have hfin := hI.fin hge
      have HSAW : Hid (∃ k vT S, Ending.returned (Value.pointer (some ⟨w2.heap.size + 1 + 1, 0, none⟩)) = .returned (.pointer (some ⟨k.b, 0, none⟩)) ∧ Saw cs rs k vT S w wr) := hid (by
        have hb3w : Below w.heap.size w wr := HB3.out.trans (hT.touch.sub (B := w.heap.size) (fun j hj => by
          rcases hj with h | h | h
          · have := HA0.out.bb; have := HKB.out.1; omega
          · have := HA0.out.bi; have := HKB.out.1; omega
          · cases h) HB3.out.size)
        refine ⟨k, _, S, by rw [hkb], ⟨by rw [hclE]; exact hT.at_, hb3w, HKB.out.1, hI.ok, hfin, ?_⟩⟩
        rw [HKB.out.2.1, HKB.out.2.2.1]
        rcases HLC.out.off hT with ⟨h1, _⟩ | ⟨g, cap, hv, hp, hc⟩
        · cases h1
        · cases hv
          exact .inr ⟨gc, kc, rfl, ⟨HGC.out, Nat.lt_of_lt_of_le hp.1 hT.touch.size⟩, hc⟩)
      rw [HCS.out, HRS0.out] at HSAW
      clear hT hI hfin
      go_wp2_with fail
      obtain ⟨k', vT', S', g1, g2⟩ := HSAW.out
      exact bodyPost_ret (v := .pointer (some ⟨w2.heap.size + 1 + 1, 0, none⟩)) (by simp [results, Tryd.results12, go_sem]) rfl ⟨k', g1, vT', S', g2⟩
end Go.Proofs.YtdmdpindonghdabDoor
namespace Go.Proofs.YtdmdpindonghdabDoor
open Go.RowKit
/-- What is paired so far. -/
structure Pq where
  fw : List Int
  bw : List Int
  todo : List Nat
structure PqOk (R : Nat → Nat → Prop) (n : Nat) (P : Pq) : Prop where
  tl : P.fw.length = n
  bl : P.bw.length = n
  tv : ∀ (a : Nat) (x : Int), P.fw[a]? = some x → x = -1 ∨ ∃ b : Nat, x = (b : Int) ∧ R a b ∧ P.bw[b]? = some (a : Int)
  bv : ∀ (b : Nat) (x : Int), P.bw[b]? = some x → x = -1 ∨ ∃ a : Nat, x = (a : Int) ∧ R a b ∧ P.fw[a]? = some (b : Int)
  nd : P.todo.Nodup
  td : ∀ a ∈ P.todo, ∃ b : Nat, P.fw[a]? = some (b : Int)
def startPq (n : Nat) : Pq := ⟨List.replicate n (-1), List.replicate n (-1), []⟩
theorem startPq_ok (R : Nat → Nat → Prop) (n : Nat) : PqOk R n (startPq n) := by
  refine ⟨by simp [startPq], by simp [startPq], fun a x h => ?_, fun b x h => ?_, List.nodup_nil, fun a h => by (cases h)⟩
  · exact .inl (List.mem_replicate.1 (List.mem_of_getElem? h)).2
  · exact .inl (List.mem_replicate.1 (List.mem_of_getElem? h)).2
theorem PqOk.le {R : Nat → Nat → Prop} {n : Nat} {P : Pq} (h : PqOk R n P) : P.todo.length ≤ n := by
  refine nodup_lt n P.todo h.nd (fun a ha => ?_)
  obtain ⟨b, hb⟩ := h.td a ha
  have := (List.getElem?_eq_some_iff.1 hb).1
  rw [h.tl] at this
  exact this
/-- Two numbers more. -/
def addP (a b : Nat) (P : Pq) : Pq := ⟨P.fw.set a (b : Int), P.bw.set b (a : Int), P.todo ++ [a]⟩
theorem PqOk.add {R : Nat → Nat → Prop} {n a b : Nat} {P : Pq} (h : PqOk R n P) (hr : R a b) (ha : P.fw[a]? = some (-1)) (hb : P.bw[b]? = some (-1)) : PqOk R n (addP a b P) := by
  have hal := (List.getElem?_eq_some_iff.1 ha).1
  have hbl := (List.getElem?_eq_some_iff.1 hb).1
  refine ⟨by simp [addP, h.tl], by simp [addP, h.bl], fun a' x hx => ?_, fun b' x hx => ?_, ?_, fun a' ha' => ?_⟩
  · simp only [addP, List.getElem?_set] at hx ⊢
    by_cases e : a = a'
    · subst e
      rw [if_pos rfl, if_pos hal] at hx
      cases hx
      exact .inr ⟨b, rfl, hr, by rw [if_pos rfl, if_pos hbl]⟩
    · rw [if_neg e] at hx
      rcases h.tv a' x hx with q | ⟨b', q1, q2, q3⟩
      · exact .inl q
      · refine .inr ⟨b', q1, q2, ?_⟩
        have : b ≠ b' := by rintro rfl; rw [hb] at q3; simp only [Option.some.injEq] at q3; omega
        rw [if_neg this]
        exact q3
  · simp only [addP, List.getElem?_set] at hx ⊢
    by_cases e : b = b'
    · subst e
      rw [if_pos rfl, if_pos hbl] at hx
      cases hx
      exact .inr ⟨a, rfl, hr, by rw [if_pos rfl, if_pos hal]⟩
    · rw [if_neg e] at hx
      rcases h.bv b' x hx with q | ⟨a', q1, q2, q3⟩
      · exact .inl q
      · refine .inr ⟨a', q1, q2, ?_⟩
        have : a ≠ a' := by rintro rfl; rw [ha] at q3; simp only [Option.some.injEq] at q3; omega
        rw [if_neg this]
        exact q3
  · simp only [addP]
    rw [List.nodup_append]
    refine ⟨h.nd, by simp, fun u hu v hv => ?_⟩
    rw [List.mem_singleton.1 hv]
    rintro rfl
    obtain ⟨c, hc⟩ := h.td u hu
    rw [ha] at hc
    simp only [Option.some.injEq] at hc
    omega
  · simp only [addP, List.getElem?_set] at ha' ⊢
    by_cases e : a = a'
    · exact ⟨b, by rw [if_pos e, if_pos hal]⟩
    · rw [if_neg e]
      rcases List.mem_append.1 ha' with q | q
      · exact h.td a' q
      · exact absurd (List.mem_singleton.1 q).symm e
/-- Two that are known, or neither. -/
theorem PqOk.known {R : Nat → Nat → Prop} {n a b : Nat} {P : Pq} (h : PqOk R n P) (ho : OneOne R) (hr : R a b) (ha : a < n) (hb : b < n) : (P.fw[a]? = some (-1) ∧ P.bw[b]? = some (-1)) ∨ (P.fw[a]? = some (b : Int) ∧ P.bw[b]? = some (a : Int)) := by
  have ha' : a < P.fw.length := by rw [h.tl]; exact ha
  have hb' : b < P.bw.length := by rw [h.bl]; exact hb
  have h1 : P.fw[a]? = some P.fw[a] := List.getElem?_eq_getElem ha'
  have h2 : P.bw[b]? = some P.bw[b] := List.getElem?_eq_getElem hb'
  rcases h.tv a _ h1 with q | ⟨b', q1, q2, q3⟩
  · rcases h.bv b _ h2 with r | ⟨a', r1, r2, r3⟩
    · exact .inl ⟨by rw [h1, q], by rw [h2, r]⟩
    · obtain rfl := ho.inj a a' b hr r2
      rw [h1, q] at r3
      simp only [Option.some.injEq] at r3
      omega
  · obtain rfl := ho.fn a b b' hr q2
    exact .inr ⟨by rw [h1, q1], q3⟩
theorem owns_setQ {w : World} {base g cap N n : Nat} {e : TypeId} {v : Value} {xs : List Value} (h : w.ownsRow base e 1 (.slice (some ⟨g, 0, none⟩) N cap) N xs) : (w.setCell ⟨g, n, none⟩ v).ownsRow base e 1 (.slice (some ⟨g, 0, none⟩) N cap) N (xs.set n v) := by
  have h1 := h.1
  refine ⟨by simpa using h1, ?_⟩
  rcases h.2 with ⟨h2, _⟩ | ⟨g', cap', cur, hv, hg, hh, r1, r2, r3, r4⟩
  · cases h2
  · cases hv
    refine .inr ⟨g, cap, cur.setIfInBounds n v, rfl, hg, setCell_row n _ hh, r1, r2, by simpa using r3, ?_⟩
    rw [Array.toList_setIfInBounds, List.take_set, r4]
theorem owns_row {w : World} {base g cap N : Nat} {e : TypeId} {sz : Nat} {xs : List Value} (h : w.ownsRow base e sz (.slice (some ⟨g, 0, none⟩) N cap) N xs) : ∃ cur, w.heap[g]? = some (.cells cur e) := by
  rcases h.2 with ⟨h2, _⟩ | ⟨g', cap', cur, hv, hg, hh, _⟩
  · cases h2
  · cases hv
    exact ⟨cur, hh⟩
structure QK where
  b : Nat
  gt : Nat
  ct : Nat
  gb : Nat
  cb : Nat
  base : Nat
def QK.row (k : QK) (n : Nat) (vT : Value) : Array Value := #[.slice (some ⟨k.gt, 0, none⟩) n k.ct, .slice (some ⟨k.gb, 0, none⟩) n k.cb, vT, .bool true]
structure PqAt (W : World) (k : QK) (n : Nat) (vT : Value) (P : Pq) : Prop where
  row : W.heap[k.b]? = some (.cells (k.row n vT) 94)
  fw : W.ownsRow k.base 3 1 (.slice (some ⟨k.gt, 0, none⟩) n k.ct) n (P.fw.map (.int .i64))
  bw : W.ownsRow k.base 3 1 (.slice (some ⟨k.gb, 0, none⟩) n k.cb) n (P.bw.map (.int .i64))
  todo : W.ownsRow k.base 3 1 vT P.todo.length (P.todo.map (fun (j : Nat) => Value.int .i64 j))
  tb : vT.ownBlock ≠ some k.b
  tt : vT.ownBlock ≠ some k.gt
  tk : vT.ownBlock ≠ some k.gb
  n1 : k.b ≠ k.gt
  n2 : k.b ≠ k.gb
  n3 : k.gt ≠ k.gb
  bb : k.base ≤ k.b
  bt : k.base ≤ k.gt
  bk : k.base ≤ k.gb
def QK.In (k : QK) (vT : Value) (j : Nat) : Prop := j = k.b ∨ j = k.gt ∨ j = k.gb ∨ vT.ownBlock = some j
/-- The pairs have gone on. -/
structure PqTo (k : QK) (n : Nat) (vT : Value) (w : World) (vT' : Value) (P' : Pq) (w' : World) : Prop where
  at_ : PqAt w' k n vT' P'
  touch : Touch (k.In vT) w w'
  own : ∀ j, vT'.ownBlock = some j → vT.ownBlock = some j ∨ w.heap.size ≤ j
theorem PqTo.refl {k : QK} {n : Nat} {vT : Value} {P : Pq} {w : World} (h : PqAt w k n vT P) : PqTo k n vT w vT P w := ⟨h, Touch.refl _ _, fun _ h => .inl h⟩
theorem PqTo.trans {k : QK} {n : Nat} {vT vT1 vT2 : Value} {P1 P2 : Pq} {w w1 w2 : World} (h : PqTo k n vT w vT1 P1 w1) (h' : PqTo k n vT1 w1 vT2 P2 w2) : PqTo k n vT w vT2 P2 w2 := by
  refine ⟨h'.at_, h.touch.trans h'.touch (fun j hj hi => ?_), fun j hj => ?_⟩
  · rcases hi with hi | hi | hi | hi
    · exact .inl hi
    · exact .inr (.inl hi)
    · exact .inr (.inr (.inl hi))
    · rcases h.own j hi with e | e
      · exact .inr (.inr (.inr e))
      · omega
  · rcases h'.own j hj with e | e
    · exact h.own j e
    · exact .inr (Nat.le_trans h.touch.size e)
theorem PqAt.below {k : QK} {n : Nat} {vT : Value} {P : Pq} {w w' : World} (h : PqAt w k n vT P) (hb : Below w.heap.size w w') : PqAt w' k n vT P :=
  ⟨(hb.block k.b (Array.getElem?_eq_some_iff.1 h.row).1).trans h.row, owns_keep h.fw (fun g hg => hb.block g (h.fw.lt g hg).2), owns_keep h.bw (fun g hg => hb.block g (h.bw.lt g hg).2), owns_keep h.todo (fun g hg => hb.block g (h.todo.lt g hg).2), h.tb, h.tt, h.tk, h.n1, h.n2, h.n3, h.bb, h.bt, h.bk⟩
theorem PqTo.below {k : QK} {n : Nat} {vT vT' : Value} {P' : Pq} {w w' w'' : World} (h : PqTo k n vT w vT' P' w') (hb : Below w'.heap.size w' w'') : PqTo k n vT w vT' P' w'' :=
  ⟨h.at_.below hb, h.touch.trans (Touch.below (F := k.In vT) hb) (fun _ _ h => h), h.own⟩
def QK.Off (k : QK) (vT : Value) (w : World) (g : Nat) : Prop := g < w.heap.size ∧ ¬ k.In vT g
theorem LsAt.offQ {k : QK} {n : Nat} {vT vT' : Value} {P' : Pq} {w w' : World} {v : Value} {m : Nat} {cs : List Value} (h : LsAt w (k.Off vT w) v m cs) (ht : PqTo k n vT w vT' P' w') : LsAt w' (k.Off vT w) v m cs := by
  rcases h with h | ⟨g, cap, hv, hp, hc⟩
  · exact .inl h
  · exact .inr ⟨g, cap, hv, hp, fun j u hj => (World.cell?_of_block (a := ⟨g, j, none⟩) (ht.touch.block g hp.1 hp.2)).trans (hc j u hj)⟩
theorem LsAt.offN {k : QK} {n : Nat} {vT vT' : Value} {P' : Pq} {w w' : World} {v : Value} {m : Nat} {cs : List Value} (h : LsAt w (k.Off vT w) v m cs) (ht : PqTo k n vT w vT' P' w') : LsAt w' (k.Off vT' w') v m cs := by
  rcases h.offQ ht with h | ⟨g, cap, hv, hp, hc⟩
  · exact .inl h
  · refine .inr ⟨g, cap, hv, ⟨Nat.lt_of_lt_of_le hp.1 ht.touch.size, ?_⟩, hc⟩
    rintro (h | h | h | h)
    · exact hp.2 (.inl h)
    · exact hp.2 (.inr (.inl h))
    · exact hp.2 (.inr (.inr (.inl h)))
    · rcases ht.own g h with e | e
      · exact hp.2 (.inr (.inr (.inr e)))
      · have := hp.1; omega
def PairPost (R : Nat → Nat → Prop) (k : QK) (n : Nat) (vT : Value) (w : World) (e : Ending) (w' : World) : Prop := e = .returned (.tuple #[]) ∧ ∃ vT' P', PqTo k n vT w vT' P' w' ∧ PqOk R n P'
def PairPostX (R : Nat → Nat → Prop) (k : QK) (n : Nat) (vT : Value) (P : Pq) (w : World) (e : Ending) (w' : World) : Prop := e = .returned (.tuple #[]) ∧ ∃ vT' P', PqTo k n vT w vT' P' w' ∧ PqOk R n P' ∧ P.todo.length ≤ P'.todo.length ∧ ∀ (j a : Nat), P.todo[j]? = some a → P'.todo[j]? = some a
set_option maxRecDepth 100000 in
set_option maxHeartbeats 1000000 in
theorem pair_none {R : Nat → Nat → Prop} (k : QK) (n : Nat) (vT : Value) (P : Pq) (w : World) (h : PqAt w k n vT P) (hk : PqOk R n P) :
    Calls Tryd.prog 40 #[.pointer (some ⟨k.b, 0, none⟩), .int .i64 (-1), .int .i64 (-1)] w (PairPostX R k n vT P w) := by
  obtain ⟨pt, ct, et⟩ := owns_slice h.todo
  subst et
  have r3 := cell_of_row w k.b 3 _ _ _ h.row
  have f3 := frozen_of_row w k.b 3 _ _ h.row
  unfold QK.row at r3
  simp only [List.getElem?_toArray, List.getElem?_cons_zero, List.getElem?_cons_succ] at r3
  have ho : Only k.b w (w.setCell ⟨k.b, 3, none⟩ (.bool true)) := (Only.refl _ _).set _ _
  have HF : Hid (PairPostX R k n (.slice pt P.todo.length ct) P w (.returned (.tuple #[])) (w.setCell ⟨k.b, 3, none⟩ (.bool true))) := hid ⟨rfl, .slice pt P.todo.length ct, P, ⟨⟨by
      have := setCell_row 3 (.bool true) h.row
      rw [this]
      simp [QK.row], owns_keep h.fw (fun g hg => ho.block g (fun e => h.n1 (by simp only [Value.ownBlock, Option.some.injEq] at hg; omega))), owns_keep h.bw (fun g hg => ho.block g (fun e => h.n2 (by simp only [Value.ownBlock, Option.some.injEq] at hg; omega))), owns_keep h.todo (fun g hg => ho.block g (fun e => h.tb (by rw [hg, e]))), h.tb, h.tt, h.tk, h.n1, h.n2, h.n3, h.bb, h.bt, h.bk⟩, ⟨ho.os, ho.tape, ho.output, by rw [ho.size]; exact Nat.le_refl _, fun j _ hj => ho.block j (fun e => hj (.inl e))⟩, fun _ h => .inl h⟩, hk, Nat.le_refl _, fun _ _ h => h⟩
  clear h hk ho
  go_enter Tryd.func40, Tryd.ntmps40
  go_wp2_with fail
  go_end0
  exact HF.out
/-- The flag is written: it stays. -/
theorem pq_flag {R : Nat → Nat → Prop} {k : QK} {n : Nat} {vT : Value} {P : Pq} {w : World} (h : PqAt w k n vT P) (hk : PqOk R n P) : PairPostX R k n vT P w (.returned (.tuple #[])) (w.setCell ⟨k.b, 3, none⟩ (.bool true)) := by
  have ho : Only k.b w (w.setCell ⟨k.b, 3, none⟩ (.bool true)) := (Only.refl _ _).set _ _
  exact ⟨rfl, vT, P, ⟨⟨by
      have := setCell_row 3 (.bool true) h.row
      rw [this]
      simp [QK.row], owns_keep h.fw (fun g hg => ho.block g (fun e => h.n1 (by simp only [Value.ownBlock, Option.some.injEq] at hg; omega))), owns_keep h.bw (fun g hg => ho.block g (fun e => h.n2 (by simp only [Value.ownBlock, Option.some.injEq] at hg; omega))), owns_keep h.todo (fun g hg => ho.block g (fun e => h.tb (by rw [hg, e]))), h.tb, h.tt, h.tk, h.n1, h.n2, h.n3, h.bb, h.bt, h.bk⟩, ⟨ho.os, ho.tape, ho.output, by rw [ho.size]; exact Nat.le_refl _, fun j _ hj => ho.block j (fun e => hj (.inl e))⟩, fun _ h => .inl h⟩, hk, Nat.le_refl _, fun _ _ h => h⟩
theorem PqAt.cellT {k : QK} {n : Nat} {vT : Value} {P : Pq} {w : World} (h : PqAt w k n vT P) {a : Nat} {x : Int} (hx : P.fw[a]? = some x) : w.cell? ⟨k.gt, a, none⟩ = some (.int .i64 x) := by
  have := h.fw.cells (g := k.gt) rfl a (.int .i64 x) (by rw [List.getElem?_map, hx]; rfl)
  rw [addr_add] at this
  exact this
theorem PqAt.cellB {k : QK} {n : Nat} {vT : Value} {P : Pq} {w : World} (h : PqAt w k n vT P) {a : Nat} {x : Int} (hx : P.bw[a]? = some x) : w.cell? ⟨k.gb, a, none⟩ = some (.int .i64 x) := by
  have := h.bw.cells (g := k.gb) rfl a (.int .i64 x) (by rw [List.getElem?_map, hx]; rfl)
  rw [addr_add] at this
  exact this
set_option maxRecDepth 100000 in
set_option maxHeartbeats 2000000 in
theorem pair_old {R : Nat → Nat → Prop} (k : QK) (n : Nat) (vT : Value) (P : Pq) (w : World) (a b : Nat) (h : PqAt w k n vT P) (hk : PqOk R n P) (ha : a < n) (hb : b < n) (h1 : P.fw[a]? = some (b : Int)) (h2 : P.bw[b]? = some (a : Int)) :
    Calls Tryd.prog 40 #[.pointer (some ⟨k.b, 0, none⟩), .int .i64 a, .int .i64 b] w (PairPostX R k n vT P w) := by
  obtain ⟨pt, ct, et⟩ := owns_slice h.todo
  subst et
  have r0 := cell_of_row w k.b 0 _ _ _ h.row
  have r1 := cell_of_row w k.b 1 _ _ _ h.row
  have r3 := cell_of_row w k.b 3 _ _ _ h.row
  have f3 := frozen_of_row w k.b 3 _ _ h.row
  unfold QK.row at r0 r1 r3
  simp only [List.getElem?_toArray, List.getElem?_cons_zero, List.getElem?_cons_succ] at r0 r1 r3
  have x1 := h.cellT h1
  have x2 := h.cellB h2
  have a1 : ((a : Int) == -1) = false := by simp
  have b1 : ((b : Int) == -1) = false := by simp
  have a2 : ¬ (a : Int) < 0 := by omega
  have b2 : ¬ (b : Int) < 0 := by omega
  have a3 : ¬ (n : Int) ≤ (a : Int) := by omega
  have b3 : ¬ (n : Int) ≤ (b : Int) := by omega
  have a4 : (0 : Int) ≤ (a : Int) := by omega
  have b4 : (0 : Int) ≤ (b : Int) := by omega
  have a5 : (a : Int) < (n : Int) := by omega
  have b5 : (b : Int) < (n : Int) := by omega
  have HF := hid (pq_flag h hk)
  clear h hk h1 h2
  go_enter Tryd.func40, Tryd.ntmps40
  go_wp2_with fail
  go_end0
  exact HF.out
theorem pair_fin {R : Nat → Nat → Prop} {k : QK} {n a b : Nat} {vT : Value} {P : Pq} {w w6 : World} {o : Obj} {gg gcap : Nat} (hh : PqAt w k n vT P) (hk : PqOk R n (addP a b P))
    (hgrow : (((w.setCell ⟨k.gt, a, none⟩ (.int .i64 b)).setCell ⟨k.gb, b, none⟩ (.int .i64 a)).alloc o).grownBy w6 vT.ownBlock) (hown : w6.ownsRow k.base 3 1 (.slice (some ⟨gg, 0, none⟩) (P.todo.length + 1) gcap) (P.todo.length + 1) (P.todo.map (fun (j : Nat) => Value.int .i64 j) ++ [.int .i64 a])) (hat : vT.ownBlock = some gg ∨ gg = (((w.setCell ⟨k.gt, a, none⟩ (.int .i64 b)).setCell ⟨k.gb, b, none⟩ (.int .i64 a)).alloc o).heap.size) :
    PairPostX R k n vT P w (.returned (.tuple #[])) (w6.setCell ⟨k.b, 2, none⟩ (.slice (some ⟨gg, 0, none⟩) (P.todo.length + 1) gcap)) := by
  have hbz : k.b < w.heap.size := (Array.getElem?_eq_some_iff.1 hh.row).1
  have htz : k.gt < w.heap.size := (hh.fw.lt k.gt rfl).2
  have hkz : k.gb < w.heap.size := (hh.bw.lt k.gb rfl).2
  have o1 : Only k.gt w (w.setCell ⟨k.gt, a, none⟩ (.int .i64 b)) := (Only.refl _ _).set _ _
  have p1 := owns_setQ (n := a) (v := .int .i64 b) hh.fw
  have q1 := owns_keep hh.bw (w' := w.setCell ⟨k.gt, a, none⟩ (.int .i64 b)) (fun g hg => o1.block g (by simp only [Value.ownBlock, Option.some.injEq] at hg; have := hh.n3; omega))
  have t1 := owns_keep hh.todo (w' := w.setCell ⟨k.gt, a, none⟩ (.int .i64 b)) (fun g hg => o1.block g (fun e => hh.tt (by rw [hg, e])))
  have r1 : (w.setCell ⟨k.gt, a, none⟩ (.int .i64 b)).heap[k.b]? = _ := (o1.block k.b hh.n1).trans hh.row
  have s1 : (w.setCell ⟨k.gt, a, none⟩ (.int .i64 b)).heap.size = w.heap.size := o1.size
  have T1 : Touch (k.In vT) w (w.setCell ⟨k.gt, a, none⟩ (.int .i64 b)) := ⟨o1.os, o1.tape, o1.output, by rw [s1]; exact Nat.le_refl _, fun j _ hj => o1.block j (fun e => hj (.inr (.inl e)))⟩
  generalize w.setCell ⟨k.gt, a, none⟩ (.int .i64 b) = W1 at *
  have o2 : Only k.gb W1 (W1.setCell ⟨k.gb, b, none⟩ (.int .i64 a)) := (Only.refl _ _).set _ _
  have q2 := owns_setQ (n := b) (v := .int .i64 a) q1
  have p2 := owns_keep p1 (w' := W1.setCell ⟨k.gb, b, none⟩ (.int .i64 a)) (fun g hg => o2.block g (by simp only [Value.ownBlock, Option.some.injEq] at hg; have := hh.n3; omega))
  have r2 : (W1.setCell ⟨k.gb, b, none⟩ (.int .i64 a)).heap[k.b]? = _ := (o2.block k.b hh.n2).trans r1
  have s2 : (W1.setCell ⟨k.gb, b, none⟩ (.int .i64 a)).heap.size = w.heap.size := o2.size.trans s1
  have T2 : Touch (k.In vT) w (W1.setCell ⟨k.gb, b, none⟩ (.int .i64 a)) := T1.trans (⟨o2.os, o2.tape, o2.output, by rw [o2.size]; exact Nat.le_refl _, fun j _ hj => o2.block j (fun e => hj (.inr (.inr (.inl e))))⟩ : Touch (k.In vT) W1 _) (fun _ _ h => h)
  generalize W1.setCell ⟨k.gb, b, none⟩ (.int .i64 a) = W2 at *
  have hz1 : (W2.alloc o).heap.size = w.heap.size + 1 := by rw [alloc_size, s2]
  have hz6 := hgrow.size
  have ho7 : Only k.b w6 (w6.setCell ⟨k.b, 2, none⟩ (.slice (some ⟨gg, 0, none⟩) (P.todo.length + 1) gcap)) := (Only.refl _ _).set _ _
  have hblk : ∀ j, j < w.heap.size → vT.ownBlock ≠ some j → w6.heap[j]? = W2.heap[j]? := fun j hj hne => by
    rw [hgrow.block j (by omega) (fun e => hne e.symm)]
    exact heap_alloc_old _ _ (by rw [s2]; exact hj)
  have hr6 : w6.heap[k.b]? = some (.cells (k.row n vT) 94) := (hblk k.b hbz hh.tb).trans r2
  have hgb : gg ≠ k.b := fun e => by
    rcases hat with h | h
    · exact hh.tb (by rw [h, e])
    · omega
  have hgt : gg ≠ k.gt := fun e => by
    rcases hat with h | h
    · exact hh.tt (by rw [h, e])
    · omega
  have hgk : gg ≠ k.gb := fun e => by
    rcases hat with h | h
    · exact hh.tk (by rw [h, e])
    · omega
  refine ⟨rfl, .slice (some ⟨gg, 0, none⟩) (P.todo.length + 1) gcap, addP a b P, ⟨⟨?_, ?_, ?_, ?_, ?_, ?_, ?_, hh.n1, hh.n2, hh.n3, hh.bb, hh.bt, hh.bk⟩, ?_, ?_⟩, hk, by simp [addP], ?_⟩
  · have := setCell_row 2 (.slice (some ⟨gg, 0, none⟩) (P.todo.length + 1) gcap) hr6
    rw [this]
    simp [QK.row]
  · have h1 := owns_keep p2 (w' := w6.setCell ⟨k.b, 2, none⟩ (.slice (some ⟨gg, 0, none⟩) (P.todo.length + 1) gcap)) (fun g hg => by
      simp only [Value.ownBlock, Option.some.injEq] at hg
      subst hg
      exact (ho7.block _ (Ne.symm hh.n1)).trans (hblk _ htz hh.tt))
    simpa [addP, List.map_set] using h1
  · have h1 := owns_keep q2 (w' := w6.setCell ⟨k.b, 2, none⟩ (.slice (some ⟨gg, 0, none⟩) (P.todo.length + 1) gcap)) (fun g hg => by
      simp only [Value.ownBlock, Option.some.injEq] at hg
      subst hg
      exact (ho7.block _ (Ne.symm hh.n2)).trans (hblk _ hkz hh.tk))
    simpa [addP, List.map_set] using h1
  · have h1 := owns_keep hown (w' := w6.setCell ⟨k.b, 2, none⟩ (.slice (some ⟨gg, 0, none⟩) (P.todo.length + 1) gcap)) (fun g hg => ho7.block g (by
      simp only [Value.ownBlock, Option.some.injEq] at hg
      rw [← hg]; exact hgb))
    simpa [addP] using h1
  · simp only [Value.ownBlock, ne_eq, Option.some.injEq]; exact hgb
  · simp only [Value.ownBlock, ne_eq, Option.some.injEq]; exact hgt
  · simp only [Value.ownBlock, ne_eq, Option.some.injEq]; exact hgk
  · refine ⟨?_, ?_, ?_, ?_, ?_⟩
    · rw [ho7.os, hgrow.os]; exact T2.os
    · rw [ho7.tape, hgrow.tape]; exact T2.tape
    · rw [ho7.output, hgrow.output]; exact T2.output
    · rw [ho7.size]; omega
    · intro j hj hn
      rw [ho7.block j (fun e => hn (.inl e)), hblk j hj (fun e => hn (.inr (.inr (.inr e))))]
      exact T2.block j hj hn
  · intro j hj
    simp only [Value.ownBlock, Option.some.injEq] at hj
    subst hj
    rcases hat with h | h
    · exact .inl h
    · exact .inr (by omega)
  · intro j a' hj
    have := (List.getElem?_eq_some_iff.1 hj).1
    simp only [addP]
    rw [List.getElem?_append_left this]
    exact hj
set_option maxRecDepth 100000 in
set_option maxHeartbeats 2000000 in
theorem pair_new {R : Nat → Nat → Prop} (k : QK) (n : Nat) (vT : Value) (P : Pq) (w : World) (a b : Nat) (h : PqAt w k n vT P) (hk : PqOk R n (addP a b P)) (ha : a < n) (hb : b < n) (hn : n ≤ 100) (htl : P.todo.length ≤ n) (h1 : P.fw[a]? = some (-1)) (h2 : P.bw[b]? = some (-1)) :
    Calls Tryd.prog 40 #[.pointer (some ⟨k.b, 0, none⟩), .int .i64 a, .int .i64 b] w (PairPostX R k n vT P w) := by
  obtain ⟨pt, ct, et⟩ := owns_slice h.todo
  subst et
  have r0 := cell_of_row w k.b 0 _ _ _ h.row
  have r1 := cell_of_row w k.b 1 _ _ _ h.row
  have r2 := cell_of_row w k.b 2 _ _ _ h.row
  have f2 := frozen_of_row w k.b 2 _ _ h.row
  unfold QK.row at r0 r1 r2
  simp only [List.getElem?_toArray, List.getElem?_cons_zero, List.getElem?_cons_succ] at r0 r1 r2
  have x1 := h.cellT h1
  have x2 := h.cellB h2
  obtain ⟨cur1, hc1⟩ := owns_row h.fw
  obtain ⟨cur2, hc2⟩ := owns_row h.bw
  have g1 := frozen_of_row w k.gt a _ _ hc1
  have g2 := frozen_of_row w k.gb b _ _ hc2
  have a1 : ((a : Int) == -1) = false := by simp
  have b1 : ((b : Int) == -1) = false := by simp
  have a2 : ¬ (a : Int) < 0 := by omega
  have b2 : ¬ (b : Int) < 0 := by omega
  have a3 : ¬ (n : Int) ≤ (a : Int) := by omega
  have b3 : ¬ (n : Int) ≤ (b : Int) := by omega
  have a4 : (0 : Int) ≤ (a : Int) := by omega
  have b4 : (0 : Int) ≤ (b : Int) := by omega
  have a5 : (a : Int) < (n : Int) := by omega
  have b5 : (b : Int) < (n : Int) := by omega
  have e1 := h.n1
  have e2 := h.n2
  have e3 := h.n3
  have o1 : Only k.gt w (w.setCell ⟨k.gt, a, none⟩ (.int .i64 b)) := (Only.refl _ _).set _ _
  have o2 : Only k.gb (w.setCell ⟨k.gt, a, none⟩ (.int .i64 b)) ((w.setCell ⟨k.gt, a, none⟩ (.int .i64 b)).setCell ⟨k.gb, b, none⟩ (.int .i64 a)) := (Only.refl _ _).set _ _
  have hown := owns_keep (owns_keep h.todo (w' := w.setCell ⟨k.gt, a, none⟩ (.int .i64 b)) (fun g hg => o1.block g (fun e => h.tt (by rw [hg, e])))) (w' := (w.setCell ⟨k.gt, a, none⟩ (.int .i64 b)).setCell ⟨k.gb, b, none⟩ (.int .i64 a)) (fun g hg => o2.block g (fun e => h.tk (by rw [hg, e])))
  have hbz : k.b < w.heap.size := World.block_lt_of_cell? w _ r0
  have hbb := h.bb
  have hsz : ((w.setCell ⟨k.gt, a, none⟩ (.int .i64 b)).setCell ⟨k.gb, b, none⟩ (.int .i64 a)).heap.size = w.heap.size := o2.size.trans o1.size
  have hfar : some k.b ≠ (Value.slice pt P.todo.length ct).ownBlock := fun e => h.tb e.symm
  obtain ⟨i0', hi0, hz0, hz1, hz2⟩ := info_parts intInfo
  have HH := hid h
  have HK := hid hk
  have HOO := hid o1
  clear h hk h1 h2 hc1 hc2 o1 o2
  go_enter Tryd.func40, Tryd.ntmps40
  go_wp2_with (at_builtin; go_must (refine wpList_append_lies _ (by rfl) _ _ _ (by rfl) k.base 3 i0' _ 1 8 Tryd.underlying22 hi0 hz0 hz1 hz2 rfl (by omega) _ P.todo.length (P.todo.map (fun (j : Nat) => Value.int .i64 j)) (by rfl) (hown.alloc _) ⟨w.heap.size, 0, none⟩ 1 1 [.int .i64 a] (by rfl) (by rfl) (World.news_of_block (cs := #[.int .i64 a]) (t := 3) (fr := (0, 0)) (by rw [← hsz]; exact heap_alloc_new _ _)) (by simp [Value.oneCell']) (by omega) (by unfold maxLen; omega) (by omega) (by simp; omega) _ rfl ?_); intro gg gcap w6 hown6 hgrow6 hat6 hlt6; have s2 := (hgrow6.cell_far ⟨k.b, 2, none⟩ (by simp; omega) hfar); have s3 := (hgrow6.frozen_far ⟨k.b, 2, none⟩ (by simp; omega) hfar))
  have HFN := hid (pair_fin HH.out HK.out hgrow6 hown6 hat6)
  go_end0
  exact HFN.out
theorem pair_any {R : Nat → Nat → Prop} (ho : OneOne R) (k : QK) (n : Nat) (vT : Value) (P : Pq) (w : World) (x y : Int) (h : PqAt w k n vT P) (hk : PqOk R n P) (hn : n ≤ 100) (hr : RefRel R x y) (hlt : ∀ a b, R a b → a < n ∧ b < n) :
    Calls Tryd.prog 40 #[.pointer (some ⟨k.b, 0, none⟩), .int .i64 x, .int .i64 y] w (PairPostX R k n vT P w) := by
  rcases hr with ⟨rfl, rfl⟩ | ⟨a, b, rfl, rfl, hab⟩
  · exact pair_none k n vT P w h hk
  · obtain ⟨l1, l2⟩ := hlt a b hab
    rcases hk.known ho hab l1 l2 with ⟨q1, q2⟩ | ⟨q1, q2⟩
    · exact pair_new k n vT P w a b h (hk.add hab q1 q2) l1 l2 hn hk.le q1 q2
    · exact pair_old k n vT P w a b h hk l1 l2 q1 q2
end Go.Proofs.YtdmdpindonghdabDoor
namespace Go.Proofs.YtdmdpindonghdabDoor
open Go.RowKit
set_option maxRecDepth 100000 in
set_option maxHeartbeats 1000000 in
theorem none_any (n : Nat) (w : World) (hn : n ≤ 100) :
    Calls Tryd.prog 38 #[.int .i64 n] w fun e w' => Below w.heap.size w w' ∧ ∃ v, e = .returned v ∧ w'.ownsRow w.heap.size 3 1 v n ((List.replicate n (-1 : Int)).map (.int .i64)) := by
  obtain ⟨i0, hi0, hz0, hz1, hz2⟩ := info_parts intInfo
  go_enter Tryd.func38, Tryd.ntmps38
  go_wp2_with fail
  go_loopg [3, 4] n (fun g l x w' => ∃ k : Nat, k ≤ n ∧ g = n - k ∧ x = .int .i64 k ∧ w'.ownsRow w.heap.size 3 1 l k ((List.replicate k (-1 : Int)).map (.int .i64)) ∧ Below w.heap.size w w')
  case atStart => exact ⟨0, by omega, by omega, rfl, World.ownsRow_nil _ _ _ _, Below.refl _ _⟩
  case round =>
    obtain ⟨k, hk, hg, rfl, hown, hbel⟩ := hrel
    have hz := hbel.size
    have HB := hid hbel
    rcases Nat.lt_or_ge k n with hlt | hge
    · have d1 : (k : Int) < (n : Int) := by omega
      have HNX : Hid ((List.replicate (k + 1) (-1 : Int)).map (Value.int .i64) = (List.replicate k (-1 : Int)).map (Value.int .i64) ++ [.int .i64 (-1)]) := hid (by
        rw [List.replicate_succ', List.map_append]
        rfl)
      clear hbel
      generalize (List.replicate k (-1 : Int)).map (Value.int .i64) = R at *
      go_wp2_with (at_builtin; go_must (refine wpList_append_lies _ (by rfl) _ _ _ (by rfl) w.heap.size 3 i0 _ 1 8 Tryd.underlying22 hi0 hz0 hz1 hz2 rfl (by omega) _ k R (by rfl) (hown.alloc _) ⟨wr.heap.size, 0, none⟩ 1 1 [.int .i64 (-1)] (by rfl) (by rfl) (World.news_of_block (cs := #[.int .i64 (-1)]) (t := 3) (fr := (0, 0)) (heap_alloc_new wr _)) (by simp [Value.oneCell']) (by omega) (by unfold maxLen; omega) (by omega) (by simp; omega) _ rfl ?_); intro gg gcap w6 hown6 hgrow6 hat6 hlt6)
      go_roundg (n - (k + 1))
      case measure => omega
      case rel =>
        refine ⟨k + 1, by omega, rfl, by go_num, ?_, ?_⟩
        · rw [HNX.out]
          exact hown6
        · exact (HB.out.alloc hz _).grown hgrow6 (by simp; omega) (fun j hj => (hown.lt j hj).1)
    · have d1 : ¬ (k : Int) < (n : Int) := by omega
      have hke : k = n := by omega
      have HO : Hid (wr.ownsRow w.heap.size 3 1 u3 n ((List.replicate n (-1 : Int)).map (.int .i64))) := hid (by
        rw [hke] at hown
        exact hown)
      clear hown hbel hke
      go_wp2_with fail
      go_ret
      exact ⟨HB.out, _, rfl, by simpa using HO.out⟩
theorem below_dn (w : World) (m : Nat) : Below w.heap.size w (w.drewN m) := ⟨rfl, rfl, rfl, Nat.le_refl _, fun _ _ => rfl⟩
/-- Two slots that are paired. -/
structure SlotR (R : Nat → Nat → Prop) (x y : Nat × Int) : Prop where
  ty : x.1 = y.1
  ref : x.1 = 1 → RefRel R x.2 y.2
  num : x.1 ≠ 1 → x.2 = y.2
set_option maxRecDepth 100000 in
set_option maxHeartbeats 2000000 in
theorem slotsQ_any {R : Nat → Nat → Prop} (ho : OneOne R) (k : QK) (n : Nat) (v1 v2 vT : Value) (Q1 Q2 : List (Nat × Int)) (P : Pq) (w : World) (h : PqAt w k n vT P) (hk : PqOk R n P) (hn : n ≤ 100) (hlt : ∀ a b, R a b → a < n ∧ b < n)
    (h1 : LsAt w (k.Off vT w) v1 Q1.length (Q1.flatMap slCells)) (h2 : LsAt w (k.Off vT w) v2 Q2.length (Q2.flatMap slCells)) (hl : Q1.length = Q2.length) (hl2 : Q1.length ≤ 100) (hs : ∀ (j : Nat) (x y : Nat × Int), Q1[j]? = some x → Q2[j]? = some y → SlotR R x y) :
    Calls Tryd.prog 39 #[.pointer (some ⟨k.b, 0, none⟩), v1, v2] w (PairPost R k n vT w) := by
  obtain ⟨p1, c1, e1⟩ := h1.slice
  obtain ⟨p2, c2, e2⟩ := h2.slice
  subst e1
  subst e2
  have HH := hid h
  have HK := hid hk
  have H1 := hid h1
  have H2 := hid h2
  have HS := hid hs
  have HL := hid hl
  have hpa := hid (fun (W : World) (vT' : Value) (P' : Pq) (x y : Int) (q1 : PqAt W k n vT' P') (q2 : PqOk R n P') (q3 : RefRel R x y) => pair_any ho k n vT' P' W x y q1 q2 hn q3 hlt)
  rw [← hl]
  obtain ⟨m, hm⟩ : ∃ m, m = Q1.length := ⟨_, rfl⟩
  rw [← hm] at hl2 ⊢
  have HM := hid hm
  clear h hk h1 h2 hs hl hm
  go_enter Tryd.func39, Tryd.ntmps39
  go_wp2_with fail
  go_loopg [6] m (fun gk x w' => ∃ j : Nat, j ≤ m ∧ gk = m - j ∧ x = .int .i64 j ∧ ∃ vT' P', PqTo k n vT w vT' P' w' ∧ PqOk R n P')
  case atStart => exact ⟨0, by omega, by omega, rfl, vT, P, PqTo.refl HH.out, HK.out⟩
  case round =>
    obtain ⟨j, hj, hgk, rfl, vT1, P1, hT, hok⟩ := hrel
    rcases Nat.lt_or_ge j m with hlt | hge
    · have d0 : (0 : Int) ≤ (j : Int) := by omega
      have d1 : (j : Int) < (m : Int) := by omega
      have hj1 : j < Q1.length := by rw [← HM.out]; exact hlt
      have hj2 : j < Q2.length := by rw [← HL.out]; exact hj1
      obtain ⟨g1, cap1, eg, _, hc⟩ := (H1.out.offQ hT).some (by omega)
      rw [← HM.out] at eg
      cases eg
      obtain ⟨g2, cap2, eg, _, hc'⟩ := (H2.out.offQ hT).some (by omega)
      rw [← HL.out, ← HM.out] at eg
      cases eg
      have y0 := hc _ _ (flat_at slCells 2 (fun _ => rfl) Q1 j 0 hj1 (by omega))
      have y1 := hc _ _ (flat_at slCells 2 (fun _ => rfl) Q1 j 1 hj1 (by omega))
      have z0 := hc' _ _ (flat_at slCells 2 (fun _ => rfl) Q2 j 0 hj2 (by omega))
      have z1 := hc' _ _ (flat_at slCells 2 (fun _ => rfl) Q2 j 1 hj2 (by omega))
      rw [Nat.add_zero] at y0 z0
      obtain ⟨s1, s2, s3⟩ := HS.out j _ _ (List.getElem?_eq_getElem hj1) (List.getElem?_eq_getElem hj2)
      generalize Q1[j] = xx at *
      generalize Q2[j] = yy at *
      obtain ⟨t, x⟩ := xx
      obtain ⟨t', y⟩ := yy
      simp only at y0 y1 z0 z1 s1 s2 s3
      subst s1
      clear hc hc'
      by_cases ht : t = 1
      · subst ht
        have hp := hid (fun (W : World) (hb : Below wr.heap.size wr W) => hpa.out W vT1 P1 x y (hT.at_.below hb) hok (s2 rfl))
        have HT := hid hT
        clear s2 s3 hT hok
        rw [show ((1 : Nat) : Int) = 1 from rfl] at y0 z0
        go_wp2_with fail
        go_quiet (fail)
        go_wp2_with fail
        go_region_law ((go_simp; go_at_call 40; refine (hp.out _ (below_dn _ _)).mono ?_; intro e9 w9 hh; obtain ⟨hx9, vT9, P9, hT9, hok9, _⟩ := hh; subst hx9; have HT9 := hid ((HT.out.below (below_dn _ _)).trans hT9); have HOK9 := hid hok9; clear hT9 hok9; dsimp only))
        all_goals go_wp2_with fail
        all_goals go_roundg (m - (j + 1))
        all_goals first | (case measure => omega) | skip
        all_goals exact ⟨j + 1, by omega, rfl, by go_num, _, _, HT9.out, HOK9.out⟩
      · have hne : ((t : Int) == 1) = false := by simp; omega
        obtain rfl := s3 ht
        have hne2 : (x != x) = false := by simp
        have HT := hid hT
        have HOK := hid hok
        clear s2 s3 hT hok
        go_wp2_with fail
        go_quiet (fail)
        go_wp2_with fail
        go_quiet (fail)
        go_wp2_with fail
        go_roundg (m - (j + 1))
        case measure => omega
        case rel => exact ⟨j + 1, by omega, rfl, by go_num, _, _, HT.out.below (below_dn _ _), HOK.out⟩
    · have d1 : ¬ (j : Int) < (m : Int) := by omega
      have HT := hid hT
      have HOK := hid hok
      clear hT hok
      go_wp2_with fail
      go_end0
      exact ⟨rfl, _, _, HT.out, HOK.out⟩
end Go.Proofs.YtdmdpindonghdabDoor
namespace Go.Proofs.YtdmdpindonghdabDoor
open Go.RowKit
theorem px_spot {w : World} {K : PK} {E : Env} {F : Nat → Prop} {s : MS} {i : Ins} (h : PX w K F s) (hke : KE K E) (he : EnvOk E) (hi : MInv E s) (hg : E.l[s.at_]? = some i) :
    Calls Tryd.prog 17 #[.pointer (some ⟨K.b, 0, none⟩)] w (PStatePost s.oc s.va i.place s.hs.2.1 s.hs.2.2 (locsS E s) (stkS E s) w) := by
  obtain ⟨vI, vO, lo4, st8, hm, _⟩ := h
  exact pstate_m hm hke he hi hg
theorem px_heap {w : World} {K : PK} {F : Nat → Prop} {s : MS} (h : PX w K F s) (hn : s.hs.1.length ≤ 100) :
    Calls Tryd.prog 14 #[.pointer (some ⟨K.b, 0, none⟩)] w (HeapPost (s.hs.1.map toldC) w) := by
  obtain ⟨vI, vO, lo4, st8, hm, _⟩ := h
  exact pheap_any hm hn
theorem slotsC_rel {R : Nat → Nat → Prop} {tys : List Nat} {ws us : List (Bool × Int)} (hl2 : ws.length = us.length) (h : ∀ j (hj : j < ws.length), tys.getD j 0 = kindB ws[j].1 ∨ tys.getD j 0 = 2) (hw : ∀ (j : Nat) (x y : Bool × Int), ws[j]? = some x → us[j]? = some y → WRel R x y) : (slotsC tys ws).length = (slotsC tys us).length ∧ ∀ (j : Nat) (x y : Nat × Int), (slotsC tys ws)[j]? = some x → (slotsC tys us)[j]? = some y → SlotR R x y := by
  refine ⟨by unfold slotsC; rw [List.length_zipWith, List.length_zipWith, hl2], ?_⟩
  intro j x y h1 h2
  obtain ⟨l1, e1⟩ := List.getElem?_eq_some_iff.1 h1
  obtain ⟨l2, e2⟩ := List.getElem?_eq_some_iff.1 h2
  unfold slotsC at l1 l2 e1 e2
  rw [List.length_zipWith] at l1 l2
  rw [List.getElem_zipWith] at e1 e2
  have q := h j (by omega)
  rw [List.getD_eq_getElem?_getD, List.getElem?_eq_getElem (by omega), Option.getD_some] at q
  have r := hw j _ _ (List.getElem?_eq_getElem (by omega)) (List.getElem?_eq_getElem (by omega))
  subst e1
  subst e2
  refine ⟨rfl, fun e => ?_, fun e => ?_⟩
  · simp only at e ⊢
    rw [e] at q ⊢
    have hf : ws[j].1 = true := by
      rcases q with q | q
      · unfold kindB at q; split at q
        · assumption
        · omega
      · omega
    unfold slotV
    rw [if_neg (by omega), if_neg (by omega)]
    exact r.ref hf
  · simp only at e ⊢
    unfold slotV
    split
    · rfl
    · have hf : ws[j].1 = false := by
        rcases q with q | q
        · unfold kindB at q; split at q
          · omega
          · simpa using ‹¬ ws[j].1 = true›
        · omega
      exact r.num hf
theorem Words.stAt {R : Nat → Nat → Prop} {s t : MS} (h : Words R s t) : ∀ (j : Nat) (x y : Bool × Int), s.st[j]? = some x → t.st[j]? = some y → WRel R x y := by
  intro j x y h1 h2
  obtain ⟨l1, e1⟩ := List.getElem?_eq_some_iff.1 h1
  obtain ⟨l2, e2⟩ := List.getElem?_eq_some_iff.1 h2
  have q := h.st (s.st.length - 1 - j) (by omega)
  have hl := h.stl
  unfold lastW at q
  rw [show s.st.length - 1 - (s.st.length - 1 - j) = j by omega, show t.st.length - 1 - (s.st.length - 1 - j) = j by omega, h1, h2] at q
  exact q
/-- A State in a box of its own. -/
structure SbAt (w : World) (b : Nat) (oc va pl ph hd : Int) (v1 v2 : Value) : Prop where
  row : w.heap[b]? = some (stBox oc va pl ph hd v1 v2)
theorem SbAt.keep {w w' : World} {b : Nat} {oc va pl ph hd : Int} {v1 v2 : Value} (h : SbAt w b oc va pl ph hd v1 v2) (hb : Below w.heap.size w w') : SbAt w' b oc va pl ph hd v1 v2 :=
  ⟨(hb.block b (Array.getElem?_eq_some_iff.1 h.row).1).trans h.row⟩
theorem SbAt.lt {w : World} {b : Nat} {oc va pl ph hd : Int} {v1 v2 : Value} (h : SbAt w b oc va pl ph hd v1 v2) : b < w.heap.size := (Array.getElem?_eq_some_iff.1 h.row).1
theorem SbAt.new (w : World) (oc va pl ph hd : Int) (v1 v2 : Value) : SbAt (w.alloc (stBox oc va pl ph hd v1 v2)) w.heap.size oc va pl ph hd v1 v2 := ⟨heap_alloc_new w _⟩
theorem SbAt.r0 {w : World} {b : Nat} {oc va pl ph hd : Int} {v1 v2 : Value} (h : SbAt w b oc va pl ph hd v1 v2) : w.cell? ⟨b, 0, none⟩ = some (.int .i64 oc) := by
  rw [cell_of_row w b 0 _ _ _ (by have := h.row; unfold stBox at this; exact this)]
  rfl
theorem SbAt.r1 {w : World} {b : Nat} {oc va pl ph hd : Int} {v1 v2 : Value} (h : SbAt w b oc va pl ph hd v1 v2) : w.cell? ⟨b, 1, none⟩ = some (.int .i64 va) := by
  rw [cell_of_row w b 1 _ _ _ (by have := h.row; unfold stBox at this; exact this)]
  rfl
theorem SbAt.r2 {w : World} {b : Nat} {oc va pl ph hd : Int} {v1 v2 : Value} (h : SbAt w b oc va pl ph hd v1 v2) : w.cell? ⟨b, 2, none⟩ = some (.int .i64 pl) := by
  rw [cell_of_row w b 2 _ _ _ (by have := h.row; unfold stBox at this; exact this)]
  rfl
theorem SbAt.r5 {w : World} {b : Nat} {oc va pl ph hd : Int} {v1 v2 : Value} (h : SbAt w b oc va pl ph hd v1 v2) : w.cell? ⟨b, 5, none⟩ = some v1 := by
  rw [cell_of_row w b 5 _ _ _ (by have := h.row; unfold stBox at this; exact this)]
  rfl
theorem SbAt.r6 {w : World} {b : Nat} {oc va pl ph hd : Int} {v1 v2 : Value} (h : SbAt w b oc va pl ph hd v1 v2) : w.cell? ⟨b, 6, none⟩ = some v2 := by
  rw [cell_of_row w b 6 _ _ _ (by have := h.row; unfold stBox at this; exact this)]
  rfl
theorem SbAt.touch {w w' : World} {b : Nat} {oc va pl ph hd : Int} {v1 v2 : Value} {F : Nat → Prop} (h : SbAt w b oc va pl ph hd v1 v2) (ht : Touch F w w') (hb : ¬ F b) : SbAt w' b oc va pl ph hd v1 v2 := ⟨(ht.block b h.lt hb).trans h.row⟩
/-- A list in memory, wherever. -/
def Lo (w : World) (v : Value) (n : Nat) (cs : List Value) : Prop := LsAt w (fun g => g < w.heap.size) v n cs
theorem Lo.keep {w w' : World} {v : Value} {n : Nat} {cs : List Value} (h : Lo w v n cs) (hb : Below w.heap.size w w') : Lo w' v n cs := LsAt.keep h (fun g hg => ⟨Nat.lt_of_lt_of_le hg hb.size, hb.block g hg⟩)
theorem Lo.of {w : World} {base e sz n : Nat} {v : Value} {cs : List Value} (h : w.ownsRow base e sz v n cs) : Lo w v n cs := (LsAt.of_owns h).keep (fun _ hg => ⟨hg.2, rfl⟩)
theorem Lo.off {w w' : World} {v : Value} {n : Nat} {cs : List Value} {k : QK} {vT : Value} (h : Lo w v n cs) (hb : Below w.heap.size w w') (ho : ∀ g, g < w.heap.size → ¬ k.In vT g) : LsAt w' (k.Off vT w') v n cs := LsAt.keep h (fun g hg => ⟨⟨Nat.lt_of_lt_of_le hg hb.size, ho g hg⟩, hb.block g hg⟩)
set_option maxRecDepth 100000 in
set_option maxHeartbeats 4000000 in
theorem alike_any {w : World} {K1 K2 : PK} {F1 F2 : Nat → Prop} {E : Env} {s t : MS} {R : Nat → Nat → Prop} (h1 : PX w K1 F1 s) (h2 : PX w K2 F2 t) (hk1 : KE K1 E) (hk2 : KE K2 E) (he : EnvOk E) (hs : MInv E s) (ht : MInv E t) (gs : GS s) (gt : GS t) (ha : Alk R s t) :
    Calls Tryd.prog 18 #[.pointer (some ⟨K1.b, 0, none⟩), .pointer (some ⟨K2.b, 0, none⟩)] w fun e w' => e = .returned (.bool true) ∧ Below w.heap.size w w' := by
  obtain ⟨i, hc⟩ := hs.can he
  have hget := hc.get
  have hget2 : E.l[t.at_]? = some i := by rw [← ha.at_]; exact hget
  obtain ⟨m, hm⟩ := hs.tys he
  have hn1 := he.n1
  have hn2 := he.n32
  have hn := hs.n
  have hn' := ht.n
  have L1 := slotsC_rel (tys := m.lo) ha.pr.ws.lol hm.lo ha.pr.ws.lo
  have L2 := slotsC_rel (tys := m.st) ha.pr.ws.stl (fun j hj => .inl (by rw [hm.st, List.getD_eq_getElem?_getD, List.getElem?_map, List.getElem?_eq_getElem hj]; rfl)) ha.pr.ws.stAt
  have q1 : locsS E s = slotsC m.lo s.lo := by unfold locsS tysAt; rw [hm.get]
  have q2 : stkS E s = slotsC m.st s.st := by unfold stkS tysAt; rw [hm.get]
  have q3 : locsS E t = slotsC m.lo t.lo := by unfold locsS tysAt; rw [← ha.at_, hm.get]
  have q4 : stkS E t = slotsC m.st t.st := by unfold stkS tysAt; rw [← ha.at_, hm.get]
  rw [← q1, ← q3] at L1
  rw [← q2, ← q4] at L2
  have hl1 : (locsS E s).length ≤ 100 := by
    have := hs.lo he
    have := he.wf.loc
    rw [q1]; unfold slotsC; rw [List.length_zipWith]; omega
  have hl2 : (stkS E s).length ≤ 100 := by
    have := hs.st he
    rw [q2]; unfold slotsC; rw [List.length_zipWith]; omega
  have hcs : CellsR R (s.hs.1.map toldC) (t.hs.1.map toldC) := ha.pr.cs
  have hne : ∀ a b, R a b → colL (s.hs.1.map toldC) a ≠ 0 ∧ colL (t.hs.1.map toldC) b ≠ 0 := fun a b hr => ⟨(gs.flag.alive (ha.pr.inn a b hr).1).1, (gt.flag.alive (ha.pr.inn a b hr).2).1⟩
  have hlt : ∀ a b, R a b → a < E.n ∧ b < E.n := by
    intro a b hr
    obtain ⟨c, d, e1, e2, _⟩ := hcs a b hr
    have l1 := (List.getElem?_eq_some_iff.1 e1).1
    have l2 := (List.getElem?_eq_some_iff.1 e2).1
    rw [List.length_map] at l1 l2
    omega
  have ho := ha.pr.one
  have hoc := ha.oc
  have hva := ha.va
  have c1 := hid (px_spot h1 hk1 he hs hget)
  have c2 := hid (fun (W : World) (hb : Below w.heap.size w W) => px_spot (h2.below hb) hk2 he ht hget2)
  have c3 := hid (fun (W : World) (hb : Below w.heap.size w W) => px_heap (h1.below hb) (by omega))
  have c4 := hid (fun (W : World) (hb : Below w.heap.size w W) => px_heap (h2.below hb) (by omega))
  have hcl1 : (s.hs.1.map toldC).length = E.n := by rw [List.length_map]; exact hn
  have hcl2 : (t.hs.1.map toldC).length = E.n := by rw [List.length_map]; exact hn'
  generalize s.hs.1.map toldC = cs at *
  generalize t.hs.1.map toldC = ds at *
  generalize locsS E s = Q1 at *
  generalize stkS E s = Q2 at *
  generalize locsS E t = Q3 at *
  generalize stkS E t = Q4 at *
  generalize i.place = pl at *
  rw [← hoc, ← hva] at c2
  have HL1 := hid L1
  have HL2 := hid L2
  have HNE := hid hne
  have HCS := hid hcs
  have HLT := hid hlt
  have HOO := hid ho
  clear h1 h2 hk1 hk2 hs ht gs gt ha hc hget hget2 hm q1 q2 q3 q4 L1 L2 hne hcs hlt ho hoc hva hn hn'
  generalize s.hs.2.1 = ph at *
  generalize s.hs.2.2 = hd at *
  generalize t.hs.2.1 = ph' at *
  generalize t.hs.2.2 = hd' at *
  generalize s.oc = oc at *
  generalize s.va = va at *
  obtain ⟨N, hN⟩ : ∃ N, N = E.n := ⟨_, rfl⟩
  rw [← hN] at hn1 hn2 hcl1 hcl2 HLT
  clear hN he
  go_enter Tryd.func18, Tryd.ntmps18
  go_wp2_with fail
  refine c1.out.mono ?_
  clear c1
  intro e w1 hh
  obtain ⟨hb1, v1, v2, hx, o1, o2, _⟩ := hh
  subst e
  obtain ⟨r1, k1, e1⟩ := owns_slice o1
  obtain ⟨r2, k2, e2⟩ := owns_slice o2
  subst e1
  subst e2
  have hbA : Below w1.heap.size w1 (w1.alloc (stBox oc va pl ph hd (.slice r1 Q1.length k1) (.slice r2 Q2.length k2))) := (Below.refl _ _).alloc (Nat.le_refl _) _
  have HB1 := hid (hb1.trans (hbA.mono hb1.size))
  have HA1 := hid (SbAt.new w1 oc va pl ph hd (.slice r1 Q1.length k1) (.slice r2 Q2.length k2))
  have P1 := hid ((Lo.of o1).keep hbA)
  have P2 := hid ((Lo.of o2).keep hbA)
  have d2 := hid (c2.out _ HB1.out)
  unfold stBox at HB1 HA1 P1 P2 d2
  clear hb1 hbA o1 o2 c2
  go_wp2_with fail
  refine d2.out.mono ?_
  clear d2
  generalize hW1 : (w1.alloc (.cells #[.int .i64 oc, .int .i64 va, .int .i64 pl, .int .i64 ph, .int .i64 hd, .slice r1 Q1.length k1, .slice r2 Q2.length k2] 47)) = W1 at *
  intro e w2 hh
  obtain ⟨hb2, v3, v4, hx, o3, o4, _⟩ := hh
  subst e
  obtain ⟨r3, k3, e3⟩ := owns_slice o3
  obtain ⟨r4, k4, e4⟩ := owns_slice o4
  rw [← HL1.out.1] at e3
  rw [← HL2.out.1] at e4
  have P3 := hid (Lo.of o3)
  have P4 := hid (Lo.of o4)
  rw [e3] at P3
  rw [e4] at P4
  subst e3
  subst e4
  have hbA : Below w2.heap.size w2 (w2.alloc (stBox oc va pl ph' hd' (.slice r3 Q1.length k3) (.slice r4 Q2.length k4))) := (Below.refl _ _).alloc (Nat.le_refl _) _
  have hb12 := hb2.trans (hbA.mono hb2.size)
  have HB2 := hid (HB1.out.trans (hb12.mono HB1.out.size))
  have HA1' := hid (HA1.out.keep hb12)
  have HA2 := hid (SbAt.new w2 oc va pl ph' hd' (.slice r3 Q1.length k3) (.slice r4 Q2.length k4))
  have P1' := hid (P1.out.keep hb12)
  have P2' := hid (P2.out.keep hb12)
  have P3' := hid (P3.out.keep hbA)
  have P4' := hid (P4.out.keep hbA)
  have d3 := hid (c3.out _ HB2.out)
  have hzA : w1.heap.size < w2.heap.size := by have := HA1.out.lt; have := hb2.size; omega
  unfold stBox at HB2 HA1' HA2 P1' P2' P3' P4' d3
  clear hb2 hbA hb12 o3 o4 c3 HB1 HA1 P1 P2 P3 P4 hW1
  go_wp2_with fail
  refine d3.out.mono ?_
  clear d3
  generalize (w2.alloc (.cells #[.int .i64 oc, .int .i64 va, .int .i64 pl, .int .i64 ph', .int .i64 hd', .slice r3 Q1.length k3, .slice r4 Q2.length k4] 47)) = W2 at *
  intro e w3 hh
  obtain ⟨hb3, vh, hx, oh⟩ := hh
  subst e
  obtain ⟨gc, kc, ec⟩ : ∃ gc kc, vh = .slice (some ⟨gc, 0, none⟩) cs.length kc := by
    rcases oh.2 with ⟨_, h2⟩ | ⟨g, cap, cur, h1, _⟩
    · omega
    · exact ⟨g, cap, h1⟩
  subst ec
  have HB3 := hid (HB2.out.trans (hb3.mono HB2.out.size))
  have d4 := hid (c4.out _ HB3.out)
  have HA3 := hid (HA1'.out.keep hb3)
  have HA4 := hid (HA2.out.keep hb3)
  have R1 := hid (P1'.out.keep hb3)
  have R2 := hid (P2'.out.keep hb3)
  have R3 := hid (P3'.out.keep hb3)
  have R4 := hid (P4'.out.keep hb3)
  have R5 := hid (Lo.of oh)
  have hzB : w2.heap.size < w3.heap.size := by have := HA4.out.lt; exact this
  rw [hcl1] at R5
  rw [hcl1]
  clear hb3 oh c4 HB2 HA1' HA2 P1' P2' P3' P4'
  go_wp2_with fail
  refine d4.out.mono ?_
  clear d4
  intro e w4 hh
  obtain ⟨hb4, vg, hx, og⟩ := hh
  subst e
  obtain ⟨gd, kd, ed⟩ : ∃ gd kd, vg = .slice (some ⟨gd, 0, none⟩) ds.length kd := by
    rcases og.2 with ⟨_, h2⟩ | ⟨g, cap, cur, h1, _⟩
    · omega
    · exact ⟨g, cap, h1⟩
  subst ed
  have HB4 := hid (HB3.out.trans (hb4.mono HB3.out.size))
  have hzD := HB4.out.size
  have hA5 := HA3.out.keep hb4
  have hA6 := HA4.out.keep hb4
  have S1 := hid (R1.out.keep hb4)
  have S2 := hid (R2.out.keep hb4)
  have S3 := hid (R3.out.keep hb4)
  have S4 := hid (R4.out.keep hb4)
  have S5 := hid (R5.out.keep hb4)
  have S6 := hid (Lo.of og)
  rw [hcl2] at S6
  rw [hcl2]
  have x0 := hA5.r0
  have x1 := hA5.r1
  have x2 := hA5.r2
  have y0 := hA6.r0
  have y1 := hA6.r1
  have y2 := hA6.r2
  have hzC : w3.heap.size ≤ w4.heap.size := hb4.size
  have HA5 := hid hA5
  have HA6 := hid hA6
  have n0 : ((oc : Int) != (oc : Int)) = false := by simp
  have n1 : (va != va) = false := by simp
  have n2 : ((pl : Int) != (pl : Int)) = false := by simp
  have d5 := hid (fun (W : World) => none_any N W (by omega))
  clear hb4 og HB3 HA3 HA4 R1 R2 R3 R4 R5 hA5 hA6
  go_wp2_with fail
  refine (d5.out w4).mono ?_
  intro e w5 hh
  obtain ⟨hb5, va5, hx, o5⟩ := hh
  subst e
  obtain ⟨gt, ct, e5⟩ : ∃ gt ct, va5 = .slice (some ⟨gt, 0, none⟩) N ct := by
    rcases o5.2 with ⟨_, h2⟩ | ⟨g, cap, cur, h1, _⟩
    · omega
    · exact ⟨g, cap, h1⟩
  subst e5
  have O5 := hid o5
  have HB5 := hid hb5
  have d6 := hid (d5.out w5)
  clear o5 hb5 d5 x0 x1 x2 y0 y1 y2
  go_wp2_with fail
  refine d6.out.mono ?_
  clear d6
  intro e w6 hh
  obtain ⟨hb6, va6, hx, o6⟩ := hh
  subst e
  obtain ⟨gb, cb, e6⟩ : ∃ gb cb, va6 = .slice (some ⟨gb, 0, none⟩) N cb := by
    rcases o6.2 with ⟨_, h2⟩ | ⟨g, cap, cur, h1, _⟩
    · omega
    · exact ⟨g, cap, h1⟩
  subst e6
  obtain ⟨k, hk⟩ : ∃ k : QK, k = ⟨w6.heap.size, gt, ct, gb, cb, w4.heap.size⟩ := ⟨_, rfl⟩
  have hb7 : Below w6.heap.size w6 (w6.alloc (.cells (k.row N (.slice none 0 0)) 94)) := (Below.refl _ _).alloc (Nat.le_refl _) _
  have z5 := HB5.out.size
  have z6 := hb6.size
  have hgt := O5.out.lt gt rfl
  have hgb := o6.lt gb rfl
  have hA7 : PqAt (w6.alloc (.cells (k.row N (.slice none 0 0)) 94)) k N (.slice none 0 0) (startPq N) := by
    refine ⟨?_, ?_, ?_, ⟨rfl, .inl ⟨rfl, rfl⟩⟩, by simp [Value.ownBlock], by simp [Value.ownBlock], by simp [Value.ownBlock], by subst hk; simp only; omega, by subst hk; simp only; omega, by subst hk; simp only; omega, by subst hk; simp only; omega, by subst hk; simp only; omega, by subst hk; simp only; omega⟩
    · have := heap_alloc_new w6 (.cells (k.row N (.slice none 0 0)) 94)
      rw [show w6.heap.size = k.b by rw [hk]] at this
      exact this
    · have q := (owns_keep O5.out (fun g hg => ((hb6.trans (hb7.mono z6)).block g (O5.out.lt g hg).2)) : (w6.alloc (.cells (k.row N (.slice none 0 0)) 94)).ownsRow _ _ _ _ _ _)
      subst hk
      exact q
    · have q := (owns_keep o6 (fun g hg => (hb7.block g (o6.lt g hg).2)) : (w6.alloc (.cells (k.row N (.slice none 0 0)) 94)).ownsRow _ _ _ _ _ _)
      refine ⟨q.1, ?_⟩
      rcases q.2 with h | ⟨g, cap, cur, h1, h2, h3⟩
      · exact .inl (by subst hk; exact h)
      · refine .inr ⟨g, cap, cur, by subst hk; exact h1, by subst hk; simp only; omega, h3⟩
  have hb47 : Below w4.heap.size w4 (w6.alloc (.cells (k.row N (.slice none 0 0)) 94)) := (HB5.out.trans (hb6.mono z5)).trans (hb7.mono (by omega))
  have hof : ∀ g, g < w4.heap.size → ¬ k.In (.slice none 0 0) g := by
    intro g hg hi
    rcases hi with h | h | h | h
    · have := hA7.bb; subst hk; simp only at *; omega
    · have := hA7.bt; subst hk; simp only at *; omega
    · have := hA7.bk; subst hk; simp only at *; omega
    · cases h
  have T1 := hid (S1.out.off hb47 hof)
  have T2 := hid (S2.out.off hb47 hof)
  have T3 := hid (S3.out.off hb47 hof)
  have T4 := hid (S4.out.off hb47 hof)
  have T5 := hid (S5.out.off hb47 hof)
  have T6 := hid (S6.out.off hb47 hof)
  have HB7 := hid (HB4.out.trans (hb47.mono HB4.out.size))
  have HA7 := hid hA7
  have hA8 := HA5.out.keep hb47
  have hA9 := HA6.out.keep hb47
  have HA8 := hid hA8
  have HA9 := hid hA9
  have x5 := hA8.r5
  have y5 := hA9.r5
  have hkb : k.b = w6.heap.size := by rw [hk]
  have HOF := hid hof
  have hz47 := hb47.size
  have hkd : k.base = w4.heap.size := by rw [hk]
  have HKE : Hid (k.row N (.slice none 0 0) = #[.slice (some ⟨gt, 0, none⟩) N ct, .slice (some ⟨gb, 0, none⟩) N cb, .slice none 0 0, .bool true]) := hid (by rw [hk]; rfl)
  have hsl := hid (slotsQ_any HOO.out k N (.slice r1 Q1.length k1) (.slice r3 Q1.length k3) (.slice none 0 0) Q1 Q3 (startPq N) _ hA7 (startPq_ok R N) (by omega) HLT.out T1.out T3.out HL1.out.1 hl1 HL1.out.2)
  rw [hkb] at hsl
  rw [HKE.out] at hsl T2 T4 T5 T6 HB7 HA7 HA8 HA9 x5 y5 hz47
  have hz6 : w1.heap.size < w6.heap.size ∧ w2.heap.size < w6.heap.size := by omega
  obtain ⟨hz6a, hz6b⟩ := hz6
  clear hb6 o6 hb7 hA7 hb47 hof T1 T3 S1 S2 S3 S4 S5 S6 HB4 HB5 O5 HA5 HA6 hA8 hA9 hk x5 y5
  have x5 := HA8.out.r5
  have y5 := HA9.out.r5
  go_wp2_with fail
  refine hsl.out.mono ?_
  clear hsl
  generalize (w6.alloc (.cells #[.slice (some ⟨gt, 0, none⟩) N ct, .slice (some ⟨gb, 0, none⟩) N cb, .slice none 0 0, .bool true] 94)) = W7 at *
  intro e w8 hh
  obtain ⟨hx, vT8, P8, hT8, hok8⟩ := hh
  subst e
  have hA10 := HA8.out.touch hT8.touch (HOF.out w1.heap.size (by omega))
  have hA11 := HA9.out.touch hT8.touch (HOF.out w2.heap.size (by omega))
  have x6 := hA10.r6
  have y6 := hA11.r6
  have hsl := hid (slotsQ_any HOO.out k N (.slice r2 Q2.length k2) (.slice r4 Q2.length k4) vT8 Q2 Q4 P8 _ hT8.at_ hok8 (by omega) HLT.out (T2.out.offN hT8) (T4.out.offN hT8) HL2.out.1 hl2 HL2.out.2)
  rw [hkb] at hsl
  have HT8 := hid hT8
  clear hT8 hok8 hA10 hA11 T2 T4 HA8 HA9 x5 y5
  go_wp2_with fail
  refine hsl.out.mono ?_
  clear hsl
  intro e w9 hh
  obtain ⟨hx, vT9, P9, hT9, hok9⟩ := hh
  subst e
  have HT9 := hid (HT8.out.trans hT9)
  have HOK9 := hid hok9
  clear hT9 hok9 HT8 x6 y6
  go_wp2_with fail
  go_loopg [10] N (fun gk x w' => ∃ (i : Nat) (P : Pq) (vT : Value), i ≤ P.todo.length ∧ gk = N - i ∧ x = .int .i64 i ∧ PqTo k N (.slice none 0 0) W7 vT P w' ∧ PqOk R N P)
  case atStart => exact ⟨0, P9, vT9, by omega, by omega, rfl, HT9.out, HOK9.out⟩
  case round =>
    obtain ⟨j, P, vT, hj, hgk, rfl, hT, hok⟩ := hrel
    have hle := hok.le
    obtain ⟨pt, ctt, et⟩ := owns_slice hT.at_.todo
    subst et
    have r0 := cell_of_row wr k.b 0 _ _ _ hT.at_.row
    have r2 := cell_of_row wr k.b 2 _ _ _ hT.at_.row
    have r3 := cell_of_row wr k.b 3 _ _ _ hT.at_.row
    unfold QK.row at r0 r2 r3
    simp only [List.getElem?_toArray, List.getElem?_cons_zero, List.getElem?_cons_succ] at r0 r2 r3
    rw [hkb] at r0 r2 r3
    rcases Nat.lt_or_ge j P.todo.length with hlt | hge
    · have d0 : (0 : Int) ≤ (j : Int) := by omega
      have d1 : (j : Int) < (P.todo.length : Int) := by omega
      obtain ⟨q, hq⟩ : ∃ q, P.todo[j]? = some q := ⟨_, List.getElem?_eq_getElem hlt⟩
      obtain ⟨b, hqb⟩ := hok.td q (List.mem_of_getElem? hq)
      have hRqb : R q b := by
        rcases hok.tv q _ hqb with e | ⟨b', e, h, _⟩
        · omega
        · obtain rfl : b = b' := by omega
          exact h
      obtain ⟨hqN, hbN⟩ := HLT.out q b hRqb
      obtain ⟨c, d, e1, e2, hcd⟩ := HCS.out q b hRqb
      obtain ⟨n1', n2'⟩ := HNE.out q b hRqb
      rw [colL_some e1] at n1'
      rw [colL_some e2] at n2'
      obtain ⟨gtd, et⟩ : ∃ gtd, pt = some ⟨gtd, 0, none⟩ := by
        rcases hT.at_.todo.2 with ⟨_, h2⟩ | ⟨g, cap, cur, h1, _⟩
        · omega
        · cases h1; exact ⟨g, rfl⟩
      subst et
      have t0 := hT.at_.todo.cells (g := gtd) rfl j (.int .i64 q) (by rw [List.getElem?_map, hq]; rfl)
      rw [addr_add] at t0
      have f0 := hT.at_.cellT hqb
      obtain ⟨g3, cap3, eg, _, hc⟩ := (T5.out.offQ hT).some (by omega)
      cases eg
      obtain ⟨g4, cap4, eg, _, hc'⟩ := (T6.out.offQ hT).some (by omega)
      cases eg
      have hqc : q < cs.length := by omega
      have hbd : b < ds.length := by omega
      have ec : cs[q] = c := by rw [List.getElem?_eq_getElem hqc] at e1; exact Option.some.inj e1
      have ed : ds[b] = d := by rw [List.getElem?_eq_getElem hbd] at e2; exact Option.some.inj e2
      have u0 := hc _ _ (flat_at clCells 5 (fun _ => rfl) cs q 0 hqc (by omega))
      have u1 := hc _ _ (flat_at clCells 5 (fun _ => rfl) cs q 1 hqc (by omega))
      have u2 := hc _ _ (flat_at clCells 5 (fun _ => rfl) cs q 2 hqc (by omega))
      have u3 := hc _ _ (flat_at clCells 5 (fun _ => rfl) cs q 3 hqc (by omega))
      have u4 := hc _ _ (flat_at clCells 5 (fun _ => rfl) cs q 4 hqc (by omega))
      have v0 := hc' _ _ (flat_at clCells 5 (fun _ => rfl) ds b 0 hbd (by omega))
      have v1 := hc' _ _ (flat_at clCells 5 (fun _ => rfl) ds b 1 hbd (by omega))
      have v2 := hc' _ _ (flat_at clCells 5 (fun _ => rfl) ds b 2 hbd (by omega))
      have v3 := hc' _ _ (flat_at clCells 5 (fun _ => rfl) ds b 3 hbd (by omega))
      have v4 := hc' _ _ (flat_at clCells 5 (fun _ => rfl) ds b 4 hbd (by omega))
      rw [Nat.add_zero] at u0 v0
      rw [ec] at u0 u1 u2 u3 u4
      rw [ed] at v0 v1 v2 v3 v4
      obtain ⟨w1', w2', hnum, hra, hrb⟩ := hcd
      obtain ⟨co, wk, ra, rb, nn⟩ := c
      obtain ⟨co', wk', ra', rb', nn'⟩ := d
      simp only at u0 u1 u2 u3 u4 v0 v1 v2 v3 v4 w1' w2' hnum hra hrb n1' n2'
      subst w1'
      subst w2'
      subst hnum
      have m1 : ((co : Int) == 0) = false := by simp; omega
      have m2 : ((co' : Int) == 0) = false := by simp; omega
      have m3 : (nn != nn) = false := by simp
      have q1 : (0 : Int) ≤ (q : Int) := by omega
      have q2 : (q : Int) < (N : Int) := by omega
      have q3 : (0 : Int) ≤ (b : Int) := by omega
      have q4 : (b : Int) < (N : Int) := by omega
      have s1 : w6.heap.size < wr.heap.size := by rw [← hkb]; exact (Array.getElem?_eq_some_iff.1 hT.at_.row).1
      have s2 : k.gt < wr.heap.size := (hT.at_.fw.lt k.gt rfl).2
      have s3 : gtd < wr.heap.size := (hT.at_.todo.lt gtd rfl).2
      have s4 : gd < wr.heap.size := World.block_lt_of_cell? wr _ v0
      obtain ⟨oA, hoA⟩ : ∃ oA : Obj, oA = .cells #[.int .i64 co, .bool false, .int .i64 ra, .int .i64 rb, .int .i64 nn] 42 := ⟨_, rfl⟩
      obtain ⟨oB, hoB⟩ : ∃ oB : Obj, oB = .cells #[.int .i64 co', .bool false, .int .i64 ra', .int .i64 rb', .int .i64 nn] 42 := ⟨_, rfl⟩
      have HT := hid hT
      have HOK := hid hok
      have hbC : Below wr.heap.size wr (((wr.alloc oA).alloc oB).drew) := (((Below.refl _ _).alloc (Nat.le_refl _) _).alloc (by simp) _).drew
      have hTC := hT.below hbC
      have hp1 := hid (pair_any HOO.out k N _ P _ ra ra' hTC.at_ hok (by omega) hra HLT.out)
      have RA : Hid ((((wr.alloc oA).alloc oB).drew).heap[wr.heap.size]? = some oA) := hid ((heap_alloc_old (wr.alloc oA) oB (by simp)).trans (heap_alloc_new wr oA))
      have RB : Hid ((((wr.alloc oA).alloc oB).drew).heap[wr.heap.size + 1]? = some oB) := hid (by
        have := heap_alloc_new (wr.alloc oA) oB
        rw [alloc_size] at this
        exact this)
      have hin : ∀ g, wr.heap.size ≤ g → ¬ k.In (.slice (some ⟨gtd, 0, none⟩) P.todo.length ctt) g := by
        intro g hg hi
        rcases hi with h | h | h | h
        · omega
        · omega
        · have := (hT.at_.bw.lt k.gb rfl).2; omega
        · simp only [Value.ownBlock, Option.some.injEq] at h; omega
      have HIN := hid hin
      have HTC := hid hTC
      have HRB := hid hrb
      have hzC' : (((wr.alloc oA).alloc oB).drew).heap.size = wr.heap.size + 2 := by
        show ((wr.alloc oA).alloc oB).heap.size = _
        simp
      have HZ := hid hzC'
      rw [hkb, hoA, hoB] at hp1
      clear hT hok hc hc' ec ed e1 e2 hq hqb hbC hTC hin hra hrb hzC'
      go_wp2_with fail
      go_region_held3 (fun w' => w'.cell? ⟨w6.heap.size, 0, none⟩ = some (.slice (some ⟨k.gt, 0, none⟩) N k.ct) ∧ w'.cell? ⟨w6.heap.size, 2, none⟩ = some (.slice (some ⟨gtd, 0, none⟩) P.todo.length ctt) ∧ w'.cell? ⟨gtd, j, none⟩ = some (.int .i64 q) ∧ w'.cell? ⟨k.gt, q, none⟩ = some (.int .i64 b) ∧ w'.cell? ⟨gd, b * 5, none⟩ = some (.int .i64 co') ∧ w'.cell? ⟨gd, b * 5 + 1, none⟩ = some (.bool false) ∧ w'.cell? ⟨gd, b * 5 + 2, none⟩ = some (.int .i64 ra') ∧ w'.cell? ⟨gd, b * 5 + 3, none⟩ = some (.int .i64 rb') ∧ w'.cell? ⟨gd, b * 5 + 4, none⟩ = some (.int .i64 nn)) (go_keep) (fail)
      go_wp2_with fail
      refine hp1.out.mono ?_
      clear hp1
      rw [← hoA, ← hoB]
      generalize ((wr.alloc oA).alloc oB).drew = W10 at *
      intro e w11 hh
      obtain ⟨hx, vT11, P11, hT11, hok11, hl11, hm11⟩ := hh
      subst e
      have rA := (hT11.touch.block wr.heap.size (by have := HZ.out; omega) (HIN.out _ (Nat.le_refl _))).trans RA.out
      have rB := (hT11.touch.block (wr.heap.size + 1) (by have := HZ.out; omega) (HIN.out _ (by omega))).trans RB.out
      rw [hoA] at rA
      rw [hoB] at rB
      have a3 := cell_of_row w11 wr.heap.size 3 _ _ _ rA
      have b3 := cell_of_row w11 (wr.heap.size + 1) 3 _ _ _ rB
      simp only [List.getElem?_toArray, List.getElem?_cons_zero, List.getElem?_cons_succ] at a3 b3
      have hp2 := hid (pair_any HOO.out k N _ P11 _ rb rb' hT11.at_ hok11 (by omega) HRB.out HLT.out)
      rw [hkb] at hp2
      have HT11 := hid (HTC.out.trans hT11)
      clear rA rB hT11 hok11 hm11 u0 u1 u2 u3 u4 v0 v1 v2 v3 v4 t0 f0 r0 r2 r3
      go_wp2_with fail
      refine hp2.out.mono ?_
      clear hp2
      intro e w12 hh
      obtain ⟨hx, vT12, P12, hT12, hok12, hl12, _⟩ := hh
      subst e
      have HT12 := hid (HT11.out.trans hT12)
      have HOK12 := hid hok12
      clear hT12 hok12 a3 b3
      go_wp2_with fail
      go_roundg (N - (j + 1))
      case measure => omega
      case rel => exact ⟨j + 1, P12, vT12, by omega, rfl, by go_num, HT12.out, HOK12.out⟩
    · have d1 : ¬ (j : Int) < (P.todo.length : Int) := by omega
      have hbe : Below w.heap.size w wr := HB7.out.trans (hT.touch.sub (B := w.heap.size) (fun g hg => by
        have q1 := hT.at_.bb
        have q2 := hT.at_.bt
        have q3 := hT.at_.bk
        rw [hkd] at q1 q2 q3
        rcases hg with h | h | h | h
        · omega
        · omega
        · omega
        · cases h) HB7.out.size)
      have HBE := hid hbe
      clear hT hok
      go_wp2_with fail
      go_ret
      exact ⟨rfl, HBE.out⟩
end Go.Proofs.YtdmdpindonghdabDoor
namespace Go.Proofs.YtdmdpindonghdabDoor
open Go.RowKit
theorem clip_fits (us : List Int) : (clipN us).all fitsB = true := by
  rw [List.all_eq_true]
  intro x hx
  obtain ⟨u, _, rfl⟩ := List.mem_map.1 hx
  have := pickN_lt u (n := 100) (by omega)
  unfold fitsB
  simp only [Bool.and_eq_true, decide_eq_true_eq]
  omega
theorem clip_len (us : List Int) : (clipN us).length = us.length := by simp [clipN]
theorem zsK_owns {w : World} {base : Nat} {v : Value} {o : List Int} (h : w.ownsRow base 3 1 v o.length (o.map (.int .i64))) : ZsAt w v o := by
  rcases h.2 with ⟨h1, h2⟩ | ⟨g, cap, cur, hv, hg, hh, h3, h4, h5, h6⟩
  · exact .inl ⟨h1, List.length_eq_zero_iff.1 h2⟩
  · refine .inr ⟨⟨g, 0, none⟩, cap, hv, fun j x hj => ?_⟩
    have hjl := (List.getElem?_eq_some_iff.1 hj).1
    rw [addr_add, cell_of_row w g j _ _ _ hh]
    rw [Nat.mul_one] at h6
    have : (cur.toList.take o.length)[j]? = (o.map (Value.int .i64))[j]? := by rw [h6]
    rw [List.getElem?_take, if_pos hjl, List.getElem?_map, hj, Array.getElem?_toList] at this
    exact this
theorem zsK_below {w w' : World} {v : Value} {zs : List Int} (h : ZsAt w v zs) (hb : Below w.heap.size w w') : ZsAt w' v zs := by
  rcases h with h | ⟨a, cap, hv, hc⟩
  · exact .inl h
  · exact .inr ⟨a, cap, hv, fun j x hj => (hb.cell (p := a.add j) (World.block_lt_of_cell? w _ (hc j x hj))).trans (hc j x hj)⟩
theorem argsK_owns {w : World} {base : Nat} {v : Value} {o : List Int} (h : w.ownsRow base 3 1 v o.length (o.map (.int .i64))) : ArgInts w v o := by
  rcases zsK_owns h with h1 | ⟨a, cap, hv, hc⟩
  · exact .inl h1
  · refine .inr ⟨a, cap, hv, hc, fun hp => ?_⟩
    have hx : o[0]? = some o[0] := List.getElem?_eq_getElem hp
    have := World.block_lt_of_cell? w _ (hc 0 _ hx)
    rw [addK_block] at this
    exact this
/-- The program's machine lies above B, and not where n2 ≤ k < N. -/
def PN (B n2 N : Nat) (W : World) (K : PK) (t : MS) : Prop := ∃ F, PX W K F t ∧ (∀ k, F k → B ≤ k ∧ (k < n2 ∨ N ≤ k)) ∧ B ≤ n2 ∧ n2 ≤ N ∧ N ≤ W.heap.size
def KeepN (n2 N : Nat) (w w' : World) : Prop := ∀ k, n2 ≤ k → k < N → w'.heap[k]? = w.heap[k]?
theorem PN.next {B n2 N : Nat} {w w' : World} {K : PK} {F : Nat → Prop} {t : MS} (hF : ∀ k, F k → B ≤ k ∧ (k < n2 ∨ N ≤ k)) (h1 : B ≤ n2) (h2 : n2 ≤ N) (h3 : N ≤ w.heap.size) (hp : PX w' K (Grown F w w') t) (ht : Touch F w w') : PN B n2 N w' K t ∧ KeepN n2 N w w' ∧ Below B w w' := by
  refine ⟨⟨_, hp, ?_, h1, h2, Nat.le_trans h3 ht.size⟩, fun k hk1 hk2 => ht.block k (by omega) (fun hf => by have := (hF k hf).2; omega), ht.sub (fun k hk => (hF k hk).1) (by omega)⟩
  rintro k (h | h)
  · exact hF k h
  · exact ⟨by omega, .inr (by omega)⟩
theorem pn_step {B n2 N : Nat} {w : World} {K : PK} {E : Env} {s : MS} (h : PN B n2 N w K s) (hke : KE K E) (he : EnvOk E) (hi : MInv E s) (hoc : s.oc = 0) (hz : E.zs.length ≤ 64) (hlen : s.out.length ≤ 8796093022208) :
    Calls Tryd.prog 25 #[.pointer (some ⟨K.b, 0, none⟩)] w fun e w' => e = .returned (.tuple #[.int .i64 (stepS E s).oc, .int .i64 0]) ∧ PN B n2 N w' K (stepS E s) ∧ KeepN n2 N w w' ∧ Below B w w' := by
  obtain ⟨F, h1, h2, h3, h4, h5⟩ := h
  refine (pstep_x h1 hke he hi hoc hz hlen).mono ?_
  rintro e w' ⟨a, b, c⟩
  exact ⟨a, PN.next h2 h3 h4 h5 b c⟩
theorem pn_coll {B n2 N : Nat} {w : World} {K : PK} {E : Env} {s : MS} (h : PN B n2 N w K s) (hke : KE K E) (he : EnvOk E) (hi : MInv E s) (n : Nat) (hn : n ≤ 1000) :
    Calls Tryd.prog 24 #[.pointer (some ⟨K.b, 0, none⟩), .int .i64 n] w fun e w' => e = .returned (.tuple #[.int .i64 (collS E n s).hs.2.1, .int .i64 0]) ∧ PN B n2 N w' K (collS E n s) ∧ KeepN n2 N w w' ∧ Below B w w' := by
  obtain ⟨F, h1, h2, h3, h4, h5⟩ := h
  refine (pcollect_x h1 hke he hi n hn).mono ?_
  rintro e w' ⟨a, b, c⟩
  exact ⟨a, PN.next h2 h3 h4 h5 (b.mono (fun _ h => .inl h)) c⟩
theorem PN.of {B : Nat} {w W : World} {K : PK} {s : MS} (h : PR B w K s) (hb : Below w.heap.size w W) : PN B w.heap.size W.heap.size W K s := by
  obtain ⟨F, h1, h2, h3⟩ := h
  exact ⟨_, h1.bound.below hb, fun k hk => ⟨h2 k hk.1, .inl hk.2⟩, h3, hb.size, Nat.le_refl _⟩
/-- Numbers in memory between n2 and N. -/
def ArgN (n2 N : Nat) (w : World) (v : Value) (zs : List Int) : Prop := ArgInts w v zs ∧ ∀ a n c, v = .slice (some a) n c → 0 < n → n2 ≤ a.block ∧ a.block < N
theorem ArgN.keep {n2 N : Nat} {w w' : World} {v : Value} {zs : List Int} (h : ArgN n2 N w v zs) (hk : KeepN n2 N w w') (hz : w.heap.size ≤ w'.heap.size) : ArgN n2 N w' v zs := by
  refine ⟨?_, h.2⟩
  rcases h.1 with h1 | ⟨a, cap, hv, hc, hl⟩
  · exact .inl h1
  · refine .inr ⟨a, cap, hv, fun j x hj => ?_, fun hp => Nat.lt_of_lt_of_le (hl hp) hz⟩
    have hz : 0 < zs.length := by have := (List.getElem?_eq_some_iff.1 hj).1; omega
    obtain ⟨g1, g2⟩ := h.2 a _ _ hv hz
    exact (World.cell?_of_block (a := a.add j) (by rw [addK_block]; exact hk _ g1 g2)).trans (hc j x hj)
theorem KeepN.trans {n2 N : Nat} {w w' w'' : World} (h : KeepN n2 N w w') (h' : KeepN n2 N w' w'') : KeepN n2 N w w'' := fun k a b => (h' k a b).trans (h k a b)
/-- What the loop of steps by hand comes to. -/
theorem run_done (E : Env) (us : List Int) (f k : Nat) (t : MS) (h : t.oc ≠ 0) : runS E us f k t = (k, t) := by
  cases f with
  | zero => rfl
  | succ f => simp only [runS, if_neg h]
set_option maxRecDepth 100000 in
set_option maxHeartbeats 2000000 in
theorem byhand_any (raw : ByteArray) (vi vu : Value) (zs us : List Int) (cells steps : Int) (w : World) (hr : raw.size ≤ maxLen) (ht : FlowTab w) (hv : ArgInts w vi zs) (hcap : ∀ p n c, vi = .slice p n c → n ≤ c ∧ c ≤ maxLen) (hu : ArgInts w vu us) (hul : us.length ≤ 17592186043904) (hur : ∀ u ∈ us, -9223372036854775808 ≤ u ∧ u ≤ 9223372036854775807)
    (hc1 : -9223372036854775808 ≤ cells) (hc2 : cells ≤ 9223372036854775807) (hs1 : -9223372036854775808 ≤ steps) (hs2 : steps ≤ 9223372036854775807) :
    Calls Tryd.prog 7 #[.string raw, vi, .int .i64 cells, vu, .int .i64 steps] w fun e w' => e = .returned (.bool true) ∧ Below w.heap.size w w' := by
  obtain ⟨q1, q2, q3, q4, q5⟩ := built_ok raw true
  obtain ⟨n1, n2⟩ := roomN_le cells
  have hsz : (builtS raw true).size ≤ maxLen := by
    have h1 := (errOf_zero q1).1
    obtain ⟨⟨⟨h3, h4⟩, _⟩, _⟩ : ((3 ≤ (builtS raw true).size ∧ (builtS raw true).size ≤ 122) ∧ byteAt (builtS raw true) 0 = 84) ∧ byteAt (builtS raw true) 1 ≤ 4 := by simpa [shapedP] using h1
    have : maxLen = 9223372036854775807 := rfl
    omega
  have hzl : (zs.take 64).length ≤ 64 := by rw [List.length_take]; omega
  have hrm := hid (room_any cells w hc1 hc2)
  have hbu := hid (built_any raw true w hr)
  have hso := hid (fun (W : World) (hb : Below w.heap.size w W) => some_any vi zs W (hv.keep hb) hcap)
  obtain ⟨x, hx⟩ : ∃ x, x = builtS raw true := ⟨_, rfl⟩
  rw [← hx] at hbu q1 q2 q3 q4 q5 hsz
  have hmd := hid (fun (W : World) (hb : Below w.heap.size w W) (v : Value) (hv : ArgInts W v (zs.take 64)) => made_any x v (zs.take 64) (roomN cells) W hsz (ht.below hb) hv hzl n1 n2 q1 q4)
  have hcl := hid (fun (W : World) (hb : Below w.heap.size w W) => clipped_any vu us W (hu.keep hb) hul hur)
  have hpq := hid (fun (W : World) => pick_any steps 400 W hs1 hs2 (by omega) (by omega))
  have hq4 := pickN_lt steps (n := 400) (by omega)
  have hle : (clipN us).length ≤ 17592186044416 := by rw [clip_len]; omega
  have hRE : RunErr x (zs.take 64).length ((roomN cells : Nat) : Int) (clipN us) ((pickN steps 400 : Nat) : Int) 0 := by
    refine .inr (.inr ⟨.inr (.inr (.inr ⟨.inr (.inl ⟨q1, q4, rfl⟩), by omega, by omega, hzl, rfl⟩)), clip_fits us, by omega, by omega, rfl⟩)
  have hru := hid (fun (W : World) (hb : Below w.heap.size w W) (v1 v2 : Value) (h1 : ArgInts W v1 (zs.take 64)) (h2 : ArgInts W v2 (clipN us)) => pRun_any x v1 v2 (zs.take 64) (clipN us) (roomN cells) (pickN steps 400) W hsz (ht.below hb) h1 h2 hle 0 hRE)
  have HX : Hid (errOf x = 0 ∧ WT (codeOf x) (byteAt x 1) ∧ Det (codeOf x) (byteAt x 1)) := hid ⟨q1, q4, q5⟩
  obtain ⟨p0, c0, e0⟩ := hv.slice
  subst e0
  obtain ⟨pu, cu, eu⟩ := hu.slice
  subst eu
  clear hr ht hv hcap hu hur hc1 hc2 hs1 hs2 q1 q2 q3 q4 q5 hsz hx hRE
  go_enter Tryd.func7, Tryd.ntmps7
  go_wp2_with fail
  refine hrm.out.mono ?_
  clear hrm
  intro e w1 hh
  obtain ⟨hx, hw⟩ := hh
  subst e
  subst w1
  go_wp2_with fail
  refine hbu.out.mono ?_
  clear hbu
  intro e w1 hh
  obtain ⟨hx, hb1⟩ := hh
  subst e
  have hs1 := hid (hso.out w1 hb1)
  have HB1 := hid hb1
  clear hb1
  go_wp2_with fail
  refine hs1.out.mono ?_
  clear hs1
  intro e w2 hh
  obtain ⟨⟨v1, hx, hv1⟩, hw⟩ := hh
  subst e
  subst w2
  have hm1 := hid (hmd.out w1 HB1.out v1 hv1)
  clear hv1 hmd
  go_wp2_with fail
  refine hm1.out.mono ?_
  clear hm1
  intro e w2 hh
  obtain ⟨K, hx, hM⟩ := hh
  subst e
  have hB2 := HB1.out.trans (hM.below.mono HB1.out.size)
  have hc2 := hid (hcl.out w2 hB2)
  have HB2 := hid hB2
  have HM := hid hM
  have hz12 := hM.below.size
  have hz01 := HB1.out.size
  clear hM hcl hB2
  go_wp2_with fail
  refine hc2.out.mono ?_
  clear hc2
  intro e w3 hh
  obtain ⟨hb3, vu', hx, hou⟩ := hh
  subst e
  rw [← clip_len us] at hou
  obtain ⟨pv, cv, ev⟩ := owns_slice hou
  subst ev
  have HB3 := hid (HB2.out.trans (hb3.mono HB2.out.size))
  have HAU := hid (argsK_owns hou)
  have HP3 := hid (HM.out.pr.keep hb3)
  have hgu : ∀ b, pv = some b → w2.heap.size ≤ b.block := by
    intro b hb
    rcases hou.2 with ⟨h1, _⟩ | ⟨g, cap, cur, h1, h2, _⟩
    · rw [hb] at h1; cases h1
    · rw [hb] at h1
      cases h1
      exact h2
  have hpq3 := hid (hpq.out w3)
  have hz23 := hb3.size
  have HB23 := hid hb3
  clear hb3 hou hpq
  obtain ⟨cus, hcus⟩ : ∃ cus, cus = clipN us := ⟨_, rfl⟩
  have HCF := hid (clip_fits us)
  rw [← hcus] at HAU hru hle HCF ⊢
  clear hcus
  go_wp2_with fail
  refine hpq3.out.mono ?_
  clear hpq3
  intro e w4 hh
  obtain ⟨hx, hw⟩ := hh
  subst e
  subst w4
  generalize pickN steps 400 = q at *
  have hs3 := hid (hso.out w3 HB3.out)
  clear hso
  go_wp2_with fail
  refine hs3.out.mono ?_
  clear hs3
  intro e w4 hh
  obtain ⟨⟨v2, hx, hv2⟩, hw⟩ := hh
  subst e
  subst w4
  have hr3 := hid (hru.out w3 HB3.out v2 (.slice pv cus.length cv) hv2 HAU.out)
  clear hru hv2
  go_wp2_with fail
  refine hr3.out.mono ?_
  clear hr3
  intro e w5 hh
  rcases hh with ⟨h0, _⟩ | ⟨_, n', q', hn', hq', _, _, _, hb5, fs', vo, he', hwt', hi', hs', hx, hown⟩
  · exact absurd rfl h0
  obtain rfl : n' = roomN cells := by omega
  obtain rfl : q' = q := by omega
  obtain ⟨hxe, hxw, hxd⟩ := HX.out
  have hM := HM.out
  have hE : envOf x fs' (zs.take 64) (roomN cells) = envOf x K.fs (zs.take 64) (roomN cells) := env_det hxe hxw hxd hM.set hM.still hi' hs'
  rw [hE] at hx hown
  have hke := hM.ke
  have hok := hM.ok
  have hin := hM.inv
  have hzs : (envOf x K.fs (zs.take 64) (roomN cells)).zs.length ≤ 64 := hzl
  have hol := run_out (envOf x K.fs (zs.take 64) (roomN cells)) cus q' 0 (startS (byteAt x 1) (roomN cells)) (Nat.le_refl _)
  obtain ⟨E, hEd⟩ : ∃ E, E = envOf x K.fs (zs.take 64) (roomN cells) := ⟨_, rfl⟩
  obtain ⟨s0, hs0⟩ : ∃ s0, s0 = startS (byteAt x 1) (roomN cells) := ⟨_, rfl⟩
  have h00 : s0.oc = 0 := by rw [hs0]; rfl
  have h01 : s0.out.length = 0 := by rw [hs0]; rfl
  rw [← hEd] at hke hok hin hzs hx hown hol
  rw [← hs0] at hin hx hown HP3 hol
  obtain ⟨R, hR⟩ : ∃ R, R = runS E cus q' 0 s0 := ⟨_, rfl⟩
  rw [← hR] at hx hown hol
  subst e
  obtain ⟨po', co', eo'⟩ := owns_slice hown
  subst eo'
  obtain ⟨oR, hoR⟩ : ∃ oR : Obj, oR = .cells #[.int .i64 R.2.oc, .int .i64 R.2.va, .int .i64 R.1, .slice po' R.2.out.length co'] 55 := ⟨_, rfl⟩
  have hb6 : Below w5.heap.size w5 (w5.alloc oR) := (Below.refl _ _).alloc (Nat.le_refl _) _
  have hb36 : Below w3.heap.size w3 (w5.alloc oR) := hb5.trans (hb6.mono hb5.size)
  have hz6 : (w5.alloc oR).heap.size = w5.heap.size + 1 := by simp
  have hz35 := hb5.size
  have HPN : Hid (PN w.heap.size w2.heap.size (w5.alloc oR).heap.size (w5.alloc oR) K s0) := hid (by
    have h1 := PN.of (hM.pr.mono hz01) (W := w5.alloc oR) (HB23.out.trans (hb36.mono hz23))
    rw [← hs0] at h1
    exact h1)
  have HAN : Hid (ArgN w2.heap.size (w5.alloc oR).heap.size (w5.alloc oR) (.slice pv cus.length cv) cus) := hid ⟨HAU.out.keep hb36, fun a n c h _ => by
    cases h
    refine ⟨hgu a rfl, ?_⟩
    rcases HAU.out with ⟨h1, _⟩ | ⟨a', cap, h1, _, h2⟩
    · cases h1
    · cases h1
      have := h2 (by assumption)
      omega⟩
  have HRB := hid (heap_alloc_new w5 oR)
  have HZO := hid (zsK_below (zsK_owns hown) hb6)
  have hgo : ∀ b, po' = some b → w2.heap.size ≤ b.block ∧ b.block < (w5.alloc oR).heap.size := by
    intro b hb
    rcases hown.2 with ⟨h1, _⟩ | ⟨g, cap, cur, h1, h2, h3, _⟩
    · rw [hb] at h1; cases h1
    · rw [hb] at h1
      cases h1
      have := (Array.getElem?_eq_some_iff.1 h3).1
      exact ⟨by simp only; omega, by simp only; omega⟩
  have HB6 := hid (HB3.out.trans (hb36.mono HB3.out.size))
  have HINV := hid hin
  have HRD := hid hR
  have hw2 : w2.heap.size ≤ w5.heap.size := by omega
  obtain ⟨N, hN⟩ : ∃ N, N = (w5.alloc oR).heap.size := ⟨_, rfl⟩
  have hNz : N = w5.heap.size + 1 := by rw [hN, hz6]
  rw [← hN] at HPN HAN hgo
  have HEQ := hid (show oR = .cells #[.int .i64 R.2.oc, .int .i64 R.2.va, .int .i64 R.1, .slice po' R.2.out.length co'] 55 from hoR)
  rw [hoR] at HPN HAN HRB HZO HB6
  unfold endV
  clear hin hR hE hxe hxw hxd hM HX HM he' hwt' hi' hs' hown hb5 hb6 hb36 HB1 HB2 HB3 HP3 HAU HB23 hs0 hEd hn' hq' hN hz6 hoR hgu
  rcases Nat.eq_zero_or_pos cus.length with hc0 | hc0
  · have hnil : cus = [] := List.length_eq_zero_iff.1 hc0
    subst hnil
    simp only [List.length_nil] at *
    go_wp2_with fail
    go_loopg [19, 20] q' (fun gk x y w' => ∃ (k : Nat) (t : MS) (b : Bool), k ≤ q' ∧ gk = q' - k ∧ x = .int .i64 k ∧ y = .bool b ∧ (b = true → t.oc = 0) ∧ (b = false → t.oc ≠ 0) ∧ PN w.heap.size w2.heap.size N w' K t ∧ MInv E t ∧ t.out.length ≤ k ∧ KeepN w2.heap.size N (w5.alloc (.cells #[.int .i64 R.2.oc, .int .i64 R.2.va, .int .i64 R.1, .slice po' R.2.out.length co'] 55)) w' ∧ Below w.heap.size w w' ∧ runS E [] (q' - k) k t = runS E [] q' 0 s0)
    case atStart => exact ⟨0, s0, true, by omega, by omega, rfl, rfl, fun _ => h00, fun h => by (cases h), HPN.out, HINV.out, by omega, fun _ _ _ => rfl, HB6.out, rfl⟩
    case round =>
      obtain ⟨k, t, b, hk, hgk, rfl, rfl, hbt, hbf, hP, hI, ho, hK, hB, hR⟩ := hrel
      have HP := hid hP
      have HI2 := hid hI
      have HB7 := hid hB
      have HK := hid hK
      have HR := hid hR
      clear hP hI hB hK hR HINV HB6
      rcases Nat.lt_or_ge k q' with hlt | hge
      · have d1 : (k : Int) < (q' : Int) := by omega
        cases b
        · have HEND : Hid (runS E [] (q' - k) k t = (k, t)) := hid (run_done E [] _ k t (hbf rfl))
          clear hbt hbf
          have hRk : R = (k, t) := by rw [HRD.out, ← HR.out]; exact HEND.out
          have hPX := HP.out
          obtain ⟨F, hpx, hF, _, _, _⟩ := HP.out
          have hst := hid (px_state hpx hke hok HI2.out)
          have HPX := hid hpx
          have hrb := (HK.out w5.heap.size (by omega) (by omega)).trans HRB.out
          have HRB2 := hid hrb
          have HZO2 : Hid (ZsAt wr (.slice po' R.2.out.length co') R.2.out) := hid (by
            rcases HZO.out with h1 | ⟨a, cap, h1, h2⟩
            · exact .inl h1
            · cases h1
              obtain ⟨g1, g2⟩ := hgo a rfl
              exact .inr ⟨a, co', rfl, fun j y hj => (World.cell?_of_block (a := a.add j) (by rw [addK_block]; exact HK.out _ g1 g2)).trans (h2 j y hj)⟩)
          have hzr : N ≤ wr.heap.size := by
            obtain ⟨_, _, _, _, _, h⟩ := HP.out
            exact h
          subst hRk
          simp only at hol HRB2 HZO2
          clear HP HRB HZO hpx hF hPX HR HEND HRD HAN HPN hrb HK
          go_wp2_with fail
          refine hst.out.mono ?_
          clear hst
          intro e w8 hh
          obtain ⟨pl, hb8, y1, y2, hx, o1, o2, _⟩ := hh
          subst e
          obtain ⟨z1, kz1, e1⟩ := owns_slice o1
          obtain ⟨z2, kz2, e2⟩ := owns_slice o2
          subst e1
          subst e2
          have hb9 : Below w8.heap.size w8 (w8.alloc (stBox t.oc t.va pl t.hs.2.1 t.hs.2.2 (.slice z1 (locsS E t).length kz1) (.slice z2 (stkS E t).length kz2))) := (Below.refl _ _).alloc (Nat.le_refl _) _
          have hb89 := hb8.trans (hb9.mono hb8.size)
          have hPX9 := HPX.out.below hb89
          have hou := hid (show Calls Tryd.prog 19 #[.pointer (some ⟨K.b, 0, none⟩)] _ (CopyPost t.out _) from by
            obtain ⟨vI, vO, lo4, st8, hm, _⟩ := hPX9
            exact poutput_any hm (by omega))
          have RB9 := hid ((hb89.block w5.heap.size (by omega)).trans HRB2.out)
          have ZO9 := hid (zsK_below HZO2.out hb89)
          have RS9 := hid (heap_alloc_new w8 (stBox t.oc t.va pl t.hs.2.1 t.hs.2.2 (.slice z1 (locsS E t).length kz1) (.slice z2 (stkS E t).length kz2)))
          have HB9 := hid (HB7.out.trans (hb89.mono HB7.out.size))
          have hz8 := hb8.size
          have hz9 : (w8.alloc (stBox t.oc t.va pl t.hs.2.1 t.hs.2.2 (.slice z1 (locsS E t).length kz1) (.slice z2 (stkS E t).length kz2))).heap.size = w8.heap.size + 1 := by simp
          unfold stBox at hou RB9 ZO9 RS9 HB9 hz9
          generalize (locsS E t).length = n3 at *
          generalize (stkS E t).length = n4 at *
          clear hb8 hb9 hb89 o1 o2 hPX9 HPX HRB2 HZO2 HB7 HI2
          go_wp2_with fail
          refine hou.out.mono ?_
          clear hou
          intro e w10 hh
          obtain ⟨hb10, vo2, hx, hown2⟩ := hh
          subst e
          obtain ⟨po2, co2, eo2⟩ := owns_slice hown2
          subst eo2
          have hz10 := hb10.size
          rw [hz9] at hz10
          have rB := (hb10.block w5.heap.size (by omega)).trans RB9.out
          have rS := (hb10.block w8.heap.size (by omega)).trans RS9.out
          have b0 := cell_of_row w10 w5.heap.size 0 _ _ _ rB
          have b1 := cell_of_row w10 w5.heap.size 1 _ _ _ rB
          have b2 := cell_of_row w10 w5.heap.size 2 _ _ _ rB
          have b3 := cell_of_row w10 w5.heap.size 3 _ _ _ rB
          simp only [List.getElem?_toArray, List.getElem?_cons_zero, List.getElem?_cons_succ] at b0 b1 b2 b3
          have HRB10 := hid rB
          have HRS10 := hid rS
          have hsk := hid (sameK_any t.out _ _ w10 (zsK_below ZO9.out hb10) (zsK_owns hown2) (by omega))
          have HB10 := hid (HB9.out.trans (hb10.mono HB9.out.size))
          clear hb10 hown2 ZO9 RB9 RS9 HB9 rB rS
          go_wp2_with fail
          refine hsk.out.mono ?_
          clear hsk
          intro e w11 hh
          obtain ⟨hx, nd, hw11⟩ := hh
          subst e
          have hbd : Below w10.heap.size w10 w11 := by rw [hw11]; exact ⟨rfl, rfl, rfl, Nat.le_refl _, fun _ _ => rfl⟩
          have rB := (hbd.block w5.heap.size (by omega)).trans HRB10.out
          have rS := (hbd.block w8.heap.size (by omega)).trans HRS10.out
          have d0 := cell_of_row w11 w5.heap.size 0 _ _ _ rB
          have d1' := cell_of_row w11 w5.heap.size 1 _ _ _ rB
          have d2' := cell_of_row w11 w5.heap.size 2 _ _ _ rB
          have f0 := cell_of_row w11 w8.heap.size 0 _ _ _ rS
          have f1 := cell_of_row w11 w8.heap.size 1 _ _ _ rS
          simp only [List.getElem?_toArray, List.getElem?_cons_zero, List.getElem?_cons_succ] at d0 d1' d2' f0 f1
          have HB11 := hid (HB10.out.trans (hbd.mono HB10.out.size))
          clear hbd rB rS HRB10 HRS10 HB10 hw11 b0 b1 b2 b3
          go_wp2_with fail
          go_ret
          exact ⟨rfl, HB11.out⟩
        · have h0 := hbt rfl
          have HR2 : Hid (runS E [] (q' - (k + 1)) (k + 1) (stepS E (preS E [] k t)) = runS E [] q' 0 s0) := hid (by
            have := HR.out
            rw [show q' - k = (q' - (k + 1)) + 1 by omega] at this
            simp only [runS, if_pos h0] at this
            exact this)
          have hst := hid (fun (W : World) (hW : PN w.heap.size w2.heap.size N W K (preS E [] k t)) => pn_step hW hke hok HI2.out.pre ((pre_oc E [] k t).1.trans h0) hzs (by rw [(pre_oc E [] k t).2]; omega))
          have hout : Hid ((stepS E (preS E [] k t)).out.length ≤ k + 1) := hid (by
            have := stepS_out E (preS E [] k t)
            rw [(pre_oc E [] k t).2] at this
            omega)
          have HI3 : Hid (MInv E (stepS E (preS E [] k t))) := hid (HI2.out.pre.step hok)
          clear hbt hbf h0 HR
          have HPr : Hid (preS E [] k t = t) := hid rfl
          have hs1 := hid (hst.out wr (by rw [HPr.out]; exact HP.out))
          clear hst HP HI2
          go_wp2_with fail
          refine hs1.out.mono ?_
          clear hs1
          intro e w8 hp
          obtain ⟨hx, hP2, hK2, hB2⟩ := hp
          subst e
          have HP2 := hid hP2
          have HB9 := hid (HB7.out.trans hB2)
          have HK9 := hid (HK.out.trans hK2)
          clear hP2 hB2 hK2
          go_wp2_with fail
          go_roundg (q' - (k + 1))
          case measure => omega
          case rel => exact ⟨k + 1, _, ((stepS E (preS E [] k t)).oc : Int) == 0, by omega, rfl, by go_num, rfl, fun h => by simpa using h, fun h => by simpa using h, HP2.out, HI3.out, hout.out, HK9.out, HB9.out, HR2.out⟩
      · have d1 : ¬ (k : Int) < (q' : Int) := by omega
        have HEND : Hid (runS E [] (q' - k) k t = (k, t)) := hid (by rw [show q' - k = 0 by omega]; rfl)
        clear hbt hbf
        have hRk : R = (k, t) := by rw [HRD.out, ← HR.out]; exact HEND.out
        have hPX := HP.out
        obtain ⟨F, hpx, hF, _, _, _⟩ := HP.out
        have hst := hid (px_state hpx hke hok HI2.out)
        have HPX := hid hpx
        have hrb := (HK.out w5.heap.size (by omega) (by omega)).trans HRB.out
        have HRB2 := hid hrb
        have HZO2 : Hid (ZsAt wr (.slice po' R.2.out.length co') R.2.out) := hid (by
          rcases HZO.out with h1 | ⟨a, cap, h1, h2⟩
          · exact .inl h1
          · cases h1
            obtain ⟨g1, g2⟩ := hgo a rfl
            exact .inr ⟨a, co', rfl, fun j y hj => (World.cell?_of_block (a := a.add j) (by rw [addK_block]; exact HK.out _ g1 g2)).trans (h2 j y hj)⟩)
        have hzr : N ≤ wr.heap.size := by
          obtain ⟨_, _, _, _, _, h⟩ := HP.out
          exact h
        subst hRk
        simp only at hol HRB2 HZO2
        clear HP HRB HZO hpx hF hPX HR HEND HRD HAN HPN hrb HK
        go_wp2_with fail
        refine hst.out.mono ?_
        clear hst
        intro e w8 hh
        obtain ⟨pl, hb8, y1, y2, hx, o1, o2, _⟩ := hh
        subst e
        obtain ⟨z1, kz1, e1⟩ := owns_slice o1
        obtain ⟨z2, kz2, e2⟩ := owns_slice o2
        subst e1
        subst e2
        have hb9 : Below w8.heap.size w8 (w8.alloc (stBox t.oc t.va pl t.hs.2.1 t.hs.2.2 (.slice z1 (locsS E t).length kz1) (.slice z2 (stkS E t).length kz2))) := (Below.refl _ _).alloc (Nat.le_refl _) _
        have hb89 := hb8.trans (hb9.mono hb8.size)
        have hPX9 := HPX.out.below hb89
        have hou := hid (show Calls Tryd.prog 19 #[.pointer (some ⟨K.b, 0, none⟩)] _ (CopyPost t.out _) from by
          obtain ⟨vI, vO, lo4, st8, hm, _⟩ := hPX9
          exact poutput_any hm (by omega))
        have RB9 := hid ((hb89.block w5.heap.size (by omega)).trans HRB2.out)
        have ZO9 := hid (zsK_below HZO2.out hb89)
        have RS9 := hid (heap_alloc_new w8 (stBox t.oc t.va pl t.hs.2.1 t.hs.2.2 (.slice z1 (locsS E t).length kz1) (.slice z2 (stkS E t).length kz2)))
        have HB9 := hid (HB7.out.trans (hb89.mono HB7.out.size))
        have hz8 := hb8.size
        have hz9 : (w8.alloc (stBox t.oc t.va pl t.hs.2.1 t.hs.2.2 (.slice z1 (locsS E t).length kz1) (.slice z2 (stkS E t).length kz2))).heap.size = w8.heap.size + 1 := by simp
        unfold stBox at hou RB9 ZO9 RS9 HB9 hz9
        generalize (locsS E t).length = n3 at *
        generalize (stkS E t).length = n4 at *
        clear hb8 hb9 hb89 o1 o2 hPX9 HPX HRB2 HZO2 HB7 HI2
        go_wp2_with fail
        refine hou.out.mono ?_
        clear hou
        intro e w10 hh
        obtain ⟨hb10, vo2, hx, hown2⟩ := hh
        subst e
        obtain ⟨po2, co2, eo2⟩ := owns_slice hown2
        subst eo2
        have hz10 := hb10.size
        rw [hz9] at hz10
        have rB := (hb10.block w5.heap.size (by omega)).trans RB9.out
        have rS := (hb10.block w8.heap.size (by omega)).trans RS9.out
        have b0 := cell_of_row w10 w5.heap.size 0 _ _ _ rB
        have b1 := cell_of_row w10 w5.heap.size 1 _ _ _ rB
        have b2 := cell_of_row w10 w5.heap.size 2 _ _ _ rB
        have b3 := cell_of_row w10 w5.heap.size 3 _ _ _ rB
        simp only [List.getElem?_toArray, List.getElem?_cons_zero, List.getElem?_cons_succ] at b0 b1 b2 b3
        have HRB10 := hid rB
        have HRS10 := hid rS
        have hsk := hid (sameK_any t.out _ _ w10 (zsK_below ZO9.out hb10) (zsK_owns hown2) (by omega))
        have HB10 := hid (HB9.out.trans (hb10.mono HB9.out.size))
        clear hb10 hown2 ZO9 RB9 RS9 HB9 rB rS
        go_wp2_with fail
        refine hsk.out.mono ?_
        clear hsk
        intro e w11 hh
        obtain ⟨hx, nd, hw11⟩ := hh
        subst e
        have hbd : Below w10.heap.size w10 w11 := by rw [hw11]; exact ⟨rfl, rfl, rfl, Nat.le_refl _, fun _ _ => rfl⟩
        have rB := (hbd.block w5.heap.size (by omega)).trans HRB10.out
        have rS := (hbd.block w8.heap.size (by omega)).trans HRS10.out
        have d0 := cell_of_row w11 w5.heap.size 0 _ _ _ rB
        have d1' := cell_of_row w11 w5.heap.size 1 _ _ _ rB
        have d2' := cell_of_row w11 w5.heap.size 2 _ _ _ rB
        have f0 := cell_of_row w11 w8.heap.size 0 _ _ _ rS
        have f1 := cell_of_row w11 w8.heap.size 1 _ _ _ rS
        simp only [List.getElem?_toArray, List.getElem?_cons_zero, List.getElem?_cons_succ] at d0 d1' d2' f0 f1
        have HB11 := hid (HB10.out.trans (hbd.mono HB10.out.size))
        clear hbd rB rS HRB10 HRS10 HB10 hw11 b0 b1 b2 b3
        go_wp2_with fail
        go_ret
        exact ⟨rfl, HB11.out⟩
  · go_wp2_with fail
    go_loopg [19, 20] q' (fun gk x y w' => ∃ (k : Nat) (t : MS) (b : Bool), k ≤ q' ∧ gk = q' - k ∧ x = .int .i64 k ∧ y = .bool b ∧ (b = true → t.oc = 0) ∧ (b = false → t.oc ≠ 0) ∧ PN w.heap.size w2.heap.size N w' K t ∧ MInv E t ∧ t.out.length ≤ k ∧ KeepN w2.heap.size N (w5.alloc (.cells #[.int .i64 R.2.oc, .int .i64 R.2.va, .int .i64 R.1, .slice po' R.2.out.length co'] 55)) w' ∧ Below w.heap.size w w' ∧ runS E cus (q' - k) k t = runS E cus q' 0 s0)
    case atStart => exact ⟨0, s0, true, by omega, by omega, rfl, rfl, fun _ => h00, fun h => by (cases h), HPN.out, HINV.out, by omega, fun _ _ _ => rfl, HB6.out, rfl⟩
    case round =>
      obtain ⟨k, t, b, hk, hgk, rfl, rfl, hbt, hbf, hP, hI, ho, hK, hB, hR⟩ := hrel
      have HP := hid hP
      have HI2 := hid hI
      have HB7 := hid hB
      have HK := hid hK
      have HR := hid hR
      clear hP hI hB hK hR HINV HB6
      rcases Nat.lt_or_ge k q' with hlt | hge
      · have d1 : (k : Int) < (q' : Int) := by omega
        cases b
        · have HEND : Hid (runS E cus (q' - k) k t = (k, t)) := hid (run_done E cus _ k t (hbf rfl))
          clear hbt hbf
          have hRk : R = (k, t) := by rw [HRD.out, ← HR.out]; exact HEND.out
          have hPX := HP.out
          obtain ⟨F, hpx, hF, _, _, _⟩ := HP.out
          have hst := hid (px_state hpx hke hok HI2.out)
          have HPX := hid hpx
          have hrb := (HK.out w5.heap.size (by omega) (by omega)).trans HRB.out
          have HRB2 := hid hrb
          have HZO2 : Hid (ZsAt wr (.slice po' R.2.out.length co') R.2.out) := hid (by
            rcases HZO.out with h1 | ⟨a, cap, h1, h2⟩
            · exact .inl h1
            · cases h1
              obtain ⟨g1, g2⟩ := hgo a rfl
              exact .inr ⟨a, co', rfl, fun j y hj => (World.cell?_of_block (a := a.add j) (by rw [addK_block]; exact HK.out _ g1 g2)).trans (h2 j y hj)⟩)
          have hzr : N ≤ wr.heap.size := by
            obtain ⟨_, _, _, _, _, h⟩ := HP.out
            exact h
          subst hRk
          simp only at hol HRB2 HZO2
          clear HP HRB HZO hpx hF hPX HR HEND HRD HAN HPN hrb HK
          go_wp2_with fail
          refine hst.out.mono ?_
          clear hst
          intro e w8 hh
          obtain ⟨pl, hb8, y1, y2, hx, o1, o2, _⟩ := hh
          subst e
          obtain ⟨z1, kz1, e1⟩ := owns_slice o1
          obtain ⟨z2, kz2, e2⟩ := owns_slice o2
          subst e1
          subst e2
          have hb9 : Below w8.heap.size w8 (w8.alloc (stBox t.oc t.va pl t.hs.2.1 t.hs.2.2 (.slice z1 (locsS E t).length kz1) (.slice z2 (stkS E t).length kz2))) := (Below.refl _ _).alloc (Nat.le_refl _) _
          have hb89 := hb8.trans (hb9.mono hb8.size)
          have hPX9 := HPX.out.below hb89
          have hou := hid (show Calls Tryd.prog 19 #[.pointer (some ⟨K.b, 0, none⟩)] _ (CopyPost t.out _) from by
            obtain ⟨vI, vO, lo4, st8, hm, _⟩ := hPX9
            exact poutput_any hm (by omega))
          have RB9 := hid ((hb89.block w5.heap.size (by omega)).trans HRB2.out)
          have ZO9 := hid (zsK_below HZO2.out hb89)
          have RS9 := hid (heap_alloc_new w8 (stBox t.oc t.va pl t.hs.2.1 t.hs.2.2 (.slice z1 (locsS E t).length kz1) (.slice z2 (stkS E t).length kz2)))
          have HB9 := hid (HB7.out.trans (hb89.mono HB7.out.size))
          have hz8 := hb8.size
          have hz9 : (w8.alloc (stBox t.oc t.va pl t.hs.2.1 t.hs.2.2 (.slice z1 (locsS E t).length kz1) (.slice z2 (stkS E t).length kz2))).heap.size = w8.heap.size + 1 := by simp
          unfold stBox at hou RB9 ZO9 RS9 HB9 hz9
          generalize (locsS E t).length = n3 at *
          generalize (stkS E t).length = n4 at *
          clear hb8 hb9 hb89 o1 o2 hPX9 HPX HRB2 HZO2 HB7 HI2
          go_wp2_with fail
          refine hou.out.mono ?_
          clear hou
          intro e w10 hh
          obtain ⟨hb10, vo2, hx, hown2⟩ := hh
          subst e
          obtain ⟨po2, co2, eo2⟩ := owns_slice hown2
          subst eo2
          have hz10 := hb10.size
          rw [hz9] at hz10
          have rB := (hb10.block w5.heap.size (by omega)).trans RB9.out
          have rS := (hb10.block w8.heap.size (by omega)).trans RS9.out
          have b0 := cell_of_row w10 w5.heap.size 0 _ _ _ rB
          have b1 := cell_of_row w10 w5.heap.size 1 _ _ _ rB
          have b2 := cell_of_row w10 w5.heap.size 2 _ _ _ rB
          have b3 := cell_of_row w10 w5.heap.size 3 _ _ _ rB
          simp only [List.getElem?_toArray, List.getElem?_cons_zero, List.getElem?_cons_succ] at b0 b1 b2 b3
          have HRB10 := hid rB
          have HRS10 := hid rS
          have hsk := hid (sameK_any t.out _ _ w10 (zsK_below ZO9.out hb10) (zsK_owns hown2) (by omega))
          have HB10 := hid (HB9.out.trans (hb10.mono HB9.out.size))
          clear hb10 hown2 ZO9 RB9 RS9 HB9 rB rS
          go_wp2_with fail
          refine hsk.out.mono ?_
          clear hsk
          intro e w11 hh
          obtain ⟨hx, nd, hw11⟩ := hh
          subst e
          have hbd : Below w10.heap.size w10 w11 := by rw [hw11]; exact ⟨rfl, rfl, rfl, Nat.le_refl _, fun _ _ => rfl⟩
          have rB := (hbd.block w5.heap.size (by omega)).trans HRB10.out
          have rS := (hbd.block w8.heap.size (by omega)).trans HRS10.out
          have d0 := cell_of_row w11 w5.heap.size 0 _ _ _ rB
          have d1' := cell_of_row w11 w5.heap.size 1 _ _ _ rB
          have d2' := cell_of_row w11 w5.heap.size 2 _ _ _ rB
          have f0 := cell_of_row w11 w8.heap.size 0 _ _ _ rS
          have f1 := cell_of_row w11 w8.heap.size 1 _ _ _ rS
          simp only [List.getElem?_toArray, List.getElem?_cons_zero, List.getElem?_cons_succ] at d0 d1' d2' f0 f1
          have HB11 := hid (HB10.out.trans (hbd.mono HB10.out.size))
          clear hbd rB rS HRB10 HRS10 HB10 hw11 b0 b1 b2 b3
          go_wp2_with fail
          go_ret
          exact ⟨rfl, HB11.out⟩
        · have h0 := hbt rfl
          have HR2 : Hid (runS E cus (q' - (k + 1)) (k + 1) (stepS E (preS E cus k t)) = runS E cus q' 0 s0) := hid (by
            have := HR.out
            rw [show q' - k = (q' - (k + 1)) + 1 by omega] at this
            simp only [runS, if_pos h0] at this
            exact this)
          have hst := hid (fun (W : World) (hW : PN w.heap.size w2.heap.size N W K (preS E cus k t)) => pn_step hW hke hok HI2.out.pre ((pre_oc E cus k t).1.trans h0) hzs (by rw [(pre_oc E cus k t).2]; omega))
          have hout : Hid ((stepS E (preS E cus k t)).out.length ≤ k + 1) := hid (by
            have := stepS_out E (preS E cus k t)
            rw [(pre_oc E cus k t).2] at this
            omega)
          have HI3 : Hid (MInv E (stepS E (preS E cus k t))) := hid (HI2.out.pre.step hok)
          clear hbt hbf h0 HR
          obtain ⟨m, hm0⟩ : ∃ m, m = k % cus.length := ⟨_, rfl⟩
          have hml : m < cus.length := by rw [hm0]; exact Nat.mod_lt _ hc0
          have hmod : (k : Int) % (cus.length : Int) = (m : Int) := by rw [hm0]; rfl
          have d3 : (0 : Int) ≤ (m : Int) := by omega
          have d4 : (m : Int) < (cus.length : Int) := by omega
          have q0 : (0 : Int) < (cus.length : Int) := by omega
          have hzr : (w5.alloc (.cells #[.int .i64 R.2.oc, .int .i64 R.2.va, .int .i64 R.1, .slice po' R.2.out.length co'] 55)).heap.size ≤ wr.heap.size := by
            obtain ⟨_, _, _, _, _, h⟩ := HP.out
            simp
            omega
          have hub := HAN.out.keep HK.out hzr
          rcases hub.1 with ⟨_, hn⟩ | ⟨a, cap, hv, hcell, _⟩
          · rw [hn] at hc0; simp at hc0
          cases hv
          have y0 := hcell m cus[m] (List.getElem?_eq_getElem hml)
          have hfit := List.all_eq_true.1 HCF.out cus[m] (List.getElem_mem hml)
          unfold fitsB at hfit
          simp only [Bool.and_eq_true, decide_eq_true_eq] at hfit
          obtain ⟨u, hu⟩ : ∃ u : Nat, cus[m] = (u : Int) := ⟨cus[m].toNat, by omega⟩
          rw [hu] at y0 hfit
          have HPr : Hid (preS E cus k t = collS E u t) := hid (by
            unfold preS
            rw [if_neg (by omega), ← hm0, List.getD_eq_getElem?_getD, List.getElem?_eq_getElem hml]
            simp [hu])
          have hcl := hid (pn_coll HP.out hke hok HI2.out u (by omega))
          clear hcell hub hu hfit hm0 HP HI2 hzr
          go_wp2_with fail
          refine hcl.out.mono ?_
          clear hcl
          intro e w7 hp
          obtain ⟨hx, hP1, hK1, hB1⟩ := hp
          subst e
          have hs1 := hid (hst.out w7 (by rw [HPr.out]; exact hP1))
          have HB8 := hid (HB7.out.trans hB1)
          have HK8 := hid (HK.out.trans hK1)
          clear hst hP1 hB1 hK1 HB7 HK y0
          go_wp2_with fail
          refine hs1.out.mono ?_
          clear hs1
          intro e w8 hp
          obtain ⟨hx, hP2, hK2, hB2⟩ := hp
          subst e
          have HP2 := hid hP2
          have HB9 := hid (HB8.out.trans hB2)
          have HK9 := hid (HK8.out.trans hK2)
          clear hP2 hB2 hK2
          go_wp2_with fail
          go_roundg (q' - (k + 1))
          case measure => omega
          case rel => exact ⟨k + 1, _, ((stepS E (preS E cus k t)).oc : Int) == 0, by omega, rfl, by go_num, rfl, fun h => by simpa using h, fun h => by simpa using h, HP2.out, HI3.out, hout.out, HK9.out, HB9.out, HR2.out⟩
      · have d1 : ¬ (k : Int) < (q' : Int) := by omega
        have HEND : Hid (runS E cus (q' - k) k t = (k, t)) := hid (by rw [show q' - k = 0 by omega]; rfl)
        clear hbt hbf
        have hRk : R = (k, t) := by rw [HRD.out, ← HR.out]; exact HEND.out
        have hPX := HP.out
        obtain ⟨F, hpx, hF, _, _, _⟩ := HP.out
        have hst := hid (px_state hpx hke hok HI2.out)
        have HPX := hid hpx
        have hrb := (HK.out w5.heap.size (by omega) (by omega)).trans HRB.out
        have HRB2 := hid hrb
        have HZO2 : Hid (ZsAt wr (.slice po' R.2.out.length co') R.2.out) := hid (by
          rcases HZO.out with h1 | ⟨a, cap, h1, h2⟩
          · exact .inl h1
          · cases h1
            obtain ⟨g1, g2⟩ := hgo a rfl
            exact .inr ⟨a, co', rfl, fun j y hj => (World.cell?_of_block (a := a.add j) (by rw [addK_block]; exact HK.out _ g1 g2)).trans (h2 j y hj)⟩)
        have hzr : N ≤ wr.heap.size := by
          obtain ⟨_, _, _, _, _, h⟩ := HP.out
          exact h
        subst hRk
        simp only at hol HRB2 HZO2
        clear HP HRB HZO hpx hF hPX HR HEND HRD HAN HPN hrb HK
        go_wp2_with fail
        refine hst.out.mono ?_
        clear hst
        intro e w8 hh
        obtain ⟨pl, hb8, y1, y2, hx, o1, o2, _⟩ := hh
        subst e
        obtain ⟨z1, kz1, e1⟩ := owns_slice o1
        obtain ⟨z2, kz2, e2⟩ := owns_slice o2
        subst e1
        subst e2
        have hb9 : Below w8.heap.size w8 (w8.alloc (stBox t.oc t.va pl t.hs.2.1 t.hs.2.2 (.slice z1 (locsS E t).length kz1) (.slice z2 (stkS E t).length kz2))) := (Below.refl _ _).alloc (Nat.le_refl _) _
        have hb89 := hb8.trans (hb9.mono hb8.size)
        have hPX9 := HPX.out.below hb89
        have hou := hid (show Calls Tryd.prog 19 #[.pointer (some ⟨K.b, 0, none⟩)] _ (CopyPost t.out _) from by
          obtain ⟨vI, vO, lo4, st8, hm, _⟩ := hPX9
          exact poutput_any hm (by omega))
        have RB9 := hid ((hb89.block w5.heap.size (by omega)).trans HRB2.out)
        have ZO9 := hid (zsK_below HZO2.out hb89)
        have RS9 := hid (heap_alloc_new w8 (stBox t.oc t.va pl t.hs.2.1 t.hs.2.2 (.slice z1 (locsS E t).length kz1) (.slice z2 (stkS E t).length kz2)))
        have HB9 := hid (HB7.out.trans (hb89.mono HB7.out.size))
        have hz8 := hb8.size
        have hz9 : (w8.alloc (stBox t.oc t.va pl t.hs.2.1 t.hs.2.2 (.slice z1 (locsS E t).length kz1) (.slice z2 (stkS E t).length kz2))).heap.size = w8.heap.size + 1 := by simp
        unfold stBox at hou RB9 ZO9 RS9 HB9 hz9
        generalize (locsS E t).length = n3 at *
        generalize (stkS E t).length = n4 at *
        clear hb8 hb9 hb89 o1 o2 hPX9 HPX HRB2 HZO2 HB7 HI2
        go_wp2_with fail
        refine hou.out.mono ?_
        clear hou
        intro e w10 hh
        obtain ⟨hb10, vo2, hx, hown2⟩ := hh
        subst e
        obtain ⟨po2, co2, eo2⟩ := owns_slice hown2
        subst eo2
        have hz10 := hb10.size
        rw [hz9] at hz10
        have rB := (hb10.block w5.heap.size (by omega)).trans RB9.out
        have rS := (hb10.block w8.heap.size (by omega)).trans RS9.out
        have b0 := cell_of_row w10 w5.heap.size 0 _ _ _ rB
        have b1 := cell_of_row w10 w5.heap.size 1 _ _ _ rB
        have b2 := cell_of_row w10 w5.heap.size 2 _ _ _ rB
        have b3 := cell_of_row w10 w5.heap.size 3 _ _ _ rB
        simp only [List.getElem?_toArray, List.getElem?_cons_zero, List.getElem?_cons_succ] at b0 b1 b2 b3
        have HRB10 := hid rB
        have HRS10 := hid rS
        have hsk := hid (sameK_any t.out _ _ w10 (zsK_below ZO9.out hb10) (zsK_owns hown2) (by omega))
        have HB10 := hid (HB9.out.trans (hb10.mono HB9.out.size))
        clear hb10 hown2 ZO9 RB9 RS9 HB9 rB rS
        go_wp2_with fail
        refine hsk.out.mono ?_
        clear hsk
        intro e w11 hh
        obtain ⟨hx, nd, hw11⟩ := hh
        subst e
        have hbd : Below w10.heap.size w10 w11 := by rw [hw11]; exact ⟨rfl, rfl, rfl, Nat.le_refl _, fun _ _ => rfl⟩
        have rB := (hbd.block w5.heap.size (by omega)).trans HRB10.out
        have rS := (hbd.block w8.heap.size (by omega)).trans HRS10.out
        have d0 := cell_of_row w11 w5.heap.size 0 _ _ _ rB
        have d1' := cell_of_row w11 w5.heap.size 1 _ _ _ rB
        have d2' := cell_of_row w11 w5.heap.size 2 _ _ _ rB
        have f0 := cell_of_row w11 w8.heap.size 0 _ _ _ rS
        have f1 := cell_of_row w11 w8.heap.size 1 _ _ _ rS
        simp only [List.getElem?_toArray, List.getElem?_cons_zero, List.getElem?_cons_succ] at d0 d1' d2' f0 f1
        have HB11 := hid (HB10.out.trans (hbd.mono HB10.out.size))
        clear hbd rB rS HRB10 HRS10 HB10 hw11 b0 b1 b2 b3
        go_wp2_with fail
        go_ret
        exact ⟨rfl, HB11.out⟩
end Go.Proofs.YtdmdpindonghdabDoor
