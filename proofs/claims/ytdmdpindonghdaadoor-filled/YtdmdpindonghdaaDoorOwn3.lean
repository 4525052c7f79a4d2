/- What the proofs of these statements stand on, part 3: SpecM, FlowO, FlowP, TintA, TypD, TypH, MsB, MsC, MsD, MsF, PhB, PhC, PhD, PhE, PhF, PhG, PhH, PhI, GcA, BlA. -/
import Derived.Test.YtdmdpindonghdaaDoorRows
import Derived.Test.YtdmdpindonghdaaDoorOwn2
import Derived.WalkKit
import Derived.WalkSmall
import Derived.Deep.AppendLies
import Derived.Deep.DeepMust
import Derived.Deep.LoopGhost
import Derived.WalkSpells
import Derived.WalkLawsBesides
import Derived.BigRegion
import Derived.Deep.QuietTactic
import Derived.BigQuiet
import Derived.Deep.RegionHeld3
import Derived.OwnWalk
import Derived.Laws.StructEq
import Derived.Deep.RegionLaw
import Derived.Deep.DeepCutAuto
import Derived.Laws.MakeOwn
import Derived.Laws.IdiomCopy
namespace Go.Proofs.YtdmdpindonghdaaDoor
open Go.RowKit
/-- The frame tells of the point. -/
structure Cov (f : Fr) (lo st : ByteArray) : Prop where
  reached : f.reached = true
  sk : Stk f (tl st)
  lo : ∀ j, j < 4 → f.lo.getD j 0 = lk lo j ∨ f.lo.getD j 0 = 2
def CovAt (fs : List Fr) (k : Nat) (lo st : ByteArray) : Prop := ∃ f, fs[k]? = some f ∧ Cov f lo st
theorem reach_keep {fs : List Fr} (hok : AllOk fs) {k m : Nat} {way : Fr} (hway : FrOk way) {lo st : ByteArray} (h : CovAt fs m lo st) : CovAt (reachF fs k way).1 m lo st := by
  obtain ⟨f, hf, hc⟩ := h
  unfold reachF
  cases hk : fs[k]? with
  | none => exact ⟨f, hf, hc⟩
  | some known =>
    simp only
    by_cases e : k = m
    · subst e
      rw [hf] at hk
      cases hk
      have hlt := (List.getElem?_eq_some_iff.1 hf).1
      have hfo := hok f (List.mem_of_getElem? hf)
      rw [if_neg (by rw [hc.reached]; simp)]
      by_cases h1 : f.depth ≠ way.depth ∨ f.stk ≠ way.stk
      · rw [if_pos h1]; exact ⟨f, hf, hc⟩
      rw [if_neg h1]
      simp only [not_or, ne_eq, Decidable.not_not] at h1
      by_cases h2 : f.lo = List.zipWith joinN f.lo way.lo
      · rw [if_pos h2]; exact ⟨f, hf, hc⟩
      rw [if_neg h2]
      refine ⟨_, List.getElem?_set_self hlt, ⟨rfl, ⟨hc.sk.le, h1.1 ▸ hc.sk.depth, h1.2 ▸ hc.sk.stk⟩, fun j hj => ?_⟩⟩
      simp only
      rw [zip_get hfo.lo hway.lo hj]
      unfold joinN
      by_cases h3 : f.lo.getD j 0 = way.lo.getD j 0
      · rw [if_pos h3]; exact hc.lo j hj
      · rw [if_neg h3]; exact .inr rfl
    · have hset : ∀ g : Fr, CovAt (fs.set k g) m lo st := fun g => ⟨f, by rw [List.getElem?_set_ne e]; exact hf, hc⟩
      split
      · exact hset _
      split
      · exact ⟨f, hf, hc⟩
      split
      · exact ⟨f, hf, hc⟩
      · exact hset _
def nz (a : Nat) : Nat := if a = 2 then 0 else 1
def worth (f : Fr) : Nat := if f.reached = false then 5 else (f.lo.map nz).sum
def pot (fs : List Fr) : Nat := (fs.map worth).sum
theorem nz_le (a : Nat) : nz a ≤ 1 := by unfold nz; split <;> omega
theorem nz_join (a b : Nat) : nz (joinN a b) ≤ nz a ∧ (joinN a b ≠ a → nz (joinN a b) < nz a) := by
  unfold joinN
  by_cases h : a = b
  · rw [if_pos h]; exact ⟨Nat.le_refl _, fun e => absurd rfl e⟩
  · rw [if_neg h]
    refine ⟨by simp [nz], fun e => ?_⟩
    simp only [nz, if_true]
    rw [if_neg (fun e2 => e e2.symm)]; omega
theorem worth_le {f : Fr} (h : f.lo.length = 4) (hr : f.reached = true) : worth f ≤ 4 := by
  unfold worth
  rw [if_neg (by rw [hr]; simp)]
  obtain ⟨a, b, c, d, e⟩ := four h
  have h0 := nz_le a
  have h1 := nz_le b
  have h2 := nz_le c
  have h3 := nz_le d
  rw [e]; simp only [List.map_cons, List.map_nil, List.sum_cons, List.sum_nil]; omega
theorem sum_join {x y : List Nat} (hx : x.length = 4) (hy : y.length = 4) (h : x ≠ List.zipWith joinN x y) : ((List.zipWith joinN x y).map nz).sum < (x.map nz).sum := by
  obtain ⟨a, b, c, d, rfl⟩ := four hx
  obtain ⟨a', b', c', d', rfl⟩ := four hy
  simp only [List.zipWith_cons_cons, List.zipWith_nil_left, List.map_cons, List.map_nil, List.sum_cons, List.sum_nil]
  obtain ⟨p0, q0⟩ := nz_join a a'
  obtain ⟨p1, q1⟩ := nz_join b b'
  obtain ⟨p2, q2⟩ := nz_join c c'
  obtain ⟨p3, q3⟩ := nz_join d d'
  by_cases e0 : joinN a a' = a
  · by_cases e1 : joinN b b' = b
    · by_cases e2 : joinN c c' = c
      · by_cases e3 : joinN d d' = d
        · exfalso; apply h
          simp [e0, e1, e2, e3]
        · have := q3 e3; omega
      · have := q2 e2; omega
    · have := q1 e1; omega
  · have := q0 e0; omega
theorem pot_set {fs : List Fr} {k : Nat} {f g : Fr} (h : fs[k]? = some f) : pot (fs.set k g) + worth f = pot fs + worth g := by
  induction fs generalizing k with
  | nil => simp at h
  | cons a r ih =>
    cases k with
    | zero =>
      simp only [List.getElem?_cons_zero, Option.some.injEq] at h
      subst h
      simp only [pot, List.set_cons_zero, List.map_cons, List.sum_cons]; omega
    | succ k =>
      have := ih (k := k) (by simpa using h)
      simp only [pot, List.set_cons_succ, List.map_cons, List.sum_cons] at *; omega
def one (b : Bool) : Nat := if b = true then 1 else 0
theorem reach_pot {fs : List Fr} (hok : AllOk fs) {k : Nat} {way : Fr} (hway : FrOk way) : pot (reachF fs k way).1 + one (reachF fs k way).2.1 ≤ pot fs := by
  unfold reachF
  cases hk : fs[k]? with
  | none => simp [one]
  | some known =>
    have hkn := hok known (List.mem_of_getElem? hk)
    simp only
    by_cases hr : known.reached = false
    · rw [if_pos hr]
      have h1 := pot_set (g := { way with reached := true }) hk
      have h2 := worth_le (f := { way with reached := true }) hway.lo rfl
      have h3 : worth known = 5 := by unfold worth; rw [if_pos hr]
      simp only [one, if_true]; omega
    rw [if_neg hr]
    split
    · simp [one]
    split
    · simp [one]
    · rename_i h
      have h1 := pot_set (g := { way with reached := true, lo := List.zipWith joinN known.lo way.lo }) hk
      have h2 := sum_join hkn.lo hway.lo h
      have h3 : worth known = (known.lo.map nz).sum := by unfold worth; rw [if_neg hr]
      have h4 : worth { way with reached := true, lo := List.zipWith joinN known.lo way.lo } = ((List.zipWith joinN known.lo way.lo).map nz).sum := by unfold worth; rw [if_neg (by simp)]
      simp only [one, if_true]; omega
theorem reach_same {fs : List Fr} {k : Nat} {way : Fr} (h : (reachF fs k way).2.1 = false) : (reachF fs k way).1 = fs := by
  unfold reachF at *
  cases hk : fs[k]? with
  | none => rfl
  | some known =>
    simp only [hk] at *
    split at h
    · cases h
    rename_i h1
    rw [if_neg h1]
    split at h
    · rename_i h2; rw [if_pos h2]
    rename_i h2
    rw [if_neg h2]
    split at h
    · rename_i h3; rw [if_pos h3]
    · cases h
/-- What holds of a pass, by what holds of a reach. -/
theorem pass_ind {fs : List Fr} (hok : AllOk fs) {k : Nat} {ci : CI} (P : List Fr → Bool → Prop) (h0 : P fs false) (hr : ∀ fs' c t way, AllOk fs' → FrOk way → P fs' c → P (reachF fs' t way).1 (c || (reachF fs' t way).2.1)) : P (passF fs k ci).1 (passF fs k ci).2.1 := by
  unfold passF
  cases hk : fs[k]? with
  | none => exact h0
  | some ahead =>
    have hkn := hok ahead (List.mem_of_getElem? hk)
    have haok := afterF_ok hkn ci.ins.op ci.ins.n
    have h1 : ∀ t, P (reachF fs t (afterF ahead ci.ins.op ci.ins.n)).1 (reachF fs t (afterF ahead ci.ins.op ci.ins.n)).2.1 := fun t => by
      have := hr fs false t _ hok haok h0
      rwa [Bool.false_or] at this
    simp only
    split
    · exact h0
    split
    · exact h0
    split
    · exact h0
    split
    · exact h1 _
    split
    · split
      · exact h1 _
      · exact hr _ _ _ _ (reachF_ok hok haok) haok (h1 _)
    · exact h1 _
theorem passF_ok {fs : List Fr} (hok : AllOk fs) {k : Nat} {ci : CI} : AllOk (passF fs k ci).1 :=
  pass_ind hok (fun fs' _ => AllOk fs') hok (fun _ _ _ _ h hw _ => reachF_ok h hw)
theorem passF_len {fs : List Fr} (hok : AllOk fs) {k : Nat} {ci : CI} : (passF fs k ci).1.length = fs.length :=
  pass_ind hok (fun fs' _ => fs'.length = fs.length) rfl (fun _ _ _ _ _ _ h => by rw [reachF_len]; exact h)
theorem pass_keep {fs : List Fr} (hok : AllOk fs) {k m : Nat} {ci : CI} {lo st : ByteArray} (h : CovAt fs m lo st) : CovAt (passF fs k ci).1 m lo st :=
  pass_ind hok (fun fs' _ => CovAt fs' m lo st) h (fun _ _ _ _ ho hw hc => reach_keep ho hw hc)
theorem pass_pot {fs : List Fr} (hok : AllOk fs) {k : Nat} {ci : CI} : pot (passF fs k ci).1 + one (passF fs k ci).2.1 ≤ pot fs :=
  pass_ind hok (fun fs' c => pot fs' + one c ≤ pot fs) (by simp [one]) (fun fs' c t way ho hw hc => by
    have := reach_pot (k := t) ho hw
    cases c
    · rw [Bool.false_or]; simp only [one] at *; omega
    · rw [Bool.true_or]; simp only [one] at *; omega)
theorem pass_same {fs : List Fr} (hok : AllOk fs) {k : Nat} {ci : CI} (h : (passF fs k ci).2.1 = false) : (passF fs k ci).1 = fs :=
  pass_ind hok (fun fs' c => c = false → fs' = fs) (fun _ => rfl) (fun fs' c t way _ _ hc h2 => by
    rw [Bool.or_eq_false_iff] at h2
    rw [reach_same h2.2]; exact hc h2.1) h
def Still (l : List Ins) (fs : List Fr) : Prop := ∀ (k : Nat) (i : Ins), l[k]? = some i → (passF fs k ⟨i, aimOf l i⟩).2.1 = false ∧ (passF fs k ⟨i, aimOf l i⟩).2.2 = true
theorem reach_cov {fs : List Fr} (hok : AllOk fs) {t : Nat} {way : Fr} (hway : FrOk way) (h1 : (reachF fs t way).2.1 = false) (h2 : (reachF fs t way).2.2 = true) {lo st : ByteArray} (hs : Stk way (tl st)) (hl : ∀ j, j < 4 → way.lo.getD j 0 = lk lo j ∨ way.lo.getD j 0 = 2) : CovAt fs t lo st := by
  unfold reachF at *
  cases hk : fs[t]? with
  | none => rw [hk] at h2; cases h2
  | some g =>
    have hg := hok g (List.mem_of_getElem? hk)
    simp only [hk] at h1 h2
    by_cases hr : g.reached = false
    · rw [if_pos hr] at h1; cases h1
    rw [if_neg hr] at h1 h2
    by_cases hd : g.depth ≠ way.depth ∨ g.stk ≠ way.stk
    · rw [if_pos hd] at h2; cases h2
    rw [if_neg hd] at h1 h2
    by_cases hj : g.lo = List.zipWith joinN g.lo way.lo
    · simp only [not_or, ne_eq, Decidable.not_not] at hd
      refine ⟨g, hk, ⟨by simpa using hr, ⟨hs.le, hd.1 ▸ hs.depth, hd.2 ▸ hs.stk⟩, fun j hj4 => ?_⟩⟩
      have e := congrArg (fun x => x.getD j 0) hj
      rw [zip_get hg.lo hway.lo hj4] at e
      unfold joinN at e
      by_cases e3 : g.lo.getD j 0 = way.lo.getD j 0
      · rw [e3]; exact hl j hj4
      · rw [if_neg e3] at e; exact .inr e
    · rw [if_neg hj] at h1; cases h1
theorem afterF_wrong {f : Fr} (h : f.wrong = true) (op n : Nat) : (afterF f op n).wrong = true := by
  unfold afterF
  split
  · unfold loadF
    split
    · rfl
    · apply pushF_wrong
      split
      · rfl
      · exact h
  split
  · unfold storeF
    split
    · rfl
    · exact popF_wrong h
  split
  · exact pushF_wrong (pushF_wrong (popF_wrong h) _) _
  split
  · exact popF_wrong h
  split
  · exact pushF_wrong (pushF_wrong (popF_wrong (popF_wrong h)) _) _
  · exact pushR_wrong _ (popR_wrong _ h)
/-- A frame that tells of a point goes with it through its instruction. -/
theorem still_step {l : List Ins} {L : Nat} (hw : Wf l L) {fs : List Fr} (hok : AllOk fs) (hst : Still l fs) {p : Pt} {i : Ins} (hp : Okp l L p) (hi : l[p.at_]? = some i) (hc : CovAt fs p.at_ p.lo p.st) :
    ∃ f, fs[p.at_]? = some f ∧ Cov f p.lo p.st ∧ Ago f p.lo p.st i.op i.n ∧ (i.op = 7 → f.lo.getD i.n 0 = lk p.lo i.n) ∧
      (i.op = 19 ∨ i.op = 20 → CovAt fs (aimOf l i) (afterV p.lo p.st i.op i.n).1 (afterV p.lo p.st i.op i.n).2.1) ∧
      (i.op ≠ 0 ∧ i.op ≠ 19 → CovAt fs (p.at_ + 1) (afterV p.lo p.st i.op i.n).1 (afterV p.lo p.st i.op i.n).2.1) := by
  obtain ⟨f, hf, hcv⟩ := hc
  have hm : i ∈ l := List.mem_of_getElem? hi
  have harg := hw.arg i hm
  have hL := hw.loc
  have hfo := hok f (List.mem_of_getElem? hf)
  obtain ⟨s1, s2⟩ := hst _ _ hi
  unfold passF at s1 s2
  simp only [hf] at s1 s2
  rw [if_neg (by rw [hcv.reached]; simp)] at s1 s2
  by_cases hwr : (afterF f i.op i.n).wrong = true
  · rw [if_pos hwr] at s2; cases s2
  rw [if_neg hwr] at s1 s2
  have hfw : f.wrong = false := by
    cases e : f.wrong
    · rfl
    · exact absurd (afterF_wrong e _ _) hwr
  have h7 : i.op = 7 → f.lo.getD i.n 0 = lk p.lo i.n := by
    intro e7
    have hn := harg (.inl e7)
    rcases hcv.lo i.n (by omega) with h | h
    · exact h
    · exfalso; apply hwr; rw [e7]; exact load_mixed h
  have hg : Ago f p.lo p.st i.op i.n := by
    rcases aft_both hcv.sk hfw hp.lst (fun h => by rw [hp.lo]; exact harg h) (by rw [hp.lo]; omega) h7 with h | h
    · exact h
    · exact absurd h.2 hwr
  have haok := afterF_ok hfo i.op i.n
  have hlo : ∀ j, j < 4 → (afterF f i.op i.n).lo.getD j 0 = lk (afterV p.lo p.st i.op i.n).1 j ∨ (afterF f i.op i.n).lo.getD j 0 = 2 := by
    intro j hj
    rw [hg.fl, loAft_get (fun e => by have := harg (.inr e); rw [hfo.lo]; omega), aft_lk hg (fun e => by rw [hp.lo]; exact harg (.inr e))]
    by_cases hcc : i.op = 8 ∧ j = i.n
    · rw [if_pos hcc, if_pos hcc]; exact .inl rfl
    · rw [if_neg hcc, if_neg hcc]; exact hcv.lo j hj
  refine ⟨f, hf, hcv, hg, h7, fun hj => ?_, fun hj => ?_⟩
  · have o0 : i.op ≠ 0 := by omega
    rw [if_neg o0] at s1 s2
    by_cases o19 : i.op = 19
    · rw [if_pos o19] at s1 s2
      exact reach_cov hok haok s1 s2 hg.sk hlo
    · rw [if_neg o19] at s1 s2
      have o20 : i.op = 20 := by omega
      rw [if_pos o20] at s1 s2
      by_cases e : (reachF fs (aimOf l i) (afterF f i.op i.n)).2.2 = false
      · rw [if_pos e, e] at s2; cases s2
      · rw [if_neg e] at s1 s2
        simp only [Bool.or_eq_false_iff] at s1
        exact reach_cov hok haok s1.1 (by simpa using e) hg.sk hlo
  · rw [if_neg hj.1, if_neg hj.2] at s1 s2
    by_cases o20 : i.op = 20
    · rw [if_pos o20] at s1 s2
      by_cases e : (reachF fs (aimOf l i) (afterF f i.op i.n)).2.2 = false
      · rw [if_pos e, e] at s2; cases s2
      · rw [if_neg e] at s1 s2
        simp only [Bool.or_eq_false_iff] at s1
        rw [reach_same s1.1] at s1 s2
        exact reach_cov hok haok s1.2 s2 hg.sk hlo
    · rw [if_neg o20] at s1 s2
      exact reach_cov hok haok s1 s2 hg.sk hlo
theorem still_all {l : List Ins} {L : Nat} (hw : Wf l L) {fs : List Fr} (hok : AllOk fs) (hst : Still l fs) (h0 : CovAt fs 0 (initP L).lo (initP L).st) {p : Pt} (h : Reach l L p) : CovAt fs p.at_ p.lo p.st := by
  obtain ⟨n, hn⟩ := h
  induction n generalizing p with
  | zero => rw [show p = initP L from hn]; exact h0
  | succ n ih =>
    obtain ⟨q, ss, h1, h2, h3⟩ := hn
    have hq := reach_ok hw ⟨n, h1⟩
    have hi : l[q.at_]? = some (l[q.at_]'hq.at_) := List.getElem?_eq_getElem hq.at_
    obtain ⟨f, _, _, hg, _, j1, j2⟩ := still_step hw hok hst hq hi (ih h1)
    rw [stepP_eq hi, if_neg (by
      rintro (e | e)
      · rw [hg.ok] at e; cases e
      · have := hg.sm; omega)] at h2
    simp only [Option.some.injEq] at h2
    subst h2
    rw [List.mem_append] at h3
    rcases h3 with h3 | h3
    · by_cases hj : isJump (l[q.at_]'hq.at_).op = true
      · rw [if_pos hj, List.mem_singleton] at h3
        subst h3
        have hj' : (l[q.at_]'hq.at_).op = 19 ∨ (l[q.at_]'hq.at_).op = 20 := by simpa [isJump] using hj
        have := j1 hj'
        unfold aimOf at this
        rw [if_pos hj] at this
        exact this
      · rw [if_neg hj] at h3; simp at h3
    · by_cases hj : (l[q.at_]'hq.at_).op ≠ 0 ∧ (l[q.at_]'hq.at_).op ≠ 19
      · rw [if_pos hj, List.mem_singleton] at h3
        subst h3
        exact j2 hj
      · rw [if_neg hj] at h3; simp at h3
theorem stk_inj {f : Fr} {a b : List UInt8} (ha : Stk f a) (hb : Stk f b) (la : ∀ c ∈ a, letter c) (lb : ∀ c ∈ b, letter c) : a = b := by
  have hz : a.length = b.length := ha.depth.symm.trans hb.depth
  have he := ha.stk.symm.trans hb.stk
  have hm : a.map code8 = b.map code8 := (List.append_inj he (by simp [hz])).1
  clear he ha hb
  induction a generalizing b with
  | nil => cases b with
    | nil => rfl
    | cons => simp at hz
  | cons x r ih => cases b with
    | nil => simp at hz
    | cons y s =>
      simp only [List.map_cons, List.cons.injEq] at hm
      rw [code8_inj (la x (by simp)) (lb y (by simp)) hm.1, ih (fun c hc => la c (by simp [hc])) (fun c hc => lb c (by simp [hc])) (by simpa using hz) hm.2]
theorem still_wt {l : List Ins} {L : Nat} (hw : Wf l L) {fs : List Fr} (hok : AllOk fs) (hst : Still l fs) (h0 : CovAt fs 0 (initP L).lo (initP L).st) : WT l L := by
  refine ⟨fun p hp => ?_, fun p q i hp hq he hi => ?_⟩
  · have ho := reach_ok hw hp
    have hi : l[p.at_]? = some (l[p.at_]'ho.at_) := List.getElem?_eq_getElem ho.at_
    obtain ⟨f, _, _, hg, _, _, _⟩ := still_step hw hok hst ho hi (still_all hw hok hst h0 hp)
    rw [stepP_eq hi, if_neg (by
      rintro (e | e)
      · rw [hg.ok] at e; cases e
      · have := hg.sm; omega)]
    simp
  · have ho := reach_ok hw hp
    have ho2 := reach_ok hw hq
    obtain ⟨f, e1, c1, _, a1, _, _⟩ := still_step hw hok hst ho hi (still_all hw hok hst h0 hp)
    obtain ⟨g, e2, c2, _, a2, _, _⟩ := still_step hw hok hst ho2 (he ▸ hi) (still_all hw hok hst h0 hq)
    rw [he, e2] at e1
    cases e1
    have es : p.st = q.st := tl_inj (stk_inj c1.sk c2.sk ho.lst ho2.lst)
    have hm : i ∈ l := List.mem_of_getElem? hi
    unfold clashB
    rw [he, es]
    simp only [beq_self_eq_true, decide_true, Bool.not_true, Bool.false_or, Bool.true_and, Bool.and_eq_false_iff, beq_eq_false_iff_ne, Bool.not_eq_false', beq_iff_eq]
    by_cases h7 : i.op = 7
    · refine .inr ?_
      exact (kindN_inj ho ho2 (hw.arg i hm (.inl h7)) ((a1 h7).symm.trans (a2 h7))).symm
    · exact .inl h7
end Go.Proofs.YtdmdpindonghdaaDoor
namespace Go.Proofs.YtdmdpindonghdaaDoor
open Go.RowKit
structure SetInv (l : List Ins) (L : Nat) (fs : List Fr) : Prop where
  ok : AllOk fs
  len : fs.length = l.length
  sound : WT l L → Sound l L fs
  cov : CovAt fs 0 (initP L).lo (initP L).st
theorem SetInv.pass {l : List Ins} {L k : Nat} {fs : List Fr} {i : Ins} (hw : Wf l L) (h : SetInv l L fs) (hi : l[k]? = some i) : SetInv l L (passF fs k ⟨i, aimOf l i⟩).1 :=
  ⟨passF_ok h.ok, (passF_len h.ok).trans h.len, fun hwt => (pass_sound hw hwt h.ok (h.sound hwt) h.len hi).2, pass_keep h.ok h.cov⟩
theorem SetInv.bad {l : List Ins} {L k : Nat} {fs : List Fr} {i : Ins} (hw : Wf l L) (h : SetInv l L fs) (hi : l[k]? = some i) (hb : (passF fs k ⟨i, aimOf l i⟩).2.2 = false) : ¬ WT l L := by
  intro hwt
  rw [(pass_sound hw hwt h.ok (h.sound hwt) h.len hi).1] at hb
  cases hb
def StillTo (l : List Ins) (fs : List Fr) (n : Nat) : Prop := ∀ (k : Nat) (i : Ins), k < n → l[k]? = some i → (passF fs k ⟨i, aimOf l i⟩).2.1 = false ∧ (passF fs k ⟨i, aimOf l i⟩).2.2 = true
theorem StillTo.succ {l : List Ins} {fs : List Fr} {n : Nat} {i : Ins} (h : StillTo l fs n) (hi : l[n]? = some i) (h1 : (passF fs n ⟨i, aimOf l i⟩).2.1 = false) (h2 : (passF fs n ⟨i, aimOf l i⟩).2.2 = true) : StillTo l fs (n + 1) := by
  intro k j hk hj
  by_cases e : k = n
  · subst e
    rw [hi] at hj
    cases hj
    exact ⟨h1, h2⟩
  · exact h k j (by omega) hj
theorem StillTo.all {l : List Ins} {fs : List Fr} (h : StillTo l fs l.length) : Still l fs := fun k i hi => h k i (List.getElem?_eq_some_iff.1 hi).1 hi
theorem CiAt.two {a b g : Nat} {l : List CI} {w w' : World} (h : CiAt w g l) (ht : Two a b w w') (hg : g < w.heap.size) (h1 : g ≠ a) (h2 : g ≠ b) : CiAt w' g l := h.same (ht.block g hg h1 h2)
/-- The tables of types lie in neither block. -/
def Apart (a : Nat) : Prop := 3 ≠ a ∧ 4 ≠ a
theorem FlowTab.two {a b : Nat} {w w' : World} (h : FlowTab w) (ht : Two a b w w') (ha : Apart a) (hb : Apart b) : FlowTab w' := by
  intro k hk
  obtain ⟨h0, h1⟩ := h k hk
  have l0 := World.block_lt_of_cell? w _ h0
  have l1 := World.block_lt_of_cell? w _ h1
  exact ⟨(World.cell?_of_block (a := ⟨3, k, none⟩) (ht.block _ l0 ha.1 hb.1)).trans h0, (World.cell?_of_block (a := ⟨4, k, none⟩) (ht.block _ l1 ha.2 hb.2)).trans h1⟩
theorem pass_any {l : List Ins} {L : Nat} (hw : Wf l L) (bw bf gl cap capl k : Nat) (fs : List Fr) (i : Ins) (ch : Bool) (w : World) (hall : AllAt w bf fs) (hok : AllOk fs) (hlen : fs.length = l.length) (hi : l[k]? = some i)
    (hwalk : WalkAt w bw (.slice (some ⟨gl, 0, none⟩) l.length capl) bf l.length cap ch) (hat : CiAt w gl (aims l)) (hgl : gl < w.heap.size) (htab : FlowTab w) (hne : bw ≠ bf) :
    Calls Tryd.prog 101 #[.pointer (some ⟨bw, 0, none⟩), .int .i64 k] w (PassPost bw bf cap fs k ⟨i, aimOf l i⟩ ch (.slice (some ⟨gl, 0, none⟩) l.length capl) w) := by
  have hk := (List.getElem?_eq_some_iff.1 hi).1
  have hm : i ∈ l := List.mem_of_getElem? hi
  have hkn : fs[k]? = some (fs[k]'(by omega)) := List.getElem?_eq_getElem (by omega)
  rw [← hlen] at hwalk
  have hcl : (aims l).length = fs.length := by rw [aims_len, hlen]
  have hL := hw.loc
  have h120 := hw.len
  cases hr : (fs[k]'(by omega)).reached
  · have := pass_new bw bf gl cap capl k fs (aims l) ⟨i, aimOf l i⟩ _ ch w hall hok hkn hcl (by rw [hcl]; exact hwalk) hr
    rw [aims_len] at this
    exact this
  · have := pass_go bw bf gl cap capl k fs (aims l) ⟨i, aimOf l i⟩ _ ch w hall hok hkn hcl (by rw [hcl]; exact hwalk) hr hat hgl (aims_get hi) htab (hw.op i hm) (fun h => by have := hw.arg i hm h; simp only; omega) hne (by omega) (fun h => by rw [hlen]; exact aim_lt hw hm h) (fun h0 h1 => by rw [hlen]; exact next_lt hw hi ⟨h0, h1⟩)
    rw [aims_len] at this
    exact this
def SettlePost (l : List Ins) (L bw bf cap : Nat) (lv : Value) (w : World) (e : Ending) (w' : World) : Prop :=
  ∃ (b : Bool) (fs' : List Fr) (ch : Bool), e = .returned (.bool b) ∧ AllAt w' bf fs' ∧ WalkAt w' bw lv bf l.length cap ch ∧ Two bw bf w w' ∧ (b = true → SetInv l L fs' ∧ Still l fs') ∧ (b = false → ¬ WT l L)
set_option maxRecDepth 100000 in
set_option maxHeartbeats 1000000 in
theorem settle_any {l : List Ins} {L : Nat} (hw : Wf l L) (bw bf gl cap capl : Nat) (fs : List Fr) (ch : Bool) (w : World) (hall : AllAt w bf fs) (hinv : SetInv l L fs) (hst : ch = false → Still l fs)
    (hwalk : WalkAt w bw (.slice (some ⟨gl, 0, none⟩) l.length capl) bf l.length cap ch) (hat : CiAt w gl (aims l)) (hgl : gl < w.heap.size) (htab : FlowTab w) (hne : bw ≠ bf) (hgw : gl ≠ bw) (hgf : gl ≠ bf) (ha : Apart bw) (hb : Apart bf) :
    Calls Tryd.prog 85 #[.pointer (some ⟨bw, 0, none⟩)] w (SettlePost l L bw bf cap (.slice (some ⟨gl, 0, none⟩) l.length capl) w) := by
  go_enter Tryd.func85, Tryd.ntmps85
  go_wp2_with fail
  go_loopg [] (pot fs + one ch) (fun g w' => ∃ (fs' : List Fr) (c : Bool), AllAt w' bf fs' ∧ WalkAt w' bw (.slice (some ⟨gl, 0, none⟩) l.length capl) bf l.length cap c ∧ Two bw bf w w' ∧ SetInv l L fs' ∧ (c = false → Still l fs') ∧ pot fs' + one c ≤ g)
  case atStart => exact ⟨fs, ch, hall, hwalk, Two.refl _ _ _, hinv, hst, Nat.le_refl _⟩
  case round =>
    obtain ⟨fs1, c, hA, hW, hT, hI, hS, hp⟩ := hrel
    have w0 := cell_of_row wr bw 0 _ _ _ hW
    have w2 := cell_of_row wr bw 2 _ _ _ hW
    have z2 := frozen_of_row wr bw 2 _ _ hW
    simp only [List.getElem?_toArray, List.getElem?_cons_zero, List.getElem?_cons_succ] at w0 w2
    have HA := hid hA
    have HW := hid hW
    have HT := hid hT
    have HI := hid hI
    have HP := hid hp
    have HN := hid hne
    have HAT := hid hat
    have HTB := hid htab
    have HWF := hid hw
    clear hA hW hT hI hp hall hinv hst hwalk hat htab hw
    cases c
    · have HS := hid (hS rfl)
      clear hS
      go_wp2_with fail
      go_ret
      exact ⟨true, fs1, false, rfl, HA.out, HW.out, HT.out, fun _ => ⟨HI.out, HS.out⟩, fun h => by cases h⟩
    · clear hS
      have HW0 : Hid (WalkAt (wr.setCell ⟨bw, 2, none⟩ (.bool false)) bw (.slice (some ⟨gl, 0, none⟩) l.length capl) bf l.length cap false) := hid (setCell_row 2 (.bool false) HW.out)
      have HA0 : Hid (AllAt (wr.setCell ⟨bw, 2, none⟩ (.bool false)) bf fs1) := hid ((Below.heap_setCell _ _ _ _ (fun e => HN.out e.symm)).trans HA.out)
      have HT0 : Hid (Two bw bf w (wr.setCell ⟨bw, 2, none⟩ (.bool false))) := hid (HT.out.set)
      generalize hW1 : wr.setCell ⟨bw, 2, none⟩ (.bool false) = W1 at HW0 HA0 HT0
      have x0 := cell_of_row W1 bw 0 _ _ _ HW0.out
      simp only [List.getElem?_toArray, List.getElem?_cons_zero] at x0
      go_wp2_with fail
      go_loopg [16] (l.length) (fun g i w' => ∃ (k : Nat) (fs' : List Fr) (c : Bool), i = .int .i64 k ∧ k ≤ l.length ∧ g = l.length - k ∧ AllAt w' bf fs' ∧ WalkAt w' bw (.slice (some ⟨gl, 0, none⟩) l.length capl) bf l.length cap c ∧ Two bw bf w w' ∧ SetInv l L fs' ∧ (c = false → StillTo l fs' k) ∧ pot fs' + one c ≤ pot fs1)
      case atStart =>
        exact ⟨0, fs1, false, rfl, by omega, by omega, HA0.out, HW0.out, HT0.out, HI.out, fun _ k i hk => by omega, Nat.le_refl _⟩
      case round =>
        obtain ⟨k, fs2, c2, rfl, hk, hg, hA, hW, hT, hI, hS, hp⟩ := hrel
        have HP2 := hid hp
        have HS2 := hid hS
        have HI2 := hid hI
        have HA2 := hid hA
        have HW2 := hid hW
        have HT2 := hid hT
        have h120 := HWF.out.len
        clear hA hW hT hI hS hp
        rcases Nat.lt_or_ge k l.length with hkl | hkl
        · have hi : Hid (l[k]? = some l[k]) := hid (List.getElem?_eq_getElem hkl)
          generalize l[k] = i at hi
          have hps := hid (pass_any HWF.out bw bf gl cap capl k fs2 i c2 wr HA2.out HI2.out.ok HI2.out.len hi.out HW2.out (HAT.out.two HT2.out hgl hgw hgf) (Nat.lt_of_lt_of_le hgl HT2.out.size) (HTB.out.two HT2.out ha hb) HN.out)
          have i1 : (k : Int) < (l.length : Int) := by omega
          have hk200 : (k : Int) + 1 ≤ 200 := by omega
          have HB : Hid ((passF fs2 k ⟨i, aimOf l i⟩).2.2 = false → ¬ WT l L) := hid (HI2.out.bad HWF.out hi.out)
          have HI3 : Hid (SetInv l L (passF fs2 k ⟨i, aimOf l i⟩).1) := hid (HI2.out.pass HWF.out hi.out)
          have HPT : Hid (pot (passF fs2 k ⟨i, aimOf l i⟩).1 + one (passF fs2 k ⟨i, aimOf l i⟩).2.1 ≤ pot fs2) := hid (pass_pot HI2.out.ok)
          have HSS : Hid ((passF fs2 k ⟨i, aimOf l i⟩).2.1 = false → (passF fs2 k ⟨i, aimOf l i⟩).2.2 = true → c2 = false → StillTo l (passF fs2 k ⟨i, aimOf l i⟩).1 (k + 1)) := hid (fun h1 h2 h3 => by
            have := pass_same HI2.out.ok h1
            rw [this]
            exact (HS2.out h3).succ hi.out h1 h2)
          have HLN : Hid (fs2.length = l.length) := hid HI2.out.len
          unfold PassPost at hps
          generalize passF fs2 k ⟨i, aimOf l i⟩ = R at *
          obtain ⟨fs3, c3, ok3⟩ := R
          simp only at hps HB HI3 HPT HSS
          clear hi HS2
          go_wp2_with fail
          refine hps.out.mono ?_
          clear hps
          intro x w6 hh
          obtain ⟨hx6, hA6, hW6, hT6⟩ := hh
          subst x
          rw [HLN.out] at hW6
          have HA6 := hid hA6
          have HW6 := hid hW6
          have HT6 := hid hT6
          clear hA6 hW6 hT6
          cases ok3
          · have HB2 := hid (HB.out rfl)
            clear HB HSS
            go_wp2_with fail
            go_ret
            exact ⟨false, fs3, c2 || c3, rfl, HA6.out, HW6.out, HT2.out.trans HT6.out, fun h => absurd h (by decide), fun _ => HB2.out⟩
          · have HSS2 := hid (fun h1 h2 => HSS.out h1 rfl h2)
            clear HB HSS
            go_wp2_with fail
            go_roundg (l.length - (k + 1))
            case measure => omega
            case rel =>
              exact ⟨k + 1, fs3, c2 || c3, rfl, by omega, rfl, HA6.out, HW6.out, HT2.out.trans HT6.out, HI3.out, fun h => by
                rw [Bool.or_eq_false_iff] at h
                exact HSS2.out h.2 h.1, by
                have h1 := HPT.out
                have h2 := HP2.out
                cases c2
                · rw [Bool.false_or]; simp only [one] at *; omega
                · rw [Bool.true_or]; simp only [one] at *; omega⟩
        · have i1 : ¬ (k : Int) < (l.length : Int) := by omega
          go_wp2_with fail
          go_roundg (pot fs2 + one c2)
          case measure =>
            have h1 := HP.out
            have h2 := HP2.out
            simp only [one, if_true] at *; omega
          case rel =>
            exact ⟨fs2, c2, HA2.out, HW2.out, HT2.out, HI2.out, fun h => by
              have := HS2.out h
              rw [show k = l.length by omega] at this
              exact this.all, Nat.le_refl _⟩
end Go.Proofs.YtdmdpindonghdaaDoor
namespace Go.Proofs.YtdmdpindonghdaaDoor
open Go.RowKit
def zeroF : Fr := ⟨false, [0, 0, 0, 0], 0, [0, 0, 0, 0, 0, 0, 0, 0], false⟩
theorem zeroF_ok : FrOk zeroF := ⟨rfl, rfl, Nat.zero_le _⟩
theorem zeros_ok (n : Nat) : AllOk (List.replicate n zeroF) := fun f hf => by rw [List.eq_of_mem_replicate hf]; exact zeroF_ok
theorem frameInfo : (Tryd.prog.info? 93).map (fun i => (i.zero, i.size, i.bytes)) = some (some (.agg (frL zeroF).toArray), 15, 120) := by kernel_rfl
theorem zeros_made (n : Nat) : madeCells (frL zeroF).toArray (n * 15) = (allL (List.replicate n zeroF)).toArray := by
  apply Array.toList_inj.1
  apply List.ext_getElem?
  intro i
  have hl := allL_len (zeros_ok n)
  rw [List.length_replicate] at hl
  by_cases hi : i < n * 15
  · have h1 : i / 15 < n := by omega
    have h2 : i % 15 < 15 := by omega
    have e : i = i / 15 * 15 + i % 15 := by omega
    have h3 := allL_at (zeros_ok n) (k := i / 15) (j := i % 15) (f := zeroF) (by rw [List.getElem?_replicate, if_pos h1]) h2
    rw [← e] at h3
    simp only [madeCells, Array.toList_map, Array.toList_range, List.getElem?_map, List.getElem?_range hi, Option.map_some]
    rw [h3]
    have h4 : (frL zeroF).length = 15 := rfl
    rw [List.getElem?_eq_getElem (by omega)]
    simp [List.getElem?_eq_getElem (show i % 15 < (frL zeroF).length by omega), h4]
  · rw [List.getElem?_eq_none (by simp [size_madeCells]; omega), List.getElem?_eq_none (by simp; omega)]
theorem make_frames (n : Nat) (h : n ≤ 120) (w : World) : Sem.run Tryd.prog (Instr.makeSlice 81 (.int .i64 n) (.int .i64 n)) w = .ok (.slice (some ⟨w.heap.size, 0, none⟩) n n) (w.alloc (.cells (allL (List.replicate n zeroF)).toArray 93)) := by
  obtain ⟨i0, hi, hz0, hz1, hz2⟩ := info_parts frameInfo
  have := run_make (P := Tryd.prog) w 81 93 i0 _ Tryd.underlying81 hi hz0 .i64 .i64 n n (by omega) (by omega) (by rw [hz2]; omega) (by omega)
  rw [this, hz1, show Value.cells (.agg (frL zeroF).toArray) = (frL zeroF).toArray from rfl]
  simp only [Int.toNat_natCast]
  rw [zeros_made]
theorem startF (n : Nat) (h : 0 < n) : reachF (List.replicate n zeroF) 0 zeroF = ((List.replicate n zeroF).set 0 { zeroF with reached := true }, true, true) := by
  unfold reachF
  rw [List.getElem?_replicate, if_pos h]
  rfl
theorem start_stk (f : Fr) (hd : f.depth = 0) (hs : f.stk = [0, 0, 0, 0, 0, 0, 0, 0]) (L : Nat) : Stk f (tl (initP L).st) := ⟨Nat.zero_le _, hd, hs⟩
theorem start_lk (L j : Nat) : lk (initP L).lo j = 0 := by
  have h : letters (initP L).lo ∧ True := by
    refine ⟨letters_extract ?_ _ _, trivial⟩
    intro c hc
    simp at hc
    exact .inl hc
  have hall : ∀ c ∈ tl (initP L).lo, c = 105 := by
    intro c hc
    simp only [initP] at hc
    rw [tl_extract] at hc
    have := List.mem_of_mem_drop (List.mem_of_mem_take hc)
    simpa [tl] using this
  unfold lk
  show kindN (((tl (initP L).lo).getD j 0).toNat) = 0
  rw [List.getD_eq_getElem?_getD]
  cases e : (tl (initP L).lo)[j]? with
  | none => rfl
  | some c => rw [hall c (List.mem_of_getElem? e)]; rfl
theorem start_inv {l : List Ins} {L : Nat} (hw : Wf l L) : SetInv l L ((List.replicate l.length zeroF).set 0 { zeroF with reached := true }) := by
  have hp := hw.pos
  have h0 : ((List.replicate l.length zeroF).set 0 { zeroF with reached := true })[0]? = some { zeroF with reached := true } := List.getElem?_set_self (by simpa using hp)
  have hlo : ∀ j, j < 4 → ([0, 0, 0, 0] : List Nat).getD j 0 = 0 := by
    intro j hj
    match j, hj with
    | 0, _ => rfl
    | 1, _ => rfl
    | 2, _ => rfl
    | 3, _ => rfl
  refine ⟨(zeros_ok _).set (f := { zeroF with reached := true }) ⟨rfl, rfl, Nat.zero_le _⟩ 0, by simp, fun _ k f hk hr => ?_, ⟨_, h0, ⟨rfl, start_stk _ rfl rfl L, fun j hj => .inl ?_⟩⟩⟩
  · by_cases e : 0 = k
    · subst e
      rw [h0] at hk
      cases hk
      exact ⟨rfl, ⟨_, _, Reach.init l L, start_stk _ rfl rfl L⟩, fun j hj => .inl ⟨_, _, Reach.init l L, (hlo j hj).trans (start_lk L j).symm⟩⟩
    · rw [List.getElem?_set_ne e, List.getElem?_replicate] at hk
      split at hk
      · cases hk; cases hr
      · cases hk
  · rw [start_lk]; exact hlo j hj
def FramesPost (l : List Ins) (L : Nat) (w : World) (e : Ending) (w' : World) : Prop :=
  Below w.heap.size w w' ∧ ((¬ WT l L ∧ e = .returned (.tuple #[.slice none 0 0, .bool false])) ∨
    (∃ fs bf, e = .returned (.tuple #[.slice (some ⟨bf, 0, none⟩) l.length l.length, .bool true]) ∧ w.heap.size ≤ bf ∧ AllAt w' bf fs ∧ SetInv l L fs ∧ Still l fs))
theorem Two.below {a b B : Nat} {w w' : World} (h : Two a b w w') (hB : B ≤ w.heap.size) (ha : B ≤ a) (hb : B ≤ b) : Below B w w' :=
  ⟨h.os, h.tape, h.output, h.size, fun k hk => h.block k (by omega) (by omega) (by omega)⟩
theorem apart_of {w : World} {a : Nat} (h : FlowTab w) (ha : w.heap.size ≤ a) : Apart a := by
  obtain ⟨h0, h1⟩ := h 0 (by omega)
  have l0 := World.block_lt_of_cell? w _ h0
  have l1 := World.block_lt_of_cell? w _ h1
  exact ⟨by simp only at l0; omega, by simp only at l1; omega⟩
theorem three_second (w : World) (a b c : Obj) : ((((w.alloc a).alloc b).alloc c).drew).heap[w.heap.size + 1]? = some b := by
  show (((w.alloc a).alloc b).alloc c).heap[w.heap.size + 1]? = some b
  rw [Below.heap_alloc _ _ _ (by simp)]; exact heap_two_new w _ _
theorem three_below (w : World) (a b c : Obj) : Below w.heap.size w (((w.alloc a).alloc b).alloc c).drew :=
  have h : Below w.heap.size w (((w.alloc a).alloc b).alloc c) := (((Below.refl _ _).alloc (Nat.le_refl _) _).alloc (by simp) _).alloc (by simp; omega) _
  ⟨h.os, h.tape, h.output, h.size, h.block⟩
set_option maxRecDepth 100000 in
set_option maxHeartbeats 1000000 in
theorem frames_any {l : List Ins} {L : Nat} (hw : Wf l L) (gl capl : Nat) (w : World) (hat : CiAt w gl (aims l)) (hgl : gl < w.heap.size) (htab : FlowTab w) :
    Calls Tryd.prog 63 #[.agg #[.int .i64 L, .slice (some ⟨gl, 0, none⟩) l.length capl]] w (FramesPost l L w) := by
  have h120 := hw.len
  have HWF := hid hw
  have HAT := hid hat
  have HTB := hid htab
  have hmk := make_frames l.length h120
  have HSI := hid (start_inv hw)
  have HSF := hid (startF l.length hw.pos)
  have HPOS := hid hw.pos
  clear hw hat htab
  generalize hZ : List.replicate l.length zeroF = Z at *
  have HZ : Hid (Z.length = l.length ∧ AllOk Z) := hid ⟨by rw [← hZ]; simp, by rw [← hZ]; exact zeros_ok _⟩
  clear hZ
  go_enter Tryd.func63, Tryd.ntmps63
  go_upto_region 1 with fail
  go_cut [4] (fun x4 wc => ∃ bw bf : Nat, x4 = .pointer (some ⟨bw, 0, none⟩) ∧ w.heap.size ≤ bw ∧ w.heap.size ≤ bf ∧ bw ≠ bf ∧ AllAt wc bf Z ∧ WalkAt wc bw (.slice (some ⟨gl, 0, none⟩) l.length capl) bf l.length l.length false ∧ Below w.heap.size w wc)
  case first =>
    go_region
    · go_wp2_with fail
      go_meet
      exact ⟨w.heap.size + 1 + 1, w.heap.size + 1, rfl, by omega, by omega, by omega, three_second w _ _ _, heap_three_third w _ _ _, three_below w _ _ _⟩
    · go_wp2_with fail
      go_meet
      exact ⟨w.heap.size + 1, w.heap.size + 1 + 1, rfl, by omega, by omega, by omega, heap_three_third w _ _ _, three_second w _ _ _, three_below w _ _ _⟩
  case rest =>
    obtain ⟨bw, bf, rfl, h1, h2, h3, hA, hW, hB⟩ := hcut
    have hrc := hid (reach_any bw bf l.length 0 Z zeroF false _ wc hA HZ.out.2 (by rw [HZ.out.1]; exact HPOS.out) zeroF_ok (by rw [HZ.out.1]; exact hW) h3)
    rw [HSF.out] at hrc
    simp only [zeroF, frL, List.map_cons, List.map_nil, List.cons_append, List.nil_append, numV] at hrc
    have HA := hid hA
    have HB := hid hB
    clear hA hW hB hmk
    go_wp2_with fail
    refine hrc.out.mono ?_
    clear hrc
    intro x w6 hh
    obtain ⟨hx6, hA6, hW6, hT6⟩ := hh
    subst x
    rw [HZ.out.1] at hW6
    have hsz := HB.out.size
    have hgl2 : gl < wc.heap.size := by omega
    have hat6 : CiAt w6 gl (aims l) := (HAT.out.below HB.out hgl).two hT6 hgl2 (by omega) (by omega)
    have ha := apart_of HTB.out h1
    have hb := apart_of HTB.out h2
    have hst := hid (settle_any HWF.out bw bf gl l.length capl _ _ w6 hA6 HSI.out (fun h => absurd h (by decide)) hW6 hat6 (Nat.lt_of_lt_of_le hgl2 hT6.size) ((HTB.out.below HB.out).two hT6 ha hb) h3 (by omega) (by omega) ha hb)
    have HT6 := hid hT6
    clear hA6 hW6 hT6 hat6 ha hb
    go_wp2_with fail
    refine hst.out.mono ?_
    clear hst
    intro x w7 hh
    obtain ⟨b, fs', ch, hx7, hA7, hW7, hT7, hgood, hbad⟩ := hh
    subst x
    have HBB : Hid (Below w.heap.size w w7) := hid ((HB.out.trans (HT6.out.below hsz h1 h2)).trans (hT7.below (Nat.le_trans hsz HT6.out.size) h1 h2))
    have w1 := cell_of_row w7 bw 1 _ _ _ hW7
    simp only [List.getElem?_toArray, List.getElem?_cons_zero, List.getElem?_cons_succ] at w1
    have HA7 := hid hA7
    clear hA7 hW7 hT7
    cases b
    · have HN := hid (hbad rfl)
      clear hgood hbad
      go_wp2_with fail
      exact bodyPost_ret (v := .tuple #[.slice none 0 0, .bool false]) (by simp [results, Tryd.results63, go_sem]) rfl ⟨HBB.out, .inl ⟨HN.out, rfl⟩⟩
    · have HN := hid (hgood rfl)
      clear hgood hbad
      go_wp2_with fail
      exact bodyPost_ret (v := .tuple #[.slice (some ⟨bf, 0, none⟩) l.length l.length, .bool true]) (by simp [results, Tryd.results63, go_sem]) rfl ⟨HBB.out, .inr ⟨fs', bf, rfl, h2, HA7.out, HN.out.1, HN.out.2⟩⟩
end Go.Proofs.YtdmdpindonghdaaDoor
namespace Go.Proofs.YtdmdpindonghdaaDoor
open Go.RowKit
structure Loaded (s : ByteArray) (w w' : World) (g cap bf : Nat) (fs : List Fr) : Prop where
  err : errOf s = 0
  wt : WT (codeOf s) (byteAt s 1)
  g1 : w.heap.size ≤ g
  g2 : g < w'.heap.size
  ci : CiAt w' g (aims (codeOf s))
  b1 : w.heap.size ≤ bf
  all : AllAt w' bf fs
  inv : SetInv (codeOf s) (byteAt s 1) fs
  still : Still (codeOf s) fs
def LoadPost (s : ByteArray) (w : World) (e : Ending) (w' : World) : Prop :=
  Below w.heap.size w w' ∧ ((∃ r : Nat, r ≠ 0 ∧ IsErr s r ∧ e = .returned (.tuple #[.agg #[.int .i64 0, .slice none 0 0], .slice none 0 0, .int .i64 r])) ∨
    (∃ g cap bf fs, e = .returned (.tuple #[.agg #[.int .i64 (byteAt s 1 : Nat), .slice (some ⟨g, 0, none⟩) (codeOf s).length cap], .slice (some ⟨bf, 0, none⟩) (codeOf s).length (codeOf s).length, .int .i64 0]) ∧ Loaded s w w' g cap bf fs))
set_option maxRecDepth 100000 in
set_option maxHeartbeats 1000000 in
theorem tload_any (s : ByteArray) (w : World) (hs : s.size ≤ maxLen) (htab : FlowTab w) :
    Calls Tryd.prog 38 #[.string s] w (LoadPost s w) := by
  have hrd := hid (fun W => read_any s W hs)
  have HTB := hid htab
  clear hs htab
  go_enter Tryd.func38, Tryd.ntmps38
  go_wp2_with fail
  refine (hrd.out _).mono ?_
  clear hrd
  intro x w2 hp
  obtain ⟨hb, hp⟩ := hp
  have hb1 := instr_below hb
  clear hb
  rcases hp with ⟨he, hx⟩ | ⟨he, g, cap, hx, hg1, hg2, hat⟩
  · subst x
    have hz := hb1.size
    rw [alloc_size] at hz
    have hb2 : Below (w.heap.size + 1) (w.alloc (.cells #[.int .i64 0, .slice none 0 0] 80)) (w2.alloc (.cells #[.int .i64 0, .slice none 0 0] 80)) := hb1.alloc hz _
    obtain ⟨bx, bo, hz2⟩ := box_cells hb2
    have x0 := bx 0
    have x1 := bx 1
    simp only [List.getElem?_toArray, List.getElem?_cons_zero, List.getElem?_cons_succ] at x0 x1
    have hf0 := hb2.frozen (p := ⟨w.heap.size, 0, none⟩) (by simp)
    have hf1 := hb2.frozen (p := ⟨w.heap.size, 1, none⟩) (by simp)
    have hne : ((errOf s : Int) != 0) = true := by simp; omega
    have HE : Hid (IsErr s (errOf s)) := hid (.inl ⟨he, rfl⟩)
    have HN := hid he
    clear bx bo he hb1
    go_wp2_with fail
    refine bodyPost_ret (v := .tuple #[.agg #[.int .i64 0, .slice none 0 0], .slice none 0 0, .int .i64 (errOf s : Nat)]) (by simp [results, Tryd.results38, go_sem, x0, x1]) rfl ⟨two_set hb2, .inl ⟨errOf s, HN.out, HE.out, rfl⟩⟩
  · subst x
    have hz := hb1.size
    rw [alloc_size] at hz
    have hb2 : Below (w.heap.size + 1) (w.alloc (.cells #[.int .i64 0, .slice none 0 0] 80)) (w2.alloc (.cells #[.int .i64 (byteAt s 1 : Nat), .slice (some ⟨g, 0, none⟩) (codeOf s).length cap] 80)) := hb1.alloc hz _
    have HW := hid (wf_of he)
    have HE := hid he
    have hgz : w.heap.size + 1 ≤ g := by simpa using hg1
    have hbw : Below w.heap.size w (w2.alloc (.cells #[.int .i64 (byteAt s 1 : Nat), .slice (some ⟨g, 0, none⟩) (codeOf s).length cap] 80)) := box_below (Nat.le_refl _) hb2
    have hfr := hid (frames_any HW.out g cap _ (hat.same (Below.heap_alloc w2 (.cells #[.int .i64 (byteAt s 1 : Nat), .slice (some ⟨g, 0, none⟩) (codeOf s).length cap] 80) _ hg2)) (by rw [alloc_size]; omega) (HTB.out.below hbw))
    have HAT := hid hat
    generalize hLL : byteAt s 1 = L at *
    have HLL := hid hLL
    generalize hl : codeOf s = l at *
    have HL := hid hl
    clear hat he hbw hl hg1 hLL
    go_wp2_with fail
    refine hfr.out.mono ?_
    clear hfr
    intro x w3 hp
    obtain ⟨hb3, hp⟩ := hp
    have hz3 := hb3.size
    rw [alloc_size] at hz3
    have hb4 : Below (w.heap.size + 1) (w.alloc (.cells #[.int .i64 0, .slice none 0 0] 80)) w3 := hb2.trans (hb3.mono (by rw [alloc_size]; omega))
    obtain ⟨bx, bo, hz2⟩ := box_cells hb4
    have x0 := bx 0
    have x1 := bx 1
    simp only [List.getElem?_toArray, List.getElem?_cons_zero, List.getElem?_cons_succ] at x0 x1
    have hf0 := hb4.frozen (p := ⟨w.heap.size, 0, none⟩) (by simp)
    have hf1 := hb4.frozen (p := ⟨w.heap.size, 1, none⟩) (by simp)
    have HB3 := hid hb3
    rcases hp with ⟨hn, rfl⟩ | ⟨fs, bf, rfl, hbf, hall, hinv, hst⟩
    · have HE5 : Hid (IsErr s 5) := hid (.inr (.inr ⟨HE.out, by rw [HL.out, HLL.out]; exact hn, rfl⟩))
      clear hn bx bo hb3
      go_wp2_with fail
      exact bodyPost_ret (v := .tuple #[.agg #[.int .i64 0, .slice none 0 0], .slice none 0 0, .int .i64 5]) (by simp [results, Tryd.results38, go_sem, x0, x1]) rfl ⟨two_set hb4, .inl ⟨5, by decide, HE5.out, rfl⟩⟩
    · obtain ⟨px, po, pz⟩ := box_cells (hb3.mono (by rw [alloc_size]; omega))
      have y0 := px 0
      have y1 := px 1
      simp only [List.getElem?_toArray, List.getElem?_cons_zero, List.getElem?_cons_succ] at y0 y1
      have hbf2 : w2.heap.size + 1 ≤ bf := by rw [alloc_size] at hbf; exact hbf
      have HALL := hid hall
      have HINV := hid hinv
      have HST := hid hst
      have HWT := hid (still_wt HW.out hinv.ok hst hinv.cov)
      have HCI := hid (HAT.out.same ((hb3.block g (by rw [alloc_size]; omega)).trans (Below.heap_alloc w2 _ _ hg2)))
      clear hall hinv hst hbf bx bo px po hb3 HB3 pz
      go_wp2_with fail
      refine bodyPost_ret (v := .tuple #[.agg #[.int .i64 L, .slice (some ⟨g, 0, none⟩) l.length cap], .slice (some ⟨bf, 0, none⟩) l.length l.length, .int .i64 0]) (by simp [results, Tryd.results38, go_sem, x0, x1]) rfl ⟨two_set hb4, .inr ?_⟩
      have hs0 : ∀ b u v, b ≠ w.heap.size → ((w3.setCell ⟨w.heap.size, 0, none⟩ u).setCell ⟨w.heap.size, 1, none⟩ v).heap[b]? = w3.heap[b]? := fun b u v h => by
        rw [Below.heap_setCell _ _ _ _ h, Below.heap_setCell _ _ _ _ h]
      refine ⟨g, cap, bf, fs, by rw [HL.out, HLL.out], ⟨HE.out, by rw [HL.out, HLL.out]; exact HWT.out, by omega, by simp [World.setCell]; omega, by rw [HL.out]; exact HCI.out.same (hs0 _ _ _ (by omega)), by omega, (hs0 _ _ _ (by omega)).trans HALL.out, by rw [HL.out, HLL.out]; exact HINV.out, by rw [HL.out]; exact HST.out⟩⟩
def TCheckPost (s : ByteArray) (w : World) (e : Ending) (w' : World) : Prop := Below w.heap.size w w' ∧ ∃ r : Nat, e = .returned (.int .i64 r) ∧ IsErr s r
set_option maxRecDepth 100000 in
set_option maxHeartbeats 1000000 in
theorem tcheck_any (s : ByteArray) (w : World) (hs : s.size ≤ maxLen) (htab : FlowTab w) :
    Calls Tryd.prog 10 #[.string s] w (TCheckPost s w) := by
  have hld := hid (tload_any s w hs htab)
  clear hs htab
  go_enter Tryd.func10, Tryd.ntmps10
  go_wp2_with fail
  refine hld.out.mono ?_
  clear hld
  intro x w2 hp
  obtain ⟨hb, hp⟩ := hp
  have hz := hb.size
  have HB := hid hb
  clear hb
  rcases hp with ⟨r, hr, he, rfl⟩ | ⟨g, cap, bf, fs, rfl, hL⟩
  · have HE := hid he
    clear he hr
    go_wp2_with fail
    go_ret
    exact ⟨HB.out.alloc hz _, r, rfl, HE.out⟩
  · have HE : Hid (IsErr s 0) := hid (.inr (.inl ⟨hL.err, hL.wt, rfl⟩))
    clear hL
    go_wp2_with fail
    go_ret
    exact ⟨HB.out.alloc hz _, 0, rfl, HE.out⟩
theorem num_any (r : Nat) (w : World) : Calls Tryd.prog 12 #[.int .i64 r] w fun e w' => e = .returned (.int .i64 r) ∧ w' = w := by
  go_enter Tryd.func12, Tryd.ntmps12
  go_wp2
  go_ret
  exact ⟨rfl, rfl⟩
end Go.Proofs.YtdmdpindonghdaaDoor
namespace Go.Proofs.YtdmdpindonghdaaDoor
open Go.RowKit
theorem row5 {wr w5 : World} {o o' : Obj} {base n : Nat} {v : Value} {cs : List Value} (h : wr.ownsRow base 95 4 v n cs) (hb : Below (wr.alloc o).drew.heap.size (wr.alloc o).drew w5) : (w5.alloc o').ownsRow base 95 4 v n cs := by
  have hb' : Below wr.heap.size wr w5 := ((Below.refl _ _).alloc (Nat.le_refl _) o).trans (⟨hb.os, hb.tape, hb.output, hb.size, fun k hk => hb.block k (by simp [World.drew]; omega)⟩)
  exact (owns_below h hb' (fun g hg => (h.lt g hg).2)).alloc _
theorem below5 {wr w5 : World} {o : Obj} (hb : Below (wr.alloc o).drew.heap.size (wr.alloc o).drew w5) : Below wr.heap.size wr w5 :=
  ((Below.refl _ _).alloc (Nat.le_refl _) o).trans (⟨hb.os, hb.tape, hb.output, hb.size, fun k hk => hb.block k (by simp [World.drew]; omega)⟩)
theorem OwnPts.mono {w : World} {base base' : Nat} {v : Value} {ms : List MP} (h : OwnPts w base v ms) (hb : base' ≤ base) : OwnPts w base' v ms := by
  obtain ⟨cs, h1, h2⟩ := h
  exact ⟨cs, owns_mono h1 hb, PtsIn.keep (fun g hg => ⟨⟨Nat.le_trans hb hg.1, hg.2⟩, rfl⟩) _ _ h2⟩
def mapsF (l : List Ins) (fs : List Fr) (L : Nat) : List MP := List.zipWith (fun i f => ptF i.place f L) l fs
def TMapsPost (s : ByteArray) (w : World) (e : Ending) (w' : World) : Prop :=
  Below w.heap.size w w' ∧ ((∃ r : Nat, r ≠ 0 ∧ IsErr s r ∧ e = .returned (.tuple #[.slice none 0 0, .int .i64 r])) ∨
    (∃ v fs, e = .returned (.tuple #[v, .int .i64 0]) ∧ errOf s = 0 ∧ SetInv (codeOf s) (byteAt s 1) fs ∧ Still (codeOf s) fs ∧ OwnPts w' w.heap.size v (mapsF (codeOf s) fs (byteAt s 1))))
set_option maxRecDepth 100000 in
set_option maxHeartbeats 1000000 in
theorem tmaps_any (s : ByteArray) (w : World) (hs : s.size ≤ maxLen) (htab : FlowTab w) :
    Calls Tryd.prog 13 #[.string s] w (TMapsPost s w) := by
  obtain ⟨i0, hi0, hz0, hz1, hz2⟩ := info_parts pointInfo
  have hld := hid (tload_any s w hs htab)
  clear hs htab
  go_enter Tryd.func13, Tryd.ntmps13
  go_wp2_with fail
  refine hld.out.mono ?_
  clear hld
  intro x w2 hp
  obtain ⟨hb, hp⟩ := hp
  have hz := hb.size
  have HB := hid hb
  clear hb
  rcases hp with ⟨r, hr, he, rfl⟩ | ⟨g, cap, bf, fs, rfl, hLd⟩
  · have HE := hid he
    have HR := hid hr
    have hne : ((r : Int) != 0) = true := by simp; omega
    clear he hr
    go_wp2_with fail
    exact bodyPost_ret (v := .tuple #[.slice none 0 0, .int .i64 r]) (by simp [results, Tryd.results13, go_sem]) rfl ⟨HB.out.alloc hz _, .inl ⟨r, HR.out, HE.out, rfl⟩⟩
  · have HLD := hid hLd
    have hgl : g < w2.heap.size := hLd.g2
    have hL : byteAt s 1 ≤ 4 := (wf_of hLd.err).loc
    have hlen := hLd.inv.len
    have h120 := (wf_of hLd.err).len
    clear hLd
    generalize hLL : byteAt s 1 = L at *
    have HLL := hid hLL
    generalize hl : codeOf s = l at *
    have HL := hid hl
    clear hl hLL
    have hf0 := HLD.out.b1
    go_wp2_with fail
    go_loopg [7, 21] l.length (fun gk v i w' => ∃ k : Nat, k ≤ l.length ∧ gk = l.length - k ∧ i = .int .i64 k ∧ OwnPts w' (w2.heap.size + 1) v ((mapsF l fs L).take k) ∧ Below (w2.heap.size + 1) (w2.alloc (.cells #[.int .i64 L, .slice (some ⟨g, 0, none⟩) l.length cap] 80)) w')
    case atStart => exact ⟨0, by omega, by omega, rfl, OwnPts.nil _ _, Below.refl _ _⟩
    case round =>
      obtain ⟨k, hk, hg, rfl, hown, hbel⟩ := hrel
      have hz2' := hbel.size
      rw [alloc_size] at hz2'
      have HBEL := hid hbel
      have HOWN := hid hown
      rcases Nat.lt_or_ge k l.length with hlt | hge
      · have d1 : (k : Int) < (l.length : Int) := by omega
        have d0 : (0 : Int) ≤ (k : Int) := by omega
        have hbfz : bf < w2.heap.size := (Array.getElem?_eq_some_iff.1 HLD.out.all).1
        have hall : AllAt wr bf fs := ((hbel.block bf (by omega)).trans (Below.heap_alloc w2 _ _ hbfz)).trans HLD.out.all
        have hok := HLD.out.inv.ok
        have hci : CiAt wr g (aims l) := by
          have := HLD.out.ci
          rw [HL.out] at this
          exact this.same ((hbel.block g (by omega)).trans (Below.heap_alloc w2 _ _ hgl))
        obtain ⟨bx, bo, _⟩ := box_cells hbel
        have y0 := bx 0
        have y1 := bx 1
        simp only [List.getElem?_toArray, List.getElem?_cons_zero, List.getElem?_cons_succ] at y0 y1
        have hi : l[k]? = some l[k] := List.getElem?_eq_getElem hlt
        have hfk : fs[k]? = some (fs[k]'(by omega)) := List.getElem?_eq_getElem (by omega)
        obtain ⟨p0, _, _, _⟩ := hci k _ (aims_get hi)
        have HNX : Hid ((mapsF l fs L).take (k + 1) = (mapsF l fs L).take k ++ [ptF l[k].place (fs[k]'(by omega)) L]) := hid (by
          have hkm : k < (mapsF l fs L).length := by simp [mapsF]; omega
          rw [List.take_succ_eq_append_getElem hkm]
          simp [mapsF])
        have hfok := hok _ (List.mem_of_getElem? hfk)
        have hpt := hid (fun W => point_any l[k].place L (fs[k]'(by omega)) W hfok hL)
        have HFK := hid hfk
        generalize fs[k]'(by omega) = f at *
        generalize l[k].place = pl at *
        have c0 := hall.cell hok HFK.out (j := 0) (by omega)
        have c1 := hall.cell hok HFK.out (j := 1) (by omega)
        have c2 := hall.cell hok HFK.out (j := 2) (by omega)
        have c3 := hall.cell hok HFK.out (j := 3) (by omega)
        have c4 := hall.cell hok HFK.out (j := 4) (by omega)
        have c5 := hall.cell hok HFK.out (j := 5) (by omega)
        have c6 := hall.cell hok HFK.out (j := 6) (by omega)
        have c7 := hall.cell hok HFK.out (j := 7) (by omega)
        have c8 := hall.cell hok HFK.out (j := 8) (by omega)
        have c9 := hall.cell hok HFK.out (j := 9) (by omega)
        have c10 := hall.cell hok HFK.out (j := 10) (by omega)
        have c11 := hall.cell hok HFK.out (j := 11) (by omega)
        have c12 := hall.cell hok HFK.out (j := 12) (by omega)
        have c13 := hall.cell hok HFK.out (j := 13) (by omega)
        have c14 := hall.cell hok HFK.out (j := 14) (by omega)
        have HM := hid (rfl : ptF pl f L = ptF pl f L)
        generalize hM : ptF pl f L = M at hpt HNX HM
        clear HM hM
        obtain ⟨fr, flo, d, fst, fw⟩ := f
        obtain ⟨h1, h2, h3⟩ := hfok
        simp only at h1 h2
        obtain ⟨a, b, c, e, rfl⟩ := four h1
        obtain ⟨s0, s1, s2, s3, s4, s5, s6, s7, rfl⟩ := eight h2
        simp only [frL, List.map_cons, List.map_nil, List.cons_append, List.nil_append, numV, List.getElem?_cons_zero, List.getElem?_cons_succ] at c0 c1 c2 c3 c4 c5 c6 c7 c8 c9 c10 c11 c12 c13 c14 hpt
        rw [Nat.add_zero] at c0
        obtain ⟨cs, hrow, hpts⟩ := hown
        rw [List.length_take, Nat.min_eq_left (by simp [mapsF]; omega)] at hrow
        have hgz : g < wr.heap.size := by omega
        have hwz : w2.heap.size < wr.heap.size := by omega
        have HPTS := hid hpts
        have hfar : ∀ b, b ≤ w2.heap.size ∨ wr.heap.size ≤ b → some b ≠ u7.ownBlock := fun b hb e => by
          have := hrow.lt b e.symm
          omega
        clear hall hci hbel bx bo hi hfk hok HOWN hpts
        go_upto_region 9 with fail
        go_region_held3 (fun w' => w'.cell? ⟨w2.heap.size, 0, none⟩ = some (.int .i64 L) ∧ w'.cell? ⟨w2.heap.size, 1, none⟩ = some (.slice (some ⟨g, 0, none⟩) l.length cap) ∧ w'.cell? ⟨g, k * 4, none⟩ = some (.int .i64 pl) ∧ w'.cell? ⟨wr.heap.size, 0, none⟩ = some (.bool fr) ∧ w'.cell? ⟨wr.heap.size, 1, none⟩ = some (.int .i64 a) ∧ w'.cell? ⟨wr.heap.size, 2, none⟩ = some (.int .i64 b) ∧ w'.cell? ⟨wr.heap.size, 3, none⟩ = some (.int .i64 c) ∧ w'.cell? ⟨wr.heap.size, 4, none⟩ = some (.int .i64 e) ∧ w'.cell? ⟨wr.heap.size, 5, none⟩ = some (.int .i64 d) ∧ w'.cell? ⟨wr.heap.size, 6, none⟩ = some (.int .i64 s0) ∧ w'.cell? ⟨wr.heap.size, 7, none⟩ = some (.int .i64 s1) ∧ w'.cell? ⟨wr.heap.size, 8, none⟩ = some (.int .i64 s2) ∧ w'.cell? ⟨wr.heap.size, 9, none⟩ = some (.int .i64 s3) ∧ w'.cell? ⟨wr.heap.size, 10, none⟩ = some (.int .i64 s4) ∧ w'.cell? ⟨wr.heap.size, 11, none⟩ = some (.int .i64 s5) ∧ w'.cell? ⟨wr.heap.size, 12, none⟩ = some (.int .i64 s6) ∧ w'.cell? ⟨wr.heap.size, 13, none⟩ = some (.int .i64 s7) ∧ w'.cell? ⟨wr.heap.size, 14, none⟩ = some (.bool fw))
          (first
            | go_keep
            | (go_split_ands
               refine ⟨?_, ?_, ?_, ?_, ?_, ?_, ?_, ?_, ?_, ?_, ?_, ?_, ?_, ?_, ?_, ?_, ?_, ?_⟩ <;> first | (exact hgrow6.cell (by assumption) (hfar _ (by simp <;> omega))) | (rw [hb5.cell (by simp <;> omega)]; assumption)))
          ((first
            | (go_at_call 41; refine (hpt.out _).mono ?_; intro x w5 hpost; obtain ⟨hb5, v1, v2, hx5, hi1, hi2⟩ := hpost; obtain ⟨p1, q1, hv1⟩ := hi1.slice; obtain ⟨p2, q2, hv2⟩ := hi2.slice; subst hv1; subst hv2; subst hx5; have hz5 : wr.heap.size + 1 ≤ w5.heap.size := by simpa using hb5.size)
            | (refine step_append_lies _ (by rfl) _ _ _ (by rfl) (w2.heap.size + 1) 95 i0 _ 4 64 Tryd.underlying27 hi0 hz0 hz1 hz2 rfl (by omega) _ k cs (by rfl) (row5 hrow hb5)
                ⟨w5.heap.size, 0, none⟩ 1 1 [.int .i64 M.place, .bool M.reached, .slice p1 M.lo.length q1, .slice p2 M.st.length q2] (by rfl) (by rfl) (World.news_of_block (cs := #[.int .i64 M.place, .bool M.reached, .slice p1 M.lo.length q1, .slice p2 M.st.length q2]) (t := 95) (fr := (0, 0)) (heap_alloc_new w5 _)) (by simp [Value.oneCell'])
                (by omega) (by unfold maxLen; omega) (by omega) (by simp; omega) (w5.heap.size + 1) (by simp) ?_; intro gg gcap w6 hown6 hgrow6 hat6 hlt6)))
        have HROW := hid hrow
        have HI1 := hid hi1
        have HI2 := hid hi2
        have HB5 := hid (below5 hb5)
        have HO6 := hid hown6
        have HG6 := hid hgrow6
        have HAT6 := hid hat6
        clear hrow hi1 hi2 hb5 hown6 hgrow6 hat6 y0 y1 p0 c0 c1 c2 c3 c4 c5 c6 c7 c8 c9 c10 c11 c12 c13 c14 hpt
        go_wp2_with fail
        go_roundg (l.length - (k + 1))
        case measure => omega
        case rel =>
          have hlt7 : ∀ g', u7.ownBlock = some g' → g' < wr.heap.size := fun g' hg' => (HROW.out.lt g' hg').2
          have hmk : k + 1 = ((mapsF l fs L).take (k + 1)).length := by rw [List.length_take, Nat.min_eq_left (by simp [mapsF]; omega)]
          refine ⟨k + 1, by omega, rfl, by go_num, ?_, ?_⟩
          · have hps : PtsIn (w5.alloc (.cells #[.int .i64 M.place, .bool M.reached, .slice p1 M.lo.length q1, .slice p2 M.st.length q2] 95)) (fun g' => w2.heap.size + 1 ≤ g' ∧ g' < (w5.alloc (.cells #[.int .i64 M.place, .bool M.reached, .slice p1 M.lo.length q1, .slice p2 M.st.length q2] 95)).heap.size ∧ u7.ownBlock ≠ some g') cs ((mapsF l fs L).take k) :=
              PtsIn.keep (fun g' hg' => ⟨⟨hg'.1, by rw [alloc_size]; omega, hg'.2.2⟩, (Below.heap_alloc _ _ _ (by omega)).trans (HB5.out.block g' hg'.2.1)⟩) _ _ HPTS.out
            have hk1 : ∀ (v : Value) (x : List Nat), IntsAt w5 (fun g' => wr.heap.size + 1 ≤ g' ∧ g' < w5.heap.size) v x → IntsAt (w5.alloc (.cells #[.int .i64 M.place, .bool M.reached, .slice p1 M.lo.length q1, .slice p2 M.st.length q2] 95)) (fun g' => w2.heap.size + 1 ≤ g' ∧ g' < (w5.alloc (.cells #[.int .i64 M.place, .bool M.reached, .slice p1 M.lo.length q1, .slice p2 M.st.length q2] 95)).heap.size ∧ u7.ownBlock ≠ some g') v x := fun v x h =>
              h.keep (fun g' hg' => ⟨⟨by omega, by rw [alloc_size]; omega, fun e => by have := hlt7 g' e; omega⟩, Below.heap_alloc _ _ _ hg'.2⟩)
            have := OwnPts.push (m := M) (by rw [List.length_take, Nat.min_eq_left (by simp [mapsF]; omega)]) hps (hk1 _ _ (by simpa using HI1.out)) (hk1 _ _ (by simpa using HI2.out)) HO6.out HG6.out (by rw [alloc_size]; exact HAT6.out)
            rw [← HNX.out, ← hmk] at this
            exact this
          · have h1 : Below (w2.heap.size + 1) (w2.alloc (.cells #[.int .i64 L, .slice (some ⟨g, 0, none⟩) l.length cap] 80)) w5 := HBEL.out.trans (HB5.out.mono hz2')
            exact (h1.alloc (by omega) _).grown HG6.out (by rw [alloc_size]; omega) (fun k hk => (HROW.out.lt k hk).1)
      · have d1 : ¬ (k : Int) < (l.length : Int) := by omega
        have hkl : k = l.length := by omega
        clear hbel hown
        go_wp2_with fail
        refine bodyPost_ret (v := .tuple #[u7, .int .i64 0]) (by simp [results, Tryd.results13, go_sem]) rfl ⟨HB.out.trans ((box_below (Nat.le_refl _) HBEL.out).mono hz), .inr ⟨u7, fs, rfl, HLD.out.err, HLD.out.inv, HLD.out.still, ?_⟩⟩
        have := HOWN.out
        rw [hkl, List.take_of_length_le (by simp [mapsF]; omega)] at this
        rw [HL.out, HLL.out]
        exact this.mono (by omega)
end Go.Proofs.YtdmdpindonghdaaDoor
namespace Go.Proofs.YtdmdpindonghdaaDoor
open Go.RowKit
theorem lk_le (b : ByteArray) (j : Nat) : lk b j ≤ 1 := by unfold lk kindN; split <;> omega
theorem codes_lk {b : ByteArray} {j : Nat} (h : j < b.size) : (codes b).getD j 0 = lk b j := codes_get h
theorem zip_getL {a b : List Nat} {L j : Nat} (ha : a.length = L) (hb : b.length = L) (hj : j < L) : (List.zipWith joinN a b).getD j 0 = joinN (a.getD j 0) (b.getD j 0) := by
  have h1 : j < a.length := by omega
  have h2 : j < b.length := by omega
  simp [List.getD_eq_getElem?_getD, List.getElem?_zipWith, List.getElem?_eq_getElem h1, List.getElem?_eq_getElem h2]
theorem list_ext {a b : List Nat} {L : Nat} (ha : a.length = L) (hb : b.length = L) (h : ∀ j, j < L → a.getD j 0 = b.getD j 0) : a = b := by
  apply List.ext_getElem (by omega)
  intro j h1 h2
  have := h j (by omega)
  simpa [List.getD_eq_getElem?_getD, List.getElem?_eq_getElem h1, List.getElem?_eq_getElem h2] using this
structure TS (k L : Nat) (all : List Pt) (a : Ac) : Prop where
  no : a.r = false → ∀ p ∈ all, p.at_ ≠ k
  len : a.r = true → a.lo.length = L
  st : a.r = true → ∃ p ∈ all, p.at_ = k ∧ a.st = codes p.st
  wit : a.r = true → ∀ j, j < L → (∃ p ∈ all, p.at_ = k ∧ a.lo.getD j 0 = lk p.lo j) ∨ (a.lo.getD j 0 = 2 ∧ ∃ p ∈ all, ∃ q ∈ all, p.at_ = k ∧ q.at_ = k ∧ lk p.lo j ≠ lk q.lo j)
  cov : a.r = true → ∀ j, j < L → ∀ p ∈ all, p.at_ = k → a.lo.getD j 0 = lk p.lo j ∨ a.lo.getD j 0 = 2
theorem TS.step {k L : Nat} {all : List Pt} {a : Ac} (h : TS k L all a) {p : Pt} (hp : p.lo.size = L) : TS k L (all ++ [p]) (toldS k a p) := by
  unfold toldS
  by_cases e : p.at_ = k
  · rw [if_pos e]
    have hcl : (codes p.lo).length = L := by rw [codes_len, hp]
    unfold baseA
    cases hr : a.r
    · rw [if_neg (by simp)]
      have hno := h.no hr
      have hg : ∀ j, j < L → (List.zipWith joinN (codes p.lo) (codes p.lo)).getD j 0 = lk p.lo j := fun j hj => by
        rw [zip_getL hcl hcl hj, joinN_eq rfl, codes_lk (by omega)]
      refine ⟨fun h => by (cases h), fun _ => by simp [hcl], fun _ => ⟨p, by simp, e, rfl⟩, fun _ j hj => .inl ⟨p, by simp, e, hg j hj⟩, fun _ j hj q hq hqk => ?_⟩
      rw [List.mem_append, List.mem_singleton] at hq
      rcases hq with hq | rfl
      · exact absurd hqk (hno q hq)
      · exact .inl (hg j hj)
    · rw [if_pos rfl]
      have hal := h.len hr
      have hg : ∀ j, j < L → (List.zipWith joinN a.lo (codes p.lo)).getD j 0 = joinN (a.lo.getD j 0) (lk p.lo j) := fun j hj => by
        rw [zip_getL hal hcl hj, codes_lk (by omega)]
      refine ⟨fun h => by (cases h), fun _ => by simp [hcl, hal], fun _ => ?_, fun _ j hj => ?_, fun _ j hj q hq hqk => ?_⟩
      · obtain ⟨q, hq, h1, h2⟩ := h.st hr
        exact ⟨q, by simp [hq], h1, h2⟩
      · simp only
        rw [hg j hj]
        by_cases ej : a.lo.getD j 0 = lk p.lo j
        · rw [joinN_eq ej]
          exact .inl ⟨p, by simp, e, ej⟩
        · rw [joinN_ne ej]
          refine .inr ⟨rfl, ?_⟩
          rcases h.wit hr j hj with ⟨q, hq, h1, h2⟩ | ⟨_, q, hq, q', hq', h1, h2, h3⟩
          · exact ⟨q, by simp [hq], p, by simp, h1, e, by rw [← h2]; exact ej⟩
          · exact ⟨q, by simp [hq], q', by simp [hq'], h1, h2, h3⟩
      · simp only
        rw [hg j hj]
        rw [List.mem_append, List.mem_singleton] at hq
        by_cases ej : a.lo.getD j 0 = lk p.lo j
        · rw [joinN_eq ej]
          rcases hq with hq | rfl
          · exact h.cov hr j hj q hq hqk
          · exact .inl ej
        · rw [joinN_ne ej]; exact .inr rfl
  · rw [if_neg e]
    refine ⟨fun hr q hq => ?_, h.len, fun hr => ?_, fun hr j hj => ?_, fun hr j hj q hq hqk => ?_⟩
    · rw [List.mem_append, List.mem_singleton] at hq
      rcases hq with hq | rfl
      · exact h.no hr q hq
      · exact e
    · obtain ⟨q, hq, h1, h2⟩ := h.st hr
      exact ⟨q, by simp [hq], h1, h2⟩
    · rcases h.wit hr j hj with ⟨q, hq, h1, h2⟩ | ⟨h0, q, hq, q', hq', h1, h2, h3⟩
      · exact .inl ⟨q, by simp [hq], h1, h2⟩
      · exact .inr ⟨h0, q, by simp [hq], q', by simp [hq'], h1, h2, h3⟩
    · rw [List.mem_append, List.mem_singleton] at hq
      rcases hq with hq | rfl
      · exact h.cov hr j hj q hq hqk
      · exact absurd hqk e
theorem ts_all {k L : Nat} (all : List Pt) (h : ∀ p ∈ all, p.lo.size = L) : TS k L all (toldF k all) := by
  suffices hs : ∀ (rest pre : List Pt) (a : Ac), (∀ p ∈ rest, p.lo.size = L) → TS k L pre a → TS k L (pre ++ rest) (rest.foldl (toldS k) a) from by
    have := hs all [] ⟨false, [], []⟩ h ⟨fun _ p hp => by simp at hp, fun h => by (cases h), fun h => by (cases h), fun h => by (cases h), fun h => by (cases h)⟩
    rw [List.nil_append] at this
    exact this
  intro rest
  induction rest with
  | nil => intro pre a _ h; simpa using h
  | cons p r ih =>
    intro pre a hp h
    have := ih (pre ++ [p]) (toldS k a p) (fun q hq => hp q (by simp [hq])) (h.step (hp p (by simp)))
    simpa using this
theorem stk_codes {f : Fr} {st : ByteArray} (h : Stk f (tl st)) : f.stk.take f.depth = codes st := by
  rw [h.stk, h.depth, List.take_append_of_le_length (by simp), List.take_of_length_le (by simp)]
  rfl
theorem told_same {l : List Ins} {L : Nat} (hw : Wf l L) {fs : List Fr} (hinv : SetInv l L fs) (hst : Still l fs) (hwt : WT l L) {all : List Pt} (hall : ∀ p, Reach l L p ↔ p ∈ all) {k : Nat} {i : Ins} {f : Fr} (hi : l[k]? = some i) (hf : fs[k]? = some f) (pl : Nat) :
    ptF pl f L = ⟨pl, (toldF k all).r, (toldF k all).lo, (toldF k all).st⟩ := by
  have hts : TS k L all (toldF k all) := ts_all all (fun p hp => (reach_ok hw ((hall p).2 hp)).lo)
  have hnone := toldF_none k all
  have hfo := hinv.ok f (List.mem_of_getElem? hf)
  have hL := hw.loc
  have hcov : ∀ lo st, At l L k lo st → Cov f lo st := fun lo st h => by
    obtain ⟨f', h1, h2⟩ := still_all hw hinv.ok hst hinv.cov h
    have : some f' = some f := h1.symm.trans hf
    cases this
    exact h2
  have hin : ∀ p ∈ all, p.at_ = k → At l L k p.lo p.st := fun p hp e => by
    have := (hall p).2 hp
    obtain ⟨a, b, c⟩ := p
    simp only at e
    subst e
    exact this
  have hout : ∀ lo st, At l L k lo st → (⟨k, lo, st⟩ : Pt) ∈ all := fun lo st h => (hall _).1 h
  generalize toldF k all = A at *
  unfold ptF
  cases hr : f.reached
  · rw [if_neg (by simp)]
    have har : A.r = false := by
      cases e : A.r
      · rfl
      · obtain ⟨p, hp, h1, _⟩ := hts.st e
        have := (hcov _ _ (hin p hp h1)).reached
        rw [hr] at this; cases this
    obtain ⟨e1, e2⟩ := hnone har
    rw [har, e1, e2]
  · rw [if_pos rfl]
    have hwit := hinv.sound hwt k f hf hr
    obtain ⟨lo0, st0, h0, hs0⟩ := hwit.one
    have har : A.r = true := by
      cases e : A.r
      · exact absurd rfl (hts.no e _ (hout _ _ h0))
      · rfl
    have est : f.stk.take f.depth = A.st := by
      obtain ⟨p, hp, h1, h2⟩ := hts.st har
      rw [h2, stk_codes hs0]
      have := (calm_st (p := ⟨k, lo0, st0⟩) (q := ⟨k, p.lo, p.st⟩) (hwt.2 _ _ i h0 (hin p hp h1) rfl hi) rfl).1
      simp only at this
      rw [this]
    have elo : f.lo.take L = A.lo := by
      refine list_ext (L := L) (by rw [List.length_take, hfo.lo]; omega) (hts.len har) (fun j hj => ?_)
      have e0 : (f.lo.take L).getD j 0 = f.lo.getD j 0 := by simp [List.getD_eq_getElem?_getD, hj]
      rw [e0]
      rcases hwit.lo j (by omega) with ⟨lo1, st1, h1, e1⟩ | ⟨e1, lo1, st1, lo2, st2, h1, h2, e2⟩
      · rcases hts.cov har j hj _ (hout _ _ h1) rfl with h | h
        · rw [e1]; exact h.symm
        · exfalso
          have l1 := lk_le lo1 j
          rcases hts.wit har j hj with ⟨p, _, _, h3⟩ | ⟨_, p, hp, q, hq, hpk, hqk, h3⟩
          · have := lk_le p.lo j; omega
          · apply h3
            have cp := (hcov _ _ (hin p hp hpk)).lo j (by omega)
            have cq := (hcov _ _ (hin q hq hqk)).lo j (by omega)
            rcases cp with cp | cp
            · rcases cq with cq | cq
              · rw [← cp, ← cq]
              · omega
            · omega
      · rw [e1]
        rcases hts.cov har j hj _ (hout _ _ h1) rfl with h | h
        · rcases hts.cov har j hj _ (hout _ _ h2) rfl with h' | h'
          · exact absurd (h.symm.trans h') e2
          · exact h'.symm
        · exact h.symm
    rw [har, est, elo]
theorem maps_same {l : List Ins} {L : Nat} (hw : Wf l L) {fs : List Fr} (hinv : SetInv l L fs) (hst : Still l fs) (hwt : WT l L) {all : List Pt} (hall : ∀ p, Reach l L p ↔ p ∈ all) : mapsF l fs L = toldAll l all := by
  have hlen := hinv.len
  apply List.ext_getElem
  · simp [mapsF, toldAll]; omega
  · intro k h1 h2
    have hk : k < l.length := by simpa [toldAll] using h2
    have hk2 : k < fs.length := by omega
    simp only [mapsF, List.getElem_zipWith, toldAll, List.getElem_map, List.getElem_range, toldM]
    rw [told_same hw hinv hst hwt hall (List.getElem?_eq_getElem hk) (List.getElem?_eq_getElem hk2) l[k].place]
    simp [List.getD_eq_getElem?_getD, hk]
end Go.Proofs.YtdmdpindonghdaaDoor
namespace Go.Proofs.YtdmdpindonghdaaDoor
open Go.RowKit
/-- What a machine has that no step changes: its code, what Maps tells, its inputs, its number of cells. -/
structure Env where
  l : List Ins
  L : Nat
  ms : List MP
  zs : List Int
  n : Nat
def tysAt (E : Env) (k : Nat) : List Nat × List Nat := match E.ms[k]? with | some m => (m.lo, m.st) | none => ([], [])
def slotsC (tys : List Nat) (ws : List (Bool × Int)) : List (Nat × Int) := List.zipWith (fun t (x : Bool × Int) => (t, slotV t x.2)) tys ws
def locsS (E : Env) (s : MS) : List (Nat × Int) := slotsC (tysAt E s.at_).1 s.lo
def stkS (E : Env) (s : MS) : List (Nat × Int) := slotsC (tysAt E s.at_).2 s.st
def rootsS (E : Env) (s : MS) : List Int := rootsC (locsS E s ++ stkS E s)
def noRC : RC := ⟨false, false, false, false, -1, -1, 0⟩
def cellAt (cs : List RC) (r : Int) : RC := cs.getD r.toNat noRC
def cutS (s : MS) (k : Nat) : List (Bool × Int) := s.st.take (s.st.length - k)
def weakS (a : Int) (c : RC) : RC := { c with weak := true, a := a }
def noteS (v : Int) (c : RC) : RC := { c with num := v }
/-- What an instruction on cells does. -/
def touchS (i : Ins) (cell : Int) (s : MS) : MS :=
  if i.op = 13 then { s with st := s.st ++ [(true, cell)] }
  else if i.op = 23 then { s with hs := (s.hs.1.modify cell.toNat (weakS (lastW s.st 0).2), s.hs.2), st := cutS s 1 ++ [(true, cell)] }
  else if i.op = 14 ∨ i.op = 24 then { s with st := cutS s 1 ++ [(true, if i.n = 0 then (cellAt s.hs.1 (lastW s.st 0).2).a else (cellAt s.hs.1 (lastW s.st 0).2).b)] }
  else if i.op = 16 then { s with st := cutS s 1 ++ [(false, (cellAt s.hs.1 (lastW s.st 0).2).num)] }
  else if i.op = 17 then { s with hs := (s.hs.1.modify (lastW s.st 1).2.toNat (noteS (lastW s.st 0).2), s.hs.2), st := cutS s 2 }
  else if i.op = 15 then { s with hs := (storeC s.hs.1 s.hs.2.1 (lastW s.st 1).2.toNat i.n (lastW s.st 0).2, s.hs.2), st := cutS s 2 }
  else s
/-- What an instruction does to locals, stack, cells, inputs, output. -/
def doesS (E : Env) (i : Ins) (cell : Int) (s : MS) : MS :=
  if i.op = 1 then { s with st := s.st ++ [(false, ((i.n : Int) + 128) % 256 - 128)] }
  else if i.op = 2 ∨ i.op = 3 ∨ i.op = 4 ∨ i.op = 5 ∨ i.op = 6 ∨ i.op = 18 then { s with st := cutS s 2 ++ [(false, sumC i.op (lastW s.st 1).2 (lastW s.st 0).2)] }
  else if i.op = 7 then { s with st := s.st ++ [s.lo.getD i.n (false, 0)] }
  else if i.op = 8 then { s with lo := s.lo.set i.n (lastW s.st 0), st := cutS s 1 }
  else if i.op = 9 then { s with st := s.st ++ [lastW s.st 0] }
  else if i.op = 10 ∨ i.op = 20 then { s with st := cutS s 1 }
  else if i.op = 11 then { s with st := cutS s 2 ++ [lastW s.st 0, lastW s.st 1] }
  else if i.op = 12 then { s with st := s.st ++ [(true, -1)] }
  else if i.op = 21 then (if s.rd < E.zs.length then { s with rd := s.rd + 1, st := s.st ++ [(false, E.zs.getD s.rd 0)] } else { s with st := s.st ++ [(false, 0)] })
  else if i.op = 22 then { s with out := s.out ++ [(lastW s.st 0).2], st := cutS s 1 }
  else touchS i cell s
def toS (E : Env) (i : Ins) (s : MS) : Nat := if i.op = 19 ∨ i.op = 20 ∧ (lastW s.st 0).2 ≠ 0 then (findP i.n E.l 0).toNat else s.at_ + 1
def goS (E : Env) (i : Ins) (cell : Int) (s : MS) : MS := { doesS E i cell s with at_ := toS E i s }
/-- A step at an instruction. -/
def stepI (E : Env) (i : Ins) (s : MS) : MS :=
  if endsC s.hs.1 s.st i.op = 1 then { s with oc := 1, va := (lastW s.st 0).2 }
  else if endsC s.hs.1 s.st i.op ≠ 0 then { s with oc := (endsC s.hs.1 s.st i.op).toNat }
  else if i.op = 13 ∨ i.op = 23 then
    (if (takeC (rootsS E s) s.hs).1 < 0 then { s with oc := 5, hs := (takeC (rootsS E s) s.hs).2 }
     else goS E i (takeC (rootsS E s) s.hs).1 { s with hs := (takeC (rootsS E s) s.hs).2 })
  else goS E i (-1) s
def stepS (E : Env) (s : MS) : MS := match E.l[s.at_]? with | none => s | some i => stepI E i s
/-- Units of the collector's. -/
def collS (E : Env) (n : Nat) (s : MS) : MS := { s with hs := unitsC (rootsS E s) n s.hs }
/-- The point at which a machine stands. -/
def letB (b : Bool) : UInt8 := if b = true then 114 else 105
def flagB (ws : List (Bool × Int)) : ByteArray := ⟨(ws.map (fun x => letB x.1)).toArray⟩
def ptOf (s : MS) : Pt := ⟨s.at_, flagB s.lo, flagB s.st⟩
theorem tl_flag (ws : List (Bool × Int)) : tl (flagB ws) = ws.map (fun x => letB x.1) := rfl
theorem size_flag (ws : List (Bool × Int)) : (flagB ws).size = ws.length := by
  have := tl_len (flagB ws)
  rw [tl_flag, List.length_map] at this
  exact this.symm
theorem code_let (b : Bool) : code8 (letB b) = if b = true then 1 else 0 := by cases b <;> rfl
def kindB (b : Bool) : Nat := if b = true then 1 else 0
theorem codes_flag (ws : List (Bool × Int)) : codes (flagB ws) = ws.map (fun x => kindB x.1) := by
  unfold codes
  rw [tl_flag, List.map_map]
  apply List.map_congr_left
  intro x _
  exact code_let x.1
structure EnvOk (E : Env) : Prop where
  wf : Wf E.l E.L
  wt : WT E.l E.L
  n0 : ∀ i ∈ E.l, takesB i.op = false → i.n = 0
  len : E.ms.length = E.l.length
  place : ∀ (k : Nat) (i : Ins) (m : MP), E.l[k]? = some i → E.ms[k]? = some m → m.place = i.place
  tys : ∀ p, Reach E.l E.L p → ∃ m : MP, E.ms[p.at_]? = some m ∧ m.reached = true ∧ m.st = codes p.st ∧ m.lo.length = E.L ∧ ∀ j, j < E.L → m.lo.getD j 0 = lk p.lo j ∨ m.lo.getD j 0 = 2
  n1 : 1 ≤ E.n
  n32 : E.n ≤ 32
structure MInv (E : Env) (s : MS) : Prop where
  reach : Reach E.l E.L (ptOf s)
  refs : ∀ x ∈ s.lo ++ s.st, x.1 = true → -1 ≤ x.2 ∧ x.2 < (E.n : Int)
  hok : OkS s.hs
  hx : HpX s.hs.1 s.hs.2.1
  n : s.hs.1.length = E.n
  rd : s.rd ≤ E.zs.length
  oc : s.oc ≤ 5
theorem MInv.okp {E : Env} (he : EnvOk E) {s : MS} (h : MInv E s) : Okp E.l E.L (ptOf s) := reach_ok he.wf h.reach
theorem MInv.lo {E : Env} (he : EnvOk E) {s : MS} (h : MInv E s) : s.lo.length = E.L := by
  have := (h.okp he).lo
  rw [show (ptOf s).lo = flagB s.lo from rfl, size_flag] at this
  exact this
theorem MInv.st {E : Env} (he : EnvOk E) {s : MS} (h : MInv E s) : s.st.length ≤ 8 := by
  have := (h.okp he).st
  rw [show (ptOf s).st = flagB s.st from rfl, size_flag] at this
  exact this
theorem MInv.lt {E : Env} (he : EnvOk E) {s : MS} (h : MInv E s) : s.at_ < E.l.length := (h.okp he).at_
/-- The types at the instruction. -/
structure TysOk (E : Env) (s : MS) (m : MP) : Prop where
  get : E.ms[s.at_]? = some m
  st : m.st = s.st.map (fun x => kindB x.1)
  lol : m.lo.length = s.lo.length
  lo : ∀ j (h : j < s.lo.length), m.lo.getD j 0 = kindB s.lo[j].1 ∨ m.lo.getD j 0 = 2
  reached : m.reached = true
theorem MInv.tys {E : Env} (he : EnvOk E) {s : MS} (h : MInv E s) : ∃ m, TysOk E s m := by
  obtain ⟨m, h1, h2, h3, h4, h5⟩ := he.tys _ h.reach
  have hl := h.lo he
  refine ⟨m, h1, ?_, by rw [h4, hl], ?_, h2⟩
  · rw [h3]; exact codes_flag s.st
  · intro j hj
    rcases h5 j (by omega) with e | e
    · left
      rw [e, ← codes_lk (show j < (ptOf s).lo.size by show j < (flagB s.lo).size; rw [size_flag]; exact hj)]
      show (codes (flagB s.lo)).getD j 0 = _
      rw [codes_flag, List.getD_eq_getElem?_getD, List.getElem?_map, List.getElem?_eq_getElem hj]
      rfl
    · exact .inr e
theorem zipRefs {tys : List Nat} {ws : List (Bool × Int)} (h : ∀ j (hj : j < ws.length), tys.getD j 0 = kindB ws[j].1 ∨ tys.getD j 0 = 2) {N : Int} (hw : ∀ x ∈ ws, x.1 = true → -1 ≤ x.2 ∧ x.2 < N) : ∀ r ∈ rootsC (slotsC tys ws), -1 ≤ r ∧ r < N := by
  intro r hr
  unfold rootsC slotsC at hr
  obtain ⟨x, hx, rfl⟩ := List.mem_map.1 hr
  obtain ⟨hx1, hx2⟩ := List.mem_filter.1 hx
  obtain ⟨j, hj, e⟩ := List.mem_iff_getElem.1 hx1
  rw [List.length_zipWith] at hj
  rw [List.getElem_zipWith] at e
  subst e
  have hjw : j < ws.length := by omega
  have hjt : j < tys.length := by omega
  have hg := h j hjw
  rw [List.getD_eq_getElem?_getD, List.getElem?_eq_getElem hjt] at hg
  simp only [Option.getD_some] at hg
  simp only [beq_iff_eq] at hx2
  have hb : ws[j].1 = true := by
    rcases hg with e | e
    · rw [hx2] at e
      unfold kindB at e
      by_cases hb : ws[j].1 = true
      · exact hb
      · rw [if_neg hb] at e; omega
    · omega
  simp only
  unfold slotV
  rw [if_neg (by omega)]
  exact hw _ (List.getElem_mem hjw) hb
theorem MInv.roots {E : Env} (he : EnvOk E) {s : MS} (h : MInv E s) : ∀ r ∈ rootsS E s, -1 ≤ r ∧ r < (E.n : Int) := by
  obtain ⟨m, hm⟩ := h.tys he
  intro r hr
  unfold rootsS locsS stkS tysAt at hr
  rw [hm.get, rootsC_append] at hr
  rcases List.mem_append.1 hr with hr | hr
  · exact zipRefs hm.lo (fun x hx => h.refs x (List.mem_append_left _ hx)) r hr
  · refine zipRefs (fun j hj => .inl ?_) (fun x hx => h.refs x (List.mem_append_right _ hx)) r hr
    show m.st.getD j 0 = _
    rw [hm.st, List.getD_eq_getElem?_getD, List.getElem?_map, List.getElem?_eq_getElem hj]
    rfl
theorem MInv.rootsLen {E : Env} (he : EnvOk E) {s : MS} (h : MInv E s) : (rootsS E s).length ≤ 1000 := by
  have h1 := rootsC_len (locsS E s ++ stkS E s)
  have h2 := h.lo he
  have h3 := h.st he
  have h4 := he.wf.loc
  have h5 : (locsS E s).length ≤ s.lo.length := by unfold locsS slotsC; rw [List.length_zipWith]; omega
  have h6 : (stkS E s).length ≤ s.st.length := by unfold stkS slotsC; rw [List.length_zipWith]; omega
  rw [List.length_append] at h1
  unfold rootsS
  omega
end Go.Proofs.YtdmdpindonghdaaDoor
namespace Go.Proofs.YtdmdpindonghdaaDoor
open Go.RowKit
structure HOk (n : Nat) (h : HSt) : Prop where
  ok : OkS h
  x : HpX h.1 h.2.1
  len : h.1.length = n
theorem HOk.unit {n : Nat} {h : HSt} (k : HOk n h) (rs : List Int) : HOk n (stepC rs h) := ⟨k.ok.step rs, k.x.unit rs, by show (unitC _ _ _ _).1.length = n; rw [unitC_len]; exact k.len⟩
theorem HOk.units {n : Nat} {h : HSt} (k : HOk n h) (rs : List Int) : ∀ m, HOk n (unitsC rs m h)
  | 0 => k
  | m + 1 => (HOk.units k rs m).unit rs
theorem toIdle_ind {rs : List Int} {P : HSt → Prop} (hP : ∀ h, P h → P (stepC rs h)) : ∀ (m : Nat) (h : HSt), P h → P (toIdle rs m h)
  | 0, _, k => k
  | m + 1, h, k => by
    simp only [toIdle]
    split
    · exact k
    · exact toIdle_ind hP m _ (hP h k)
theorem idleC_ind {rs : List Int} {P : HSt → Prop} (hP : ∀ h, P h → P (stepC rs h)) {h : HSt} (k : P h) : P (idleC rs h) := toIdle_ind hP _ h k
theorem HOk.idle {n : Nat} {h : HSt} (k : HOk n h) (rs : List Int) : HOk n (idleC rs h) := idleC_ind (P := HOk n) (fun _ k => k.unit rs) k
theorem toIdle_zero {rs : List Int} : ∀ (m : Nat) (h : HSt), OkS h → muC h ≤ m → (toIdle rs m h).2.1 = 0
  | 0, h, ok, hm => by
    by_cases e : h.2.1 = 0
    · exact e
    · have := mu_dec ok e rs; omega
  | m + 1, h, ok, hm => by
    simp only [toIdle]
    by_cases e : h.2.1 = 0
    · rw [if_pos e]; exact e
    · rw [if_neg e]
      have := mu_dec ok e rs
      exact toIdle_zero m _ (ok.step rs) (by omega)
theorem idleC_phase {rs : List Int} {h : HSt} (ok : OkS h) : (idleC rs h).2.1 = 0 := toIdle_zero _ h ok (Nat.le_refl _)
theorem fresh_ok (d : Bool) : CellOk (freshC d) := ⟨fun h => by (cases h), by simp [freshC], by simp [freshC], fun h => by (cases h)⟩
theorem fresh_col (d : Bool) : colR (freshC d) = if d = true then 3 else 1 := by cases d <;> rfl
theorem lowC_at {h : HSt} (k : 0 ≤ lowC h) : ∃ hl : (lowC h).toNat < h.1.length, h.1[(lowC h).toNat].used = false := by
  rcases firstP_spec (fun c => !c.used) h.1 0 with e | ⟨j, hj, e, hq⟩
  · unfold lowC at k; omega
  · have e' : lowC h = (j : Int) := by unfold lowC; rw [e]; simp
    have : (lowC h).toNat = j := by omega
    refine ⟨by omega, ?_⟩
    simp only [this]
    simpa using hq
theorem HOk.set {n : Nat} {h : HSt} (k : HOk n h) (j : Nat) (c : RC) (hc : CellOk c) (hr : c.a < (n : Int) ∧ c.b < (n : Int)) (h2 : h.2.1 = 2 → colR c ≠ 2) : HOk n (h.1.set j c, h.2) := by
  refine ⟨?_, ⟨?_, ?_⟩, by simp [k.len]⟩
  · refine ⟨by simpa using k.ok.pos, by simpa using k.ok.len, ?_, k.ok.phz, by simpa using k.ok.hand, k.ok.nohand⟩
    intro d hd
    simp only [List.length_set]
    rcases List.mem_or_eq_of_mem_set hd with e | e
    · exact k.ok.refs d e
    · subst e; rw [k.len]; exact hr
  · intro d hd
    rcases List.mem_or_eq_of_mem_set hd with e | e
    · exact k.x.cell d e
    · subst e; exact hc
  · intro e2 d hd
    rcases List.mem_or_eq_of_mem_set hd with e | e
    · exact k.x.nogrey e2 d e
    · subst e; exact h2 e2
theorem HOk.modify {n : Nat} {h : HSt} (k : HOk n h) (j : Nat) (f : RC → RC) (hf : ∀ c ∈ h.1, c.a < (n : Int) → c.b < (n : Int) → CellOk c → h.1[j]? = some c → CellOk (f c) ∧ (f c).a < (n : Int) ∧ (f c).b < (n : Int) ∧ colR (f c) = colR c) : HOk n (h.1.modify j f, h.2) := by
  by_cases hj : j < h.1.length
  · rw [modify_set hj]
    have hm := List.getElem_mem hj
    have hr := k.ok.refs _ hm
    rw [k.len] at hr
    obtain ⟨a1, a2, a3, a4⟩ := hf _ hm hr.1 hr.2 (k.x.cell _ hm) (List.getElem?_eq_getElem hj)
    exact k.set j _ a1 ⟨a2, a3⟩ (fun e => by rw [a4]; exact k.x.nogrey e _ hm)
  · rw [List.modify_eq_self (by omega)]; exact k
theorem HOk.begin {n : Nat} {h : HSt} (k : HOk n h) : HOk n (beginC h).2 :=
  k.set _ _ (fresh_ok _) (by have := k.ok.pos; have := k.len; simp only [freshC]; omega) (fun _ => by rw [fresh_col]; split <;> omega)
theorem HOk.take {n : Nat} {h : HSt} (k : HOk n h) (rs : List Int) : HOk n (takeC rs h).2 ∧ (takeC rs h).1 < (n : Int) ∧ -1 ≤ (takeC rs h).1 := by
  have hb : ∀ {q : HSt}, HOk n q → 0 ≤ lowC q → HOk n (beginC q).2 ∧ (beginC q).1 < (n : Int) ∧ -1 ≤ (beginC q).1 := fun {q} kq hq => ⟨kq.begin, by
    obtain ⟨hl, _⟩ := lowC_at hq
    rw [kq.len] at hl
    show lowC q < _
    omega, by show -1 ≤ lowC q; omega⟩
  unfold takeC
  split
  · exact hb k (by assumption)
  split
  · exact hb (k.idle rs) (by assumption)
  split
  · exact hb (((k.idle rs).unit rs).idle rs) (by assumption)
  · exact ⟨((k.idle rs).unit rs).idle rs, by have := k.ok.pos; have := k.len; simp only; omega, by simp⟩
theorem reachC_one (cs : List RC) (r : Int) : reachC cs [r] = if 0 ≤ r then cs.modify r.toNat markC else cs := rfl
theorem HOk.reach1 {n : Nat} {h : HSt} (k : HOk n h) (h1 : h.2.1 ≠ 2) (r : Int) : HOk n (reachC h.1 [r], h.2) := by
  rw [reachC_one]
  split
  · by_cases hj : r.toNat < h.1.length
    · rw [modify_set hj]
      have hm := List.getElem_mem hj
      have hr := k.ok.refs _ hm
      rw [k.len] at hr
      exact k.set _ _ (k.x.cell _ hm).mark hr (fun e => absurd e h1)
    · rw [List.modify_eq_self (by omega)]; exact k
  · exact k
theorem setAB_fix (m : Nat) (v : Int) (c : RC) : colR (setAB m v c) = colR c ∧ (setAB m v c).used = c.used ∧ (setAB m v c).weak = c.weak ∧ (setAB m v c).num = c.num := by
  unfold setAB; split <;> exact ⟨rfl, rfl, rfl, rfl⟩
theorem HOk.store {n : Nat} {h : HSt} (k : HOk n h) (r m : Nat) (v : Int) (hv : -1 ≤ v ∧ v < (n : Int)) (hc : ∀ c, h.1[r]? = some c → c.weak = false) : HOk n (storeC h.1 h.2.1 r m v, h.2) := by
  have k1 : HOk n (h.1.modify r (setAB m v), h.2) := k.modify r _ (fun c _ ha hb ho hg => by
    obtain ⟨e1, _, e3, _⟩ := setAB_fix m v c
    have u2 := hc c hg
    refine ⟨⟨fun _ => by rw [e3, u2], ?_, ?_, fun e => by (rw [e3, u2] at e; cases e)⟩, ?_, ?_, e1⟩
    · unfold setAB; split
      · exact hv.1
      · exact ho.lowA
    · unfold setAB; split
      · exact ho.lowB
      · exact hv.1
    · unfold setAB; split
      · exact hv.2
      · exact ha
    · unfold setAB; split
      · exact hb
      · exact hv.2)
  unfold storeC
  split
  · rename_i e
    exact k1.reach1 (by simp only; omega) v
  · exact k1
theorem HOk.weak {n : Nat} {h : HSt} (k : HOk n h) (r : Nat) (v : Int) (hv : -1 ≤ v ∧ v < (n : Int)) (hc : ∀ c, h.1[r]? = some c → c.used = true ∧ c.b = -1 ∧ c.num = 0) : HOk n (h.1.modify r (weakS v), h.2) :=
  k.modify r _ (fun c _ _ hb _ hg => by
    obtain ⟨u1, u2, u3⟩ := hc c hg
    exact ⟨⟨fun e => by (exact absurd (u1.symm.trans e) (by simp)), hv.1, by show -1 ≤ c.b; omega, fun _ => ⟨u2, u3⟩⟩, hv.2, hb, rfl⟩)
theorem HOk.note {n : Nat} {h : HSt} (k : HOk n h) (r : Nat) (v : Int) (hc : ∀ c, h.1[r]? = some c → c.weak = false) : HOk n (h.1.modify r (noteS v), h.2) :=
  k.modify r _ (fun c _ ha hb ho hg => by
    have u2 := hc c hg
    exact ⟨⟨fun _ => u2, ho.lowA, ho.lowB, fun e => by (exact absurd (u2.symm.trans e) (by simp))⟩, ha, hb, rfl⟩)
end Go.Proofs.YtdmdpindonghdaaDoor
namespace Go.Proofs.YtdmdpindonghdaaDoor
open Go.RowKit
theorem afterV_std {lo st : ByteArray} {op n : Nat} (h : op ≠ 7 ∧ op ≠ 8 ∧ op ≠ 9 ∧ op ≠ 10 ∧ op ≠ 11) (ht : (afterV lo st op n).2.2 = true) :
    (afterV lo st op n).1 = lo ∧ tl (afterV lo st op n).2.1 = (tl st).take (st.size - (popsL op).length) ++ pushesL op ∧ (popsL op).length ≤ st.size ∧ (tl st).drop (st.size - (popsL op).length) = popsL op := by
  obtain ⟨h7, h8, h9, h10, h11⟩ := h
  have hs : (popsS op).size = (popsL op).length := rfl
  unfold afterV at ht ⊢
  simp only [if_neg h7, if_neg h8, if_neg h9, if_neg h10, if_neg h11] at ht ⊢
  by_cases hk : st.size < (popsS op).size
  · rw [if_pos hk] at ht; cases ht
  rw [if_neg hk] at ht ⊢
  by_cases hx : st.extract (st.size - (popsS op).size) st.size = popsS op
  · rw [if_pos hx]
    have e := congrArg tl hx
    rw [tl_extract] at e
    refine ⟨rfl, ?_, by omega, ?_⟩
    · show tl (_ ++ _) = _
      rw [tl_append, tl_extract]
      simp only [List.drop_zero, Nat.sub_zero]
      rfl
    · rw [List.take_of_length_le (by rw [List.length_drop, tl_len]; omega)] at e
      exact e
  · rw [if_neg hx] at ht; cases ht
/-- The instruction at which a machine stands can be done. -/
structure CanI (E : Env) (s : MS) (i : Ins) : Prop where
  get : E.l[s.at_]? = some i
  ok : (afterV (flagB s.lo) (flagB s.st) i.op i.n).2.2 = true
  le : (afterV (flagB s.lo) (flagB s.st) i.op i.n).2.1.size ≤ 8
theorem MInv.can {E : Env} (he : EnvOk E) {s : MS} (h : MInv E s) : ∃ i, CanI E s i := by
  have hlt := h.lt he
  have hi : E.l[(ptOf s).at_]? = some E.l[s.at_] := List.getElem?_eq_getElem hlt
  have hs := he.wt.1 _ h.reach
  rw [stepP_eq hi] at hs
  have hn : ¬ ((afterV (flagB s.lo) (flagB s.st) E.l[s.at_].op E.l[s.at_].n).2.2 = false ∨ 8 < (afterV (flagB s.lo) (flagB s.st) E.l[s.at_].op E.l[s.at_].n).2.1.size) := by
    intro hc
    exact hs (if_pos hc)
  simp only [not_or, Bool.not_eq_false, Nat.not_lt] at hn
  exact ⟨_, hi, hn.1, hn.2⟩
theorem CanI.mem {E : Env} {s : MS} {i : Ins} (h : CanI E s i) : i ∈ E.l := List.mem_of_getElem? h.get
/-- The words that an instruction pops, and their flags. -/
structure Std (s : MS) (op : Nat) : Prop where
  len : (popsL op).length ≤ s.st.length
  flags : (s.st.drop (s.st.length - (popsL op).length)).map (fun x => letB x.1) = popsL op
theorem CanI.std {E : Env} {s : MS} {i : Ins} (h : CanI E s i) (hn : i.op ≠ 7 ∧ i.op ≠ 8 ∧ i.op ≠ 9 ∧ i.op ≠ 10 ∧ i.op ≠ 11) : Std s i.op := by
  obtain ⟨_, _, h3, h4⟩ := afterV_std hn h.ok
  rw [size_flag] at h3
  rw [tl_flag, size_flag, ← List.map_drop] at h4
  exact ⟨h3, h4⟩
theorem drop_lastW {st : List (Bool × Int)} {k : Nat} (h : k < st.length) : st.drop (st.length - 1 - k) = lastW st k :: st.drop (st.length - k) := by
  have e := lastW_at h
  have hl := (List.getElem?_eq_some_iff.1 e).1
  rw [List.drop_eq_getElem_cons hl, (List.getElem?_eq_some_iff.1 e).2]
  congr 2
  omega
theorem letB_r {b : Bool} (h : letB b = 114) : b = true := by cases b; · exact absurd h (by decide)
                                                              · rfl
theorem letB_i {b : Bool} (h : letB b = 105) : b = false := by cases b; · rfl
                                                               · exact absurd h (by decide)
theorem Std.one {s : MS} {op : Nat} {c : UInt8} (h : Std s op) (e : popsL op = [c]) : 0 < s.st.length ∧ letB (lastW s.st 0).1 = c := by
  have h1 := h.len
  have h2 := h.flags
  rw [e] at h1 h2
  simp only [List.length_cons, List.length_nil] at h1 h2
  have hp : 0 < s.st.length := by omega
  refine ⟨hp, ?_⟩
  rw [show s.st.length - (0 + 1) = s.st.length - 1 - 0 by omega, drop_lastW hp] at h2
  simpa using h2
theorem Std.two {s : MS} {op : Nat} {c d : UInt8} (h : Std s op) (e : popsL op = [c, d]) : 1 < s.st.length ∧ letB (lastW s.st 1).1 = c ∧ letB (lastW s.st 0).1 = d := by
  have h1 := h.len
  have h2 := h.flags
  rw [e] at h1 h2
  simp only [List.length_cons, List.length_nil] at h1 h2
  have hp : 1 < s.st.length := by omega
  refine ⟨hp, ?_⟩
  rw [show s.st.length - (0 + 1 + 1) = s.st.length - 1 - 1 by omega, drop_lastW hp, show s.st.length - 1 = s.st.length - 1 - 0 by omega, drop_lastW (by omega)] at h2
  simpa using h2
theorem lastW_mem {st : List (Bool × Int)} {k : Nat} (h : k < st.length) : lastW st k ∈ st := List.mem_of_getElem? (lastW_at h)
theorem MInv.ref {E : Env} {s : MS} (h : MInv E s) {k : Nat} (hk : k < s.st.length) (hb : (lastW s.st k).1 = true) : -1 ≤ (lastW s.st k).2 ∧ (lastW s.st k).2 < (E.n : Int) := h.refs _ (List.mem_append_right _ (lastW_mem hk)) hb
theorem flag_ext {ws : List (Bool × Int)} {b : ByteArray} (h : ws.map (fun x => letB x.1) = tl b) : flagB ws = b := tl_inj (by rw [tl_flag]; exact h)
theorem flags_last {ws : List (Bool × Int)} {k : Nat} (h : k < ws.length) : tl ((flagB ws).extract ((flagB ws).size - 1 - k) ((flagB ws).size - k)) = [letB (lastW ws k).1] := by
  rw [tl_extract, size_flag, tl_flag, ← List.map_drop, ← List.map_take, drop_lastW h, show ws.length - k - (ws.length - 1 - k) = 1 by omega]
  simp
/-- The flags behind an instruction are its types behind it. -/
theorem does_flags {E : Env} (he : EnvOk E) {s : MS} (h : MInv E s) {i : Ins} (hc : CanI E s i) (h0 : i.op ≠ 0) (cell : Int) :
    flagB (doesS E i cell s).lo = (afterV (flagB s.lo) (flagB s.st) i.op i.n).1 ∧ flagB (doesS E i cell s).st = (afterV (flagB s.lo) (flagB s.st) i.op i.n).2.1 := by
  have hlo := h.lo he
  have hok := hc.ok
  have hsz := size_flag s.st
  by_cases e7 : i.op = 7
  · have hn := he.wf.arg i hc.mem (.inl e7)
    have hnl : i.n < s.lo.length := by omega
    unfold afterV doesS
    simp only [e7, if_pos]
    simp only [reduceIte, show (7 : Nat) ≠ 1 by decide, show ¬ ((7 : Nat) = 2 ∨ (7 : Nat) = 3 ∨ (7 : Nat) = 4 ∨ (7 : Nat) = 5 ∨ (7 : Nat) = 6 ∨ (7 : Nat) = 18) by decide]
    refine ⟨trivial, flag_ext ?_⟩
    rw [tl_append, tl_extract, tl_flag, tl_flag, List.map_append, show i.n + 1 - i.n = 1 by omega, List.drop_eq_getElem_cons (by simpa using hnl)]
    simp [List.getElem?_eq_getElem hnl]
  by_cases e8 : i.op = 8
  · have hn := he.wf.arg i hc.mem (.inr e8)
    have hnl : i.n < s.lo.length := by omega
    unfold afterV at hok ⊢
    unfold doesS
    simp only [e8] at hok ⊢
    simp only [reduceIte, show (8 : Nat) ≠ 1 by decide, show (8 : Nat) ≠ 7 by decide, show ¬ ((8 : Nat) = 2 ∨ (8 : Nat) = 3 ∨ (8 : Nat) = 4 ∨ (8 : Nat) = 5 ∨ (8 : Nat) = 6 ∨ (8 : Nat) = 18) by decide] at hok ⊢
    by_cases hk : (flagB s.st).size < 1
    · rw [if_pos hk] at hok; cases hok
    rw [if_neg hk]
    have hp : 0 < s.st.length := by omega
    have hfl := flags_last hp
    simp only [Nat.sub_zero] at hfl
    refine ⟨flag_ext ?_, flag_ext ?_⟩
    · show (s.lo.set i.n (lastW s.st 0)).map _ = _
      rw [tl_append, tl_append, hfl, tl_extract, tl_extract, tl_flag, List.map_set, Nat.sub_zero, List.drop_zero, size_flag]
      rw [List.take_of_length_le (l := List.drop _ _) (by simp)]
      rw [List.set_eq_take_append_cons_drop, if_pos (by simpa using hnl)]
      simp
    · show (cutS s 1).map _ = _
      rw [tl_extract, tl_flag, size_flag, List.drop_zero, Nat.sub_zero, ← List.map_take]
      rfl
  by_cases e9 : i.op = 9
  · unfold afterV at hok ⊢
    unfold doesS
    simp only [e9] at hok ⊢
    simp only [reduceIte, show (9 : Nat) ≠ 1 by decide, show (9 : Nat) ≠ 7 by decide, show (9 : Nat) ≠ 8 by decide, show ¬ ((9 : Nat) = 2 ∨ (9 : Nat) = 3 ∨ (9 : Nat) = 4 ∨ (9 : Nat) = 5 ∨ (9 : Nat) = 6 ∨ (9 : Nat) = 18) by decide] at hok ⊢
    by_cases hk : (flagB s.st).size < 1
    · rw [if_pos hk] at hok; cases hok
    rw [if_neg hk]
    have hp : 0 < s.st.length := by omega
    have hfl := flags_last hp
    simp only [Nat.sub_zero] at hfl
    refine ⟨rfl, flag_ext ?_⟩
    rw [tl_append, hfl, tl_flag, List.map_append]
    rfl
  by_cases e10 : i.op = 10
  · unfold afterV at hok ⊢
    unfold doesS
    simp only [e10] at hok ⊢
    simp only [reduceIte, show (10 : Nat) ≠ 1 by decide, show (10 : Nat) ≠ 7 by decide, show (10 : Nat) ≠ 8 by decide, show (10 : Nat) ≠ 9 by decide, show ¬ ((10 : Nat) = 2 ∨ (10 : Nat) = 3 ∨ (10 : Nat) = 4 ∨ (10 : Nat) = 5 ∨ (10 : Nat) = 6 ∨ (10 : Nat) = 18) by decide, true_or] at hok ⊢
    by_cases hk : (flagB s.st).size < 1
    · rw [if_pos hk] at hok; cases hok
    rw [if_neg hk]
    refine ⟨rfl, flag_ext ?_⟩
    show (cutS s 1).map _ = _
    rw [tl_extract, tl_flag, size_flag, List.drop_zero, Nat.sub_zero, ← List.map_take]
    rfl
  by_cases e11 : i.op = 11
  · unfold afterV at hok ⊢
    unfold doesS
    simp only [e11] at hok ⊢
    simp only [reduceIte, show (11 : Nat) ≠ 1 by decide, show (11 : Nat) ≠ 7 by decide, show (11 : Nat) ≠ 8 by decide, show (11 : Nat) ≠ 9 by decide, show (11 : Nat) ≠ 10 by decide, show ¬ ((11 : Nat) = 2 ∨ (11 : Nat) = 3 ∨ (11 : Nat) = 4 ∨ (11 : Nat) = 5 ∨ (11 : Nat) = 6 ∨ (11 : Nat) = 18) by decide] at hok ⊢
    by_cases hk : (flagB s.st).size < 2
    · rw [if_pos hk] at hok; cases hok
    rw [if_neg hk]
    have f0 := flags_last (ws := s.st) (k := 0) (by omega)
    have f1 := flags_last (ws := s.st) (k := 1) (by omega)
    simp only [Nat.sub_zero] at f0
    rw [show (flagB s.st).size - 1 - 1 = (flagB s.st).size - 2 by omega] at f1
    refine ⟨rfl, flag_ext ?_⟩
    rw [tl_append, tl_append, f0, f1, tl_extract, tl_flag, size_flag, List.drop_zero, Nat.sub_zero, ← List.map_take]
    show (cutS s 2 ++ [lastW s.st 0, lastW s.st 1]).map _ = _
    simp [cutS]
  obtain ⟨a1, a2, a3, a4⟩ := afterV_std ⟨e7, e8, e9, e10, e11⟩ hok
  rw [size_flag, tl_flag, ← List.map_take] at a2
  have hop := he.wf.op i hc.mem
  suffices hs : (doesS E i cell s).lo = s.lo ∧ (doesS E i cell s).st.map (fun x => letB x.1) = (s.st.take (s.st.length - (popsL i.op).length)).map (fun x => letB x.1) ++ pushesL i.op by
    exact ⟨by rw [hs.1, a1], flag_ext (by rw [hs.2, a2])⟩
  unfold doesS touchS cutS
  have hcases : i.op = 1 ∨ i.op = 2 ∨ i.op = 3 ∨ i.op = 4 ∨ i.op = 5 ∨ i.op = 6 ∨ i.op = 12 ∨ i.op = 13 ∨ i.op = 14 ∨ i.op = 15 ∨ i.op = 16 ∨ i.op = 17 ∨ i.op = 18 ∨ i.op = 19 ∨ i.op = 20 ∨ i.op = 21 ∨ i.op = 22 ∨ i.op = 23 ∨ i.op = 24 := by omega
  rcases hcases with e | e | e | e | e | e | e | e | e | e | e | e | e | e | e | e | e | e | e
  all_goals
    simp only [e, popsL, pushesL]
    simp only [Nat.reduceEqDiff, or_false, or_true, or_self, true_and, if_true, if_false]
  case inr.inr.inr.inr.inr.inr.inr.inr.inr.inr.inr.inr.inr.inr.inr.inl => split <;> simp [letB]
  all_goals simp [letB]
theorem endsC_range {cs : List RC} {st : List (Bool × Int)} {op : Int} : 0 ≤ endsC cs st op ∧ endsC cs st op ≤ 4 := by
  have hw : ∀ r b, 0 ≤ wantsC cs r b ∧ wantsC cs r b ≤ 4 := by
    intro r b
    unfold wantsC
    split
    · omega
    split <;> omega
  unfold endsC
  split
  · omega
  split
  · split <;> omega
  split
  · exact hw _ _
  split
  · exact hw _ _
  split
  · exact hw _ _
  · omega
theorem endsC_halt {cs : List RC} {st : List (Bool × Int)} {op : Int} (h : endsC cs st op ≠ 1) : op ≠ 0 := by
  intro e
  apply h
  unfold endsC
  rw [if_pos e]
theorem wantsC_zero {cs : List RC} {r : Int} {b : Bool} (h : wantsC cs r b = 0) (hr : r < (cs.length : Int)) : 0 ≤ r ∧ ∃ hl : r.toNat < cs.length, cs[r.toNat].weak = b := by
  unfold wantsC at h
  by_cases h0 : r < 0
  · rw [if_pos h0] at h; omega
  rw [if_neg h0] at h
  have hl : r.toNat < cs.length := by omega
  refine ⟨by omega, hl, ?_⟩
  rw [List.getElem?_eq_getElem hl] at h
  by_cases e : cs[r.toNat].weak = b
  · exact e
  · rw [if_neg (by simpa using e)] at h; omega
theorem low_used {h : HSt} (hl : 0 ≤ lowC h) : (beginC h).2.1[(beginC h).1.toNat]? = some (freshC (doneB h.2.1 h.2.2 (lowC h).toNat)) := by
  obtain ⟨hlt, _⟩ := lowC_at hl
  show (h.1.set (lowC h).toNat _)[(lowC h).toNat]? = _
  rw [List.getElem?_set_self hlt]
/-- The cell that is taken is a fresh one. -/
theorem take_fresh {h : HSt} (rs : List Int) (hc : ¬ (takeC rs h).1 < 0) : ∃ d, (takeC rs h).2.1[(takeC rs h).1.toNat]? = some (freshC d) := by
  unfold takeC at hc ⊢
  split
  · exact ⟨_, low_used (by assumption)⟩
  rename_i h1
  rw [if_neg h1] at hc
  split
  · exact ⟨_, low_used (by assumption)⟩
  rename_i h2
  rw [if_neg h2] at hc
  split
  · exact ⟨_, low_used (by assumption)⟩
  rename_i h3
  rw [if_neg h3] at hc
  simp at hc
theorem MInv.hh {E : Env} {s : MS} (h : MInv E s) : HOk E.n s.hs := ⟨h.hok, h.hx, h.n⟩
theorem cut_sub {s : MS} {k : Nat} {x : Bool × Int} (h : x ∈ cutS s k) : x ∈ s.st := List.mem_of_mem_take h
/-- What an instruction leaves: references in range, a heap in order. -/
structure DoneOk (E : Env) (s : MS) : Prop where
  refs : ∀ x ∈ s.lo ++ s.st, x.1 = true → -1 ≤ x.2 ∧ x.2 < (E.n : Int)
  hh : HOk E.n s.hs
  rd : s.rd ≤ E.zs.length
theorem does_ok {E : Env} (he : EnvOk E) {s : MS} {i : Ins} (hlen : s.lo.length = E.L) (hd : DoneOk E s) (hc : CanI E s i) (hends : endsC s.hs.1 s.st i.op = 0) (cell : Int) (hcell : i.op = 13 ∨ i.op = 23 → 0 ≤ cell ∧ cell < (E.n : Int) ∧ ∃ d, s.hs.1[cell.toNat]? = some (freshC d)) : DoneOk E (doesS E i cell s) := by
  have hop := he.wf.op i hc.mem
  have hlo : ∀ {x}, x ∈ s.lo → x.1 = true → -1 ≤ x.2 ∧ x.2 < (E.n : Int) := fun hx => hd.refs _ (List.mem_append_left _ hx)
  have hst : ∀ {x}, x ∈ s.st → x.1 = true → -1 ≤ x.2 ∧ x.2 < (E.n : Int) := fun hx => hd.refs _ (List.mem_append_right _ hx)
  have push : ∀ (k : Nat) (ws : List (Bool × Int)), (∀ x ∈ ws, x.1 = true → -1 ≤ x.2 ∧ x.2 < (E.n : Int)) → ∀ x ∈ s.lo ++ (cutS s k ++ ws), x.1 = true → -1 ≤ x.2 ∧ x.2 < (E.n : Int) := by
    intro k ws hws x hx
    rcases List.mem_append.1 hx with hx | hx
    · exact hlo hx
    rcases List.mem_append.1 hx with hx | hx
    · exact hst (cut_sub hx)
    · exact hws x hx
  have push0 : ∀ (ws : List (Bool × Int)), (∀ x ∈ ws, x.1 = true → -1 ≤ x.2 ∧ x.2 < (E.n : Int)) → ∀ x ∈ s.lo ++ (s.st ++ ws), x.1 = true → -1 ≤ x.2 ∧ x.2 < (E.n : Int) := by
    intro ws hws x hx
    have := push 0 ws hws x
    unfold cutS at this
    rw [Nat.sub_zero, List.take_length] at this
    exact this hx
  have cut : ∀ (k : Nat), ∀ x ∈ s.lo ++ cutS s k, x.1 = true → -1 ≤ x.2 ∧ x.2 < (E.n : Int) := by
    intro k x hx
    exact push k [] (by simp) x (by simpa using hx)
  have hlen8 : ∀ {k : Nat}, k < s.st.length → (lastW s.st k).1 = true → -1 ≤ (lastW s.st k).2 ∧ (lastW s.st k).2 < (E.n : Int) := fun hk => hst (lastW_mem hk)
  have hpos : (0 : Int) < (E.n : Int) := by have := he.n1; omega
  have hN := hd.hh.len
  have crefs : ∀ r, -1 ≤ (cellAt s.hs.1 r).a ∧ (cellAt s.hs.1 r).a < (E.n : Int) ∧ -1 ≤ (cellAt s.hs.1 r).b ∧ (cellAt s.hs.1 r).b < (E.n : Int) := by
    intro r
    unfold cellAt
    rw [List.getD_eq_getElem?_getD]
    by_cases hr : r.toNat < s.hs.1.length
    · rw [List.getElem?_eq_getElem hr]
      have h1 := hd.hh.ok.refs _ (List.getElem_mem hr)
      have h2 := hd.hh.x.cell _ (List.getElem_mem hr)
      rw [hN] at h1
      exact ⟨h2.lowA, h1.1, h2.lowB, h1.2⟩
    · rw [List.getElem?_eq_none (by omega)]
      simp only [Option.getD_none, noRC]
      omega
  by_cases e1 : i.op = 1
  · simp only [doesS, e1, if_true]
    exact ⟨push0 _ (by simp), hd.hh, hd.rd⟩
  by_cases e2 : i.op = 2 ∨ i.op = 3 ∨ i.op = 4 ∨ i.op = 5 ∨ i.op = 6 ∨ i.op = 18
  · simp only [doesS, if_neg e1, if_pos e2]
    exact ⟨push _ _ (by simp), hd.hh, hd.rd⟩
  by_cases e7 : i.op = 7
  · simp only [doesS, if_neg e1, if_neg e2, if_pos e7]
    refine ⟨push0 _ ?_, hd.hh, hd.rd⟩
    have hn := he.wf.arg i hc.mem (.inl e7)
    have hnl : i.n < s.lo.length := by omega
    rw [List.getD_eq_getElem?_getD, List.getElem?_eq_getElem hnl]
    simpa using hlo (List.getElem_mem hnl)
  by_cases e8 : i.op = 8
  · simp only [doesS, if_neg e1, if_neg e2, if_neg e7, if_pos e8]
    have hp : 0 < s.st.length := by
      have := hc.ok
      unfold afterV at this
      rw [if_neg e7, if_pos e8, size_flag] at this
      by_cases hk : s.st.length < 1
      · rw [if_pos hk] at this; cases this
      · omega
    refine ⟨?_, hd.hh, hd.rd⟩
    intro x hx
    rcases List.mem_append.1 hx with hx | hx
    · rcases List.mem_or_eq_of_mem_set hx with hx | hx
      · exact hlo hx
      · rw [hx]; exact hlen8 hp
    · exact hst (cut_sub hx)
  by_cases e9 : i.op = 9
  · simp only [doesS, if_neg e1, if_neg e2, if_neg e7, if_neg e8, if_pos e9]
    have hp : 0 < s.st.length := by
      have := hc.ok
      unfold afterV at this
      rw [if_neg e7, if_neg e8, if_pos e9, size_flag] at this
      by_cases hk : s.st.length < 1
      · rw [if_pos hk] at this; cases this
      · omega
    refine ⟨push0 _ ?_, hd.hh, hd.rd⟩
    simpa using hlen8 hp
  by_cases e10 : i.op = 10 ∨ i.op = 20
  · simp only [doesS, if_neg e1, if_neg e2, if_neg e7, if_neg e8, if_neg e9, if_pos e10]
    exact ⟨cut 1, hd.hh, hd.rd⟩
  by_cases e11 : i.op = 11
  · simp only [doesS, if_neg e1, if_neg e2, if_neg e7, if_neg e8, if_neg e9, if_neg e10, if_pos e11]
    have hp : 1 < s.st.length := by
      have := hc.ok
      unfold afterV at this
      rw [if_neg e7, if_neg e8, if_neg e9, if_neg (fun e => e10 (.inl e)), if_pos e11, size_flag] at this
      by_cases hk : s.st.length < 2
      · rw [if_pos hk] at this; cases this
      · omega
    refine ⟨push _ _ ?_, hd.hh, hd.rd⟩
    intro x hx
    rcases List.mem_cons.1 hx with rfl | hx
    · exact hlen8 (by omega)
    · rw [List.mem_singleton.1 hx]; exact hlen8 hp
  by_cases e12 : i.op = 12
  · simp only [doesS, if_neg e1, if_neg e2, if_neg e7, if_neg e8, if_neg e9, if_neg e10, if_neg e11, if_pos e12]
    refine ⟨push0 _ ?_, hd.hh, hd.rd⟩
    intro x hx
    rw [List.mem_singleton.1 hx]
    simp only
    omega
  by_cases e21 : i.op = 21
  · simp only [doesS, if_neg e1, if_neg e2, if_neg e7, if_neg e8, if_neg e9, if_neg e10, if_neg e11, if_neg e12, if_pos e21]
    split
    · exact ⟨push0 _ (by simp), hd.hh, by simp only; omega⟩
    · exact ⟨push0 _ (by simp), hd.hh, hd.rd⟩
  by_cases e22 : i.op = 22
  · simp only [doesS, if_neg e1, if_neg e2, if_neg e7, if_neg e8, if_neg e9, if_neg e10, if_neg e11, if_neg e12, if_neg e21, if_pos e22]
    exact ⟨cut 1, hd.hh, hd.rd⟩
  have hstd := hc.std ⟨e7, e8, e9, fun e => e10 (.inl e), e11⟩
  simp only [doesS, if_neg e1, if_neg e2, if_neg e7, if_neg e8, if_neg e9, if_neg e10, if_neg e11, if_neg e12, if_neg e21, if_neg e22]
  have hi : ∀ k : Nat, i.op = k → (i.op : Int) = (k : Int) := fun k e => by rw [e]
  by_cases e13 : i.op = 13
  · simp only [touchS, if_pos e13]
    obtain ⟨c1, c2, _⟩ := hcell (.inl e13)
    refine ⟨push0 _ ?_, hd.hh, hd.rd⟩
    intro x hx
    rw [List.mem_singleton.1 hx]
    simp only
    omega
  by_cases e23 : i.op = 23
  · simp only [touchS, if_neg e13, if_pos e23]
    obtain ⟨c1, c2, d, c3⟩ := hcell (.inr e23)
    obtain ⟨hp, hf⟩ := hstd.one (c := 114) (by rw [e23]; rfl)
    refine ⟨push _ _ ?_, hd.hh.weak _ _ (hlen8 hp (letB_r hf)) ?_, hd.rd⟩
    · intro x hx
      rw [List.mem_singleton.1 hx]
      simp only
      omega
    · intro c hcc
      rw [c3] at hcc
      cases hcc
      exact ⟨rfl, rfl, rfl⟩
  by_cases e14 : i.op = 14 ∨ i.op = 24
  · simp only [touchS, if_neg e13, if_neg e23, if_pos e14]
    refine ⟨push _ _ ?_, hd.hh, hd.rd⟩
    have := crefs (lastW s.st 0).2
    intro x hx
    rw [List.mem_singleton.1 hx]
    simp only
    split <;> omega
  by_cases e16 : i.op = 16
  · simp only [touchS, if_neg e13, if_neg e23, if_neg e14, if_pos e16]
    exact ⟨push _ _ (by simp), hd.hh, hd.rd⟩
  by_cases e17 : i.op = 17
  · simp only [touchS, if_neg e13, if_neg e23, if_neg e14, if_neg e16, if_pos e17]
    obtain ⟨hp, hf, _⟩ := hstd.two (c := 114) (d := 105) (by rw [e17]; rfl)
    have hr := hlen8 hp (letB_r hf)
    have hw : wantsC s.hs.1 (lastW s.st 1).2 false = 0 := by rw [← hends, hi 17 e17]; rfl
    obtain ⟨_, hl, hwk⟩ := wantsC_zero hw (by rw [hN]; exact hr.2)
    refine ⟨cut 2, hd.hh.note _ _ ?_, hd.rd⟩
    intro c hcc
    rw [List.getElem?_eq_getElem hl] at hcc
    cases hcc
    exact hwk
  by_cases e15 : i.op = 15
  · simp only [touchS, if_neg e13, if_neg e23, if_neg e14, if_neg e16, if_neg e17, if_pos e15]
    obtain ⟨hp, hf, hf2⟩ := hstd.two (c := 114) (d := 114) (by rw [e15]; rfl)
    have hr := hlen8 hp (letB_r hf)
    have hw : wantsC s.hs.1 (lastW s.st 1).2 false = 0 := by rw [← hends, hi 15 e15]; rfl
    obtain ⟨_, hl, hwk⟩ := wantsC_zero hw (by rw [hN]; exact hr.2)
    refine ⟨cut 2, hd.hh.store _ _ _ (hlen8 (by omega) (letB_r hf2)) ?_, hd.rd⟩
    intro c hcc
    rw [List.getElem?_eq_getElem hl] at hcc
    cases hcc
    exact hwk
  simp only [touchS, if_neg e13, if_neg e23, if_neg e14, if_neg e16, if_neg e17, if_neg e15]
  exact hd
theorem does_oc (E : Env) (i : Ins) (cell : Int) (s : MS) : (doesS E i cell s).oc = s.oc ∧ (doesS E i cell s).va = s.va := by
  unfold doesS touchS
  exact ⟨by simp only [apply_ite MS.oc, ite_self], by simp only [apply_ite MS.va, ite_self]⟩
theorem go_ok {E : Env} (he : EnvOk E) {s s' : MS} {i : Ins} (h : MInv E s) (hc : CanI E s i) (h0 : i.op ≠ 0) (hd : DoneOk E s') (hs : s' = { s with hs := s'.hs }) (hends : endsC s'.hs.1 s'.st i.op = 0) (cell : Int) (hcell : i.op = 13 ∨ i.op = 23 → 0 ≤ cell ∧ cell < (E.n : Int) ∧ ∃ d, s'.hs.1[cell.toNat]? = some (freshC d)) : MInv E (goS E i cell s') := by
  have hlo : s'.lo = s.lo := by rw [hs]
  have hst : s'.st = s.st := by rw [hs]
  have hat : s'.at_ = s.at_ := by rw [hs]
  have hoc : s'.oc = s.oc := by rw [hs]
  have hc' : CanI E s' i := ⟨by rw [hat]; exact hc.get, by rw [hlo, hst]; exact hc.ok, by rw [hlo, hst]; exact hc.le⟩
  have hd' := does_ok he (by rw [hlo]; exact h.lo he) hd hc' hends cell hcell
  have hm : MInv E s' := ⟨by
    have e : ptOf s' = ptOf s := by unfold ptOf; rw [hlo, hst, hat]
    rw [e]; exact h.reach, hd.refs, hd.hh.ok, hd.hh.x, hd.hh.len, hd.rd, by rw [hoc]; exact h.oc⟩
  obtain ⟨f1, f2⟩ := does_flags he hm hc' h0 cell
  refine ⟨?_, hd'.refs, hd'.hh.ok, hd'.hh.x, hd'.hh.len, hd'.rd, by
    show (doesS E i cell s').oc ≤ 5
    rw [(does_oc E i cell s').1, hoc]; exact h.oc⟩
  have hi : E.l[(ptOf s').at_]? = some i := hc'.get
  have hsp := stepP_eq (l := E.l) (p := ptOf s') hi
  rw [if_neg (show ¬ ((afterV (ptOf s').lo (ptOf s').st i.op i.n).2.2 = false ∨ 8 < (afterV (ptOf s').lo (ptOf s').st i.op i.n).2.1.size) by
    simp only [not_or, Bool.not_eq_false, Nat.not_lt]
    exact ⟨hc'.ok, hc'.le⟩)] at hsp
  refine hm.reach.step hsp ?_
  have ept : ptOf (goS E i cell s') = ⟨toS E i s', (afterV (ptOf s').lo (ptOf s').st i.op i.n).1, (afterV (ptOf s').lo (ptOf s').st i.op i.n).2.1⟩ := by
    show (⟨toS E i s', flagB (doesS E i cell s').lo, flagB (doesS E i cell s').st⟩ : Pt) = _
    rw [f1, f2]
    rfl
  rw [ept, List.mem_append]
  unfold toS
  by_cases hj : i.op = 19 ∨ i.op = 20 ∧ (lastW s'.st 0).2 ≠ 0
  · left
    rw [if_pos hj, if_pos (by unfold isJump; rcases hj with e | ⟨e, _⟩ <;> simp [e])]
    exact List.mem_singleton.2 rfl
  · right
    rw [if_neg hj, if_pos ⟨h0, fun e => hj (.inl e)⟩]
    exact List.mem_singleton.2 rfl
theorem endsC_take {cs cs' : List RC} {st : List (Bool × Int)} {op : Nat} (h : op = 13 ∨ op = 23) : endsC cs st op = endsC cs' st op := by
  rcases h with rfl | rfl <;> rfl
theorem MInv.step {E : Env} (he : EnvOk E) {s : MS} (h : MInv E s) : MInv E (stepS E s) := by
  obtain ⟨i, hc⟩ := h.can he
  unfold stepS
  rw [hc.get]
  simp only
  unfold stepI
  have hr := endsC_range (cs := s.hs.1) (st := s.st) (op := i.op)
  by_cases h1 : endsC s.hs.1 s.st i.op = 1
  · rw [if_pos h1]
    exact ⟨h.reach, h.refs, h.hok, h.hx, h.n, h.rd, by simp⟩
  rw [if_neg h1]
  by_cases h2' : endsC s.hs.1 s.st i.op ≠ 0
  · rw [if_pos h2']
    exact ⟨h.reach, h.refs, h.hok, h.hx, h.n, h.rd, by simp only; omega⟩
  rw [if_neg h2']
  have h2 : endsC s.hs.1 s.st i.op = 0 := by omega
  have h0 : i.op ≠ 0 := by
    have := endsC_halt h1
    omega
  by_cases ht : i.op = 13 ∨ i.op = 23
  · rw [if_pos ht]
    obtain ⟨t1, t2, t3⟩ := h.hh.take (rootsS E s)
    by_cases hn : (takeC (rootsS E s) s.hs).1 < 0
    · rw [if_pos hn]
      exact ⟨h.reach, h.refs, t1.ok, t1.x, t1.len, h.rd, by simp⟩
    · rw [if_neg hn]
      refine go_ok he (s := s) (s' := { s with hs := (takeC (rootsS E s) s.hs).2 }) h hc h0 ⟨h.refs, t1, h.rd⟩ rfl ?_ _ (fun _ => ⟨by omega, t2, take_fresh _ hn⟩)
      rw [← h2]
      exact endsC_take ht
  · rw [if_neg ht]
    exact go_ok he h hc h0 ⟨h.refs, h.hh, h.rd⟩ rfl h2 _ (fun e => absurd e ht)
theorem MInv.coll {E : Env} {s : MS} (h : MInv E s) (m : Nat) : MInv E (collS E m s) := by
  have k := h.hh.units (rootsS E s) m
  exact ⟨h.reach, h.refs, k.ok, k.x, k.len, h.rd, h.oc⟩
end Go.Proofs.YtdmdpindonghdaaDoor
namespace Go.Proofs.YtdmdpindonghdaaDoor
open Go.RowKit
theorem ends_other {cs : List RC} {st : List (Bool × Int)} {op : Nat} (h0 : op ≠ 0) (h5 : op ≠ 5) (h14 : op ≠ 14) (h16 : op ≠ 16) (h24 : op ≠ 24) (h15 : op ≠ 15) (h17 : op ≠ 17) : endsC cs st op = 0 := by
  unfold endsC
  rw [if_neg (by omega), if_neg (by omega), if_neg (by omega), if_neg (by omega), if_neg (by omega)]
theorem step_go {E : Env} {i : Ins} {s : MS} (h : endsC s.hs.1 s.st i.op = 0) (h13 : i.op ≠ 13) (h23 : i.op ≠ 23) : stepI E i s = goS E i (-1) s := by
  unfold stepI
  rw [if_neg (by omega), if_neg (by omega), if_neg (by omega)]
theorem step_halt {E : Env} {i : Ins} {s : MS} (h : i.op = 0) : stepI E i s = { s with oc := 1, va := (lastW s.st 0).2 } := by
  unfold stepI
  rw [if_pos (by unfold endsC; rw [if_pos (by omega)])]
theorem step_trap {E : Env} {i : Ins} {s : MS} (h0 : endsC s.hs.1 s.st i.op ≠ 0) (h1 : endsC s.hs.1 s.st i.op ≠ 1) : stepI E i s = { s with oc := (endsC s.hs.1 s.st i.op).toNat } := by
  unfold stepI
  rw [if_neg h1, if_pos h0]
theorem step_take {E : Env} {i : Ins} {s : MS} (h : i.op = 13 ∨ i.op = 23) : stepI E i s = if (takeC (rootsS E s) s.hs).1 < 0 then { s with oc := 5, hs := (takeC (rootsS E s) s.hs).2 } else goS E i (takeC (rootsS E s) s.hs).1 { s with hs := (takeC (rootsS E s) s.hs).2 } := by
  have he : endsC s.hs.1 s.st i.op = 0 := by
    apply ends_other <;> omega
  unfold stepI
  rw [if_neg (by omega), if_neg (by omega), if_pos h]
theorem to_next {E : Env} {i : Ins} {s : MS} (h19 : i.op ≠ 19) (h20 : i.op ≠ 20) : toS E i s = s.at_ + 1 := by
  unfold toS
  rw [if_neg (by rintro (h | ⟨h, _⟩) <;> omega)]
/-- What a step has done to the machine ahead of its standing. -/
def midS (s t : MS) : MS := { s with rd := t.rd, out := t.out, hs := t.hs }
theorem wants_vals (cs : List RC) (r : Int) (b : Bool) : wantsC cs r b = 0 ∨ wantsC cs r b = 2 ∨ wantsC cs r b = 4 := by
  unfold wantsC
  split
  · exact .inr (.inl rfl)
  split
  · exact .inl rfl
  · exact .inr (.inr rfl)
theorem ends_read {cs : List RC} {st : List (Bool × Int)} {op : Nat} (h : op = 14 ∨ op = 16) : endsC cs st op = wantsC cs (lastW st 0).2 false := by
  rcases h with rfl | rfl <;> rfl
theorem ends_peek {cs : List RC} {st : List (Bool × Int)} : endsC cs st (24 : Nat) = wantsC cs (lastW st 0).2 true := rfl
theorem ends_write {cs : List RC} {st : List (Bool × Int)} {op : Nat} (h : op = 15 ∨ op = 17) : endsC cs st op = wantsC cs (lastW st 1).2 false := by
  rcases h with rfl | rfl <;> rfl
theorem does_len {E : Env} (he : EnvOk E) {s : MS} (h : MInv E s) {i : Ins} (hc : CanI E s i) (h0 : i.op ≠ 0) (cell : Int) : (doesS E i cell s).st.length ≤ 8 := by
  have := (does_flags he h hc h0 cell).2
  have h2 := congrArg ByteArray.size this
  rw [size_flag] at h2
  have := hc.le
  omega
theorem can_one {E : Env} {s : MS} {i : Ins} (h : CanI E s i) (ho : i.op = 8 ∨ i.op = 9 ∨ i.op = 10) : 0 < s.st.length := by
  have := h.ok
  unfold afterV at this
  rw [size_flag] at this
  by_cases hk : s.st.length < 1
  · rcases ho with e | e | e
    · rw [if_neg (by omega), if_pos e, if_pos hk] at this; cases this
    · rw [if_neg (by omega), if_neg (by omega), if_pos e, if_pos hk] at this; cases this
    · rw [if_neg (by omega), if_neg (by omega), if_neg (by omega), if_pos e, if_pos hk] at this; cases this
  · omega
theorem can_two {E : Env} {s : MS} {i : Ins} (h : CanI E s i) (ho : i.op = 11) : 1 < s.st.length := by
  have := h.ok
  unfold afterV at this
  rw [size_flag] at this
  by_cases hk : s.st.length < 2
  · rw [if_neg (by omega), if_neg (by omega), if_neg (by omega), if_neg (by omega), if_pos ho, if_pos hk] at this; cases this
  · omega
theorem ends_one {cs : List RC} {st : List (Bool × Int)} {op : Nat} (h : endsC cs st op = 1) : op = 0 := by
  unfold endsC at h
  by_cases h0 : (op : Int) = 0
  · omega
  rw [if_neg h0] at h
  split at h
  · split at h <;> omega
  split at h
  · have := wants_vals cs (lastW st 0).2 false; omega
  split at h
  · have := wants_vals cs (lastW st 0).2 true; omega
  split at h
  · have := wants_vals cs (lastW st 1).2 false; omega
  · omega
theorem step_shape {E : Env} {i : Ins} {s : MS} (h0 : s.oc = 0) : ((stepI E i s).oc = 0 ∧ (stepI E i s).va = s.va) ∨ (i.op = 0 ∧ stepI E i s = { s with oc := 1, va := (lastW s.st 0).2 }) ∨ ((stepI E i s).oc ≠ 0 ∧ (stepI E i s).oc ≠ 1 ∧ stepI E i s = { s with oc := (stepI E i s).oc, hs := (stepI E i s).hs }) := by
  have hr := endsC_range (cs := s.hs.1) (st := s.st) (op := i.op)
  have hgo : ∀ cell (q : MS), q.oc = 0 → q.va = s.va → (goS E i cell q).oc = 0 ∧ (goS E i cell q).va = s.va := fun cell q h1 h2 => by
    unfold goS
    simp only
    rw [(does_oc E i cell q).1, (does_oc E i cell q).2]
    exact ⟨h1, h2⟩
  unfold stepI
  by_cases e1 : endsC s.hs.1 s.st i.op = 1
  · rw [if_pos e1]
    exact .inr (.inl ⟨ends_one e1, rfl⟩)
  rw [if_neg e1]
  by_cases e0 : endsC s.hs.1 s.st i.op ≠ 0
  · rw [if_pos e0]
    exact .inr (.inr ⟨by simp only; omega, by simp only; omega, rfl⟩)
  rw [if_neg e0]
  by_cases e2 : i.op = 13 ∨ i.op = 23
  · rw [if_pos e2]
    by_cases e3 : (takeC (rootsS E s) s.hs).1 < 0
    · rw [if_pos e3]
      exact .inr (.inr ⟨by simp, by simp, rfl⟩)
    · rw [if_neg e3]
      exact .inl (hgo _ _ h0 rfl)
  · rw [if_neg e2]
    exact .inl (hgo _ _ h0 rfl)
end Go.Proofs.YtdmdpindonghdaaDoor
namespace Go.Proofs.YtdmdpindonghdaaDoor
open Go.RowKit
/-- The program's heap: its cells in block gC, phase and hand in block b. -/
structure PH (w : World) (b gC : Nat) (cC : CK) (base : Nat) (cs : List Cl) (ph hd : Nat) : Prop where
  c0 : w.cell? ⟨b, 21, none⟩ = some (.slice (some ⟨gC, 0, none⟩) cs.length cC.cap)
  c1 : w.cell? ⟨b, 22, none⟩ = some (.int .i64 ph)
  c2 : w.cell? ⟨b, 23, none⟩ = some (.int .i64 hd)
  f1 : w.frozen? ⟨b, 22, none⟩ = false
  f2 : w.frozen? ⟨b, 23, none⟩ = false
  row : w.ownsRow base 77 5 (.slice (some ⟨gC, 0, none⟩) cs.length cC.cap) cs.length (cs.flatMap clCells)
  ne : b ≠ gC
  blk : w.heap[b]? = some (.cells ((cC.row.setIfInBounds 22 (.int .i64 ph)).setIfInBounds 23 (.int .i64 hd)) cC.ty)
theorem PH.cell {w : World} {b gC : Nat} {cC : CK} {base ph hd : Nat} {cs : List Cl} (h : PH w b gC cC base cs ph hd) {k j : Nat} (hk : k < cs.length) (hj : j < 5) : w.cell? ⟨gC, k * 5 + j, none⟩ = (clCells cs[k])[j]? := by
  rw [World.ownsRow.cellAt h.row (k * 5 + j) (by omega)]
  exact flat_at clCells 5 (fun _ => rfl) cs k j hk hj
theorem PH.frozen {w : World} {b gC : Nat} {cC : CK} {base ph hd : Nat} {cs : List Cl} (h : PH w b gC cC base cs ph hd) (j : Nat) : w.frozen? ⟨gC, j, none⟩ = false := World.ownsRow.frozenAt h.row j
/-- A field of a cell is written. -/
theorem PH.upd {w : World} {b gC : Nat} {cC : CK} {base ph hd k j : Nat} {cs : List Cl} {c : Cl} {v : Value} (h : PH w b gC cC base cs ph hd) (hk : k < cs.length) (hj : j < 5) (e : clCells c = (clCells cs[k]).set j v) : PH (w.setCell ⟨gC, k * 5 + j, none⟩ v) b gC cC base (cs.set k c) ph hd := by
  have hb : (w.setCell ⟨gC, k * 5 + j, none⟩ v).heap[b]? = w.heap[b]? := Below.heap_setCell _ _ _ _ h.ne
  have hc : ∀ o, (w.setCell ⟨gC, k * 5 + j, none⟩ v).cell? ⟨b, o, none⟩ = w.cell? ⟨b, o, none⟩ := fun o => World.cell?_of_block (a := ⟨b, o, none⟩) hb
  have hf : ∀ o, (w.setCell ⟨gC, k * 5 + j, none⟩ v).frozen? ⟨b, o, none⟩ = w.frozen? ⟨b, o, none⟩ := fun o => World.frozen?_of_block (a := ⟨b, o, none⟩) hb
  have hr := owns_cell (n := k * 5 + j) h.row v
  rw [flat_set clCells 5 (fun _ => rfl) cs k j c v hk hj e] at hr
  refine ⟨?_, (hc _).trans h.c1, (hc _).trans h.c2, (hf _).trans h.f1, (hf _).trans h.f2, ?_, h.ne, hb.trans h.blk⟩
  · rw [hc, List.length_set]; exact h.c0
  · rw [List.length_set]; exact hr
theorem PH.below {w w' : World} {b gC : Nat} {cC : CK} {base ph hd : Nat} {cs : List Cl} (h : PH w b gC cC base cs ph hd) (hb : Below w.heap.size w w') : PH w' b gC cC base cs ph hd := by
  have h1 := World.block_lt_of_cell? w _ h.c0
  simp only at h1
  exact ⟨(hb.cell (p := ⟨b, 21, none⟩) h1).trans h.c0, (hb.cell (p := ⟨b, 22, none⟩) h1).trans h.c1, (hb.cell (p := ⟨b, 23, none⟩) h1).trans h.c2, (hb.frozen (p := ⟨b, 22, none⟩) h1).trans h.f1, (hb.frozen (p := ⟨b, 23, none⟩) h1).trans h.f2, owns_keep h.row (fun g hg => hb.block g (h.row.lt g hg).2), h.ne, (hb.block b h1).trans h.blk⟩
theorem PH.drew {w : World} {b gC : Nat} {cC : CK} {base ph hd : Nat} {cs : List Cl} (h : PH w b gC cC base cs ph hd) : PH w.drew b gC cC base cs ph hd := h.below ⟨rfl, rfl, rfl, Nat.le_refl _, fun _ _ => rfl⟩
theorem row_22 (r : Array Value) (a b c : Value) : ((r.setIfInBounds 22 a).setIfInBounds 23 b).setIfInBounds 22 c = (r.setIfInBounds 22 c).setIfInBounds 23 b := by
  apply Array.toList_inj.1
  simp only [Array.toList_setIfInBounds]
  rw [List.set_comm _ _ (by decide), List.set_set]
theorem row_23 (r : Array Value) (a b c : Value) : ((r.setIfInBounds 22 a).setIfInBounds 23 b).setIfInBounds 23 c = (r.setIfInBounds 22 a).setIfInBounds 23 c := by
  apply Array.toList_inj.1
  simp only [Array.toList_setIfInBounds]
  rw [List.set_set]
theorem PH.phase {w : World} {b gC : Nat} {cC : CK} {base ph hd : Nat} {cs : List Cl} (h : PH w b gC cC base cs ph hd) (p : Nat) : PH (w.setCell ⟨b, 22, none⟩ (.int .i64 p)) b gC cC base cs p hd := by
  have hg : (w.setCell ⟨b, 22, none⟩ (.int .i64 (p : Int))).heap[gC]? = w.heap[gC]? := Below.heap_setCell _ _ _ _ (fun e => h.ne e.symm)
  exact ⟨(World.cell?_setCell_other _ _ _ _ (by simp)).trans h.c0, World.cell?_setCell_same _ _ _ h.c1, (World.cell?_setCell_other _ _ _ _ (by simp)).trans h.c2, (World.frozen?_setCell _ _ _ _).trans h.f1, (World.frozen?_setCell _ _ _ _).trans h.f2, owns_keep h.row (fun g e => by
    have : gC = g := by simpa [Value.ownBlock] using e
    subst this; exact hg), h.ne, by rw [← row_22 cC.row (.int .i64 ph) (.int .i64 hd) (.int .i64 p)]; exact setCell_row 22 _ h.blk⟩
theorem PH.hand {w : World} {b gC : Nat} {cC : CK} {base ph hd : Nat} {cs : List Cl} (h : PH w b gC cC base cs ph hd) (p : Nat) : PH (w.setCell ⟨b, 23, none⟩ (.int .i64 p)) b gC cC base cs ph p := by
  have hg : (w.setCell ⟨b, 23, none⟩ (.int .i64 (p : Int))).heap[gC]? = w.heap[gC]? := Below.heap_setCell _ _ _ _ (fun e => h.ne e.symm)
  exact ⟨(World.cell?_setCell_other _ _ _ _ (by simp)).trans h.c0, (World.cell?_setCell_other _ _ _ _ (by simp)).trans h.c1, World.cell?_setCell_same _ _ _ h.c2, (World.frozen?_setCell _ _ _ _).trans h.f1, (World.frozen?_setCell _ _ _ _).trans h.f2, owns_keep h.row (fun g e => by
    have : gC = g := by simpa [Value.ownBlock] using e
    subst this; exact hg), h.ne, by rw [← row_23 cC.row (.int .i64 ph) (.int .i64 hd) (.int .i64 p)]; exact setCell_row 23 _ h.blk⟩
set_option maxRecDepth 100000 in
set_option maxHeartbeats 1000000 in
theorem has_any (b gC : Nat) (cC : CK) (base ph hd k : Nat) (cs : List Cl) (r : Int) (w : World) (h : PH w b gC cC base cs ph hd) :
    Calls Tryd.prog 118 #[.pointer (some ⟨b, 21, none⟩), .int .i64 r, .int .i64 k] w fun e w' => e = .returned (.bool (hasL cs r k)) ∧ w' = w := by
  have h0 := h.c0
  by_cases r0 : 0 ≤ r
  · by_cases r1 : r < (cs.length : Int)
    · obtain ⟨q, hq⟩ : ∃ q : Nat, r = (q : Int) := ⟨r.toNat, by omega⟩
      subst hq
      have hql : q < cs.length := by omega
      have k0 := h.cell hql (j := 0) (by omega)
      rw [Nat.add_zero] at k0
      simp only [clCells, List.getElem?_cons_zero] at k0
      have HE : Hid (hasL cs (q : Int) k = (cs[q].col == k)) := hid (by
        unfold hasL
        rw [Int.toNat_natCast, colL_get hql, decide_eq_true r0, decide_eq_true r1]; simp)
      generalize cs[q].col = co at *
      clear h
      by_cases e : co = k
      · have q2 : ((co : Int) == (k : Int)) = true := by simp; omega
        go_enter Tryd.func118, Tryd.ntmps118
        go_wp2_with fail
        go_ret
        exact ⟨by rw [HE.out]; simp [e], rfl⟩
      · have q2 : ((co : Int) == (k : Int)) = false := by simp; omega
        go_enter Tryd.func118, Tryd.ntmps118
        go_wp2_with fail
        go_ret
        exact ⟨by rw [HE.out]; simp [e], rfl⟩
    · have HE : Hid (hasL cs r k = false) := hid (hasL_out (by omega))
      clear h
      go_enter Tryd.func118, Tryd.ntmps118
      go_wp2_with fail
      go_ret
      exact ⟨by rw [HE.out]; rfl, rfl⟩
  · have HE : Hid (hasL cs r k = false) := hid (hasL_neg (by omega))
    clear h
    go_enter Tryd.func118, Tryd.ntmps118
    go_wp2_with fail
    go_ret
    exact ⟨by rw [HE.out]; rfl, rfl⟩
set_option maxRecDepth 100000 in
set_option maxHeartbeats 1000000 in
theorem shade_any (b gC : Nat) (cC : CK) (base ph hd : Nat) (cs : List Cl) (r : Int) (w : World) (h : PH w b gC cC base cs ph hd) :
    Calls Tryd.prog 114 #[.pointer (some ⟨b, 21, none⟩), .int .i64 r] w fun e w' => e = .returned (.tuple #[]) ∧ PH w' b gC cC base (shadeL cs r) ph hd ∧ Only gC w w' := by
  have hh := hid (has_any b gC cC base ph hd 1 cs r w h)
  have h0 := h.c0
  cases hb : hasL cs r 1
  · rw [hb] at hh
    have HE : Hid (shadeL cs r = cs) := hid (by unfold shadeL; rw [hb]; simp)
    have H := hid h
    clear h hb
    go_enter Tryd.func114, Tryd.ntmps114
    go_wp2_with fail
    refine hh.out.mono ?_
    clear hh
    rintro x w1 ⟨rfl, rfl⟩
    go_wp2_with fail
    go_end0
    exact ⟨rfl, by rw [HE.out]; exact H.out, Only.refl _ _⟩
  · rw [hb] at hh
    have hb' := hb
    unfold hasL at hb'
    simp only [Bool.and_eq_true, decide_eq_true_eq] at hb'
    obtain ⟨r0, r1, _⟩ := hb'
    obtain ⟨q, hq⟩ : ∃ q : Nat, r = (q : Int) := ⟨r.toNat, by omega⟩
    subst hq
    have hql : q < cs.length := by omega
    have k0 := h.cell hql (j := 0) (by omega)
    have f0 := h.frozen (q * 5 + 0)
    have hu := h.upd (k := q) (j := 0) (c := paintL 2 cs[q]) (v := .int .i64 2) hql (by omega) rfl
    rw [Nat.add_zero] at k0 f0 hu
    simp only [clCells, List.getElem?_cons_zero] at k0
    have HE : Hid (shadeL cs (q : Int) = cs.set q (paintL 2 cs[q])) := hid (by unfold shadeL; rw [hb, if_pos rfl, Int.toNat_natCast, modify_setL hql])
    have HU := hid hu
    clear h hb hu
    go_enter Tryd.func114, Tryd.ntmps114
    go_wp2_with fail
    refine hh.out.mono ?_
    clear hh
    intro x w1 hh1
    obtain ⟨hx, hw⟩ := hh1
    subst x
    subst w1
    go_wp2_with fail
    go_end0
    exact ⟨rfl, by rw [HE.out]; exact HU.out, (Only.refl _ _).set _ _⟩
set_option maxRecDepth 100000 in
set_option maxHeartbeats 1000000 in
theorem shadeAll_any (b gC : Nat) (cC : CK) (base ph hd : Nat) (cs : List Cl) (rs : List Int) (v : Value) (w : World) (h : PH w b gC cC base cs ph hd) (hrl : rs.length ≤ 1000) (hv : RefsAt w gC v rs) :
    Calls Tryd.prog 94 #[.pointer (some ⟨b, 21, none⟩), v] w fun e w' => e = .returned (.tuple #[]) ∧ PH w' b gC cC base (shadesL cs rs) ph hd ∧ Only gC w w' := by
  have H := hid h
  have HV := hid hv
  obtain ⟨p0, c0, e0⟩ := hv.slice
  subst e0
  clear h hv
  go_enter Tryd.func94, Tryd.ntmps94
  go_wp2_with fail
  go_loopg [8] rs.length (fun g x w' => ∃ k : Nat, k ≤ rs.length ∧ g = rs.length - k ∧ x = .int .i64 k ∧ PH w' b gC cC base (shadesL cs (rs.take k)) ph hd ∧ Only gC w w')
  case atStart => exact ⟨0, by omega, by omega, rfl, H.out, Only.refl _ _⟩
  case round =>
    obtain ⟨k, hk, hg, rfl, hh, ho⟩ := hrel
    have HH := hid hh
    have HO := hid ho
    rcases Nat.lt_or_ge k rs.length with hlt | hge
    · have d0 : (0 : Int) ≤ (k : Int) := by omega
      have d1 : (k : Int) < (rs.length : Int) := by omega
      rcases HV.out with ⟨_, h0⟩ | ⟨a, ca, ea, hne, _, hca⟩
      · rw [h0] at hlt; simp at hlt
      have x0 := hca k _ (List.getElem?_eq_getElem hlt)
      cases ea
      have hbl : (a.add k).block = a.block := by unfold Addr.add; split <;> rfl
      have x1 : wr.cell? (a.add k) = some (.int .i64 rs[k]) := (World.cell?_of_block (a := a.add k) (ho.block _ (by rw [hbl]; exact hne))).trans x0
      have HT : Hid (rs.take (k + 1) = rs.take k ++ [rs[k]]) := hid (List.take_succ_eq_append_getElem hlt)
      have hsh := hid (shade_any b gC cC base ph hd _ rs[k] wr hh)
      generalize rs[k] = r at *
      clear x0 hbl hh ho hca
      go_wp2_with fail
      refine hsh.out.mono ?_
      clear hsh
      intro x w1 hh1
      obtain ⟨hx, hH, hO⟩ := hh1
      subst x
      have H1 := hid hH
      have O1 := hid hO
      clear hH hO
      go_wp2_with fail
      go_roundg (rs.length - (k + 1))
      case measure => omega
      case rel => exact ⟨k + 1, by omega, rfl, by go_num, by rw [HT.out, shadesL_snoc]; exact H1.out, HO.out.trans O1.out⟩
    · have d1 : ¬ (k : Int) < (rs.length : Int) := by omega
      go_wp2_with fail
      go_end0
      refine ⟨rfl, ?_, HO.out⟩
      have := HH.out
      rw [List.take_of_length_le hge] at this
      exact this
end Go.Proofs.YtdmdpindonghdaaDoor
namespace Go.Proofs.YtdmdpindonghdaaDoor
open Go.RowKit
theorem firstL_hit {p : Cl → Bool} {cs : List Cl} {k : Nat} (h : k < cs.length) (hp : p cs[k] = true) : firstL p (cs.drop k) k = k := by
  rw [List.drop_eq_getElem_cons h]; simp [firstL, hp]
theorem firstL_miss {p : Cl → Bool} {cs : List Cl} {k : Nat} (h : k < cs.length) (hp : p cs[k] = false) : firstL p (cs.drop k) k = firstL p (cs.drop (k + 1)) (k + 1) := by
  rw [List.drop_eq_getElem_cons h]; simp [firstL, hp]
def ptrL (gC : Nat) (k : Int) : Value := if k < 0 then .pointer none else .pointer (some ⟨gC, k.toNat * 5, none⟩)
set_option maxRecDepth 100000 in
set_option maxHeartbeats 1000000 in
theorem firstGrey_any (b gC : Nat) (cC : CK) (base ph hd : Nat) (cs : List Cl) (w : World) (h : PH w b gC cC base cs ph hd) (hl : cs.length ≤ 1000) :
    Calls Tryd.prog 115 #[.pointer (some ⟨b, 21, none⟩)] w fun e w' => e = .returned (ptrL gC (greyL cs)) ∧ w' = w := by
  have h0 := h.c0
  have H := hid h
  unfold greyL
  clear h
  go_enter Tryd.func115, Tryd.ntmps115
  go_wp2_with fail
  go_loopg [9] cs.length (fun g x w' => ∃ k : Nat, k ≤ cs.length ∧ g = cs.length - k ∧ x = .int .i64 k ∧ w' = w ∧ firstL (fun c => c.col == 2) cs 0 = firstL (fun c => c.col == 2) (cs.drop k) k)
  case atStart => exact ⟨0, by omega, by omega, rfl, rfl, rfl⟩
  case round =>
    obtain ⟨k, hk, hg, rfl, hw, hf⟩ := hrel
    subst hw
    have HF := hid hf
    clear hf
    rcases Nat.lt_or_ge k cs.length with hlt | hge
    · have d0 : (0 : Int) ≤ (k : Int) := by omega
      have d1 : (k : Int) < (cs.length : Int) := by omega
      have c0 := H.out.cell hlt (j := 0) (by omega)
      rw [Nat.add_zero] at c0
      have HH := hid (fun hp => firstL_hit (p := fun c => c.col == 2) hlt hp)
      have HM := hid (fun hp => firstL_miss (p := fun c => c.col == 2) hlt hp)
      generalize cs[k] = c at *
      obtain ⟨co, wk, a, b', n⟩ := c
      simp only [clCells, List.getElem?_cons_zero] at c0
      by_cases h2 : co = 2
      · subst h2
        have HE := hid (HH.out rfl)
        clear HH HM
        go_wp2_with fail
        go_ret
        refine ⟨?_, rfl⟩
        rw [HF.out, HE.out]
        unfold ptrL
        rw [if_neg (by omega), Int.toNat_natCast]
        rfl
      · have q2 : ((co : Int) == 2) = false := by simp; omega
        have HE := hid (HM.out (by simp [h2]))
        clear HH HM
        go_wp2_with fail
        go_roundg (cs.length - (k + 1))
        case measure => omega
        case rel => exact ⟨k + 1, by omega, rfl, by go_num, rfl, by rw [HF.out, HE.out]⟩
    · have d1 : ¬ (k : Int) < (cs.length : Int) := by omega
      go_wp2_with fail
      go_ret
      refine ⟨?_, rfl⟩
      rw [HF.out, List.drop_of_length_le hge]
      rfl
def freeL (cs : List Cl) : Int := firstL (fun c => c.col == 0) cs 0
set_option maxRecDepth 100000 in
set_option maxHeartbeats 1000000 in
theorem hasFree_any (b gC : Nat) (cC : CK) (base ph hd : Nat) (cs : List Cl) (w : World) (h : PH w b gC cC base cs ph hd) (hl : cs.length ≤ 1000) :
    Calls Tryd.prog 120 #[.pointer (some ⟨b, 21, none⟩)] w fun e w' => e = .returned (.bool (decide (0 ≤ freeL cs))) ∧ w' = w := by
  have h0 := h.c0
  have H := hid h
  unfold freeL
  clear h
  go_enter Tryd.func120, Tryd.ntmps120
  go_wp2_with fail
  go_loopg [9] cs.length (fun g x w' => ∃ k : Nat, k ≤ cs.length ∧ g = cs.length - k ∧ x = .int .i64 k ∧ w' = w ∧ firstL (fun c => c.col == 0) cs 0 = firstL (fun c => c.col == 0) (cs.drop k) k)
  case atStart => exact ⟨0, by omega, by omega, rfl, rfl, rfl⟩
  case round =>
    obtain ⟨k, hk, hg, rfl, hw, hf⟩ := hrel
    subst hw
    have HF := hid hf
    clear hf
    rcases Nat.lt_or_ge k cs.length with hlt | hge
    · have d0 : (0 : Int) ≤ (k : Int) := by omega
      have d1 : (k : Int) < (cs.length : Int) := by omega
      have c0 := H.out.cell hlt (j := 0) (by omega)
      rw [Nat.add_zero] at c0
      have HH := hid (fun hp => firstL_hit (p := fun c => c.col == 0) hlt hp)
      have HM := hid (fun hp => firstL_miss (p := fun c => c.col == 0) hlt hp)
      generalize cs[k] = c at *
      obtain ⟨co, wk, a, b', n⟩ := c
      simp only [clCells, List.getElem?_cons_zero] at c0
      by_cases h2 : co = 0
      · subst h2
        have HE := hid (HH.out rfl)
        clear HH HM
        go_wp2_with fail
        go_ret
        refine ⟨?_, rfl⟩
        rw [HF.out, HE.out, decide_eq_true (by omega)]
        rfl
      · have q2 : ((co : Int) == 0) = false := by simp; omega
        have HE := hid (HM.out (by simp [h2]))
        clear HH HM
        go_wp2_with fail
        go_roundg (cs.length - (k + 1))
        case measure => omega
        case rel => exact ⟨k + 1, by omega, rfl, by go_num, rfl, by rw [HF.out, HE.out]⟩
    · have d1 : ¬ (k : Int) < (cs.length : Int) := by omega
      go_wp2_with fail
      go_ret
      refine ⟨?_, rfl⟩
      rw [HF.out, List.drop_of_length_le hge]
      rfl
set_option maxRecDepth 100000 in
set_option maxHeartbeats 1000000 in
theorem blacken_any (b gC : Nat) (cC : CK) (base ph hd g : Nat) (cs : List Cl) (w : World) (h : PH w b gC cC base cs ph hd) (hg : g < cs.length) :
    Calls Tryd.prog 116 #[.pointer (some ⟨b, 21, none⟩), .pointer (some ⟨gC, g * 5, none⟩)] w fun e w' => e = .returned (.tuple #[]) ∧ PH w' b gC cC base (blackL cs g) ph hd ∧ Only gC w w' := by
  have e1 : cs.getD g zeroL = cs[g] := by rw [List.getD_eq_getElem?_getD, List.getElem?_eq_getElem hg]; rfl
  have HB : Hid (blackL cs g = (if cs[g].weak = true then cs else shadeL (shadeL cs cs[g].a) cs[g].b).modify g (paintL 3)) := hid (by unfold blackL; rw [e1])
  have last : ∀ (W : World) (T : List Cl) (hT : PH W b gC cC base T ph hd) (hgT : g < T.length), (∃ v, W.cell? ⟨gC, g * 5, none⟩ = some v) ∧ W.frozen? ⟨gC, g * 5, none⟩ = false ∧ PH (W.setCell ⟨gC, g * 5, none⟩ (.int .i64 3)) b gC cC base (T.modify g (paintL 3)) ph hd := by
    intro W T hT hgT
    have k0 := hT.cell hgT (j := 0) (by omega)
    have hu := hT.upd (k := g) (j := 0) (c := paintL 3 T[g]) (v := .int .i64 3) hgT (by omega) rfl
    rw [Nat.add_zero] at k0 hu
    rw [modify_setL hgT]
    exact ⟨⟨_, k0⟩, hT.frozen _, hu⟩
  have LA := hid last
  have k1 := h.cell hg (j := 1) (by omega)
  have k2 := h.cell hg (j := 2) (by omega)
  simp only [clCells, List.getElem?_cons_zero, List.getElem?_cons_succ] at k1 k2
  have H := hid h
  clear last e1
  cases hw : cs[g].weak
  · rw [hw] at k1 HB
    simp only [Bool.false_eq_true, if_false] at HB
    have hs1 := hid (shade_any b gC cC base ph hd cs cs[g].a w h)
    have hs2 := hid (fun (W : World) (hW : PH W b gC cC base (shadeL cs cs[g].a) ph hd) => shade_any b gC cC base ph hd _ cs[g].b W hW)
    have hc : Hid (∀ (W : World) (hW : PH W b gC cC base (shadeL cs cs[g].a) ph hd), W.cell? ⟨gC, g * 5 + 3, none⟩ = some (.int .i64 cs[g].b)) := hid (by
      intro W hW
      have hgl : g < (shadeL cs cs[g].a).length := by rw [shadeL_len]; exact hg
      have k3 := hW.cell hgl (j := 3) (by omega)
      rw [k3]
      have : (shadeL cs cs[g].a)[g].b = cs[g].b := by
        unfold shadeL
        split
        · by_cases e : cs[g].a.toNat = g
          · simp [paintL, e]
          · simp [e]
        · rfl
      simp only [clCells, List.getElem?_cons_zero, List.getElem?_cons_succ]
      rw [this])
    have hl2 : g < (shadeL (shadeL cs cs[g].a) cs[g].b).length := by rw [shadeL_len, shadeL_len]; exact hg
    generalize cs[g].a = aa at *
    generalize cs[g].b = bb at *
    clear h hw
    go_enter Tryd.func116, Tryd.ntmps116
    go_wp2_with fail
    refine hs1.out.mono ?_
    clear hs1
    intro x w1 hh
    obtain ⟨hx, hH1, hO1⟩ := hh
    subst x
    have k3 := hc.out w1 hH1
    have hs := hid (hs2.out w1 hH1)
    have HO1 := hid hO1
    clear hs2 hH1 hO1 hc k1 k2
    go_wp2_with fail
    refine hs.out.mono ?_
    clear hs
    intro x w2 hh
    obtain ⟨hx, hH2, hO2⟩ := hh
    subst x
    obtain ⟨⟨v, l1⟩, l2, l3⟩ := LA.out w2 _ hH2 hl2
    have L3 := hid l3
    have HO2 := hid hO2
    clear hH2 hO2 l3 k3
    go_wp2_with fail
    go_end0
    exact ⟨rfl, by rw [HB.out]; exact L3.out, (HO1.out.trans HO2.out).set _ _⟩
  · rw [hw] at k1 HB
    simp only [if_true] at HB
    obtain ⟨⟨v, l1⟩, l2, l3⟩ := LA.out w _ h hg
    have L3 := hid l3
    clear h hw l3
    go_enter Tryd.func116, Tryd.ntmps116
    go_wp2_with fail
    go_end0
    exact ⟨rfl, by rw [HB.out]; exact L3.out, (Only.refl _ _).set _ _⟩
end Go.Proofs.YtdmdpindonghdaaDoor
namespace Go.Proofs.YtdmdpindonghdaaDoor
open Go.RowKit
def cutA (c : Cl) : Cl := { c with a := -1 }
def midL (cs : List Cl) (k : Nat) : List Cl := (cs.take k).map (fgL cs) ++ cs.drop k
theorem midL_len (cs : List Cl) (k : Nat) : (midL cs k).length = cs.length := by simp [midL]; omega
theorem midL_get {cs : List Cl} {k : Nat} (h : k < cs.length) : (midL cs k)[k]'(by rw [midL_len]; exact h) = cs[k] := by
  unfold midL
  rw [List.getElem_append_right (by simp; omega)]
  simp [Nat.min_eq_left (Nat.le_of_lt h)]
theorem midL_next {cs : List Cl} {k : Nat} (h : k < cs.length) : midL cs (k + 1) = (midL cs k).set k (fgL cs cs[k]) := by
  unfold midL
  rw [List.take_succ_eq_append_getElem h, List.map_append, List.drop_eq_getElem_cons h, List.set_append_right _ _ (by simp; omega), show k - ((cs.take k).map (fgL cs)).length = 0 by simp; omega, List.set_cons_zero, List.append_assoc]
  rfl
theorem fgL_col (cs : List Cl) (c : Cl) : (fgL cs c).col = c.col := by unfold fgL; split <;> rfl
theorem midL_col (cs : List Cl) (k j : Nat) : colL (midL cs k) j = colL cs j := by
  unfold colL
  congr 1
  rw [← List.getElem?_map, ← List.getElem?_map]
  congr 1
  unfold midL
  rw [List.map_append, List.map_map]
  conv => rhs; rw [← List.take_append_drop k cs, List.map_append]
  congr 1
  apply List.map_congr_left
  intro c _
  exact fgL_col cs c
theorem midL_has (cs : List Cl) (k : Nat) (r : Int) (q : Nat) : hasL (midL cs k) r q = hasL cs r q := by
  unfold hasL
  rw [midL_len, midL_col]
theorem midL_all (cs : List Cl) {k : Nat} (h : cs.length ≤ k) : midL cs k = forgetL cs := by
  unfold midL forgetL
  rw [List.take_of_length_le h, List.drop_of_length_le h, List.append_nil]
set_option maxRecDepth 100000 in
set_option maxHeartbeats 1000000 in
theorem forgetWhite_any (b gC : Nat) (cC : CK) (base ph hd : Nat) (cs : List Cl) (w : World) (h : PH w b gC cC base cs ph hd) (hl : cs.length ≤ 1000) :
    Calls Tryd.prog 117 #[.pointer (some ⟨b, 21, none⟩)] w fun e w' => e = .returned (.tuple #[]) ∧ PH w' b gC cC base (forgetL cs) ph hd ∧ Only gC w w' := by
  have h0 := h.c0
  have H := hid h
  clear h
  go_enter Tryd.func117, Tryd.ntmps117
  go_wp2_with fail
  clear h0
  go_loopg [8] cs.length (fun g x w' => ∃ k : Nat, k ≤ cs.length ∧ g = cs.length - k ∧ x = .int .i64 k ∧ PH w' b gC cC base (midL cs k) ph hd ∧ Only gC w w')
  case atStart => exact ⟨0, by omega, by omega, rfl, by unfold midL; simpa using H.out, Only.refl _ _⟩
  case round =>
    obtain ⟨k, hk, hg, rfl, hh, ho⟩ := hrel
    have HH := hid hh
    have HO := hid ho
    have h0 := hh.c0
    rw [midL_len] at h0
    clear ho
    rcases Nat.lt_or_ge k cs.length with hlt | hge
    · have d0 : (0 : Int) ≤ (k : Int) := by omega
      have d1 : (k : Int) < (cs.length : Int) := by omega
      have hml : k < (midL cs k).length := by rw [midL_len]; exact hlt
      have c1 := hh.cell hml (j := 1) (by omega)
      have c2 := hh.cell hml (j := 2) (by omega)
      have f2 := hh.frozen (k * 5 + 2)
      rw [midL_get hlt] at c1 c2
      simp only [clCells, List.getElem?_cons_zero, List.getElem?_cons_succ] at c1 c2
      have HN := hid (midL_next hlt)
      have hhas := hid (has_any b gC cC base ph hd 1 (midL cs k) cs[k].a wr hh)
      rw [midL_has] at hhas
      have HU : Hid (PH (wr.setCell ⟨gC, k * 5 + 2, none⟩ (.int .i64 (-1))) b gC cC base ((midL cs k).set k (cutA cs[k])) ph hd) := hid (hh.upd (k := k) (j := 2) hml (by omega) (by rw [midL_get hlt]; rfl))
      have HK : Hid (PH wr b gC cC base ((midL cs k).set k cs[k]) ph hd) := hid (by
        have e := set_self hml
        rw [midL_get hlt] at e
        rw [e]; exact hh)
      clear hh
      cases hwk : cs[k].weak
      · have HF : Hid (fgL cs cs[k] = cs[k]) := hid (by unfold fgL; rw [hwk]; simp)
        rw [hwk] at c1
        clear hwk hhas
        go_wp2_with fail
        go_roundg (cs.length - (k + 1))
        case measure => omega
        case rel => exact ⟨k + 1, by omega, rfl, by go_num, by rw [HN.out, HF.out]; exact HK.out, HO.out⟩
      · rw [hwk] at c1
        cases hhb : hasL cs cs[k].a 1
        · have HF : Hid (fgL cs cs[k] = cs[k]) := hid (by unfold fgL; rw [hwk, hhb]; simp)
          rw [hhb] at hhas
          clear hwk hhb
          generalize cs[k].a = aa at *
          go_wp2_with fail
          refine hhas.out.mono ?_
          clear hhas
          intro x w1 hh1
          obtain ⟨hx, hw⟩ := hh1
          subst x
          subst w1
          go_wp2_with fail
          go_roundg (cs.length - (k + 1))
          case measure => omega
          case rel => exact ⟨k + 1, by omega, rfl, by go_num, by rw [HN.out, HF.out]; exact HK.out, HO.out⟩
        · have HF : Hid (fgL cs cs[k] = cutA cs[k]) := hid (by unfold fgL cutA; rw [hwk, hhb]; simp)
          rw [hhb] at hhas
          clear hwk hhb
          go_wp2_with fail
          refine hhas.out.mono ?_
          clear hhas
          intro x w1 hh1
          obtain ⟨hx, hw⟩ := hh1
          subst x
          subst w1
          go_wp2_with fail
          go_roundg (cs.length - (k + 1))
          case measure => omega
          case rel => exact ⟨k + 1, by omega, rfl, by go_num, by rw [HN.out, HF.out]; exact HU.out, HO.out.set _ _⟩
    · have d1 : ¬ (k : Int) < (cs.length : Int) := by omega
      go_wp2_with fail
      go_end0
      refine ⟨rfl, ?_, HO.out⟩
      have := HH.out
      rw [midL_all cs hge] at this
      exact this
/-- A whole cell is written. -/
theorem PH.put {w : World} {b gC : Nat} {cC : CK} {base ph hd k : Nat} {cs : List Cl} (h : PH w b gC cC base cs ph hd) (hk : k < cs.length) (co : Nat) (wk : Bool) (a e n : Int) : PH (((((w.setCell ⟨gC, k * 5, none⟩ (.int .i64 co)).setCell ⟨gC, k * 5 + 1, none⟩ (.bool wk)).setCell ⟨gC, k * 5 + 2, none⟩ (.int .i64 a)).setCell ⟨gC, k * 5 + 3, none⟩ (.int .i64 e)).setCell ⟨gC, k * 5 + 4, none⟩ (.int .i64 n)) b gC cC base (cs.set k ⟨co, wk, a, e, n⟩) ph hd := by
  have h0 := h.upd (k := k) (j := 0) (c := ⟨co, cs[k].weak, cs[k].a, cs[k].b, cs[k].num⟩) (v := .int .i64 co) hk (by omega) rfl
  have h1 := h0.upd (k := k) (j := 1) (c := ⟨co, wk, cs[k].a, cs[k].b, cs[k].num⟩) (v := .bool wk) (by simpa using hk) (by omega) (by simp [clCells])
  have h2 := h1.upd (k := k) (j := 2) (c := ⟨co, wk, a, cs[k].b, cs[k].num⟩) (v := .int .i64 a) (by simpa using hk) (by omega) (by simp [clCells])
  have h3 := h2.upd (k := k) (j := 3) (c := ⟨co, wk, a, e, cs[k].num⟩) (v := .int .i64 e) (by simpa using hk) (by omega) (by simp [clCells])
  have h4 := h3.upd (k := k) (j := 4) (c := ⟨co, wk, a, e, n⟩) (v := .int .i64 n) (by simpa using hk) (by omega) (by simp [clCells])
  rw [List.set_set, List.set_set, List.set_set, List.set_set, Nat.add_zero] at h4
  exact h4
theorem Only.put {gC k : Nat} {w W : World} (h : Only gC w W) (v0 v1 v2 v3 v4 : Value) : Only gC w (((((W.setCell ⟨gC, k * 5, none⟩ v0).setCell ⟨gC, k * 5 + 1, none⟩ v1).setCell ⟨gC, k * 5 + 2, none⟩ v2).setCell ⟨gC, k * 5 + 3, none⟩ v3).setCell ⟨gC, k * 5 + 4, none⟩ v4) := ((((h.set _ _).set _ _).set _ _).set _ _).set _ _
theorem Two.put {b gC k : Nat} {w W : World} (h : Two b gC w W) (v0 v1 v2 v3 v4 : Value) : Two b gC w (((((W.setCell ⟨gC, k * 5, none⟩ v0).setCell ⟨gC, k * 5 + 1, none⟩ v1).setCell ⟨gC, k * 5 + 2, none⟩ v2).setCell ⟨gC, k * 5 + 3, none⟩ v3).setCell ⟨gC, k * 5 + 4, none⟩ v4) := ((((h.setB _ _).setB _ _).setB _ _).setB _ _).setB _ _
set_option maxRecDepth 100000 in
theorem plainCell_any (w : World) : Calls Tryd.prog 86 #[] w fun e w' => e = .returned (.agg #[.int .i64 0, .bool false, .int .i64 (-1), .int .i64 (-1), .int .i64 0]) ∧ Below w.heap.size w w' := by
  go_enter Tryd.func86, Tryd.ntmps86
  go_wp2_with fail
  refine bodyPost_ret (v := .agg #[.int .i64 0, .bool false, .int .i64 (-1), .int .i64 (-1), .int .i64 0]) (by simp [results, Tryd.results86, go_sem]) rfl ⟨rfl, ?_⟩
  exact (Below.refl _ _).alloc (Nat.le_refl _) _
set_option maxRecDepth 100000 in
set_option maxHeartbeats 1000000 in
theorem sweep_any (b gC : Nat) (cC : CK) (base ph hd : Nat) (cs : List Cl) (w : World) (h : PH w b gC cC base cs ph hd) (hl : cs.length ≤ 1000) (hh : hd < cs.length) :
    Calls Tryd.prog 96 #[.pointer (some ⟨b, 21, none⟩)] w fun e w' => e = .returned (.tuple #[]) ∧ PH w' b gC cC base (sweepL cs hd) (if cs.length ≤ hd + 1 then 0 else ph) (if cs.length ≤ hd + 1 then 0 else hd + 1) ∧ Two b gC w w' := by
  have hs1 := hid (has_any b gC cC base ph hd 1 cs hd w h)
  have hs3 := hid (has_any b gC cC base ph hd 3 cs hd w h)
  have hpc := hid (plainCell_any w.drew)
  have h0 := h.c0
  have h2 := h.c2
  have d0 : (0 : Int) ≤ (hd : Int) := by omega
  have d1 : (hd : Int) < (cs.length : Int) := by omega
  have k0 := h.cell hh (j := 0) (by omega)
  have k1 := h.cell hh (j := 1) (by omega)
  have k2 := h.cell hh (j := 2) (by omega)
  have k3 := h.cell hh (j := 3) (by omega)
  have k4 := h.cell hh (j := 4) (by omega)
  simp only [clCells, List.getElem?_cons_zero, List.getElem?_cons_succ] at k0 k1 k2 k3 k4
  rw [Nat.add_zero] at k0
  have H := hid h
  clear h
  have fin : ∀ (W : World) (T : List Cl), PH W b gC cC base T ph hd → T.length = cs.length → W.cell? ⟨b, 21, none⟩ = some (.slice (some ⟨gC, 0, none⟩) cs.length cC.cap) ∧ W.cell? ⟨b, 22, none⟩ = some (.int .i64 ph) ∧ W.cell? ⟨b, 23, none⟩ = some (.int .i64 hd) ∧ W.frozen? ⟨b, 22, none⟩ = false ∧ W.frozen? ⟨b, 23, none⟩ = false ∧ PH (W.drew.setCell ⟨b, 23, none⟩ (.int .i64 (hd + 1 : Nat))) b gC cC base T ph (hd + 1) ∧ PH (((W.drew.setCell ⟨b, 23, none⟩ (.int .i64 (hd + 1 : Nat))).setCell ⟨b, 22, none⟩ (.int .i64 (0 : Nat))).setCell ⟨b, 23, none⟩ (.int .i64 (0 : Nat))) b gC cC base T 0 0 := fun W T hT hlT => ⟨by rw [← hlT]; exact hT.c0, hT.c1, hT.c2, hT.f1, hT.f2, hT.drew.hand (hd + 1), ((hT.drew.hand (hd + 1)).phase 0).hand 0⟩
  have FIN := hid fin
  clear fin
  cases hb1 : hasL cs hd 1
  · rw [hb1] at hs1
    cases hb3 : hasL cs hd 3
    · rw [hb3] at hs3
      have HS : Hid (sweepL cs hd = cs) := hid (by unfold sweepL; rw [hb1, hb3]; rfl)
      obtain ⟨t0, t1, t2, t3, t4, t5, t6⟩ := FIN.out w cs H.out rfl
      have T5 := hid t5
      have T6 := hid t6
      clear t5 t6 FIN hb1 hb3 k0 k1 k2 k3 k4 hpc
      by_cases hend : cs.length ≤ hd + 1
      · have d2 : (cs.length : Int) ≤ (hd : Int) + 1 := by omega
        rw [if_pos hend, if_pos hend]
        clear hend
        go_enter Tryd.func96, Tryd.ntmps96
        go_wp2_with fail
        refine hs1.out.mono ?_
        rintro x w1 ⟨rfl, rfl⟩
        go_wp2_with fail
        refine hs3.out.mono ?_
        rintro x w1 ⟨rfl, rfl⟩
        go_wp2_with fail
        go_region
        go_wp2_with fail
        go_end0
        exact ⟨rfl, by rw [HS.out]; exact T6.out, ((((Two.refl _ _ _).drew).set).set).set⟩
      · have d2 : ¬ (cs.length : Int) ≤ (hd : Int) + 1 := by omega
        rw [if_neg hend, if_neg hend]
        clear hend
        go_enter Tryd.func96, Tryd.ntmps96
        go_wp2_with fail
        refine hs1.out.mono ?_
        rintro x w1 ⟨rfl, rfl⟩
        go_wp2_with fail
        refine hs3.out.mono ?_
        rintro x w1 ⟨rfl, rfl⟩
        go_wp2_with fail
        go_region
        go_wp2_with fail
        go_end0
        exact ⟨rfl, by rw [HS.out]; exact T5.out, ((Two.refl _ _ _).drew).set⟩
    · rw [hb3] at hs3
      have HS : Hid (sweepL cs hd = cs.set hd (paintL 1 cs[hd])) := hid (by unfold sweepL; rw [hb1, hb3]; exact modify_setL hh _)
      have hu := H.out.upd (k := hd) (j := 0) (c := paintL 1 cs[hd]) (v := .int .i64 1) hh (by omega) rfl
      have f0 := H.out.frozen (hd * 5 + 0)
      rw [Nat.add_zero] at hu f0
      obtain ⟨t0, t1, t2, t3, t4, t5, t6⟩ := FIN.out _ _ hu (by simp)
      have T5 := hid t5
      have T6 := hid t6
      clear t5 t6 FIN hb1 hb3 k1 k2 k3 k4 hpc hu
      by_cases hend : cs.length ≤ hd + 1
      · have d2 : (cs.length : Int) ≤ (hd : Int) + 1 := by omega
        rw [if_pos hend, if_pos hend]
        clear hend
        go_enter Tryd.func96, Tryd.ntmps96
        go_wp2_with fail
        refine hs1.out.mono ?_
        rintro x w1 ⟨rfl, rfl⟩
        go_wp2_with fail
        refine hs3.out.mono ?_
        rintro x w1 ⟨rfl, rfl⟩
        go_wp2_with fail
        go_region
        go_wp2_with fail
        go_end0
        exact ⟨rfl, by rw [HS.out]; exact T6.out, ((((Two.refl _ _ _).setB _ _).drew.set).set).set⟩
      · have d2 : ¬ (cs.length : Int) ≤ (hd : Int) + 1 := by omega
        rw [if_neg hend, if_neg hend]
        clear hend
        go_enter Tryd.func96, Tryd.ntmps96
        go_wp2_with fail
        refine hs1.out.mono ?_
        rintro x w1 ⟨rfl, rfl⟩
        go_wp2_with fail
        refine hs3.out.mono ?_
        rintro x w1 ⟨rfl, rfl⟩
        go_wp2_with fail
        go_region
        go_wp2_with fail
        go_end0
        exact ⟨rfl, by rw [HS.out]; exact T5.out, (((Two.refl _ _ _).setB _ _).drew).set⟩
  · rw [hb1] at hs1
    have HS : Hid (sweepL cs hd = cs.set hd ⟨0, false, -1, -1, 0⟩) := hid (by unfold sweepL; rw [hb1]; rfl)
    have PUT : Hid (∀ w9, Below w.drew.heap.size w.drew w9 → PH (((((w9.setCell ⟨gC, hd * 5, none⟩ (.int .i64 0)).setCell ⟨gC, hd * 5 + 1, none⟩ (.bool false)).setCell ⟨gC, hd * 5 + 2, none⟩ (.int .i64 (-1))).setCell ⟨gC, hd * 5 + 3, none⟩ (.int .i64 (-1))).setCell ⟨gC, hd * 5 + 4, none⟩ (.int .i64 0)) b gC cC base (cs.set hd ⟨0, false, -1, -1, 0⟩) ph hd ∧ Two b gC w (((((w9.setCell ⟨gC, hd * 5, none⟩ (.int .i64 0)).setCell ⟨gC, hd * 5 + 1, none⟩ (.bool false)).setCell ⟨gC, hd * 5 + 2, none⟩ (.int .i64 (-1))).setCell ⟨gC, hd * 5 + 3, none⟩ (.int .i64 (-1))).setCell ⟨gC, hd * 5 + 4, none⟩ (.int .i64 0))) := hid (fun w9 hb9 => ⟨(H.out.drew.below hb9).put hh 0 false (-1) (-1) 0, ((Two.refl _ _ _).drew.trans (Two.of_below hb9)).put _ _ _ _ _⟩)
    clear hb1 hs3 k0 k1 k2 k3 k4
    by_cases hend : cs.length ≤ hd + 1
    · have d2 : (cs.length : Int) ≤ (hd : Int) + 1 := by omega
      rw [if_pos hend, if_pos hend]
      clear hend
      go_enter Tryd.func96, Tryd.ntmps96
      go_wp2_with fail
      refine hs1.out.mono ?_
      clear hs1
      intro x w1 hh1
      obtain ⟨hx, hw⟩ := hh1
      subst x
      subst w1
      go_wp2_with fail
      go_region_law ((go_simp; go_at_call 86; refine hpc.out.mono ?_; intro x w9 hh9; obtain ⟨hx9, hB9⟩ := hh9; subst hx9; have P9 := H.out.drew.below hB9; have z0 := P9.c0; have z1 := P9.cell hh (j := 0) (by omega); have z2 := P9.cell hh (j := 1) (by omega); have z3 := P9.cell hh (j := 2) (by omega); have z4 := P9.cell hh (j := 3) (by omega); have z5 := P9.cell hh (j := 4) (by omega); have g0 := P9.frozen (hd * 5 + 0); have g1 := P9.frozen (hd * 5 + 1); have g2 := P9.frozen (hd * 5 + 2); have g3 := P9.frozen (hd * 5 + 3); have g4 := P9.frozen (hd * 5 + 4); rw [Nat.add_zero] at z1 g0; simp only [clCells, List.getElem?_cons_zero, List.getElem?_cons_succ] at z1 z2 z3 z4 z5; have HB9 := hid hB9; clear P9 hB9; dsimp only))
      all_goals
        obtain ⟨hP, hT⟩ := PUT.out w9 HB9.out
        clear z0 z1 z2 z3 z4 z5 g0 g1 g2 g3 g4 h0 h2 hpc
        generalize ((((w9.setCell ⟨gC, hd * 5, none⟩ (.int .i64 0)).setCell ⟨gC, hd * 5 + 1, none⟩ (.bool false)).setCell ⟨gC, hd * 5 + 2, none⟩ (.int .i64 (-1))).setCell ⟨gC, hd * 5 + 3, none⟩ (.int .i64 (-1))).setCell ⟨gC, hd * 5 + 4, none⟩ (.int .i64 0) = W at *
        obtain ⟨t0, t1, t2, t3, t4, t5, t6⟩ := FIN.out _ _ hP (by simp)
        have T6 := hid t6
        have HT := hid hT
        clear t5 t6 FIN hP hT PUT
        go_wp2_with fail
        go_region
        go_wp2_with fail
        go_end0
        exact ⟨rfl, by rw [HS.out]; exact T6.out, ((HT.out.drew.set).set).set⟩
    · have d2 : ¬ (cs.length : Int) ≤ (hd : Int) + 1 := by omega
      rw [if_neg hend, if_neg hend]
      clear hend
      go_enter Tryd.func96, Tryd.ntmps96
      go_wp2_with fail
      refine hs1.out.mono ?_
      clear hs1
      intro x w1 hh1
      obtain ⟨hx, hw⟩ := hh1
      subst x
      subst w1
      go_wp2_with fail
      go_region_law ((go_simp; go_at_call 86; refine hpc.out.mono ?_; intro x w9 hh9; obtain ⟨hx9, hB9⟩ := hh9; subst hx9; have P9 := H.out.drew.below hB9; have z0 := P9.c0; have z1 := P9.cell hh (j := 0) (by omega); have z2 := P9.cell hh (j := 1) (by omega); have z3 := P9.cell hh (j := 2) (by omega); have z4 := P9.cell hh (j := 3) (by omega); have z5 := P9.cell hh (j := 4) (by omega); have g0 := P9.frozen (hd * 5 + 0); have g1 := P9.frozen (hd * 5 + 1); have g2 := P9.frozen (hd * 5 + 2); have g3 := P9.frozen (hd * 5 + 3); have g4 := P9.frozen (hd * 5 + 4); rw [Nat.add_zero] at z1 g0; simp only [clCells, List.getElem?_cons_zero, List.getElem?_cons_succ] at z1 z2 z3 z4 z5; have HB9 := hid hB9; clear P9 hB9; dsimp only))
      all_goals
        obtain ⟨hP, hT⟩ := PUT.out w9 HB9.out
        clear z0 z1 z2 z3 z4 z5 g0 g1 g2 g3 g4 h0 h2 hpc
        generalize ((((w9.setCell ⟨gC, hd * 5, none⟩ (.int .i64 0)).setCell ⟨gC, hd * 5 + 1, none⟩ (.bool false)).setCell ⟨gC, hd * 5 + 2, none⟩ (.int .i64 (-1))).setCell ⟨gC, hd * 5 + 3, none⟩ (.int .i64 (-1))).setCell ⟨gC, hd * 5 + 4, none⟩ (.int .i64 0) = W at *
        obtain ⟨t0, t1, t2, t3, t4, t5, t6⟩ := FIN.out _ _ hP (by simp)
        have T5 := hid t5
        have HT := hid hT
        clear t5 t6 FIN hP hT PUT
        go_wp2_with fail
        go_region
        go_wp2_with fail
        go_end0
        exact ⟨rfl, by rw [HS.out]; exact T5.out, HT.out.drew.set⟩
end Go.Proofs.YtdmdpindonghdaaDoor
namespace Go.Proofs.YtdmdpindonghdaaDoor
open Go.RowKit
theorem greyL_lt {cs : List Cl} (h : 0 ≤ greyL cs) : (greyL cs).toNat < cs.length := by
  have aux : ∀ (l : List Cl) (k : Nat), firstL (fun c => c.col == 2) l k = -1 ∨ firstL (fun c => c.col == 2) l k < (k : Int) + l.length := by
    intro l
    induction l with
    | nil => intro k; exact .inl rfl
    | cons c r ih =>
      intro k
      simp only [firstL]
      split
      · right; simp; omega
      · rcases ih (k + 1) with e | e
        · exact .inl e
        · right; simp; omega
  unfold greyL at *
  rcases aux cs 0 with e | e
  · omega
  · omega
def markPh (cs : List Cl) (ph hd : Nat) (rs : List Int) : List Cl × Nat × Nat :=
  if 0 ≤ greyL cs then (blackL cs (greyL cs).toNat, ph, hd)
  else if greyL (shadesL cs rs) < 0 then (forgetL (shadesL cs rs), 2, 0) else (shadesL cs rs, ph, hd)
def PUnitPost (b gC : Nat) (cC : CK) (base : Nat) (r : List Cl × Nat × Nat) (w : World) (e : Ending) (w' : World) : Prop :=
  e = .returned (.tuple #[]) ∧ PH w' b gC cC base r.1 r.2.1 r.2.2 ∧ Two b gC w w'
theorem RefsAt.only {w w' : World} {gC : Nat} {v : Value} {rs : List Int} (h : RefsAt w gC v rs) (ho : Only gC w w') : RefsAt w' gC v rs := by
  rcases h with h | ⟨a, ca, hv, hne, hlt, hc⟩
  · exact .inl h
  · refine .inr ⟨a, ca, hv, hne, by rw [ho.size]; exact hlt, fun j x hj => ?_⟩
    have hbl : (a.add j).block = a.block := by unfold Addr.add; split <;> rfl
    exact (World.cell?_of_block (a := a.add j) (ho.block _ (by rw [hbl]; exact hne))).trans (hc j x hj)
set_option maxRecDepth 100000 in
set_option maxHeartbeats 1000000 in
theorem mark_any (b gC : Nat) (cC : CK) (base ph hd : Nat) (cs : List Cl) (rs : List Int) (v : Value) (w : World) (h : PH w b gC cC base cs ph hd) (hl : cs.length ≤ 1000) (hrl : rs.length ≤ 1000) (hv : RefsAt w gC v rs) :
    Calls Tryd.prog 95 #[.pointer (some ⟨b, 21, none⟩), v] w (PUnitPost b gC cC base (markPh cs ph hd rs) w) := by
  have hfg := hid (firstGrey_any b gC cC base ph hd cs w h hl)
  obtain ⟨p0, c0, e0⟩ := hv.slice
  by_cases hg : 0 ≤ greyL cs
  · have hgl := greyL_lt hg
    have HE : Hid (markPh cs ph hd rs = (blackL cs (greyL cs).toNat, ph, hd)) := hid (if_pos hg)
    have hbk := hid (blacken_any b gC cC base ph hd (greyL cs).toNat cs w h hgl)
    rw [show ptrL gC (greyL cs) = .pointer (some ⟨gC, (greyL cs).toNat * 5, none⟩) from if_neg (by omega)] at hfg
    subst e0
    generalize (greyL cs).toNat = g at *
    clear h hv hg
    go_enter Tryd.func95, Tryd.ntmps95
    go_wp2_with fail
    refine hfg.out.mono ?_
    clear hfg
    intro x w1 hh1
    obtain ⟨hx, hw⟩ := hh1
    subst x
    subst w1
    go_wp2_with fail
    refine hbk.out.mono ?_
    clear hbk
    intro x w1 hh1
    obtain ⟨hx, hH, hO⟩ := hh1
    subst x
    have HH := hid hH
    have HO := hid hO
    clear hH hO
    go_wp2_with fail
    go_end0
    exact ⟨rfl, by rw [HE.out]; exact HH.out, (Two.of_only HO.out).widen⟩
  · rw [show ptrL gC (greyL cs) = .pointer none from if_pos (by omega)] at hfg
    have hsa := hid (shadeAll_any b gC cC base ph hd cs rs v w h hrl hv)
    have hfg2 := hid (fun (W : World) (hW : PH W b gC cC base (shadesL cs rs) ph hd) => firstGrey_any b gC cC base ph hd (shadesL cs rs) W hW (by rw [shadesL_len]; exact hl))
    subst e0
    by_cases hg2 : 0 ≤ greyL (shadesL cs rs)
    · have HE : Hid (markPh cs ph hd rs = (shadesL cs rs, ph, hd)) := hid (by unfold markPh; rw [if_neg hg, if_neg (by omega)])
      rw [show ptrL gC (greyL (shadesL cs rs)) = .pointer (some ⟨gC, (greyL (shadesL cs rs)).toNat * 5, none⟩) from if_neg (by omega)] at hfg2
      generalize (greyL (shadesL cs rs)).toNat = g at *
      generalize shadesL cs rs = T at *
      clear h hv hg hg2
      go_enter Tryd.func95, Tryd.ntmps95
      go_wp2_with fail
      refine hfg.out.mono ?_
      clear hfg
      intro x w1 hh1
      obtain ⟨hx, hw⟩ := hh1
      subst x
      subst w1
      go_wp2_with fail
      refine hsa.out.mono ?_
      clear hsa
      intro x w1 hh1
      obtain ⟨hx, hH, hO⟩ := hh1
      subst x
      have hf3 := hid (hfg2.out w1 hH)
      have HH := hid hH
      have HO := hid hO
      clear hH hO hfg2
      go_wp2_with fail
      refine hf3.out.mono ?_
      clear hf3
      intro x w2 hh1
      obtain ⟨hx, hw⟩ := hh1
      subst x
      subst w2
      go_wp2_with fail
      go_end0
      exact ⟨rfl, by rw [HE.out]; exact HH.out, (Two.of_only HO.out).widen⟩
    · have HE : Hid (markPh cs ph hd rs = (forgetL (shadesL cs rs), 2, 0)) := hid (by unfold markPh; rw [if_neg hg, if_pos (by omega)])
      rw [show ptrL gC (greyL (shadesL cs rs)) = .pointer none from if_pos (by omega)] at hfg2
      have hfw := hid (fun (W : World) (hW : PH W b gC cC base (shadesL cs rs) ph hd) => forgetWhite_any b gC cC base ph hd (shadesL cs rs) W hW (by rw [shadesL_len]; exact hl))
      generalize shadesL cs rs = T at *
      clear h hv hg hg2
      go_enter Tryd.func95, Tryd.ntmps95
      go_wp2_with fail
      refine hfg.out.mono ?_
      clear hfg
      intro x w1 hh1
      obtain ⟨hx, hw⟩ := hh1
      subst x
      subst w1
      go_wp2_with fail
      refine hsa.out.mono ?_
      clear hsa
      intro x w1 hh1
      obtain ⟨hx, hH, hO⟩ := hh1
      subst x
      have hf3 := hid (hfg2.out w1 hH)
      have hf4 := hid (hfw.out w1 hH)
      have HO := hid hO
      clear hH hO hfg2 hfw
      go_wp2_with fail
      refine hf3.out.mono ?_
      clear hf3
      intro x w2 hh1
      obtain ⟨hx, hw⟩ := hh1
      subst x
      subst w2
      go_wp2_with fail
      refine hf4.out.mono ?_
      clear hf4
      intro x w2 hh1
      obtain ⟨hx, hH, hO⟩ := hh1
      subst x
      have a1 := hH.c1
      have a2 := hH.c2
      have b1 := hH.f1
      have b2 := hH.f2
      have HF := hid ((hH.phase 2).hand 0)
      have HO2 := hid hO
      clear hH hO
      go_wp2_with fail
      go_end0
      exact ⟨rfl, by rw [HE.out]; exact HF.out, ((Two.of_only (HO.out.trans HO2.out)).widen.set).set⟩
set_option maxRecDepth 100000 in
set_option maxHeartbeats 1000000 in
theorem punit_any (b gC : Nat) (cC : CK) (base ph hd : Nat) (cs : List Cl) (rs : List Int) (v : Value) (w : World) (h : PH w b gC cC base cs ph hd) (hl : cs.length ≤ 1000) (hrl : rs.length ≤ 1000) (hv : RefsAt w gC v rs) (hp : ph ≤ 2) (hh : ph = 2 → hd < cs.length) :
    Calls Tryd.prog 78 #[.pointer (some ⟨b, 21, none⟩), v] w (PUnitPost b gC cC base (unitL cs ph hd rs) w) := by
  obtain ⟨p0, c0, e0⟩ := hv.slice
  have h1 := h.c1
  by_cases e1 : ph = 0
  · subst e1
    have HE : Hid (unitL cs 0 hd rs = (shadesL cs rs, 1, hd)) := hid rfl
    have hsa := hid (shadeAll_any b gC cC base 0 hd cs rs v w h hrl hv)
    subst e0
    clear h hv hh
    go_enter Tryd.func78, Tryd.ntmps78
    go_wp2_with fail
    refine hsa.out.mono ?_
    clear hsa
    intro x w1 hh1
    obtain ⟨hx, hH, hO⟩ := hh1
    subst x
    have a1 := hH.c1
    have b1 := hH.f1
    have HF := hid (hH.phase 1)
    have HO := hid hO
    clear hH hO
    go_wp2_with fail
    go_end0
    exact ⟨rfl, by rw [HE.out]; exact HF.out, (Two.of_only HO.out).widen.set⟩
  by_cases e2 : ph = 2
  · subst e2
    have hlt := hh rfl
    have HE : Hid (unitL cs 2 hd rs = (sweepL cs hd, (if cs.length ≤ hd + 1 then 0 else 2), (if cs.length ≤ hd + 1 then 0 else hd + 1))) := hid (by
      unfold unitL
      rw [if_neg (by decide), if_pos rfl]
      split <;> rfl)
    have hsw := hid (sweep_any b gC cC base 2 hd cs w h hl hlt)
    subst e0
    clear h hv hh
    go_enter Tryd.func78, Tryd.ntmps78
    go_wp2_with fail
    refine hsw.out.mono ?_
    clear hsw
    intro x w1 hh1
    obtain ⟨hx, hH, hO⟩ := hh1
    subst x
    have HH := hid hH
    have HO := hid hO
    clear hH hO
    go_wp2_with fail
    go_end0
    exact ⟨rfl, by rw [HE.out]; exact HH.out, HO.out⟩
  · have e3 : ph = 1 := by omega
    subst e3
    have HE : Hid (unitL cs 1 hd rs = markPh cs 1 hd rs) := hid rfl
    have hmk := hid (mark_any b gC cC base 1 hd cs rs v w h hl hrl hv)
    subst e0
    clear h hv hh e1 e2
    go_enter Tryd.func78, Tryd.ntmps78
    go_wp2_with fail
    refine hmk.out.mono ?_
    clear hmk
    intro x w1 hh1
    obtain ⟨hx, hH, hO⟩ := hh1
    subst x
    have HH := hid hH
    have HO := hid hO
    clear hH hO
    go_wp2_with fail
    go_end0
    exact ⟨rfl, by rw [HE.out]; exact HH.out, HO.out⟩
end Go.Proofs.YtdmdpindonghdaaDoor
namespace Go.Proofs.YtdmdpindonghdaaDoor
open Go.RowKit
/-- The program's heap in memory, in the words of the reference's cells. -/
def PHR (w : World) (b gC : Nat) (cC : CK) (base : Nat) (h : HSt) : Prop := PH w b gC cC base (h.1.map toldC) h.2.1 h.2.2
theorem punit_t (b gC : Nat) (cC : CK) (base n : Nat) (hs : HSt) (rs : List Int) (v : Value) (w : World) (h : PHR w b gC cC base hs) (hk : HOk n hs) (hrl : rs.length ≤ 1000) (hv : RefsAt w gC v rs) :
    Calls Tryd.prog 78 #[.pointer (some ⟨b, 21, none⟩), v] w fun e w' => e = .returned (.tuple #[]) ∧ PHR w' b gC cC base (stepC rs hs) ∧ Two b gC w w' := by
  have hl := hk.ok.len
  refine (punit_any b gC cC base _ _ _ rs v w h (by simp; omega) hrl hv hk.ok.phz (fun e => by simpa using hk.ok.hand e)).mono ?_
  rintro x w' ⟨h1, h2, h3⟩
  rw [told_unit hk.ok hk.x rs] at h2
  exact ⟨h1, h2, h3⟩
set_option maxRecDepth 100000 in
set_option maxHeartbeats 1000000 in
theorem finish_any (b gC : Nat) (cC : CK) (base n : Nat) (hs : HSt) (rs : List Int) (v : Value) (w : World) (h : PHR w b gC cC base hs) (hk : HOk n hs) (hrl : rs.length ≤ 1000) (hv : RefsAt w gC v rs) (hvb : ∀ a n c, v = .slice (some a) n c → a.block ≠ b) :
    Calls Tryd.prog 121 #[.pointer (some ⟨b, 21, none⟩), v] w fun e w' => e = .returned (.tuple #[]) ∧ PHR w' b gC cC base (idleC rs hs) ∧ Two b gC w w' := by
  have HV := hid hv
  have HVB := hid hvb
  have HK := hid hk
  have H := hid h
  obtain ⟨p0, c0, e0⟩ := hv.slice
  subst e0
  clear h hv hk hvb
  go_enter Tryd.func121, Tryd.ntmps121
  go_wp2_with fail
  go_loopg [] (muC hs) (fun g w' => ∃ q : HSt, g = muC q ∧ PHR w' b gC cC base q ∧ HOk n q ∧ idleC rs hs = idleC rs q ∧ Two b gC w w')
  case atStart => exact ⟨hs, rfl, H.out, HK.out, rfl, Two.refl _ _ _⟩
  case round =>
    obtain ⟨q, hg, hh, hkq, hid1, ht⟩ := hrel
    have HI := hid hid1
    have HT := hid ht
    have c1 := hh.c1
    by_cases e0 : q.2.1 = 0
    · have HE := hid (idleC_zero (rs := rs) e0)
      have HH := hid hh
      rw [e0] at c1
      clear hid1 ht hh hkq e0
      go_wp2_with fail
      go_end0
      exact ⟨rfl, by rw [HI.out, HE.out]; exact HH.out, HT.out⟩
    · have q1 : ((q.2.1 : Int) != 0) = true := by simp; omega
      have hmu := mu_dec hkq.ok e0 rs
      have HE := hid (idleC_step (rs := rs) hkq.ok e0)
      have hun := hid (punit_t b gC cC base n q rs _ wr hh hkq hrl (HV.out.two HVB.out ht))
      have HKQ := hid (hkq.unit rs)
      generalize q.2.1 = ph at *
      clear hid1 ht hh hkq e0
      go_wp2_with fail
      refine hun.out.mono ?_
      clear hun
      intro x w1 hh1
      obtain ⟨hx, hH, hO⟩ := hh1
      subst x
      have HH := hid hH
      have HO := hid hO
      clear hH hO
      go_wp2_with fail
      go_roundg (muC (stepC rs q))
      case measure => omega
      case rel => exact ⟨stepC rs q, rfl, HH.out, HKQ.out, HI.out.trans HE.out, HT.out.trans HO.out⟩
/-- The heap with room made. -/
def roomC (rs : List Int) (h : HSt) : HSt := if 0 ≤ lowC h then h else if 0 ≤ lowC (idleC rs h) then idleC rs h else idleC rs (stepC rs (idleC rs h))
theorem takeC_room (rs : List Int) (h : HSt) : takeC rs h = if 0 ≤ lowC (roomC rs h) then beginC (roomC rs h) else (-1, roomC rs h) := by
  unfold takeC roomC
  by_cases h1 : 0 ≤ lowC h
  · rw [if_pos h1, if_pos h1, if_pos h1]
  rw [if_neg h1, if_neg h1]
  by_cases h2 : 0 ≤ lowC (idleC rs h)
  · rw [if_pos h2, if_pos h2, if_pos h2]
  rw [if_neg h2, if_neg h2]
theorem HOk.room {n : Nat} {h : HSt} (k : HOk n h) (rs : List Int) : HOk n (roomC rs h) := by
  unfold roomC
  split
  · exact k
  split
  · exact k.idle rs
  · exact ((k.idle rs).unit rs).idle rs
theorem freeL_told (h : HSt) : freeL (h.1.map toldC) = lowC h := by
  unfold freeL lowC
  rw [told_first]
  congr 1
  funext c
  obtain ⟨u, r, k, wk, a, b, n⟩ := c
  cases u <;> cases r <;> cases k <;> rfl
set_option maxRecDepth 100000 in
set_option maxHeartbeats 1000000 in
theorem makeRoom_any (b gC : Nat) (cC : CK) (base n : Nat) (hs : HSt) (rs : List Int) (v : Value) (w : World) (h : PHR w b gC cC base hs) (hk : HOk n hs) (hrl : rs.length ≤ 1000) (hv : RefsAt w gC v rs) (hvb : ∀ a n c, v = .slice (some a) n c → a.block ≠ b) :
    Calls Tryd.prog 103 #[.pointer (some ⟨b, 21, none⟩), v] w fun e w' => e = .returned (.tuple #[]) ∧ PHR w' b gC cC base (roomC rs hs) ∧ Two b gC w w' := by
  have free : ∀ (W : World) (q : HSt), PHR W b gC cC base q → HOk n q → Calls Tryd.prog 120 #[.pointer (some ⟨b, 21, none⟩)] W fun e w' => e = .returned (.bool (decide (0 ≤ lowC q))) ∧ w' = W := by
    intro W q hW hq
    have := hasFree_any b gC cC base _ _ _ W hW (by have := hq.ok.len; simp; omega)
    rw [freeL_told] at this
    exact this
  have f1 := hid (free w hs h hk)
  have f2 := hid (fun (W : World) (hW : PHR W b gC cC base (idleC rs hs)) => free W _ hW (hk.idle rs))
  have g1 := hid (finish_any b gC cC base n hs rs v w h hk hrl hv hvb)
  have u1 := hid (fun (W : World) (hW : PHR W b gC cC base (idleC rs hs)) (ht : Two b gC w W) => punit_t b gC cC base n _ rs v W hW (hk.idle rs) hrl (hv.two hvb ht))
  have g2 := hid (fun (W : World) (hW : PHR W b gC cC base (stepC rs (idleC rs hs))) (ht : Two b gC w W) => finish_any b gC cC base n _ rs v W hW ((hk.idle rs).unit rs) hrl (hv.two hvb ht) hvb)
  have H := hid h
  obtain ⟨p0, c0, e0⟩ := hv.slice
  subst e0
  clear hv hvb h hk free
  by_cases l1 : 0 ≤ lowC hs
  · have HE : Hid (roomC rs hs = hs) := hid (if_pos l1)
    rw [decide_eq_true l1] at f1
    clear l1 f2 g1 u1 g2
    go_enter Tryd.func103, Tryd.ntmps103
    go_wp2_with fail
    refine f1.out.mono ?_
    clear f1
    intro x w1 hh1
    obtain ⟨hx, hw⟩ := hh1
    subst x
    subst w1
    go_wp2_with fail
    exact bodyPost_ret (v := .tuple #[]) (by simp [results, Tryd.results103, go_sem]) rfl ⟨rfl, by rw [HE.out]; exact H.out, Two.refl _ _ _⟩
  · rw [decide_eq_false l1] at f1
    by_cases l2 : 0 ≤ lowC (idleC rs hs)
    · have HE : Hid (roomC rs hs = idleC rs hs) := hid (by unfold roomC; rw [if_neg l1, if_pos l2])
      rw [decide_eq_true l2] at f2
      generalize idleC rs hs = q1 at *
      clear l1 l2 u1 g2
      go_enter Tryd.func103, Tryd.ntmps103
      go_wp2_with fail
      refine f1.out.mono ?_
      clear f1
      intro x w1 hh1
      obtain ⟨hx, hw⟩ := hh1
      subst x
      subst w1
      go_wp2_with fail
      refine g1.out.mono ?_
      clear g1
      intro x w1 hh1
      obtain ⟨hx, hH, hT⟩ := hh1
      subst x
      have f3 := hid (f2.out w1 hH)
      have HH := hid hH
      have HT := hid hT
      clear f2 hH hT
      go_wp2_with fail
      refine f3.out.mono ?_
      clear f3
      intro x w2 hh1
      obtain ⟨hx, hw⟩ := hh1
      subst x
      subst w2
      go_wp2_with fail
      exact bodyPost_ret (v := .tuple #[]) (by simp [results, Tryd.results103, go_sem]) rfl ⟨rfl, by rw [HE.out]; exact HH.out, HT.out⟩
    · have HE : Hid (roomC rs hs = idleC rs (stepC rs (idleC rs hs))) := hid (by unfold roomC; rw [if_neg l1, if_neg l2])
      rw [decide_eq_false l2] at f2
      generalize idleC rs (stepC rs (idleC rs hs)) = q3 at *
      generalize stepC rs (idleC rs hs) = q2 at *
      generalize idleC rs hs = q1 at *
      clear l1 l2
      go_enter Tryd.func103, Tryd.ntmps103
      go_wp2_with fail
      refine f1.out.mono ?_
      clear f1
      intro x w1 hh1
      obtain ⟨hx, hw⟩ := hh1
      subst x
      subst w1
      go_wp2_with fail
      refine g1.out.mono ?_
      clear g1
      intro x w1 hh1
      obtain ⟨hx, hH, hT⟩ := hh1
      subst x
      have f3 := hid (f2.out w1 hH)
      have u2 := hid (u1.out w1 hH hT)
      have HT := hid hT
      clear f2 u1 hH hT
      go_wp2_with fail
      refine f3.out.mono ?_
      clear f3
      intro x w2 hh1
      obtain ⟨hx, hw⟩ := hh1
      subst x
      subst w2
      go_wp2_with fail
      refine u2.out.mono ?_
      clear u2
      intro x w2 hh1
      obtain ⟨hx, hH, hT⟩ := hh1
      subst x
      have ht2 := HT.out.trans hT
      have g3 := hid (g2.out w2 hH ht2)
      have HT2 := hid ht2
      clear g2 hH hT ht2
      go_wp2_with fail
      refine g3.out.mono ?_
      clear g3
      intro x w3 hh1
      obtain ⟨hx, hH, hT⟩ := hh1
      subst x
      have HH := hid hH
      have HT3 := hid hT
      clear hH hT
      go_wp2_with fail
      go_end0
      exact ⟨rfl, by rw [HE.out]; exact HH.out, HT2.out.trans HT3.out⟩
end Go.Proofs.YtdmdpindonghdaaDoor
namespace Go.Proofs.YtdmdpindonghdaaDoor
open Go.RowKit
def colFor (ph hd k : Nat) : Nat := if ph = 1 then 3 else if ph = 2 ∧ hd ≤ k then 3 else 1
set_option maxRecDepth 100000 in
set_option maxHeartbeats 1000000 in
theorem colourFor_any (b gC : Nat) (cC : CK) (base ph hd k : Nat) (cs : List Cl) (w : World) (h : PH w b gC cC base cs ph hd) :
    Calls Tryd.prog 130 #[.pointer (some ⟨b, 21, none⟩), .int .i64 k] w fun e w' => e = .returned (.int .i64 (colFor ph hd k : Nat)) ∧ w' = w := by
  have h1 := h.c1
  have h2 := h.c2
  clear h
  unfold colFor
  by_cases e1 : ph = 1
  · subst e1
    rw [if_pos rfl]
    go_enter Tryd.func130, Tryd.ntmps130
    go_wp2_with fail
    go_ret
    exact ⟨rfl, rfl⟩
  · have q1 : ((ph : Int) == 1) = false := by simp; omega
    rw [if_neg e1]
    by_cases e2 : ph = 2
    · subst e2
      by_cases e3 : hd ≤ k
      · have d3 : (hd : Int) ≤ (k : Int) := by omega
        rw [if_pos ⟨rfl, e3⟩]
        go_enter Tryd.func130, Tryd.ntmps130
        go_wp2_with fail
        go_ret
        exact ⟨rfl, rfl⟩
      · have d3 : ¬ (hd : Int) ≤ (k : Int) := by omega
        rw [if_neg (fun h => e3 h.2)]
        go_enter Tryd.func130, Tryd.ntmps130
        go_wp2_with fail
        go_ret
        exact ⟨rfl, rfl⟩
    · have q2 : ((ph : Int) == 2) = false := by simp; omega
      rw [if_neg (fun h => e2 h.1)]
      go_enter Tryd.func130, Tryd.ntmps130
      go_wp2_with fail
      go_ret
      exact ⟨rfl, rfl⟩
def PTakePost (b gC : Nat) (cC : CK) (base ph hd : Nat) (cs : List Cl) (wk : Bool) (a e n : Int) (w : World) (x : Ending) (w' : World) : Prop :=
  (freeL cs < 0 ∧ x = .returned (.tuple #[.int .i64 0, .bool false]) ∧ PH w' b gC cC base cs ph hd ∧ Two b gC w w') ∨
  (0 ≤ freeL cs ∧ x = .returned (.tuple #[.int .i64 (freeL cs), .bool true]) ∧ PH w' b gC cC base (cs.set (freeL cs).toNat ⟨colFor ph hd (freeL cs).toNat, wk, a, e, n⟩) ph hd ∧ Two b gC w w')
set_option maxRecDepth 100000 in
set_option maxHeartbeats 4000000 in
theorem ptake_any (b gC : Nat) (cC : CK) (base ph hd co : Nat) (wk : Bool) (a e n : Int) (cs : List Cl) (w : World) (h : PH w b gC cC base cs ph hd) (hl : cs.length ≤ 1000) :
    Calls Tryd.prog 122 #[.pointer (some ⟨b, 21, none⟩), .agg #[.int .i64 co, .bool wk, .int .i64 a, .int .i64 e, .int .i64 n]] w (PTakePost b gC cC base ph hd cs wk a e n w) := by
  have hbz := World.block_lt_of_cell? w _ h.c0
  have hgz := (h.row.lt gC rfl).2
  have h0 := h.c0
  have H := hid h
  simp only at hbz
  clear h
  go_enter Tryd.func122, Tryd.ntmps122
  go_wp2_with fail
  clear h0
  go_loopg [12] cs.length (fun g x w' => ∃ k : Nat, k ≤ cs.length ∧ g = cs.length - k ∧ x = .int .i64 k ∧ w' = w.alloc (.cells #[.int .i64 co, .bool wk, .int .i64 a, .int .i64 e, .int .i64 n] 77) ∧ freeL cs = firstL (fun c => c.col == 0) (cs.drop k) k)
  case atStart => exact ⟨0, by omega, by omega, rfl, rfl, rfl⟩
  case round =>
    obtain ⟨k, hk, hg, rfl, hw, hf⟩ := hrel
    have hb1 : Below w.heap.size w wr := by rw [hw]; exact (Below.refl _ _).alloc (Nat.le_refl _) _
    have hP := H.out.below hb1
    have hbox : wr.heap[w.heap.size]? = some (.cells #[.int .i64 co, .bool wk, .int .i64 a, .int .i64 e, .int .i64 n] 77) := by rw [hw]; exact heap_alloc_new _ _
    have hsz : wr.heap.size = w.heap.size + 1 := by rw [hw]; simp
    have HW := hid hw
    clear hw
    have h0 := hP.c0
    have HF := hid hf
    clear hf
    rcases Nat.lt_or_ge k cs.length with hlt | hge
    · have d0 : (0 : Int) ≤ (k : Int) := by omega
      have d1 : (k : Int) < (cs.length : Int) := by omega
      have c0 := hP.cell hlt (j := 0) (by omega)
      rw [Nat.add_zero] at c0
      have HH := hid (fun hp => firstL_hit (p := fun c => c.col == 0) hlt hp)
      have HM := hid (fun hp => firstL_miss (p := fun c => c.col == 0) hlt hp)
      simp only [clCells, List.getElem?_cons_zero] at c0
      by_cases h2 : cs[k].col = 0
      · rw [h2] at c0
        have HE : Hid (freeL cs = (k : Int)) := hid (HF.out.trans (HH.out (by simp [h2])))
        have b0 := cell_of_row wr w.heap.size 0 _ _ _ hbox
        have g0 := frozen_of_row wr w.heap.size 0 _ _ hbox
        have hcf := hid (colourFor_any b gC cC base ph hd k cs wr hP)
        have hbx2 := setCell_row (t := 77) 0 (.int .i64 (colFor ph hd k : Nat)) hbox
        have hP2 : PH (wr.setCell ⟨w.heap.size, 0, none⟩ (.int .i64 (colFor ph hd k : Nat))) b gC cC base cs ph hd := H.out.below (hb1.setCell (Nat.le_refl _) _)
        have hT2 : Two b gC w (wr.setCell ⟨w.heap.size, 0, none⟩ (.int .i64 (colFor ph hd k : Nat))) := Two.of_below (hb1.setCell (Nat.le_refl _) _)
        simp only [List.getElem?_toArray, List.getElem?_cons_zero] at b0
        have HP2 := hid hP2
        have HT2 := hid hT2
        have HBX := hid hbx2
        clear HH HM h2 hP hbox hP2 hT2 hbx2 hb1
        go_wp2_with fail
        refine hcf.out.mono ?_
        clear hcf
        intro x w1 hh1
        obtain ⟨hx, hw⟩ := hh1
        subst x
        subst w1
        go_wp2_with fail
        clear h0 c0 b0 g0
        generalize hW2 : wr.setCell ⟨w.heap.size, 0, none⟩ (.int .i64 (colFor ph hd k : Nat)) = W2 at *
        clear hW2
        have z0 := HP2.out.c0
        have z1 := HP2.out.cell hlt (j := 0) (by omega)
        have z2 := HP2.out.cell hlt (j := 1) (by omega)
        have z3 := HP2.out.cell hlt (j := 2) (by omega)
        have z4 := HP2.out.cell hlt (j := 3) (by omega)
        have z5 := HP2.out.cell hlt (j := 4) (by omega)
        have g0 := HP2.out.frozen (k * 5 + 0)
        have g1 := HP2.out.frozen (k * 5 + 1)
        have g2 := HP2.out.frozen (k * 5 + 2)
        have g3 := HP2.out.frozen (k * 5 + 3)
        have g4 := HP2.out.frozen (k * 5 + 4)
        rw [Nat.add_zero] at z1 g0
        simp only [clCells, List.getElem?_cons_zero, List.getElem?_cons_succ] at z1 z2 z3 z4 z5
        have y0 := cell_of_row W2 w.heap.size 0 _ _ _ HBX.out
        have y1 := cell_of_row W2 w.heap.size 1 _ _ _ HBX.out
        have y2 := cell_of_row W2 w.heap.size 2 _ _ _ HBX.out
        have y3 := cell_of_row W2 w.heap.size 3 _ _ _ HBX.out
        have y4 := cell_of_row W2 w.heap.size 4 _ _ _ HBX.out
        simp only [List.setIfInBounds_toArray, List.getElem?_toArray, List.set_cons_zero, List.getElem?_cons_zero, List.getElem?_cons_succ] at y0 y1 y2 y3 y4
        have HPUT := hid (HP2.out.put hlt (colFor ph hd k) wk a e n)
        have HTW := hid (HT2.out.put (k := k) (.int .i64 (colFor ph hd k : Nat)) (.bool wk) (.int .i64 a) (.int .i64 e) (.int .i64 n))
        go_region
        go_wp2_with fail
        refine bodyPost_ret (v := .tuple #[.int .i64 k, .bool true]) (by simp [results, Tryd.results122, go_sem]) rfl (.inr ⟨by rw [HE.out]; omega, by rw [HE.out], ?_, HTW.out.drew⟩)
        rw [HE.out, Int.toNat_natCast]
        exact HPUT.out.drew
      · have q2 : ((cs[k].col : Int) == 0) = false := by simp; omega
        have HE := hid (HM.out (by simp [h2]))
        clear HH HM h2 hP hbox hb1
        go_wp2_with fail
        go_roundg (cs.length - (k + 1))
        case measure => omega
        case rel => exact ⟨k + 1, by omega, rfl, by go_num, HW.out, by rw [HF.out, HE.out]⟩
    · have d1 : ¬ (k : Int) < (cs.length : Int) := by omega
      have HP := hid hP
      have HB1 := hid hb1
      clear hP hbox hb1
      go_wp2_with fail
      refine bodyPost_ret (v := .tuple #[.int .i64 0, .bool false]) (by simp [results, Tryd.results122, go_sem]) rfl (.inl ⟨?_, rfl, HP.out, Two.of_below HB1.out⟩)
      rw [HF.out, List.drop_of_length_le hge]
      simp [firstL]
theorem colFor_told (ph hd k : Nat) : toldC (freshC (doneB ph hd k)) = ⟨colFor ph hd k, false, -1, -1, 0⟩ := by
  unfold toldC freshC doneB colFor
  by_cases e1 : ph = 1
  · subst e1; simp [colR]
  · rw [if_neg e1]
    by_cases e2 : ph = 2 ∧ hd ≤ k
    · rw [if_pos e2]; simp [colR, e2.1, e2.2]
    · rw [if_neg e2]
      have : (ph == 1 || (ph == 2 && decide (hd ≤ k))) = false := by
        simp only [Bool.or_eq_false_iff, beq_eq_false_iff_ne, Bool.and_eq_false_iff, decide_eq_false_iff_not]
        refine ⟨e1, ?_⟩
        by_cases e3 : ph = 2
        · right; exact fun h => e2 ⟨e3, h⟩
        · left; exact e3
      rw [this]
      rfl
theorem PHR.of {w : World} {b gC : Nat} {cC : CK} {base : Nat} {cs : List Cl} {cs' : List RC} {ph hd : Nat} (h : PH w b gC cC base cs ph hd) (e : cs = cs'.map toldC) : PHR w b gC cC base (cs', ph, hd) := by
  subst e; exact h
def TakeP (b gC : Nat) (cC : CK) (base : Nat) (hs : HSt) (f : RC → RC) (w : World) (x : Ending) (w' : World) : Prop :=
  (lowC hs < 0 ∧ x = .returned (.tuple #[.int .i64 0, .bool false]) ∧ PHR w' b gC cC base hs ∧ Two b gC w w') ∨
  (0 ≤ lowC hs ∧ x = .returned (.tuple #[.int .i64 (lowC hs), .bool true]) ∧ PHR w' b gC cC base ((beginC hs).2.1.modify (lowC hs).toNat f, hs.2) ∧ Two b gC w w')
set_option maxRecDepth 100000 in
set_option maxHeartbeats 1000000 in
theorem takePlain_any (b gC : Nat) (cC : CK) (base n : Nat) (hs : HSt) (w : World) (h : PHR w b gC cC base hs) (hk : HOk n hs) :
    Calls Tryd.prog 105 #[.pointer (some ⟨b, 21, none⟩)] w (TakeP b gC cC base hs id w) := by
  have hpc := hid (plainCell_any w)
  have hl : (hs.1.map toldC).length ≤ 1000 := by have := hk.ok.len; simp; omega
  have htk := hid (fun (W : World) (hB : Below w.heap.size w W) => ptake_any b gC cC base _ _ 0 false (-1) (-1) 0 _ W (h.below hB) hl)
  have post : ∀ (W w' : World) (x : Ending), Below w.heap.size w W → PTakePost b gC cC base hs.2.1 hs.2.2 (hs.1.map toldC) false (-1) (-1) 0 W x w' → TakeP b gC cC base hs id w x w' := by
    intro W w' x hB hp
    unfold PTakePost at hp
    rw [freeL_told] at hp
    rcases hp with ⟨p1, p2, p3, p4⟩ | ⟨p1, p2, p3, p4⟩
    · exact .inl ⟨p1, p2, p3, (Two.of_below hB).trans p4⟩
    · refine .inr ⟨p1, p2, PHR.of p3 ?_, (Two.of_below hB).trans p4⟩
      rw [List.modify_id]
      show _ = (hs.1.set (lowC hs).toNat (freshC (doneB hs.2.1 hs.2.2 (lowC hs).toNat))).map toldC
      rw [List.map_set, colFor_told]
  have POST := hid post
  clear h hk hl post
  go_enter Tryd.func105, Tryd.ntmps105
  go_wp2_with fail
  refine hpc.out.mono ?_
  clear hpc
  intro x w1 hh1
  obtain ⟨hx, hB⟩ := hh1
  subst x
  have ht := hid (htk.out w1 hB)
  have HB := hid hB
  clear htk hB
  go_wp2_with fail
  refine ht.out.mono ?_
  clear ht
  intro x w2 hh1
  have HP := hid (POST.out w1 w2 x HB.out hh1)
  clear POST
  rcases hh1 with ⟨_, hx, _⟩ | ⟨_, hx, _⟩
  · subst x
    go_wp2_with fail
    exact bodyPost_ret (v := .tuple #[.int .i64 0, .bool false]) (by simp [results, Tryd.results105, go_sem]) rfl HP.out
  · subst x
    go_wp2_with fail
    exact bodyPost_ret (by simp [results, Tryd.results105, go_sem]) rfl HP.out
set_option maxRecDepth 100000 in
set_option maxHeartbeats 1000000 in
theorem takeWeak_any (b gC : Nat) (cC : CK) (base n : Nat) (hs : HSt) (r : Int) (w : World) (h : PHR w b gC cC base hs) (hk : HOk n hs) :
    Calls Tryd.prog 104 #[.pointer (some ⟨b, 21, none⟩), .int .i64 r] w (TakeP b gC cC base hs (weakS r) w) := by
  have hl : (hs.1.map toldC).length ≤ 1000 := by have := hk.ok.len; simp; omega
  have hB : Below w.heap.size w w := Below.refl _ _
  have htk := hid (ptake_any b gC cC base _ _ 0 true r (-1) 0 _ _ h hl)
  have post : ∀ (W w' : World) (x : Ending), Below w.heap.size w W → PTakePost b gC cC base hs.2.1 hs.2.2 (hs.1.map toldC) true r (-1) 0 W x w' → TakeP b gC cC base hs (weakS r) w x w' := by
    intro W w' x hB hp
    unfold PTakePost at hp
    rw [freeL_told] at hp
    rcases hp with ⟨p1, p2, p3, p4⟩ | ⟨p1, p2, p3, p4⟩
    · exact .inl ⟨p1, p2, p3, (Two.of_below hB).trans p4⟩
    · refine .inr ⟨p1, p2, PHR.of p3 ?_, (Two.of_below hB).trans p4⟩
      obtain ⟨hlt, _⟩ := lowC_at p1
      have e := colFor_told hs.2.1 hs.2.2 (lowC hs).toNat
      show _ = ((hs.1.set (lowC hs).toNat (freshC (doneB hs.2.1 hs.2.2 (lowC hs).toNat))).modify (lowC hs).toNat (weakS r)).map toldC
      rw [modify_set (by simpa using hlt), List.set_set, List.getElem_set_self, List.map_set]
      congr 1
      injection e with e1
      show _ = toldC (weakS r _)
      unfold toldC weakS
      rw [← e1]
      rfl
  have POST := hid post
  have HB := hid hB
  clear h hk hl post hB
  go_enter Tryd.func104, Tryd.ntmps104
  go_wp2_with fail
  refine htk.out.mono ?_
  clear htk
  intro x w2 hh1
  have HP := hid (POST.out _ w2 x HB.out hh1)
  clear POST
  rcases hh1 with ⟨_, hx, _⟩ | ⟨_, hx, _⟩
  · subst x
    go_wp2_with fail
    exact bodyPost_ret (v := .tuple #[.int .i64 0, .bool false]) (by simp [results, Tryd.results104, go_sem]) rfl HP.out
  · subst x
    go_wp2_with fail
    exact bodyPost_ret (by simp [results, Tryd.results104, go_sem]) rfl HP.out
end Go.Proofs.YtdmdpindonghdaaDoor
namespace Go.Proofs.YtdmdpindonghdaaDoor
open Go.RowKit
theorem wantsC_cases (cs : List RC) (r : Int) (b : Bool) (hr : r < (cs.length : Int)) : (r < 0 ∧ wantsC cs r b = 2) ∨ (∃ q : Nat, ∃ hq : q < cs.length, r = (q : Int) ∧ cs[q].weak ≠ b ∧ wantsC cs r b = 4) ∨ (∃ q : Nat, ∃ hq : q < cs.length, r = (q : Int) ∧ cs[q].weak = b ∧ wantsC cs r b = 0) := by
  by_cases h0 : r < 0
  · exact .inl ⟨h0, if_pos h0⟩
  · obtain ⟨q, rfl⟩ : ∃ q : Nat, r = (q : Int) := ⟨r.toNat, by omega⟩
    have hq : q < cs.length := by omega
    by_cases hb : cs[q].weak = b
    · refine .inr (.inr ⟨q, hq, rfl, hb, ?_⟩)
      unfold wantsC
      rw [if_neg h0, Int.toNat_natCast, List.getElem?_eq_getElem hq, if_pos (by simpa using hb)]
    · refine .inr (.inl ⟨q, hq, rfl, hb, ?_⟩)
      unfold wantsC
      rw [if_neg h0, Int.toNat_natCast, List.getElem?_eq_getElem hq, if_neg (by simpa using hb)]
theorem PHR.cell {w : World} {b gC : Nat} {cC : CK} {base : Nat} {hs : HSt} (h : PHR w b gC cC base hs) {k j : Nat} (hk : k < hs.1.length) (hj : j < 5) : w.cell? ⟨gC, k * 5 + j, none⟩ = (clCells (toldC hs.1[k]))[j]? := by
  have := PH.cell h (k := k) (j := j) (by simpa using hk) hj
  rw [List.getElem_map] at this
  exact this
theorem PHR.c0 {w : World} {b gC : Nat} {cC : CK} {base : Nat} {hs : HSt} (h : PHR w b gC cC base hs) : w.cell? ⟨b, 21, none⟩ = some (.slice (some ⟨gC, 0, none⟩) hs.1.length cC.cap) := by
  have := PH.c0 h
  rw [List.length_map] at this
  exact this
def findV (gC : Nat) (r q : Int) : Value := if q = 0 then .pointer (some ⟨gC, r.toNat * 5, none⟩) else .pointer none
set_option maxRecDepth 100000 in
set_option maxHeartbeats 1000000 in
theorem pfind_any (b gC : Nat) (cC : CK) (base : Nat) (hs : HSt) (r : Int) (wk : Bool) (w : World) (h : PHR w b gC cC base hs) (hr : r < (hs.1.length : Int)) :
    Calls Tryd.prog 123 #[.pointer (some ⟨b, 21, none⟩), .int .i64 r, .bool wk] w fun e w' => e = .returned (.tuple #[findV gC r (wantsC hs.1 r wk), .int .i64 (wantsC hs.1 r wk)]) ∧ w' = w := by
  have h0 := h.c0
  rcases wantsC_cases hs.1 r wk hr with ⟨hn, hw⟩ | ⟨q, hq, rfl, hne, hw⟩ | ⟨q, hq, rfl, he, hw⟩
  · rw [hw]
    clear h hw
    go_enter Tryd.func123, Tryd.ntmps123
    go_wp2_with fail
    exact bodyPost_ret (v := .tuple #[.pointer none, .int .i64 2]) (by simp [results, Tryd.results123, go_sem]) rfl ⟨rfl, rfl⟩
  · rw [hw]
    have k1 := h.cell hq (j := 1) (by omega)
    simp only [toldC, clCells, List.getElem?_cons_zero, List.getElem?_cons_succ] at k1
    generalize hs.1[q].weak = u at *
    have hu : u = !wk := by revert hne; cases u <;> cases wk <;> simp
    rw [hu] at k1
    have d0 : ¬ (q : Int) < 0 := by omega
    have d2 : (0 : Int) ≤ (q : Int) := by omega
    clear h hw hne hu
    cases wk <;>
    (go_enter Tryd.func123, Tryd.ntmps123
     go_wp2_with fail
     exact bodyPost_ret (v := .tuple #[.pointer none, .int .i64 4]) (by simp [results, Tryd.results123, go_sem]) rfl ⟨rfl, rfl⟩)
  · rw [hw]
    have k1 := h.cell hq (j := 1) (by omega)
    simp only [toldC, clCells, List.getElem?_cons_zero, List.getElem?_cons_succ] at k1
    rw [he] at k1
    have d0 : ¬ (q : Int) < 0 := by omega
    have d2 : (0 : Int) ≤ (q : Int) := by omega
    clear h hw he
    go_enter Tryd.func123, Tryd.ntmps123
    go_wp2_with fail
    exact bodyPost_ret (v := .tuple #[.pointer (some ⟨gC, q * 5, none⟩), .int .i64 0]) (by simp [results, Tryd.results123, go_sem]) rfl ⟨rfl, rfl⟩
set_option maxRecDepth 100000 in
set_option maxHeartbeats 1000000 in
theorem pget_any (b gC : Nat) (cC : CK) (base : Nat) (hs : HSt) (r : Int) (n : Nat) (w : World) (h : PHR w b gC cC base hs) (hr : r < (hs.1.length : Int)) :
    Calls Tryd.prog 106 #[.pointer (some ⟨b, 21, none⟩), .int .i64 r, .int .i64 (n : Nat)] w fun e w' => e = .returned (.tuple #[.int .i64 (if wantsC hs.1 r false = 0 then (if n = 0 then (cellAt hs.1 r).a else (cellAt hs.1 r).b) else 0), .int .i64 (wantsC hs.1 r false)]) ∧ w' = w := by
  rcases wantsC_cases hs.1 r false hr with ⟨hn, hw⟩ | ⟨q, hq, rfl, hne, hw⟩ | ⟨q, hq, rfl, he, hw⟩
  · clear hn
    have hf := hid (pfind_any b gC cC base hs _ false w h hr)
    rw [hw] at hf
    rw [hw, if_neg (by decide)]
    rw [show findV gC _ (2 : Int) = .pointer none from if_neg (by decide)] at hf
    clear h hw
    go_enter Tryd.func106, Tryd.ntmps106
    go_wp2_with fail
    refine hf.out.mono ?_
    clear hf
    intro x w1 hh1
    obtain ⟨hx, hw⟩ := hh1
    subst x
    subst w1
    go_wp2_with fail
    exact bodyPost_ret (v := .tuple #[.int .i64 0, .int .i64 2]) (by simp [results, Tryd.results106, go_sem]) rfl ⟨rfl, rfl⟩
  · clear hne
    have hf := hid (pfind_any b gC cC base hs _ false w h hr)
    rw [hw] at hf
    rw [hw, if_neg (by decide)]
    rw [show findV gC _ (4 : Int) = .pointer none from if_neg (by decide)] at hf
    clear h hw
    go_enter Tryd.func106, Tryd.ntmps106
    go_wp2_with fail
    refine hf.out.mono ?_
    clear hf
    intro x w1 hh1
    obtain ⟨hx, hw⟩ := hh1
    subst x
    subst w1
    go_wp2_with fail
    exact bodyPost_ret (v := .tuple #[.int .i64 0, .int .i64 4]) (by simp [results, Tryd.results106, go_sem]) rfl ⟨rfl, rfl⟩
  · have hf := hid (pfind_any b gC cC base hs _ false w h hr)
    rw [hw] at hf
    rw [hw, if_pos rfl]
    rw [show findV gC (q : Int) (0 : Int) = .pointer (some ⟨gC, q * 5, none⟩) from rfl] at hf
    have k2 := h.cell hq (j := 2) (by omega)
    have k3 := h.cell hq (j := 3) (by omega)
    have k4 := h.cell hq (j := 4) (by omega)
    have hca : cellAt hs.1 (q : Int) = hs.1[q] := by unfold cellAt; rw [Int.toNat_natCast, List.getD_eq_getElem?_getD, List.getElem?_eq_getElem hq]; rfl
    rw [hca]
    clear hca
    simp only [toldC, clCells, List.getElem?_cons_zero, List.getElem?_cons_succ] at k2 k3 k4
    generalize hs.1[q].a = aa at *
    generalize hs.1[q].b = bb at *
    generalize hs.1[q].num = nn at *
    by_cases e0 : n = 0
    · have q0 : ((n : Int) == 0) = true := by simp; omega
      rw [if_pos e0]
      clear h hw he
      go_enter Tryd.func106, Tryd.ntmps106
      go_wp2_with fail
      refine hf.out.mono ?_
      clear hf
      intro x w1 hh1
      obtain ⟨hx, hw⟩ := hh1
      subst x
      subst w1
      go_wp2_with fail
      exact bodyPost_ret (v := .tuple #[.int .i64 aa, .int .i64 0]) (by simp [results, Tryd.results106, go_sem]) rfl ⟨rfl, rfl⟩
    · have q0 : ((n : Int) == 0) = false := by simp; omega
      rw [if_neg e0]
      clear h hw he
      go_enter Tryd.func106, Tryd.ntmps106
      go_wp2_with fail
      refine hf.out.mono ?_
      clear hf
      intro x w1 hh1
      obtain ⟨hx, hw⟩ := hh1
      subst x
      subst w1
      go_wp2_with fail
      exact bodyPost_ret (v := .tuple #[.int .i64 bb, .int .i64 0]) (by simp [results, Tryd.results106, go_sem]) rfl ⟨rfl, rfl⟩
set_option maxRecDepth 100000 in
set_option maxHeartbeats 1000000 in
theorem pnumber_any (b gC : Nat) (cC : CK) (base : Nat) (hs : HSt) (r : Int) (w : World) (h : PHR w b gC cC base hs) (hr : r < (hs.1.length : Int)) :
    Calls Tryd.prog 107 #[.pointer (some ⟨b, 21, none⟩), .int .i64 r] w fun e w' => e = .returned (.tuple #[.int .i64 (if wantsC hs.1 r false = 0 then ((cellAt hs.1 r).num) else 0), .int .i64 (wantsC hs.1 r false)]) ∧ w' = w := by
  rcases wantsC_cases hs.1 r false hr with ⟨hn, hw⟩ | ⟨q, hq, rfl, hne, hw⟩ | ⟨q, hq, rfl, he, hw⟩
  · clear hn
    have hf := hid (pfind_any b gC cC base hs _ false w h hr)
    rw [hw] at hf
    rw [hw, if_neg (by decide)]
    rw [show findV gC _ (2 : Int) = .pointer none from if_neg (by decide)] at hf
    clear h hw
    go_enter Tryd.func107, Tryd.ntmps107
    go_wp2_with fail
    refine hf.out.mono ?_
    clear hf
    intro x w1 hh1
    obtain ⟨hx, hw⟩ := hh1
    subst x
    subst w1
    go_wp2_with fail
    exact bodyPost_ret (v := .tuple #[.int .i64 0, .int .i64 2]) (by simp [results, Tryd.results107, go_sem]) rfl ⟨rfl, rfl⟩
  · clear hne
    have hf := hid (pfind_any b gC cC base hs _ false w h hr)
    rw [hw] at hf
    rw [hw, if_neg (by decide)]
    rw [show findV gC _ (4 : Int) = .pointer none from if_neg (by decide)] at hf
    clear h hw
    go_enter Tryd.func107, Tryd.ntmps107
    go_wp2_with fail
    refine hf.out.mono ?_
    clear hf
    intro x w1 hh1
    obtain ⟨hx, hw⟩ := hh1
    subst x
    subst w1
    go_wp2_with fail
    exact bodyPost_ret (v := .tuple #[.int .i64 0, .int .i64 4]) (by simp [results, Tryd.results107, go_sem]) rfl ⟨rfl, rfl⟩
  · have hf := hid (pfind_any b gC cC base hs _ false w h hr)
    rw [hw] at hf
    rw [hw, if_pos rfl]
    rw [show findV gC (q : Int) (0 : Int) = .pointer (some ⟨gC, q * 5, none⟩) from rfl] at hf
    have k2 := h.cell hq (j := 2) (by omega)
    have k3 := h.cell hq (j := 3) (by omega)
    have k4 := h.cell hq (j := 4) (by omega)
    have hca : cellAt hs.1 (q : Int) = hs.1[q] := by unfold cellAt; rw [Int.toNat_natCast, List.getD_eq_getElem?_getD, List.getElem?_eq_getElem hq]; rfl
    rw [hca]
    clear hca
    simp only [toldC, clCells, List.getElem?_cons_zero, List.getElem?_cons_succ] at k2 k3 k4
    generalize hs.1[q].a = aa at *
    generalize hs.1[q].b = bb at *
    generalize hs.1[q].num = nn at *
    clear h hw he
    go_enter Tryd.func107, Tryd.ntmps107
    go_wp2_with fail
    refine hf.out.mono ?_
    clear hf
    intro x w1 hh1
    obtain ⟨hx, hw⟩ := hh1
    subst x
    subst w1
    go_wp2_with fail
    exact bodyPost_ret (v := .tuple #[.int .i64 nn, .int .i64 0]) (by simp [results, Tryd.results107, go_sem]) rfl ⟨rfl, rfl⟩
set_option maxRecDepth 100000 in
set_option maxHeartbeats 1000000 in
theorem ppeek_any (b gC : Nat) (cC : CK) (base : Nat) (hs : HSt) (r : Int) (w : World) (h : PHR w b gC cC base hs) (hr : r < (hs.1.length : Int)) :
    Calls Tryd.prog 108 #[.pointer (some ⟨b, 21, none⟩), .int .i64 r] w fun e w' => e = .returned (.tuple #[.int .i64 (if wantsC hs.1 r true = 0 then ((cellAt hs.1 r).a) else 0), .int .i64 (wantsC hs.1 r true)]) ∧ w' = w := by
  rcases wantsC_cases hs.1 r true hr with ⟨hn, hw⟩ | ⟨q, hq, rfl, hne, hw⟩ | ⟨q, hq, rfl, he, hw⟩
  · clear hn
    have hf := hid (pfind_any b gC cC base hs _ true w h hr)
    rw [hw] at hf
    rw [hw, if_neg (by decide)]
    rw [show findV gC _ (2 : Int) = .pointer none from if_neg (by decide)] at hf
    clear h hw
    go_enter Tryd.func108, Tryd.ntmps108
    go_wp2_with fail
    refine hf.out.mono ?_
    clear hf
    intro x w1 hh1
    obtain ⟨hx, hw⟩ := hh1
    subst x
    subst w1
    go_wp2_with fail
    exact bodyPost_ret (v := .tuple #[.int .i64 0, .int .i64 2]) (by simp [results, Tryd.results108, go_sem]) rfl ⟨rfl, rfl⟩
  · clear hne
    have hf := hid (pfind_any b gC cC base hs _ true w h hr)
    rw [hw] at hf
    rw [hw, if_neg (by decide)]
    rw [show findV gC _ (4 : Int) = .pointer none from if_neg (by decide)] at hf
    clear h hw
    go_enter Tryd.func108, Tryd.ntmps108
    go_wp2_with fail
    refine hf.out.mono ?_
    clear hf
    intro x w1 hh1
    obtain ⟨hx, hw⟩ := hh1
    subst x
    subst w1
    go_wp2_with fail
    exact bodyPost_ret (v := .tuple #[.int .i64 0, .int .i64 4]) (by simp [results, Tryd.results108, go_sem]) rfl ⟨rfl, rfl⟩
  · have hf := hid (pfind_any b gC cC base hs _ true w h hr)
    rw [hw] at hf
    rw [hw, if_pos rfl]
    rw [show findV gC (q : Int) (0 : Int) = .pointer (some ⟨gC, q * 5, none⟩) from rfl] at hf
    have k2 := h.cell hq (j := 2) (by omega)
    have k3 := h.cell hq (j := 3) (by omega)
    have k4 := h.cell hq (j := 4) (by omega)
    have hca : cellAt hs.1 (q : Int) = hs.1[q] := by unfold cellAt; rw [Int.toNat_natCast, List.getD_eq_getElem?_getD, List.getElem?_eq_getElem hq]; rfl
    rw [hca]
    clear hca
    simp only [toldC, clCells, List.getElem?_cons_zero, List.getElem?_cons_succ] at k2 k3 k4
    generalize hs.1[q].a = aa at *
    generalize hs.1[q].b = bb at *
    generalize hs.1[q].num = nn at *
    clear h hw he
    go_enter Tryd.func108, Tryd.ntmps108
    go_wp2_with fail
    refine hf.out.mono ?_
    clear hf
    intro x w1 hh1
    obtain ⟨hx, hw⟩ := hh1
    subst x
    subst w1
    go_wp2_with fail
    exact bodyPost_ret (v := .tuple #[.int .i64 aa, .int .i64 0]) (by simp [results, Tryd.results108, go_sem]) rfl ⟨rfl, rfl⟩
end Go.Proofs.YtdmdpindonghdaaDoor
namespace Go.Proofs.YtdmdpindonghdaaDoor
open Go.RowKit
def setABL (n : Nat) (v : Int) (c : Cl) : Cl := if n = 0 then { c with a := v } else { c with b := v }
theorem told_setAB (n : Nat) (v : Int) (c : RC) : toldC (setAB n v c) = setABL n v (toldC c) := by
  unfold setAB setABL
  split <;> rfl
theorem modL_comm {T : List Cl} {r q : Nat} {f g : Cl → Cl} (h : ∀ c, f (g c) = g (f c)) : (T.modify r f).modify q g = (T.modify q g).modify r f := by
  apply List.ext_getElem?
  intro j
  simp only [List.getElem?_modify]
  cases T[j]? with
  | none => rfl
  | some c =>
    by_cases h1 : r = j <;> by_cases h2 : q = j <;> simp [h1, h2, h]
theorem shade_set {T : List Cl} {r n : Nat} {v s : Int} : shadeL (T.modify r (setABL n v)) s = (shadeL T s).modify r (setABL n v) := by
  have hh : hasL (T.modify r (setABL n v)) s 1 = hasL T s 1 := by
    unfold hasL
    rw [List.length_modify]
    have : colL (T.modify r (setABL n v)) s.toNat = colL T s.toNat := by
      unfold colL
      congr 1
      rw [List.getElem?_modify]
      cases T[s.toNat]? with
      | none => rfl
      | some c =>
        by_cases e : r = s.toNat
        · simp only [if_pos e, Option.map_eq_map, Option.map_some]
          unfold setABL
          split <;> rfl
        · simp [e]
    rw [this]
  unfold shadeL
  rw [hh]
  split
  · refine modL_comm (fun c => ?_)
    unfold setABL paintL
    split <;> rfl
  · rfl
theorem told_modify {cs : List RC} {r : Nat} {f : RC → RC} {g : Cl → Cl} (h : ∀ c, toldC (f c) = g (toldC c)) : (cs.modify r f).map toldC = (cs.map toldC).modify r g := by
  apply List.ext_getElem?
  intro j
  rw [List.getElem?_map, List.getElem?_modify, List.getElem?_modify, List.getElem?_map]
  cases cs[j]? with
  | none => rfl
  | some c => by_cases e : r = j <;> simp [e, h]
theorem told_store (cs : List RC) (ph r n : Nat) (v : Int) : (storeC cs ph r n v).map toldC = (if ph = 1 then shadeL (cs.map toldC) v else cs.map toldC).modify r (setABL n v) := by
  unfold storeC
  by_cases e : ph = 1
  · rw [if_pos e, if_pos e, reachC_one, ← told_shade, told_modify (told_setAB n v), shade_set]
  · rw [if_neg e, if_neg e, told_modify (told_setAB n v)]
def setPost (hs : HSt) (r : Int) (n : Nat) (s : Int) : HSt := if wantsC hs.1 r false = 0 then (storeC hs.1 hs.2.1 r.toNat n s, hs.2) else hs
theorem PH.setAB {w : World} {b gC : Nat} {cC : CK} {base ph hd q n : Nat} {T : List Cl} {s : Int} (h : PH w b gC cC base T ph hd) (hq : q < T.length) :
    (∃ v, w.cell? ⟨gC, q * 5 + (if n = 0 then 2 else 3), none⟩ = some v) ∧ w.frozen? ⟨gC, q * 5 + (if n = 0 then 2 else 3), none⟩ = false ∧ PH (w.setCell ⟨gC, q * 5 + (if n = 0 then 2 else 3), none⟩ (.int .i64 s)) b gC cC base (T.modify q (setABL n s)) ph hd := by
  rw [modify_setL hq]
  unfold setABL
  by_cases e : n = 0
  · rw [if_pos e, if_pos e]
    exact ⟨⟨_, h.cell hq (j := 2) (by omega)⟩, h.frozen _, h.upd hq (by omega) rfl⟩
  · rw [if_neg e, if_neg e]
    exact ⟨⟨_, h.cell hq (j := 3) (by omega)⟩, h.frozen _, h.upd hq (by omega) rfl⟩
set_option maxRecDepth 100000 in
set_option maxHeartbeats 1000000 in
theorem pset_any (b gC : Nat) (cC : CK) (base : Nat) (hs : HSt) (r : Int) (n : Nat) (s : Int) (w : World) (h : PHR w b gC cC base hs) (hr : r < (hs.1.length : Int)) :
    Calls Tryd.prog 109 #[.pointer (some ⟨b, 21, none⟩), .int .i64 r, .int .i64 n, .int .i64 s] w fun e w' => e = .returned (.int .i64 (wantsC hs.1 r false)) ∧ PHR w' b gC cC base (setPost hs r n s) ∧ Only gC w w' := by
  unfold setPost
  have H := hid h
  have hf := hid (pfind_any b gC cC base hs r false w h hr)
  rcases wantsC_cases hs.1 r false hr with ⟨hn, hw⟩ | ⟨q, hq, rfl, hne, hw⟩ | ⟨q, hq, rfl, he, hw⟩
  · rw [hw] at hf
    rw [hw, if_neg (by decide)]
    rw [show findV gC _ (2 : Int) = .pointer none from if_neg (by decide)] at hf
    clear h hw hn
    go_enter Tryd.func109, Tryd.ntmps109
    go_wp2_with fail
    refine hf.out.mono ?_
    clear hf
    intro x w1 hh1
    obtain ⟨hx, hw⟩ := hh1
    subst x
    subst w1
    go_wp2_with fail
    go_ret
    exact ⟨rfl, H.out, Only.refl _ _⟩
  · rw [hw] at hf
    rw [hw, if_neg (by decide)]
    rw [show findV gC _ (4 : Int) = .pointer none from if_neg (by decide)] at hf
    clear h hw hne
    go_enter Tryd.func109, Tryd.ntmps109
    go_wp2_with fail
    refine hf.out.mono ?_
    clear hf
    intro x w1 hh1
    obtain ⟨hx, hw⟩ := hh1
    subst x
    subst w1
    go_wp2_with fail
    go_ret
    exact ⟨rfl, H.out, Only.refl _ _⟩
  · rw [hw] at hf
    rw [hw, if_pos rfl]
    rw [show findV gC (q : Int) (0 : Int) = .pointer (some ⟨gC, q * 5, none⟩) from rfl] at hf
    rw [Int.toNat_natCast]
    have h1 := PH.c1 h
    have hT : q < (hs.1.map toldC).length := by simpa using hq
    have HE := hid (told_store hs.1 hs.2.1 q n s)
    by_cases e1 : hs.2.1 = 1
    · have q1 : ((hs.2.1 : Int) == 1) = true := by simp; omega
      rw [if_pos e1] at HE
      have hsh := hid (shade_any b gC cC base _ _ _ s w h)
      have hT2 : q < (shadeL (hs.1.map toldC) s).length := by rw [shadeL_len]; exact hT
      by_cases en : n = 0
      · have qn : ((n : Int) == 0) = true := by simp; omega
        have SET := hid (fun (W : World) (hW : PH W b gC cC base (shadeL (hs.1.map toldC) s) hs.2.1 hs.2.2) => PH.setAB (n := n) (s := s) hW hT2)
        rw [if_pos en] at SET
        clear h hw he e1 en
        go_enter Tryd.func109, Tryd.ntmps109
        go_wp2_with fail
        refine hf.out.mono ?_
        clear hf
        intro x w1 hh1
        obtain ⟨hx, hw⟩ := hh1
        subst x
        subst w1
        go_wp2_with fail
        refine hsh.out.mono ?_
        clear hsh
        intro x w1 hh1
        obtain ⟨hx, hH, hO⟩ := hh1
        subst x
        obtain ⟨⟨v, a1⟩, a2, a3⟩ := SET.out w1 hH
        have A3 := hid a3
        have HO := hid hO
        clear hH hO a3 SET
        go_wp2_with fail
        go_ret
        exact ⟨rfl, PHR.of A3.out HE.out.symm, HO.out.set _ _⟩
      · have qn : ((n : Int) == 0) = false := by simp; omega
        have SET := hid (fun (W : World) (hW : PH W b gC cC base (shadeL (hs.1.map toldC) s) hs.2.1 hs.2.2) => PH.setAB (n := n) (s := s) hW hT2)
        rw [if_neg en] at SET
        clear h hw he e1 en
        go_enter Tryd.func109, Tryd.ntmps109
        go_wp2_with fail
        refine hf.out.mono ?_
        clear hf
        intro x w1 hh1
        obtain ⟨hx, hw⟩ := hh1
        subst x
        subst w1
        go_wp2_with fail
        refine hsh.out.mono ?_
        clear hsh
        intro x w1 hh1
        obtain ⟨hx, hH, hO⟩ := hh1
        subst x
        obtain ⟨⟨v, a1⟩, a2, a3⟩ := SET.out w1 hH
        have A3 := hid a3
        have HO := hid hO
        clear hH hO a3 SET
        go_wp2_with fail
        go_ret
        exact ⟨rfl, PHR.of A3.out HE.out.symm, HO.out.set _ _⟩
    · have q1 : ((hs.2.1 : Int) == 1) = false := by simp; omega
      rw [if_neg e1] at HE
      obtain ⟨⟨v, a1⟩, a2, a3⟩ := PH.setAB (n := n) (s := s) h hT
      by_cases en : n = 0
      · have qn : ((n : Int) == 0) = true := by simp; omega
        rw [if_pos en] at a1 a2 a3
        have A3 := hid a3
        clear h hw he e1 en a3
        go_enter Tryd.func109, Tryd.ntmps109
        go_wp2_with fail
        refine hf.out.mono ?_
        clear hf
        intro x w1 hh1
        obtain ⟨hx, hw⟩ := hh1
        subst x
        subst w1
        go_wp2_with fail
        go_ret
        exact ⟨rfl, PHR.of A3.out HE.out.symm, (Only.refl _ _).set _ _⟩
      · have qn : ((n : Int) == 0) = false := by simp; omega
        rw [if_neg en] at a1 a2 a3
        have A3 := hid a3
        clear h hw he e1 en a3
        go_enter Tryd.func109, Tryd.ntmps109
        go_wp2_with fail
        refine hf.out.mono ?_
        clear hf
        intro x w1 hh1
        obtain ⟨hx, hw⟩ := hh1
        subst x
        subst w1
        go_wp2_with fail
        go_ret
        exact ⟨rfl, PHR.of A3.out HE.out.symm, (Only.refl _ _).set _ _⟩
def notePost (hs : HSt) (r : Int) (v : Int) : HSt := if wantsC hs.1 r false = 0 then (hs.1.modify r.toNat (noteS v), hs.2) else hs
def noteL (v : Int) (c : Cl) : Cl := { c with num := v }
set_option maxRecDepth 100000 in
set_option maxHeartbeats 1000000 in
theorem pnote_any (b gC : Nat) (cC : CK) (base : Nat) (hs : HSt) (r : Int) (s : Int) (w : World) (h : PHR w b gC cC base hs) (hr : r < (hs.1.length : Int)) :
    Calls Tryd.prog 110 #[.pointer (some ⟨b, 21, none⟩), .int .i64 r, .int .i64 s] w fun e w' => e = .returned (.int .i64 (wantsC hs.1 r false)) ∧ PHR w' b gC cC base (notePost hs r s) ∧ Only gC w w' := by
  unfold notePost
  have H := hid h
  have hf := hid (pfind_any b gC cC base hs r false w h hr)
  rcases wantsC_cases hs.1 r false hr with ⟨hn, hw⟩ | ⟨q, hq, rfl, hne, hw⟩ | ⟨q, hq, rfl, he, hw⟩
  · rw [hw] at hf
    rw [hw, if_neg (by decide)]
    rw [show findV gC _ (2 : Int) = .pointer none from if_neg (by decide)] at hf
    clear h hw hn
    go_enter Tryd.func110, Tryd.ntmps110
    go_wp2_with fail
    refine hf.out.mono ?_
    clear hf
    intro x w1 hh1
    obtain ⟨hx, hw⟩ := hh1
    subst x
    subst w1
    go_wp2_with fail
    go_ret
    exact ⟨rfl, H.out, Only.refl _ _⟩
  · rw [hw] at hf
    rw [hw, if_neg (by decide)]
    rw [show findV gC _ (4 : Int) = .pointer none from if_neg (by decide)] at hf
    clear h hw hne
    go_enter Tryd.func110, Tryd.ntmps110
    go_wp2_with fail
    refine hf.out.mono ?_
    clear hf
    intro x w1 hh1
    obtain ⟨hx, hw⟩ := hh1
    subst x
    subst w1
    go_wp2_with fail
    go_ret
    exact ⟨rfl, H.out, Only.refl _ _⟩
  · rw [hw] at hf
    rw [hw, if_pos rfl]
    rw [show findV gC (q : Int) (0 : Int) = .pointer (some ⟨gC, q * 5, none⟩) from rfl] at hf
    rw [Int.toNat_natCast]
    have hT : q < (hs.1.map toldC).length := by simpa using hq
    have k4 := h.cell hq (j := 4) (by omega)
    have f4 := PH.frozen h (q * 5 + 4)
    simp only [toldC, clCells, List.getElem?_cons_zero, List.getElem?_cons_succ] at k4
    have HE : Hid ((hs.1.modify q (noteS s)).map toldC = (hs.1.map toldC).modify q (noteL s)) := hid (told_modify (fun _ => rfl))
    have hu := PH.upd h (k := q) (j := 4) (c := noteL s (hs.1.map toldC)[q]) (v := .int .i64 s) hT (by omega) rfl
    rw [← modify_setL hT] at hu
    have HU := hid hu
    clear h hw he hu
    go_enter Tryd.func110, Tryd.ntmps110
    go_wp2_with fail
    refine hf.out.mono ?_
    clear hf
    intro x w1 hh1
    obtain ⟨hx, hw⟩ := hh1
    subst x
    subst w1
    go_wp2_with fail
    go_ret
    exact ⟨rfl, PHR.of HU.out HE.out.symm, (Only.refl _ _).set _ _⟩
end Go.Proofs.YtdmdpindonghdaaDoor
namespace Go.Proofs.YtdmdpindonghdaaDoor
open Go.RowKit
/-- What can be reached: what a root, or a plain cell that can be reached, refers to. -/
def Rch (T : List Cl) (rs : List Int) (n : Nat) : Prop :=
  ∀ P : Nat → Prop, (∀ k : Nat, (k : Int) ∈ rs → P k) → (∀ (k j : Nat) (c : Cl), P k → T[k]? = some c → c.weak = false → (c.a = (j : Int) ∨ c.b = (j : Int)) → P j) → P n
theorem Rch.root {T : List Cl} {rs : List Int} (k : Nat) (h : (k : Int) ∈ rs) : Rch T rs k := fun _ h0 _ => h0 k h
theorem Rch.ref {T : List Cl} {rs : List Int} (k j : Nat) (c : Cl) (h : Rch T rs k) (h1 : T[k]? = some c) (h2 : c.weak = false) (h3 : c.a = (j : Int) ∨ c.b = (j : Int)) : Rch T rs j := fun P q0 q1 => q1 k j c (h P q0 q1) h1 h2 h3
theorem Rch.ind {T : List Cl} {rs : List Int} {motive : (n : Nat) → Rch T rs n → Prop} (root : ∀ (k : Nat) (h : (k : Int) ∈ rs), motive k (Rch.root k h)) (ref : ∀ (k j : Nat) (c : Cl) (h : Rch T rs k) (h1 : T[k]? = some c) (h2 : c.weak = false) (h3 : c.a = (j : Int) ∨ c.b = (j : Int)), motive k h → motive j (Rch.ref k j c h h1 h2 h3)) {n : Nat} (t : Rch T rs n) : motive n t := by
  have h := t (fun m => ∃ x : Rch T rs m, motive m x) (fun k hk => ⟨.root k hk, root k hk⟩) (fun k j c hk h1 h2 h3 => hk.elim (fun x hx => ⟨.ref k j c x h1 h2 h3, ref k j c x h1 h2 h3 hx⟩))
  exact h.elim (fun _ hx => hx)
/-- A cell that this round's sweep will not free. -/
def Alive (T : List Cl) (ph hd k : Nat) : Prop := colL T k ≠ 0 ∧ ¬ (ph = 2 ∧ hd ≤ k ∧ colL T k = 1)
structure GInv (T : List Cl) (ph hd : Nat) (rs : List Int) : Prop where
  root : ∀ k : Nat, (k : Int) ∈ rs → Alive T ph hd k
  clos : ∀ (k : Nat) (c : Cl), T[k]? = some c → Alive T ph hd k → ∀ j : Nat, (c.a = (j : Int) ∨ c.b = (j : Int)) → Alive T ph hd j
  blank : ∀ c ∈ T, c.col = 0 → c = blankL
  col3 : ∀ c ∈ T, c.col ≤ 3
  idle : ph = 0 → ∀ c ∈ T, c.col ≤ 1
  mark : ph = 1 → ∀ (k : Nat) (c : Cl), T[k]? = some c → c.col = 3 → c.weak = false → ∀ j : Nat, (c.a = (j : Int) ∨ c.b = (j : Int)) → 2 ≤ colL T j
  low : ph = 2 → ∀ (k : Nat) (c : Cl), T[k]? = some c → k < hd → c.col ≠ 3
  nogrey : ph = 2 → ∀ c ∈ T, c.col ≠ 2
  weak : ∀ c ∈ T, c.weak = true → c.b = -1 ∧ c.num = 0
theorem colL_some {T : List Cl} {k : Nat} {c : Cl} (h : T[k]? = some c) : colL T k = c.col := by unfold colL; rw [h]; rfl
theorem colL_none {T : List Cl} {k : Nat} (h : T[k]? = none) : colL T k = 9 := by unfold colL; rw [h]; rfl
theorem GInv.alive {T : List Cl} {ph hd : Nat} {rs : List Int} (h : GInv T ph hd rs) {k : Nat} (hr : Rch T rs k) : Alive T ph hd k := by
  induction hr using Rch.ind with
  | root k hk => exact h.root k hk
  | ref k j c _ hc _ hj ih => exact h.clos k c hc ih j hj
/-- What is done to each cell's colour alone. -/
structure Paint (T T' : List Cl) : Prop where
  get : ∀ (k : Nat) (c' : Cl), T'[k]? = some c' → ∃ c, T[k]? = some c ∧ c' = { c with col := c'.col }
  back : ∀ (k : Nat) (c : Cl), T[k]? = some c → ∃ c', T'[k]? = some c' ∧ c' = { c with col := c'.col }
theorem Paint.refl (T : List Cl) : Paint T T := ⟨fun _ c h => ⟨c, h, rfl⟩, fun _ c h => ⟨c, h, rfl⟩⟩
theorem Paint.trans {T T' T'' : List Cl} (h : Paint T T') (h' : Paint T' T'') : Paint T T'' := by
  refine ⟨fun k c'' hc => ?_, fun k c hc => ?_⟩
  · obtain ⟨c', h1, e1⟩ := h'.get k c'' hc
    obtain ⟨c, h2, e2⟩ := h.get k c' h1
    exact ⟨c, h2, by rw [e1, e2]⟩
  · obtain ⟨c', h1, e1⟩ := h.back k c hc
    obtain ⟨c'', h2, e2⟩ := h'.back k c' h1
    exact ⟨c'', h2, by rw [e2, e1]⟩
theorem paint_modify (T : List Cl) (g n : Nat) : Paint T (T.modify g (paintL n)) := by
  refine ⟨fun k c' h => ?_, fun k c h => ?_⟩
  · rw [List.getElem?_modify] at h
    split at h
    · rename_i e
      cases hk : T[k]? with
      | none => rw [hk] at h; cases h
      | some c =>
        rw [hk] at h
        simp only [Option.map_eq_map, Option.map_some, Option.some.injEq] at h
        subst h
        exact ⟨c, rfl, rfl⟩
    · cases hk : T[k]? with
      | none => rw [hk] at h; cases h
      | some c =>
        rw [hk] at h
        simp only [Option.map_eq_map, Option.map_some, Option.some.injEq] at h
        subst h
        exact ⟨c, rfl, rfl⟩
  · rw [List.getElem?_modify, h]
    split
    · exact ⟨_, rfl, rfl⟩
    · exact ⟨_, rfl, rfl⟩
theorem colL_paint (T : List Cl) (g n k : Nat) (hg : g < T.length) : colL (T.modify g (paintL n)) k = if k = g then n else colL T k := by
  unfold colL
  rw [List.getElem?_modify]
  by_cases e : k = g
  · subst e
    rw [if_pos rfl, List.getElem?_eq_getElem hg]
    simp [paintL]
  · rw [if_neg e]
    cases T[k]? with
    | none => rfl
    | some c => simp [Ne.symm e]
theorem shade_paint (T : List Cl) (r : Int) : Paint T (shadeL T r) := by
  unfold shadeL
  split
  · exact paint_modify _ _ _
  · exact Paint.refl _
theorem shade_colL (T : List Cl) (r : Int) (k : Nat) : colL (shadeL T r) k = if (k : Int) = r ∧ colL T k = 1 then 2 else colL T k := by
  unfold shadeL
  by_cases h : hasL T r 1 = true
  · rw [if_pos h]
    unfold hasL at h
    simp only [Bool.and_eq_true, decide_eq_true_eq, beq_iff_eq] at h
    obtain ⟨h1, h2, h3⟩ := h
    rw [colL_paint _ _ _ _ (by omega)]
    by_cases e : k = r.toNat
    · rw [if_pos e, if_pos ⟨by omega, by rw [e]; exact h3⟩]
    · rw [if_neg e, if_neg (by rintro ⟨a, _⟩; omega)]
  · rw [if_neg h]
    by_cases hk : (k : Int) = r ∧ colL T k = 1
    · exfalso
      apply h
      unfold hasL
      have hlt : k < T.length := by
        rcases Nat.lt_or_ge k T.length with h | h
        · exact h
        · have := colL_none (List.getElem?_eq_none h); omega
      simp only [Bool.and_eq_true, decide_eq_true_eq, beq_iff_eq]
      refine ⟨by omega, by omega, ?_⟩
      rw [← hk.1, Int.toNat_natCast]
      exact hk.2
    · rw [if_neg hk]
theorem shades_paint : ∀ (rs : List Int) (T : List Cl), Paint T (shadesL T rs)
  | [], T => Paint.refl T
  | r :: rs, T => (shade_paint T r).trans (shades_paint rs _)
theorem shades_colL : ∀ (rs : List Int) (T : List Cl) (k : Nat), colL (shadesL T rs) k = if (k : Int) ∈ rs ∧ colL T k = 1 then 2 else colL T k
  | [], T, k => by simp [shadesL]
  | r :: rs, T, k => by
    simp only [shadesL]
    rw [shades_colL rs, shade_colL]
    by_cases h1 : colL T k = 1
    · by_cases hr : (k : Int) = r
      · simp [h1, hr]
      · by_cases hm : (k : Int) ∈ rs <;> simp [h1, hr, hm]
    · simp [h1]
/-- What is painted lighter is none. -/
theorem Paint.mem {T T' : List Cl} (h : Paint T T') {c' : Cl} (hc : c' ∈ T') : ∃ (k : Nat) (c : Cl), T[k]? = some c ∧ T'[k]? = some c' ∧ c' = { c with col := c'.col } := by
  obtain ⟨k, hk, e⟩ := List.mem_iff_getElem.1 hc
  have h1 : T'[k]? = some c' := by rw [List.getElem?_eq_getElem hk, e]
  obtain ⟨c, h2, h3⟩ := h.get k c' h1
  exact ⟨k, c, h2, h1, h3⟩
/-- Painting from white to grey, or from grey to black, where no sweep is on. -/
theorem GInv.paint {T T' : List Cl} {ph ph' hd : Nat} {rs : List Int} (h : GInv T ph hd rs) (hp : Paint T T') (hph : ph ≠ 2) (hph' : ph' ≠ 2)
    (h0 : ∀ k, colL T' k = 0 ↔ colL T k = 0) (h3 : ∀ k, k < T.length → colL T' k ≤ 3) (hi : ph' = 0 → ∀ c ∈ T', c.col ≤ 1)
    (hm : ph' = 1 → ∀ (k : Nat) (c : Cl), T'[k]? = some c → c.col = 3 → c.weak = false → ∀ j : Nat, (c.a = (j : Int) ∨ c.b = (j : Int)) → 2 ≤ colL T' j) : GInv T' ph' hd rs := by
  have hal : ∀ k, Alive T' ph' hd k ↔ Alive T ph hd k := fun k => by
    unfold Alive
    constructor
    · rintro ⟨a, _⟩; exact ⟨fun e => a ((h0 k).2 e), fun e => hph e.1⟩
    · rintro ⟨a, _⟩; exact ⟨fun e => a ((h0 k).1 e), fun e => hph' e.1⟩
  refine ⟨fun k hk => (hal k).2 (h.root k hk), ?_, ?_, ?_, hi, hm, fun e => absurd e hph', fun e => absurd e hph', ?_⟩
  · intro k c' hc ha j hj
    obtain ⟨c, h1, h2⟩ := hp.get k c' hc
    rw [h2] at hj
    exact (hal j).2 (h.clos k c h1 ((hal k).1 ha) j hj)
  · intro c' hc e0
    obtain ⟨k, c, h1, h1', h2⟩ := hp.mem hc
    have e1 : colL T k = 0 := (h0 k).1 (by rw [colL_some h1']; exact e0)
    rw [colL_some h1] at e1
    have := h.blank c (List.mem_of_getElem? h1) e1
    rw [h2, this, e0]
    rfl
  · intro c' hc
    obtain ⟨k, c, h1, h1', h2⟩ := hp.mem hc
    have := h3 k (List.getElem?_eq_some_iff.1 h1).1
    rw [colL_some h1'] at this
    exact this
  · intro c' hc hw
    obtain ⟨k, c, h1, h1', h2⟩ := hp.mem hc
    rw [h2] at hw ⊢
    exact h.weak c (List.mem_of_getElem? h1) hw
theorem GInv.colL3 {T : List Cl} {ph hd : Nat} {rs : List Int} (h : GInv T ph hd rs) {k : Nat} (hk : k < T.length) : colL T k ≤ 3 := by
  rw [colL_some (List.getElem?_eq_getElem hk)]
  exact h.col3 _ (List.getElem_mem hk)
/-- Cells are shaded. -/
theorem GInv.shades {T : List Cl} {ph hd : Nat} {rs : List Int} (h : GInv T ph hd rs) (hph : ph < 2) (vs : List Int) : GInv (shadesL T vs) 1 hd rs := by
  have hp := shades_paint vs T
  refine h.paint hp (by omega) (by omega) ?_ ?_ (fun e => by cases e) ?_
  · intro k; rw [shades_colL]; split
    · rename_i e; omega
    · rfl
  · intro k hk
    have := h.colL3 hk
    rw [shades_colL]; split <;> omega
  · intro _ k c' hc e3 hw j hj
    obtain ⟨c, h1, h2⟩ := hp.get k c' hc
    have hc3 : c.col = 3 := by
      have := shades_colL vs T k
      rw [colL_some hc, colL_some h1] at this
      split at this <;> omega
    rcases Nat.eq_zero_or_pos ph with e | e
    · have := h.idle e c (List.mem_of_getElem? h1); omega
    · have hph1 : ph = 1 := by omega
      rw [h2] at hj hw
      have := h.mark hph1 k c h1 hc3 hw j hj
      rw [shades_colL]; split <;> omega
theorem firstL_spec (p : Cl → Bool) : ∀ (T : List Cl) (k : Nat), (firstL p T k = -1 ∧ ∀ c ∈ T, p c = false) ∨ ∃ (j : Nat) (c : Cl), T[j]? = some c ∧ firstL p T k = ((k + j : Nat) : Int) ∧ p c = true
  | [], k => .inl ⟨rfl, fun c hc => by cases hc⟩
  | c :: r, k => by
    simp only [firstL]
    by_cases hp : p c = true
    · rw [if_pos hp]
      exact .inr ⟨0, c, rfl, by simp, hp⟩
    · rw [if_neg hp]
      rcases firstL_spec p r (k + 1) with ⟨h1, h2⟩ | ⟨j, d, h1, h2, h3⟩
      · refine .inl ⟨h1, fun d hd => ?_⟩
        rcases List.mem_cons.1 hd with rfl | hd
        · simpa using hp
        · exact h2 d hd
      · exact .inr ⟨j + 1, d, by simpa using h1, by rw [h2]; congr 1; omega, h3⟩
theorem greyL_neg {T : List Cl} (h : greyL T < 0) : ∀ c ∈ T, c.col ≠ 2 := by
  rcases firstL_spec (fun c => c.col == 2) T 0 with ⟨_, h2⟩ | ⟨j, c, _, h2, _⟩
  · intro c hc; simpa using h2 c hc
  · unfold greyL at h; omega
theorem greyL_pos {T : List Cl} (h : 0 ≤ greyL T) : ∃ c, T[(greyL T).toNat]? = some c ∧ c.col = 2 := by
  rcases firstL_spec (fun c => c.col == 2) T 0 with ⟨h1, _⟩ | ⟨j, c, h1, h2, h3⟩
  · unfold greyL at h; omega
  · refine ⟨c, ?_, by simpa using h3⟩
    have : (greyL T).toNat = j := by unfold greyL; rw [h2]; omega
    rw [this]; exact h1
theorem getD_some {T : List Cl} {k : Nat} {c : Cl} (h : T[k]? = some c) : T.getD k zeroL = c := by rw [List.getD_eq_getElem?_getD, h]; rfl
theorem GInv.black {T : List Cl} {hd : Nat} {rs : List Int} (h : GInv T 1 hd rs) {g : Nat} {c : Cl} (hg : T[g]? = some c) (h2 : c.col = 2) : GInv (blackL T g) 1 hd rs := by
  have hlt := (List.getElem?_eq_some_iff.1 hg).1
  have hd' := getD_some hg
  obtain ⟨U, hU⟩ : ∃ U, U = (if (T.getD g zeroL).weak = true then T else shadeL (shadeL T (T.getD g zeroL).a) (T.getD g zeroL).b) := ⟨_, rfl⟩
  have hb : blackL T g = U.modify g (paintL 3) := by rw [hU]; rfl
  rw [hd'] at hU
  have hpU : Paint T U := by
    rw [hU]; split
    · exact Paint.refl _
    · exact (shade_paint _ _).trans (shade_paint _ _)
  have hlU : U.length = T.length := by
    rw [hU]; split
    · rfl
    · rw [shadeL_len, shadeL_len]
  have hcU : ∀ k, colL U k = colL T k ∨ (colL T k = 1 ∧ colL U k = 2) := by
    intro k
    rw [hU]
    split
    · exact .inl rfl
    · rw [shade_colL, shade_colL]
      by_cases e1 : colL T k = 1
      · by_cases e2 : (k : Int) = c.a
        · simp [e1, e2]
        · by_cases e3 : (k : Int) = c.b <;> simp [e1, e2, e3]
      · simp [e1]
  have hgT : colL T g = 2 := by rw [colL_some hg]; exact h2
  have hp : Paint T (blackL T g) := by rw [hb]; exact hpU.trans (paint_modify _ _ _)
  have hcB : ∀ k, colL (blackL T g) k = if k = g then 3 else colL U k := fun k => by rw [hb]; exact colL_paint _ _ _ _ (by omega)
  have hup : ∀ k, 2 ≤ colL T k → 2 ≤ colL (blackL T g) k := fun k hk => by
    rw [hcB]; split
    · omega
    · rcases hcU k with e | ⟨e, _⟩ <;> omega
  refine h.paint hp (by omega) (by omega) ?_ ?_ (fun e => by cases e) ?_
  · intro k
    rw [hcB]; split
    · rename_i e; subst e; omega
    · rcases hcU k with e | ⟨e1, e2⟩ <;> omega
  · intro k hk
    have := h.colL3 hk
    rw [hcB]; split
    · omega
    · rcases hcU k with e | ⟨e1, e2⟩ <;> omega
  · intro _ k c' hc e3 hw j hj
    obtain ⟨d, d1, d2⟩ := hp.get k c' hc
    by_cases e : k = g
    · subst e
      obtain rfl : c = d := Option.some.inj (hg.symm.trans d1)
      rw [d2] at hw hj
      simp only at hw hj
      have hal := h.clos k c hg ⟨by omega, fun e => by omega⟩ j hj
      have h0 := hal.1
      have hUj : 2 ≤ colL U j := by
        rw [hU, if_neg (by simp [hw]), shade_colL, shade_colL]
        by_cases e1 : colL T j = 1
        · by_cases e2 : (j : Int) = c.a
          · simp [e1, e2]
          · have e3 : (j : Int) = c.b := by rcases hj with h | h; exact absurd h.symm e2; exact h.symm
            rw [e3] at e2
            simp [e1, e3, e2]
        · simp [e1]; omega
      rw [hcB]; split <;> omega
    · have hk3 : d.col = 3 := by
        have := hcB k
        rw [if_neg e, colL_some hc] at this
        rcases hcU k with e1 | ⟨e1, e2⟩
        · rw [e1, colL_some d1] at this; omega
        · omega
      rw [d2] at hw hj
      exact hup j (h.mark rfl k d d1 hk3 hw j hj)
theorem forget_get {T : List Cl} {k : Nat} {c' : Cl} (h : (forgetL T)[k]? = some c') : ∃ c, T[k]? = some c ∧ c' = fgL T c := by
  unfold forgetL at h
  rw [List.getElem?_map] at h
  cases hk : T[k]? with
  | none => rw [hk] at h; cases h
  | some c => rw [hk] at h; exact ⟨c, rfl, (Option.some.inj h).symm⟩
theorem fgL_all (T : List Cl) (c : Cl) : (fgL T c).col = c.col ∧ (fgL T c).weak = c.weak ∧ (fgL T c).b = c.b ∧ (fgL T c).num = c.num ∧ ((fgL T c).a = c.a ∨ (fgL T c).a = -1) ∧ (c.weak = false → fgL T c = c) := by
  unfold fgL
  split
  · rename_i e
    refine ⟨rfl, rfl, rfl, rfl, .inr rfl, fun e2 => ?_⟩
    rw [e2] at e; simp at e
  · exact ⟨rfl, rfl, rfl, rfl, .inl rfl, fun _ => rfl⟩
theorem forget_colL (T : List Cl) (k : Nat) : colL (forgetL T) k = colL T k := by
  unfold colL forgetL
  rw [List.getElem?_map]
  cases T[k]? with
  | none => rfl
  | some c => simp [(fgL_all T c).1]
theorem fgL_white {T : List Cl} {c : Cl} (hw : c.weak = true) {j : Nat} (h : (fgL T c).a = (j : Int)) : colL T j ≠ 1 := by
  intro e
  unfold fgL at h
  have hlt : j < T.length := by
    rcases Nat.lt_or_ge j T.length with h | h
    · exact h
    · have := colL_none (List.getElem?_eq_none h); omega
  split at h
  · simp only at h; omega
  · rename_i hn
    apply hn
    unfold hasL
    rw [h, Int.toNat_natCast, e, hw, decide_eq_true (by omega), decide_eq_true (by omega)]
    rfl
theorem GInv.forget {T : List Cl} {hd : Nat} {rs : List Int} (h : GInv T 1 hd rs) (hroot : ∀ k : Nat, (k : Int) ∈ rs → 2 ≤ colL T k) (hg : ∀ c ∈ T, c.col ≠ 2) : GInv (forgetL T) 2 0 rs := by
  have hal : ∀ k, 2 ≤ colL T k → Alive (forgetL T) 2 0 k := fun k hk => by
    unfold Alive
    rw [forget_colL]
    exact ⟨by omega, by omega⟩
  refine ⟨fun k hk => hal k (hroot k hk), ?_, ?_, ?_, fun e => by (cases e), fun e => by (cases e), fun _ k c _ hk => by omega, ?_, ?_⟩
  · intro k c' hc ha j hj
    obtain ⟨c, h1, e1⟩ := forget_get hc
    obtain ⟨f1, f2, f3, f4, f5, f6⟩ := fgL_all T c
    unfold Alive at ha
    rw [forget_colL, colL_some h1] at ha
    have hm := List.mem_of_getElem? h1
    have hc3 : c.col = 3 := by
      have := hg c hm
      have := h.col3 c hm
      omega
    apply hal
    by_cases hw : c.weak = true
    · have hcl : Alive T 1 hd j := by
        refine h.clos k c h1 ⟨by rw [colL_some h1]; omega, by omega⟩ j ?_
        rw [e1] at hj
        rcases hj with hj | hj
        · rcases f5 with f | f
          · exact .inl (f.symm.trans hj)
          · omega
        · exact .inr (f3.symm.trans hj)
      rw [e1] at hj
      have h0 := hcl.1
      rcases hj with hj | hj
      · have := fgL_white hw hj; omega
      · have := (h.weak c hm hw).1
        omega
    · have hw' : c.weak = false := by simpa using hw
      rw [e1, f6 hw'] at hj
      exact h.mark rfl k c h1 hc3 hw' j hj
  · intro c' hc e0
    obtain ⟨k, hk, e⟩ := List.mem_iff_getElem.1 hc
    obtain ⟨c, h1, e1⟩ := forget_get (T := T) (k := k) (c' := c') (by rw [List.getElem?_eq_getElem hk, e])
    have hb := h.blank c (List.mem_of_getElem? h1) (by rw [e1, (fgL_all T c).1] at e0; exact e0)
    have := (fgL_all T c).2.2.2.2.2 (by rw [hb]; rfl)
    rw [e1, this, hb]
  · intro c' hc
    obtain ⟨k, hk, e⟩ := List.mem_iff_getElem.1 hc
    obtain ⟨c, h1, e1⟩ := forget_get (T := T) (k := k) (c' := c') (by rw [List.getElem?_eq_getElem hk, e])
    rw [e1, (fgL_all T c).1]
    exact h.col3 c (List.mem_of_getElem? h1)
  · intro _ c' hc
    obtain ⟨k, hk, e⟩ := List.mem_iff_getElem.1 hc
    obtain ⟨c, h1, e1⟩ := forget_get (T := T) (k := k) (c' := c') (by rw [List.getElem?_eq_getElem hk, e])
    rw [e1, (fgL_all T c).1]
    exact hg c (List.mem_of_getElem? h1)
  · intro c' hc hw
    obtain ⟨k, hk, e⟩ := List.mem_iff_getElem.1 hc
    obtain ⟨c, h1, e1⟩ := forget_get (T := T) (k := k) (c' := c') (by rw [List.getElem?_eq_getElem hk, e])
    obtain ⟨f1, f2, f3, f4, f5, f6⟩ := fgL_all T c
    rw [e1] at hw ⊢
    rw [f3, f4]
    exact h.weak c (List.mem_of_getElem? h1) (f2.symm.trans hw)
theorem sweep_get {T : List Cl} {hd k : Nat} (hh : hd < T.length) : (sweepL T hd)[k]? = if k = hd then (if T[hd].col = 1 then some blankL else if T[hd].col = 3 then some (paintL 1 T[hd]) else T[k]?) else T[k]? := by
  have e1 : ∀ n, hasL T (hd : Int) n = (T[hd].col == n) := fun n => by
    unfold hasL
    rw [Int.toNat_natCast, colL_get hh, decide_eq_true (by omega), decide_eq_true (by omega)]
    simp
  unfold sweepL
  rw [e1, e1]
  by_cases c1 : T[hd].col = 1
  · rw [if_pos (by simp [c1]), List.getElem?_set]
    by_cases e : k = hd
    · subst e; simp [hh, c1]
    · rw [if_neg (Ne.symm e), if_neg e]
  · rw [if_neg (by simp [c1])]
    by_cases c3 : T[hd].col = 3
    · rw [if_pos (by simp [c3]), modify_setL hh, List.getElem?_set]
      by_cases e : k = hd
      · subst e; simp [hh, c3]
      · rw [if_neg (Ne.symm e), if_neg e]
    · rw [if_neg (by simp [c3])]
      simp [c1, c3]
theorem sweep_colL {T : List Cl} {hd k : Nat} (hh : hd < T.length) : colL (sweepL T hd) k = if k = hd then (if T[hd].col = 1 then 0 else if T[hd].col = 3 then 1 else T[hd].col) else colL T k := by
  unfold colL
  rw [sweep_get hh]
  by_cases e : k = hd
  · subst e
    rw [if_pos rfl, if_pos rfl]
    by_cases c1 : T[k].col = 1
    · rw [if_pos c1, if_pos c1]; rfl
    · rw [if_neg c1, if_neg c1]
      by_cases c3 : T[k].col = 3
      · rw [if_pos c3, if_pos c3]; rfl
      · rw [if_neg c3, if_neg c3, List.getElem?_eq_getElem hh]; rfl
  · rw [if_neg e, if_neg e]
theorem GInv.sweep {T : List Cl} {hd ph' hd' : Nat} {rs : List Int} (h : GInv T 2 hd rs) (hh : hd < T.length) (hph : (ph' = 2 ∧ hd' = hd + 1) ∨ (ph' = 0 ∧ hd' = 0 ∧ hd + 1 = T.length)) : GInv (sweepL T hd) ph' hd' rs := by
  have hcol : colL T hd = T[hd].col := colL_get hh
  have hng := h.nogrey rfl T[hd] (List.getElem_mem hh)
  have h3 := h.col3 T[hd] (List.getElem_mem hh)
  have hal : ∀ k, Alive (sweepL T hd) ph' hd' k ↔ Alive T 2 hd k := by
    intro k
    unfold Alive
    rw [sweep_colL hh]
    by_cases e : k = hd
    · subst e
      rw [if_pos rfl, hcol]
      by_cases c1 : T[k].col = 1
      · simp [c1]
      · rw [if_neg c1]
        by_cases c3 : T[k].col = 3
        · simp [c3]; omega
        · have : T[k].col = 0 := by omega
          simp [this]
    · rw [if_neg e]
      rcases hph with ⟨rfl, rfl⟩ | ⟨rfl, rfl, hl⟩
      · constructor
        · rintro ⟨a, b⟩; exact ⟨a, fun c => b ⟨rfl, by omega, c.2.2⟩⟩
        · rintro ⟨a, b⟩; exact ⟨a, fun c => b ⟨rfl, by omega, c.2.2⟩⟩
      · constructor
        · rintro ⟨a, b⟩
          refine ⟨a, fun c => ?_⟩
          have : T[k]? = none := List.getElem?_eq_none (by omega)
          have := colL_none this
          omega
        · rintro ⟨a, b⟩; exact ⟨a, fun c => by omega⟩
  have hmem : ∀ c' ∈ sweepL T hd, c' = blankL ∨ (∃ c ∈ T, c' = c ∧ (c.col = 0 ∨ c.col ≠ 0)) ∨ c' = paintL 1 T[hd] := by
    intro c' hc
    obtain ⟨k, hk, e⟩ := List.mem_iff_getElem.1 hc
    have hg : (sweepL T hd)[k]? = some c' := by rw [List.getElem?_eq_getElem hk, e]
    rw [sweep_get hh] at hg
    split at hg
    · split at hg
      · exact .inl (Option.some.inj hg).symm
      · split at hg
        · exact .inr (.inr (Option.some.inj hg).symm)
        · exact .inr (.inl ⟨c', List.mem_of_getElem? hg, rfl, by omega⟩)
    · exact .inr (.inl ⟨c', List.mem_of_getElem? hg, rfl, by omega⟩)
  refine ⟨fun k hk => (hal k).2 (h.root k hk), ?_, ?_, ?_, ?_, ?_, ?_, ?_, ?_⟩
  · intro k c' hc ha j hj
    rw [hal] at ha ⊢
    rw [sweep_get hh] at hc
    by_cases e : k = hd
    · subst e
      rw [if_pos rfl] at hc
      split at hc
      · obtain rfl := Option.some.inj hc
        simp [blankL] at hj
      · split at hc
        · obtain rfl := Option.some.inj hc
          exact h.clos k T[k] (List.getElem?_eq_getElem hh) ha j hj
        · exact h.clos k c' hc ha j hj
    · rw [if_neg e] at hc
      exact h.clos k c' hc ha j hj
  · intro c' hc e0
    rcases hmem c' hc with e | ⟨c, hcm, e, _⟩ | e
    · exact e
    · rw [e] at e0 ⊢; exact h.blank c hcm e0
    · rw [e] at e0; cases e0
  · intro c' hc
    rcases hmem c' hc with e | ⟨c, hcm, e, _⟩ | e
    · rw [e]; simp [blankL]
    · rw [e]; exact h.col3 c hcm
    · rw [e]; simp [paintL]
  · intro e0 c' hc
    rcases hph with ⟨e, _⟩ | ⟨_, _, hl⟩
    · omega
    obtain ⟨k, hk, e⟩ := List.mem_iff_getElem.1 hc
    have hg : (sweepL T hd)[k]? = some c' := by rw [List.getElem?_eq_getElem hk, e]
    rw [sweep_get hh] at hg
    have hkT : k < T.length := by rw [sweepL_len] at hk; exact hk
    by_cases e : k = hd
    · subst e
      rw [if_pos rfl] at hg
      split at hg
      · obtain rfl := Option.some.inj hg; simp [blankL]
      · split at hg
        · obtain rfl := Option.some.inj hg; simp [paintL]
        · rw [List.getElem?_eq_getElem hh] at hg
          obtain rfl := Option.some.inj hg
          omega
    · rw [if_neg e] at hg
      have a1 := h.low rfl k c' hg (by omega)
      have a2 := h.nogrey rfl c' (List.mem_of_getElem? hg)
      have a3 := h.col3 c' (List.mem_of_getElem? hg)
      omega
  · intro e1; omega
  · intro e2 k c' hg hk
    rcases hph with ⟨_, rfl⟩ | ⟨e, _⟩
    · rw [sweep_get hh] at hg
      by_cases e : k = hd
      · subst e
        rw [if_pos rfl] at hg
        split at hg
        · obtain rfl := Option.some.inj hg; simp [blankL]
        · split at hg
          · obtain rfl := Option.some.inj hg; simp [paintL]
          · rw [List.getElem?_eq_getElem hh] at hg
            obtain rfl := Option.some.inj hg
            omega
      · rw [if_neg e] at hg
        exact h.low rfl k c' hg (by omega)
    · omega
  · intro _ c' hc
    rcases hmem c' hc with e | ⟨c, hcm, e, _⟩ | e
    · rw [e]; simp [blankL]
    · rw [e]; exact h.nogrey rfl c hcm
    · rw [e]; simp [paintL]
  · intro c' hc hw
    rcases hmem c' hc with e | ⟨c, hcm, e, _⟩ | e
    · rw [e] at hw; cases hw
    · rw [e] at hw ⊢; exact h.weak c hcm hw
    · rw [e] at hw ⊢; exact h.weak T[hd] (List.getElem_mem hh) hw
/-- A unit of the collector's keeps all that. -/
theorem GInv.unit {T : List Cl} {ph hd : Nat} {rs : List Int} (h : GInv T ph hd rs) (h2 : ph ≤ 2) (hh : ph = 2 → hd < T.length) : GInv (unitL T ph hd rs).1 (unitL T ph hd rs).2.1 (unitL T ph hd rs).2.2 rs := by
  unfold unitL
  by_cases e0 : ph = 0
  · rw [if_pos e0]
    exact h.shades (by omega) rs
  rw [if_neg e0]
  by_cases e2 : ph = 2
  · rw [if_pos e2]
    subst e2
    have hlt := hh rfl
    split
    · exact h.sweep hlt (.inr ⟨rfl, rfl, by omega⟩)
    · exact h.sweep hlt (.inl ⟨rfl, rfl⟩)
  rw [if_neg e2]
  have e1 : ph = 1 := by omega
  subst e1
  by_cases hg : 0 ≤ greyL T
  · rw [if_pos hg]
    obtain ⟨c, hc, hc2⟩ := greyL_pos hg
    exact h.black hc hc2
  rw [if_neg hg]
  have hs := h.shades (by omega) rs
  by_cases hg2 : greyL (shadesL T rs) < 0
  · rw [if_pos hg2]
    refine hs.forget ?_ (greyL_neg hg2)
    intro k hk
    have := (h.root k hk).1
    rw [shades_colL]
    split
    · omega
    · rename_i hn
      have : ¬ colL T k = 1 := fun e => hn ⟨hk, e⟩
      omega
  · rw [if_neg hg2]
    exact hs
end Go.Proofs.YtdmdpindonghdaaDoor
namespace Go.Proofs.YtdmdpindonghdaaDoor
open Go.RowKit
/-- The types of code are known instruction by instruction. -/
structure Typ (l : List Ins) (L : Nat) (T : Nat → ByteArray × ByteArray) : Prop where
  init : T 0 = ((initP L).lo, (initP L).st)
  pos : 0 < l.length
  step : ∀ k i, l[k]? = some i → (afterV (T k).1 (T k).2 i.op i.n).2.2 = true ∧ (afterV (T k).1 (T k).2 i.op i.n).2.1.size ≤ 8 ∧
      (isJump i.op = true → (findP i.n l 0).toNat < l.length ∧ T (findP i.n l 0).toNat = ((afterV (T k).1 (T k).2 i.op i.n).1, (afterV (T k).1 (T k).2 i.op i.n).2.1)) ∧
      (i.op ≠ 0 ∧ i.op ≠ 19 → k + 1 < l.length ∧ T (k + 1) = ((afterV (T k).1 (T k).2 i.op i.n).1, (afterV (T k).1 (T k).2 i.op i.n).2.1))
theorem Typ.reach {l : List Ins} {L : Nat} {T : Nat → ByteArray × ByteArray} (h : Typ l L T) {p : Pt} (hp : Reach l L p) : p.at_ < l.length ∧ T p.at_ = (p.lo, p.st) := by
  have hr : ∀ n p, ReachN l L n p → p.at_ < l.length ∧ T p.at_ = (p.lo, p.st) := by
    intro n
    induction n with
    | zero => rintro p rfl; exact ⟨h.pos, h.init⟩
    | succ n ih =>
      rintro p ⟨q, ss, hq, hst, hp⟩
      obtain ⟨q1, q2⟩ := ih q hq
      obtain ⟨i, hi⟩ : ∃ i, l[q.at_]? = some i := ⟨_, List.getElem?_eq_getElem q1⟩
      obtain ⟨a1, a2, a3, a4⟩ := h.step q.at_ i hi
      rw [q2] at a1 a2 a3 a4
      simp only at a1 a2 a3 a4
      unfold stepP at hst
      rw [hi] at hst
      simp only at hst
      split at hst
      · cases hst
      · simp only [Option.some.injEq] at hst
        subst hst
        rw [List.mem_append] at hp
        rcases hp with hp | hp
        · split at hp
          · rename_i hj
            simp only [List.mem_singleton] at hp
            subst hp
            exact ⟨(a3 hj).1, (a3 hj).2⟩
          · simp at hp
        · split at hp
          · rename_i hj
            simp only [List.mem_singleton] at hp
            subst hp
            exact ⟨(a4 hj).1, (a4 hj).2⟩
          · simp at hp
  obtain ⟨n, hn⟩ := hp
  exact hr n p hn
/-- At each instruction there is one way for the types to be. -/
def Det (l : List Ins) (L : Nat) : Prop := ∀ p q, Reach l L p → Reach l L q → p.at_ = q.at_ → p.lo = q.lo ∧ p.st = q.st
theorem Typ.det {l : List Ins} {L : Nat} {T : Nat → ByteArray × ByteArray} (h : Typ l L T) : Det l L := by
  intro p q hp hq hat
  have p2 := (h.reach hp).2
  rw [hat, (h.reach hq).2] at p2
  simp only [Prod.mk.injEq] at p2
  exact ⟨p2.1.symm, p2.2.symm⟩
/-- Code whose types are known instruction by instruction is well typed. -/
theorem Typ.wt {l : List Ins} {L : Nat} {T : Nat → ByteArray × ByteArray} (h : Typ l L T) : WT l L := by
  refine ⟨?_, ?_⟩
  · intro p hp
    obtain ⟨q1, q2⟩ := h.reach hp
    obtain ⟨i, hi⟩ : ∃ i, l[p.at_]? = some i := ⟨_, List.getElem?_eq_getElem q1⟩
    obtain ⟨a1, a2, _, _⟩ := h.step p.at_ i hi
    rw [q2] at a1 a2
    simp only at a1 a2
    unfold stepP
    rw [hi]
    simp only
    rw [if_neg]
    · simp
    · rintro (h | h)
      · rw [a1] at h; cases h
      · omega
  · intro p q i hp hq hat _
    obtain ⟨e1, e2⟩ := h.det p q hp hq hat
    unfold clashB
    simp [hat, e1, e2]
/-- How many bytes an instruction has. -/
def esz (op : Nat) : Nat := if takesB op = true then 2 else 1
def csize : List (Nat × Nat) → Nat
  | [] => 0
  | x :: r => esz x.1 + csize r
theorem csize_append (a b : List (Nat × Nat)) : csize (a ++ b) = csize a + csize b := by
  induction a with
  | nil => simp [csize]
  | cons x r ih => simp only [List.cons_append, csize, ih]; omega
theorem esz_pos (op : Nat) : 1 ≤ esz op := by unfold esz; split <;> omega
def encI (x : Nat × Nat) : List UInt8 := if takesB x.1 = true then [x.1.toUInt8, x.2.toUInt8] else [x.1.toUInt8]
def bytesC (cs : List (Nat × Nat)) : List UInt8 := cs.flatMap encI
theorem bytesC_append (a b : List (Nat × Nat)) : bytesC (a ++ b) = bytesC a ++ bytesC b := by simp [bytesC]
theorem bytesC_len (cs : List (Nat × Nat)) : (bytesC cs).length = csize cs := by
  induction cs with
  | nil => rfl
  | cons x r ih =>
    have : bytesC (x :: r) = encI x ++ bytesC r := by simp [bytesC]
    rw [this, List.length_append, ih]
    show _ = esz x.1 + csize r
    unfold encI esz
    split <;> simp
/-- The instructions of code that begins at place p. -/
def placed (p : Nat) : List (Nat × Nat) → List Ins
  | [] => []
  | x :: r => ⟨x.1, x.2, p⟩ :: placed (p + esz x.1) r
theorem placed_len (cs : List (Nat × Nat)) : ∀ p, (placed p cs).length = cs.length := by
  induction cs with
  | nil => intro p; rfl
  | cons x r ih => intro p; simp [placed, ih]
theorem placed_at (cs : List (Nat × Nat)) : ∀ (p k : Nat), (placed p cs)[k]? = (cs[k]?).map (fun x : Nat × Nat => (⟨x.1, x.2, p + csize (cs.take k)⟩ : Ins)) := by
  induction cs with
  | nil => intro p k; simp [placed]
  | cons x r ih =>
    intro p k
    cases k with
    | zero => simp [placed, csize]
    | succ k =>
      simp only [placed, List.getElem?_cons_succ, ih, List.take_succ_cons, csize]
      congr 1
      funext y
      simp only [Ins.mk.injEq, true_and]
      omega
theorem placed_ge (cs : List (Nat × Nat)) : ∀ p, ∀ i ∈ placed p cs, p ≤ i.place := by
  induction cs with
  | nil => intro p i hi; simp [placed] at hi
  | cons x r ih =>
    intro p i hi
    simp only [placed, List.mem_cons] at hi
    rcases hi with rfl | hi
    · exact Nat.le_refl _
    · have := ih _ i hi; omega
theorem findP_placed (a : List (Nat × Nat)) (x : Nat × Nat) (b : List (Nat × Nat)) : ∀ p k, findP (p + csize a) (placed p (a ++ x :: b)) k = ((k + a.length : Nat) : Int) := by
  induction a with
  | nil => intro p k; simp [placed, findP, csize]
  | cons y r ih =>
    intro p k
    have := esz_pos y.1
    simp only [List.cons_append, placed, findP, csize]
    rw [if_neg (by omega)]
    have h := ih (p + esz y.1) (k + 1)
    rw [show p + esz y.1 + csize r = p + (esz y.1 + csize r) by omega] at h
    rw [h, List.length_cons]
    omega
def goodI (L : Nat) (x : Nat × Nat) : Bool := decide (x.1 ≤ 24) && decide (x.2 < 256) && !badN x.1 x.2 L && (takesB x.1 || x.2 == 0)
theorem u8 (n : Nat) (h : n < 256) : n.toUInt8.toNat = n := by simp [Nat.toUInt8]; omega
theorem dec_placed (t : ByteArray) (L : Nat) (cs : List (Nat × Nat)) : ∀ pre : List UInt8, t.data.toList = pre ++ bytesC cs → cs.all (goodI L) = true → dec t L pre.length = some (placed pre.length cs) := by
  induction cs with
  | nil =>
    intro pre ht _
    rw [dec_end]
    · rfl
    · have : t.data.toList.length = pre.length := by rw [ht]; simp [bytesC]
      simp only [Array.length_toList] at this
      exact Nat.le_of_eq this
  | cons x r ih =>
    intro pre ht hg
    rw [List.all_cons, Bool.and_eq_true] at hg
    obtain ⟨hg1, hg2⟩ := hg
    simp only [goodI, Bool.and_eq_true, decide_eq_true_eq, Bool.not_eq_true', Bool.or_eq_true, beq_iff_eq] at hg1
    obtain ⟨⟨⟨g1, g2⟩, g3⟩, g4⟩ := hg1
    have hb : bytesC (x :: r) = encI x ++ bytesC r := by simp [bytesC]
    rw [hb] at ht
    have hsz : t.size = pre.length + ((encI x).length + (bytesC r).length) := by
      have : t.data.toList.length = t.size := by simp
      rw [← this, ht]; simp
    have b0 : byteAt t pre.length = x.1 := by
      unfold byteAt
      rw [ht, List.getD_eq_getElem?_getD, List.getElem?_append_right (Nat.le_refl _)]
      simp only [Nat.sub_self]
      unfold encI
      split <;> simp [u8 x.1 (by omega)]
    by_cases hk : takesB x.1 = true
    · have e1 : encI x = [x.1.toUInt8, x.2.toUInt8] := by unfold encI; rw [if_pos hk]
      have hz : (encI x).length = 2 := by rw [e1]; rfl
      have b1 : byteAt t (pre.length + 1) = x.2 := by
        unfold byteAt
        rw [ht, List.getD_eq_getElem?_getD, List.getElem?_append_right (by omega), e1]
        simp [u8 x.2 g2]
      have hbe : behindP t pre.length L = (pre.length + 2, x.2) := by
        unfold behindP behindQ
        rw [b0, b1, if_neg (by omega), if_neg (by simp [hk]), if_neg (by omega), if_neg (by simp [g3])]
      rw [dec_some t L _ (by omega) (by rw [hbe]; simp), hbe, b0]
      have := ih (pre ++ encI x) (by rw [ht]; simp) hg2
      rw [List.length_append, hz] at this
      simp only
      rw [this]
      simp [placed, esz, hk]
    · have hk' : takesB x.1 = false := by simpa using hk
      have hx2 : x.2 = 0 := by rcases g4 with h | h; exact absurd h hk; exact h
      have e1 : encI x = [x.1.toUInt8] := by unfold encI; rw [if_neg hk]
      have hz : (encI x).length = 1 := by rw [e1]; rfl
      have hbe : behindP t pre.length L = (pre.length + 1, 0) := by
        unfold behindP behindQ
        rw [b0, if_neg (by omega), if_pos hk']
      rw [dec_some t L _ (by omega) (by rw [hbe]; simp), hbe, b0]
      have := ih (pre ++ encI x) (by rw [ht]; simp) hg2
      rw [List.length_append, hz] at this
      simp only
      rw [this]
      simp [placed, esz, hk', hx2]
/-- An image of L locals with this code. -/
def imgC (L : Nat) (cs : List (Nat × Nat)) : List UInt8 := 84 :: L.toUInt8 :: bytesC cs
theorem img_code {s : ByteArray} {L : Nat} {cs : List (Nat × Nat)} (hs : s.data.toList = imgC L cs) (hL : L ≤ 4) (hz : 1 ≤ csize cs) (hz2 : csize cs ≤ 120) (hg : cs.all (goodI L) = true)
    (hj : jumpsOk (placed 0 cs) = true) (he : endsOk (placed 0 cs) = true) : errOf s = 0 ∧ codeOf s = placed 0 cs ∧ byteAt s 1 = L := by
  have hsz : s.size = 2 + csize cs := by
    have : s.data.toList.length = s.size := by simp
    rw [← this, hs]; simp [imgC, bytesC_len]; omega
  have b0 : byteAt s 0 = 84 := by unfold byteAt; rw [hs]; rfl
  have b1 : byteAt s 1 = L := by unfold byteAt; rw [hs]; simp [imgC, u8 L (by omega)]
  have ht : (textOf s).data.toList = bytesC cs := by
    unfold textOf
    rw [ByteArray.data_extract, Array.toList_extract, hs]
    simp only [imgC, List.extract_eq_take_drop, List.drop_succ_cons, List.drop_zero]
    rw [List.take_of_length_le]
    rw [bytesC_len]; omega
  have hd := dec_placed (textOf s) L cs [] (by rw [ht]; rfl) hg
  simp only [List.length_nil] at hd
  have hsh : shapedP s = true := by unfold shapedP; simp [b0, b1, hL]; omega
  refine ⟨?_, ?_, b1⟩
  · unfold errOf
    rw [hsh, b1, hd]
    simp [hj, he]
  · unfold codeOf
    rw [b1, hd]
    rfl
end Go.Proofs.YtdmdpindonghdaaDoor
