/- Frames that no pass changes tell of every way; what a pass changes makes the frames' worth less. Nothing of a program stands here. -/
import Derived.Test.YteocjidfbbekfaaDoorSpecL
namespace Go.Proofs.YteocjidfbbekfaaDoor
open Go.RowKit

/-- The frame tells of the point. -/
structure Cov (f : Fr) (lo st : ByteArray) : Prop where
  reached : f.reached = true
  sk : Stk f (tl st)
  lo : ∀ j, j < 4 → f.lo.getD j 0 = lk lo j ∨ f.lo.getD j 0 = 2
def CovAt (fs : List Fr) (k : Nat) (lo st : ByteArray) : Prop := ∃ f, fs[k]? = some f ∧ Cov f lo st
theorem reach_keep {fs : List Fr} (hok : AllOk fs) {k m : Nat} {way : Fr} (hway : FrOk way) {lo st : ByteArray} (h : CovAt fs m lo st) : CovAt (reachF fs k way).1 m lo st := by
  obtain ⟨f, hf, hc⟩ := h
  unfold reachF
  cases hk : fs[k]? with
  | none => exact ⟨f, hf, hc⟩
  | some known =>
    simp only
    by_cases e : k = m
    · subst e
      rw [hf] at hk
      cases hk
      have hlt := (List.getElem?_eq_some_iff.1 hf).1
      have hfo := hok f (List.mem_of_getElem? hf)
      rw [if_neg (by rw [hc.reached]; simp)]
      by_cases h1 : f.depth ≠ way.depth ∨ f.stk ≠ way.stk
      · rw [if_pos h1]; exact ⟨f, hf, hc⟩
      rw [if_neg h1]
      simp only [not_or, ne_eq, Decidable.not_not] at h1
      by_cases h2 : f.lo = List.zipWith joinN f.lo way.lo
      · rw [if_pos h2]; exact ⟨f, hf, hc⟩
      rw [if_neg h2]
      refine ⟨_, List.getElem?_set_self hlt, ⟨rfl, ⟨hc.sk.le, h1.1 ▸ hc.sk.depth, h1.2 ▸ hc.sk.stk⟩, fun j hj => ?_⟩⟩
      simp only
      rw [zip_get hfo.lo hway.lo hj]
      unfold joinN
      by_cases h3 : f.lo.getD j 0 = way.lo.getD j 0
      · rw [if_pos h3]; exact hc.lo j hj
      · rw [if_neg h3]; exact .inr rfl
    · have hset : ∀ g : Fr, CovAt (fs.set k g) m lo st := fun g => ⟨f, by rw [List.getElem?_set_ne e]; exact hf, hc⟩
      split
      · exact hset _
      split
      · exact ⟨f, hf, hc⟩
      split
      · exact ⟨f, hf, hc⟩
      · exact hset _

/-! ### Worth -/
def nz (a : Nat) : Nat := if a = 2 then 0 else 1
def worth (f : Fr) : Nat := if f.reached = false then 5 else (f.lo.map nz).sum
def pot (fs : List Fr) : Nat := (fs.map worth).sum
theorem nz_le (a : Nat) : nz a ≤ 1 := by unfold nz; split <;> omega
theorem nz_join (a b : Nat) : nz (joinN a b) ≤ nz a ∧ (joinN a b ≠ a → nz (joinN a b) < nz a) := by
  unfold joinN
  by_cases h : a = b
  · rw [if_pos h]; exact ⟨Nat.le_refl _, fun e => absurd rfl e⟩
  · rw [if_neg h]
    refine ⟨by simp [nz], fun e => ?_⟩
    simp only [nz, if_true]
    rw [if_neg (fun e2 => e e2.symm)]; omega
theorem worth_le {f : Fr} (h : f.lo.length = 4) (hr : f.reached = true) : worth f ≤ 4 := by
  unfold worth
  rw [if_neg (by rw [hr]; simp)]
  obtain ⟨a, b, c, d, e⟩ := four h
  have h0 := nz_le a
  have h1 := nz_le b
  have h2 := nz_le c
  have h3 := nz_le d
  rw [e]; simp only [List.map_cons, List.map_nil, List.sum_cons, List.sum_nil]; omega
theorem sum_join {x y : List Nat} (hx : x.length = 4) (hy : y.length = 4) (h : x ≠ List.zipWith joinN x y) : ((List.zipWith joinN x y).map nz).sum < (x.map nz).sum := by
  obtain ⟨a, b, c, d, rfl⟩ := four hx
  obtain ⟨a', b', c', d', rfl⟩ := four hy
  simp only [List.zipWith_cons_cons, List.zipWith_nil_left, List.map_cons, List.map_nil, List.sum_cons, List.sum_nil]
  obtain ⟨p0, q0⟩ := nz_join a a'
  obtain ⟨p1, q1⟩ := nz_join b b'
  obtain ⟨p2, q2⟩ := nz_join c c'
  obtain ⟨p3, q3⟩ := nz_join d d'
  by_cases e0 : joinN a a' = a
  · by_cases e1 : joinN b b' = b
    · by_cases e2 : joinN c c' = c
      · by_cases e3 : joinN d d' = d
        · exfalso; apply h
          simp [e0, e1, e2, e3]
        · have := q3 e3; omega
      · have := q2 e2; omega
    · have := q1 e1; omega
  · have := q0 e0; omega
theorem pot_set {fs : List Fr} {k : Nat} {f g : Fr} (h : fs[k]? = some f) : pot (fs.set k g) + worth f = pot fs + worth g := by
  induction fs generalizing k with
  | nil => simp at h
  | cons a r ih =>
    cases k with
    | zero =>
      simp only [List.getElem?_cons_zero, Option.some.injEq] at h
      subst h
      simp only [pot, List.set_cons_zero, List.map_cons, List.sum_cons]; omega
    | succ k =>
      have := ih (k := k) (by simpa using h)
      simp only [pot, List.set_cons_succ, List.map_cons, List.sum_cons] at *; omega
def one (b : Bool) : Nat := if b = true then 1 else 0
theorem reach_pot {fs : List Fr} (hok : AllOk fs) {k : Nat} {way : Fr} (hway : FrOk way) : pot (reachF fs k way).1 + one (reachF fs k way).2.1 ≤ pot fs := by
  unfold reachF
  cases hk : fs[k]? with
  | none => simp [one]
  | some known =>
    have hkn := hok known (List.mem_of_getElem? hk)
    simp only
    by_cases hr : known.reached = false
    · rw [if_pos hr]
      have h1 := pot_set (g := { way with reached := true }) hk
      have h2 := worth_le (f := { way with reached := true }) hway.lo rfl
      have h3 : worth known = 5 := by unfold worth; rw [if_pos hr]
      simp only [one, if_true]; omega
    rw [if_neg hr]
    split
    · simp [one]
    split
    · simp [one]
    · rename_i h
      have h1 := pot_set (g := { way with reached := true, lo := List.zipWith joinN known.lo way.lo }) hk
      have h2 := sum_join hkn.lo hway.lo h
      have h3 : worth known = (known.lo.map nz).sum := by unfold worth; rw [if_neg hr]
      have h4 : worth { way with reached := true, lo := List.zipWith joinN known.lo way.lo } = ((List.zipWith joinN known.lo way.lo).map nz).sum := by unfold worth; rw [if_neg (by simp)]
      simp only [one, if_true]; omega
theorem reach_same {fs : List Fr} {k : Nat} {way : Fr} (h : (reachF fs k way).2.1 = false) : (reachF fs k way).1 = fs := by
  unfold reachF at *
  cases hk : fs[k]? with
  | none => rfl
  | some known =>
    simp only [hk] at *
    split at h
    · cases h
    rename_i h1
    rw [if_neg h1]
    split at h
    · rename_i h2; rw [if_pos h2]
    rename_i h2
    rw [if_neg h2]
    split at h
    · rename_i h3; rw [if_pos h3]
    · cases h

/-- What holds of a pass, by what holds of a reach. -/
theorem pass_ind {fs : List Fr} (hok : AllOk fs) {k : Nat} {ci : CI} (P : List Fr → Bool → Prop) (h0 : P fs false) (hr : ∀ fs' c t way, AllOk fs' → FrOk way → P fs' c → P (reachF fs' t way).1 (c || (reachF fs' t way).2.1)) : P (passF fs k ci).1 (passF fs k ci).2.1 := by
  unfold passF
  cases hk : fs[k]? with
  | none => exact h0
  | some ahead =>
    have hkn := hok ahead (List.mem_of_getElem? hk)
    have haok := afterF_ok hkn ci.ins.op ci.ins.n
    have h1 : ∀ t, P (reachF fs t (afterF ahead ci.ins.op ci.ins.n)).1 (reachF fs t (afterF ahead ci.ins.op ci.ins.n)).2.1 := fun t => by
      have := hr fs false t _ hok haok h0
      rwa [Bool.false_or] at this
    simp only
    split
    · exact h0
    split
    · exact h0
    split
    · exact h0
    split
    · exact h1 _
    split
    · split
      · exact h1 _
      · exact hr _ _ _ _ (reachF_ok hok haok) haok (h1 _)
    · exact h1 _
theorem passF_ok {fs : List Fr} (hok : AllOk fs) {k : Nat} {ci : CI} : AllOk (passF fs k ci).1 :=
  pass_ind hok (fun fs' _ => AllOk fs') hok (fun _ _ _ _ h hw _ => reachF_ok h hw)
theorem passF_len {fs : List Fr} (hok : AllOk fs) {k : Nat} {ci : CI} : (passF fs k ci).1.length = fs.length :=
  pass_ind hok (fun fs' _ => fs'.length = fs.length) rfl (fun _ _ _ _ _ _ h => by rw [reachF_len]; exact h)
theorem pass_keep {fs : List Fr} (hok : AllOk fs) {k m : Nat} {ci : CI} {lo st : ByteArray} (h : CovAt fs m lo st) : CovAt (passF fs k ci).1 m lo st :=
  pass_ind hok (fun fs' _ => CovAt fs' m lo st) h (fun _ _ _ _ ho hw hc => reach_keep ho hw hc)
theorem pass_pot {fs : List Fr} (hok : AllOk fs) {k : Nat} {ci : CI} : pot (passF fs k ci).1 + one (passF fs k ci).2.1 ≤ pot fs :=
  pass_ind hok (fun fs' c => pot fs' + one c ≤ pot fs) (by simp [one]) (fun fs' c t way ho hw hc => by
    have := reach_pot (k := t) ho hw
    cases c
    · rw [Bool.false_or]; simp only [one] at *; omega
    · rw [Bool.true_or]; simp only [one] at *; omega)
theorem pass_same {fs : List Fr} (hok : AllOk fs) {k : Nat} {ci : CI} (h : (passF fs k ci).2.1 = false) : (passF fs k ci).1 = fs :=
  pass_ind hok (fun fs' c => c = false → fs' = fs) (fun _ => rfl) (fun fs' c t way _ _ hc h2 => by
    rw [Bool.or_eq_false_iff] at h2
    rw [reach_same h2.2]; exact hc h2.1) h

/-! ### Frames that no pass changes -/
def Still (l : List Ins) (fs : List Fr) : Prop := ∀ (k : Nat) (i : Ins), l[k]? = some i → (passF fs k ⟨i, aimOf l i⟩).2.1 = false ∧ (passF fs k ⟨i, aimOf l i⟩).2.2 = true
theorem reach_cov {fs : List Fr} (hok : AllOk fs) {t : Nat} {way : Fr} (hway : FrOk way) (h1 : (reachF fs t way).2.1 = false) (h2 : (reachF fs t way).2.2 = true) {lo st : ByteArray} (hs : Stk way (tl st)) (hl : ∀ j, j < 4 → way.lo.getD j 0 = lk lo j ∨ way.lo.getD j 0 = 2) : CovAt fs t lo st := by
  unfold reachF at *
  cases hk : fs[t]? with
  | none => rw [hk] at h2; cases h2
  | some g =>
    have hg := hok g (List.mem_of_getElem? hk)
    simp only [hk] at h1 h2
    by_cases hr : g.reached = false
    · rw [if_pos hr] at h1; cases h1
    rw [if_neg hr] at h1 h2
    by_cases hd : g.depth ≠ way.depth ∨ g.stk ≠ way.stk
    · rw [if_pos hd] at h2; cases h2
    rw [if_neg hd] at h1 h2
    by_cases hj : g.lo = List.zipWith joinN g.lo way.lo
    · simp only [not_or, ne_eq, Decidable.not_not] at hd
      refine ⟨g, hk, ⟨by simpa using hr, ⟨hs.le, hd.1 ▸ hs.depth, hd.2 ▸ hs.stk⟩, fun j hj4 => ?_⟩⟩
      have e := congrArg (fun x => x.getD j 0) hj
      rw [zip_get hg.lo hway.lo hj4] at e
      unfold joinN at e
      by_cases e3 : g.lo.getD j 0 = way.lo.getD j 0
      · rw [e3]; exact hl j hj4
      · rw [if_neg e3] at e; exact .inr e
    · rw [if_neg hj] at h1; cases h1

theorem afterF_wrong {f : Fr} (h : f.wrong = true) (op n : Nat) : (afterF f op n).wrong = true := by
  unfold afterF
  split
  · unfold loadF
    split
    · rfl
    · apply pushF_wrong
      split
      · rfl
      · exact h
  split
  · unfold storeF
    split
    · rfl
    · exact popF_wrong h
  split
  · exact pushF_wrong (pushF_wrong (popF_wrong h) _) _
  split
  · exact popF_wrong h
  split
  · exact pushF_wrong (pushF_wrong (popF_wrong (popF_wrong h)) _) _
  · exact pushR_wrong _ (popR_wrong _ h)

/-- A frame that tells of a point goes with it through its instruction. -/
theorem still_step {l : List Ins} {L : Nat} (hw : Wf l L) {fs : List Fr} (hok : AllOk fs) (hst : Still l fs) {p : Pt} {i : Ins} (hp : Okp l L p) (hi : l[p.at_]? = some i) (hc : CovAt fs p.at_ p.lo p.st) :
    ∃ f, fs[p.at_]? = some f ∧ Cov f p.lo p.st ∧ Ago f p.lo p.st i.op i.n ∧ (i.op = 7 → f.lo.getD i.n 0 = lk p.lo i.n) ∧
      (i.op = 19 ∨ i.op = 20 → CovAt fs (aimOf l i) (afterV p.lo p.st i.op i.n).1 (afterV p.lo p.st i.op i.n).2.1) ∧
      (i.op ≠ 0 ∧ i.op ≠ 19 → CovAt fs (p.at_ + 1) (afterV p.lo p.st i.op i.n).1 (afterV p.lo p.st i.op i.n).2.1) := by
  obtain ⟨f, hf, hcv⟩ := hc
  have hm : i ∈ l := List.mem_of_getElem? hi
  have harg := hw.arg i hm
  have hL := hw.loc
  have hfo := hok f (List.mem_of_getElem? hf)
  obtain ⟨s1, s2⟩ := hst _ _ hi
  unfold passF at s1 s2
  simp only [hf] at s1 s2
  rw [if_neg (by rw [hcv.reached]; simp)] at s1 s2
  by_cases hwr : (afterF f i.op i.n).wrong = true
  · rw [if_pos hwr] at s2; cases s2
  rw [if_neg hwr] at s1 s2
  have hfw : f.wrong = false := by
    cases e : f.wrong
    · rfl
    · exact absurd (afterF_wrong e _ _) hwr
  have h7 : i.op = 7 → f.lo.getD i.n 0 = lk p.lo i.n := by
    intro e7
    have hn := harg (.inl e7)
    rcases hcv.lo i.n (by omega) with h | h
    · exact h
    · exfalso; apply hwr; rw [e7]; exact load_mixed h
  have hg : Ago f p.lo p.st i.op i.n := by
    rcases aft_both hcv.sk hfw hp.lst (fun h => by rw [hp.lo]; exact harg h) (by rw [hp.lo]; omega) h7 with h | h
    · exact h
    · exact absurd h.2 hwr
  have haok := afterF_ok hfo i.op i.n
  have hlo : ∀ j, j < 4 → (afterF f i.op i.n).lo.getD j 0 = lk (afterV p.lo p.st i.op i.n).1 j ∨ (afterF f i.op i.n).lo.getD j 0 = 2 := by
    intro j hj
    rw [hg.fl, loAft_get (fun e => by have := harg (.inr e); rw [hfo.lo]; omega), aft_lk hg (fun e => by rw [hp.lo]; exact harg (.inr e))]
    by_cases hcc : i.op = 8 ∧ j = i.n
    · rw [if_pos hcc, if_pos hcc]; exact .inl rfl
    · rw [if_neg hcc, if_neg hcc]; exact hcv.lo j hj
  refine ⟨f, hf, hcv, hg, h7, fun hj => ?_, fun hj => ?_⟩
  · have o0 : i.op ≠ 0 := by omega
    rw [if_neg o0] at s1 s2
    by_cases o19 : i.op = 19
    · rw [if_pos o19] at s1 s2
      exact reach_cov hok haok s1 s2 hg.sk hlo
    · rw [if_neg o19] at s1 s2
      have o20 : i.op = 20 := by omega
      rw [if_pos o20] at s1 s2
      by_cases e : (reachF fs (aimOf l i) (afterF f i.op i.n)).2.2 = false
      · rw [if_pos e, e] at s2; cases s2
      · rw [if_neg e] at s1 s2
        simp only [Bool.or_eq_false_iff] at s1
        exact reach_cov hok haok s1.1 (by simpa using e) hg.sk hlo
  · rw [if_neg hj.1, if_neg hj.2] at s1 s2
    by_cases o20 : i.op = 20
    · rw [if_pos o20] at s1 s2
      by_cases e : (reachF fs (aimOf l i) (afterF f i.op i.n)).2.2 = false
      · rw [if_pos e, e] at s2; cases s2
      · rw [if_neg e] at s1 s2
        simp only [Bool.or_eq_false_iff] at s1
        rw [reach_same s1.1] at s1 s2
        exact reach_cov hok haok s1.2 s2 hg.sk hlo
    · rw [if_neg o20] at s1 s2
      exact reach_cov hok haok s1 s2 hg.sk hlo

theorem still_all {l : List Ins} {L : Nat} (hw : Wf l L) {fs : List Fr} (hok : AllOk fs) (hst : Still l fs) (h0 : CovAt fs 0 (initP L).lo (initP L).st) {p : Pt} (h : Reach l L p) : CovAt fs p.at_ p.lo p.st := by
  obtain ⟨n, hn⟩ := h
  induction n generalizing p with
  | zero => rw [show p = initP L from hn]; exact h0
  | succ n ih =>
    obtain ⟨q, ss, h1, h2, h3⟩ := hn
    have hq := reach_ok hw ⟨n, h1⟩
    have hi : l[q.at_]? = some (l[q.at_]'hq.at_) := List.getElem?_eq_getElem hq.at_
    obtain ⟨f, _, _, hg, _, j1, j2⟩ := still_step hw hok hst hq hi (ih h1)
    rw [stepP_eq hi, if_neg (by
      rintro (e | e)
      · rw [hg.ok] at e; cases e
      · have := hg.sm; omega)] at h2
    simp only [Option.some.injEq] at h2
    subst h2
    rw [List.mem_append] at h3
    rcases h3 with h3 | h3
    · by_cases hj : isJump (l[q.at_]'hq.at_).op = true
      · rw [if_pos hj, List.mem_singleton] at h3
        subst h3
        have hj' : (l[q.at_]'hq.at_).op = 19 ∨ (l[q.at_]'hq.at_).op = 20 := by simpa [isJump] using hj
        have := j1 hj'
        unfold aimOf at this
        rw [if_pos hj] at this
        exact this
      · rw [if_neg hj] at h3; simp at h3
    · by_cases hj : (l[q.at_]'hq.at_).op ≠ 0 ∧ (l[q.at_]'hq.at_).op ≠ 19
      · rw [if_pos hj, List.mem_singleton] at h3
        subst h3
        exact j2 hj
      · rw [if_neg hj] at h3; simp at h3

theorem stk_inj {f : Fr} {a b : List UInt8} (ha : Stk f a) (hb : Stk f b) (la : ∀ c ∈ a, letter c) (lb : ∀ c ∈ b, letter c) : a = b := by
  have hz : a.length = b.length := ha.depth.symm.trans hb.depth
  have he := ha.stk.symm.trans hb.stk
  have hm : a.map code8 = b.map code8 := (List.append_inj he (by simp [hz])).1
  clear he ha hb
  induction a generalizing b with
  | nil => cases b with
    | nil => rfl
    | cons => simp at hz
  | cons x r ih => cases b with
    | nil => simp at hz
    | cons y s =>
      simp only [List.map_cons, List.cons.injEq] at hm
      rw [code8_inj (la x (by simp)) (lb y (by simp)) hm.1, ih (fun c hc => la c (by simp [hc])) (fun c hc => lb c (by simp [hc])) (by simpa using hz) hm.2]

theorem still_wt {l : List Ins} {L : Nat} (hw : Wf l L) {fs : List Fr} (hok : AllOk fs) (hst : Still l fs) (h0 : CovAt fs 0 (initP L).lo (initP L).st) : WT l L := by
  refine ⟨fun p hp => ?_, fun p q i hp hq he hi => ?_⟩
  · have ho := reach_ok hw hp
    have hi : l[p.at_]? = some (l[p.at_]'ho.at_) := List.getElem?_eq_getElem ho.at_
    obtain ⟨f, _, _, hg, _, _, _⟩ := still_step hw hok hst ho hi (still_all hw hok hst h0 hp)
    rw [stepP_eq hi, if_neg (by
      rintro (e | e)
      · rw [hg.ok] at e; cases e
      · have := hg.sm; omega)]
    simp
  · have ho := reach_ok hw hp
    have ho2 := reach_ok hw hq
    obtain ⟨f, e1, c1, _, a1, _, _⟩ := still_step hw hok hst ho hi (still_all hw hok hst h0 hp)
    obtain ⟨g, e2, c2, _, a2, _, _⟩ := still_step hw hok hst ho2 (he ▸ hi) (still_all hw hok hst h0 hq)
    rw [he, e2] at e1
    cases e1
    have es : p.st = q.st := tl_inj (stk_inj c1.sk c2.sk ho.lst ho2.lst)
    have hm : i ∈ l := List.mem_of_getElem? hi
    unfold clashB
    rw [he, es]
    simp only [beq_self_eq_true, decide_true, Bool.not_true, Bool.false_or, Bool.true_and, Bool.and_eq_false_iff, beq_eq_false_iff_ne, Bool.not_eq_false', beq_iff_eq]
    by_cases h7 : i.op = 7
    · refine .inr ?_
      exact (kindN_inj ho ho2 (hw.arg i hm (.inl h7)) ((a1 h7).symm.trans (a2 h7))).symm
    · exact .inl h7
end Go.Proofs.YteocjidfbbekfaaDoor
