/- What the frames tell is what all ways say together. Nothing of a program stands here. -/
import Derived.Test.YteocjidfbbekfaaDoorTypD
import Derived.Test.YteocjidfbbekfaaDoorTypG
namespace Go.Proofs.YteocjidfbbekfaaDoor
open Go.RowKit

theorem lk_le (b : ByteArray) (j : Nat) : lk b j ≤ 1 := by unfold lk kindN; split <;> omega
theorem codes_lk {b : ByteArray} {j : Nat} (h : j < b.size) : (codes b).getD j 0 = lk b j := codes_get h
theorem zip_getL {a b : List Nat} {L j : Nat} (ha : a.length = L) (hb : b.length = L) (hj : j < L) : (List.zipWith joinN a b).getD j 0 = joinN (a.getD j 0) (b.getD j 0) := by
  have h1 : j < a.length := by omega
  have h2 : j < b.length := by omega
  simp [List.getD_eq_getElem?_getD, List.getElem?_zipWith, List.getElem?_eq_getElem h1, List.getElem?_eq_getElem h2]
theorem list_ext {a b : List Nat} {L : Nat} (ha : a.length = L) (hb : b.length = L) (h : ∀ j, j < L → a.getD j 0 = b.getD j 0) : a = b := by
  apply List.ext_getElem (by omega)
  intro j h1 h2
  have := h j (by omega)
  simpa [List.getD_eq_getElem?_getD, List.getElem?_eq_getElem h1, List.getElem?_eq_getElem h2] using this

structure TS (k L : Nat) (all : List Pt) (a : Ac) : Prop where
  no : a.r = false → ∀ p ∈ all, p.at_ ≠ k
  len : a.r = true → a.lo.length = L
  st : a.r = true → ∃ p ∈ all, p.at_ = k ∧ a.st = codes p.st
  wit : a.r = true → ∀ j, j < L → (∃ p ∈ all, p.at_ = k ∧ a.lo.getD j 0 = lk p.lo j) ∨ (a.lo.getD j 0 = 2 ∧ ∃ p ∈ all, ∃ q ∈ all, p.at_ = k ∧ q.at_ = k ∧ lk p.lo j ≠ lk q.lo j)
  cov : a.r = true → ∀ j, j < L → ∀ p ∈ all, p.at_ = k → a.lo.getD j 0 = lk p.lo j ∨ a.lo.getD j 0 = 2
theorem TS.step {k L : Nat} {all : List Pt} {a : Ac} (h : TS k L all a) {p : Pt} (hp : p.lo.size = L) : TS k L (all ++ [p]) (toldS k a p) := by
  unfold toldS
  by_cases e : p.at_ = k
  · rw [if_pos e]
    have hcl : (codes p.lo).length = L := by rw [codes_len, hp]
    unfold baseA
    cases hr : a.r
    · rw [if_neg (by simp)]
      have hno := h.no hr
      have hg : ∀ j, j < L → (List.zipWith joinN (codes p.lo) (codes p.lo)).getD j 0 = lk p.lo j := fun j hj => by
        rw [zip_getL hcl hcl hj, joinN_eq rfl, codes_lk (by omega)]
      refine ⟨fun h => by (cases h), fun _ => by simp [hcl], fun _ => ⟨p, by simp, e, rfl⟩, fun _ j hj => .inl ⟨p, by simp, e, hg j hj⟩, fun _ j hj q hq hqk => ?_⟩
      rw [List.mem_append, List.mem_singleton] at hq
      rcases hq with hq | rfl
      · exact absurd hqk (hno q hq)
      · exact .inl (hg j hj)
    · rw [if_pos rfl]
      have hal := h.len hr
      have hg : ∀ j, j < L → (List.zipWith joinN a.lo (codes p.lo)).getD j 0 = joinN (a.lo.getD j 0) (lk p.lo j) := fun j hj => by
        rw [zip_getL hal hcl hj, codes_lk (by omega)]
      refine ⟨fun h => by (cases h), fun _ => by simp [hcl, hal], fun _ => ?_, fun _ j hj => ?_, fun _ j hj q hq hqk => ?_⟩
      · obtain ⟨q, hq, h1, h2⟩ := h.st hr
        exact ⟨q, by simp [hq], h1, h2⟩
      · simp only
        rw [hg j hj]
        by_cases ej : a.lo.getD j 0 = lk p.lo j
        · rw [joinN_eq ej]
          exact .inl ⟨p, by simp, e, ej⟩
        · rw [joinN_ne ej]
          refine .inr ⟨rfl, ?_⟩
          rcases h.wit hr j hj with ⟨q, hq, h1, h2⟩ | ⟨_, q, hq, q', hq', h1, h2, h3⟩
          · exact ⟨q, by simp [hq], p, by simp, h1, e, by rw [← h2]; exact ej⟩
          · exact ⟨q, by simp [hq], q', by simp [hq'], h1, h2, h3⟩
      · simp only
        rw [hg j hj]
        rw [List.mem_append, List.mem_singleton] at hq
        by_cases ej : a.lo.getD j 0 = lk p.lo j
        · rw [joinN_eq ej]
          rcases hq with hq | rfl
          · exact h.cov hr j hj q hq hqk
          · exact .inl ej
        · rw [joinN_ne ej]; exact .inr rfl
  · rw [if_neg e]
    refine ⟨fun hr q hq => ?_, h.len, fun hr => ?_, fun hr j hj => ?_, fun hr j hj q hq hqk => ?_⟩
    · rw [List.mem_append, List.mem_singleton] at hq
      rcases hq with hq | rfl
      · exact h.no hr q hq
      · exact e
    · obtain ⟨q, hq, h1, h2⟩ := h.st hr
      exact ⟨q, by simp [hq], h1, h2⟩
    · rcases h.wit hr j hj with ⟨q, hq, h1, h2⟩ | ⟨h0, q, hq, q', hq', h1, h2, h3⟩
      · exact .inl ⟨q, by simp [hq], h1, h2⟩
      · exact .inr ⟨h0, q, by simp [hq], q', by simp [hq'], h1, h2, h3⟩
    · rw [List.mem_append, List.mem_singleton] at hq
      rcases hq with hq | rfl
      · exact h.cov hr j hj q hq hqk
      · exact absurd hqk e
theorem ts_all {k L : Nat} (all : List Pt) (h : ∀ p ∈ all, p.lo.size = L) : TS k L all (toldF k all) := by
  suffices hs : ∀ (rest pre : List Pt) (a : Ac), (∀ p ∈ rest, p.lo.size = L) → TS k L pre a → TS k L (pre ++ rest) (rest.foldl (toldS k) a) from by
    have := hs all [] ⟨false, [], []⟩ h ⟨fun _ p hp => by simp at hp, fun h => by (cases h), fun h => by (cases h), fun h => by (cases h), fun h => by (cases h)⟩
    rw [List.nil_append] at this
    exact this
  intro rest
  induction rest with
  | nil => intro pre a _ h; simpa using h
  | cons p r ih =>
    intro pre a hp h
    have := ih (pre ++ [p]) (toldS k a p) (fun q hq => hp q (by simp [hq])) (h.step (hp p (by simp)))
    simpa using this

theorem stk_codes {f : Fr} {st : ByteArray} (h : Stk f (tl st)) : f.stk.take f.depth = codes st := by
  rw [h.stk, h.depth, List.take_append_of_le_length (by simp), List.take_of_length_le (by simp)]
  rfl
theorem told_same {l : List Ins} {L : Nat} (hw : Wf l L) {fs : List Fr} (hinv : SetInv l L fs) (hst : Still l fs) (hwt : WT l L) {all : List Pt} (hall : ∀ p, Reach l L p ↔ p ∈ all) {k : Nat} {i : Ins} {f : Fr} (hi : l[k]? = some i) (hf : fs[k]? = some f) (pl : Nat) :
    ptF pl f L = ⟨pl, (toldF k all).r, (toldF k all).lo, (toldF k all).st⟩ := by
  have hts : TS k L all (toldF k all) := ts_all all (fun p hp => (reach_ok hw ((hall p).2 hp)).lo)
  have hnone := toldF_none k all
  have hfo := hinv.ok f (List.mem_of_getElem? hf)
  have hL := hw.loc
  have hcov : ∀ lo st, At l L k lo st → Cov f lo st := fun lo st h => by
    obtain ⟨f', h1, h2⟩ := still_all hw hinv.ok hst hinv.cov h
    have : some f' = some f := h1.symm.trans hf
    cases this
    exact h2
  have hin : ∀ p ∈ all, p.at_ = k → At l L k p.lo p.st := fun p hp e => by
    have := (hall p).2 hp
    obtain ⟨a, b, c⟩ := p
    simp only at e
    subst e
    exact this
  have hout : ∀ lo st, At l L k lo st → (⟨k, lo, st⟩ : Pt) ∈ all := fun lo st h => (hall _).1 h
  generalize toldF k all = A at *
  unfold ptF
  cases hr : f.reached
  · rw [if_neg (by simp)]
    have har : A.r = false := by
      cases e : A.r
      · rfl
      · obtain ⟨p, hp, h1, _⟩ := hts.st e
        have := (hcov _ _ (hin p hp h1)).reached
        rw [hr] at this; cases this
    obtain ⟨e1, e2⟩ := hnone har
    rw [har, e1, e2]
  · rw [if_pos rfl]
    have hwit := hinv.sound hwt k f hf hr
    obtain ⟨lo0, st0, h0, hs0⟩ := hwit.one
    have har : A.r = true := by
      cases e : A.r
      · exact absurd rfl (hts.no e _ (hout _ _ h0))
      · rfl
    have est : f.stk.take f.depth = A.st := by
      obtain ⟨p, hp, h1, h2⟩ := hts.st har
      rw [h2, stk_codes hs0]
      have := (calm_st (p := ⟨k, lo0, st0⟩) (q := ⟨k, p.lo, p.st⟩) (hwt.2 _ _ i h0 (hin p hp h1) rfl hi) rfl).1
      simp only at this
      rw [this]
    have elo : f.lo.take L = A.lo := by
      refine list_ext (L := L) (by rw [List.length_take, hfo.lo]; omega) (hts.len har) (fun j hj => ?_)
      have e0 : (f.lo.take L).getD j 0 = f.lo.getD j 0 := by simp [List.getD_eq_getElem?_getD, hj]
      rw [e0]
      rcases hwit.lo j (by omega) with ⟨lo1, st1, h1, e1⟩ | ⟨e1, lo1, st1, lo2, st2, h1, h2, e2⟩
      · rcases hts.cov har j hj _ (hout _ _ h1) rfl with h | h
        · rw [e1]; exact h.symm
        · exfalso
          have l1 := lk_le lo1 j
          rcases hts.wit har j hj with ⟨p, _, _, h3⟩ | ⟨_, p, hp, q, hq, hpk, hqk, h3⟩
          · have := lk_le p.lo j; omega
          · apply h3
            have cp := (hcov _ _ (hin p hp hpk)).lo j (by omega)
            have cq := (hcov _ _ (hin q hq hqk)).lo j (by omega)
            rcases cp with cp | cp
            · rcases cq with cq | cq
              · rw [← cp, ← cq]
              · omega
            · omega
      · rw [e1]
        rcases hts.cov har j hj _ (hout _ _ h1) rfl with h | h
        · rcases hts.cov har j hj _ (hout _ _ h2) rfl with h' | h'
          · exact absurd (h.symm.trans h') e2
          · exact h'.symm
        · exact h.symm
    rw [har, est, elo]
theorem maps_same {l : List Ins} {L : Nat} (hw : Wf l L) {fs : List Fr} (hinv : SetInv l L fs) (hst : Still l fs) (hwt : WT l L) {all : List Pt} (hall : ∀ p, Reach l L p ↔ p ∈ all) : mapsF l fs L = toldAll l all := by
  have hlen := hinv.len
  apply List.ext_getElem
  · simp [mapsF, toldAll]; omega
  · intro k h1 h2
    have hk : k < l.length := by simpa [toldAll] using h2
    have hk2 : k < fs.length := by omega
    simp only [mapsF, List.getElem_zipWith, toldAll, List.getElem_map, List.getElem_range, toldM]
    rw [told_same hw hinv hst hwt hall (List.getElem?_eq_getElem hk) (List.getElem?_eq_getElem hk2) l[k].place]
    simp [List.getD_eq_getElem?_getD, hk]
end Go.Proofs.YteocjidfbbekfaaDoor
