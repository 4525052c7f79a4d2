/- Frames against ways: what a frame tells is found on some way; frames that no pass changes tell of every way. Nothing of a program stands here. -/
import Derived.Test.YteocjidfbbekfaaDoorSpecK
import Derived.Test.YteocjidfbbekfaaDoorFlowN
namespace Go.Proofs.YteocjidfbbekfaaDoor
open Go.RowKit

/-- The type of local j. -/
def lk (b : ByteArray) (j : Nat) : Nat := kindN (byteAt b j)
structure Wit (R : ByteArray → ByteArray → Prop) (f : Fr) : Prop where
  wrong : f.wrong = false
  one : ∃ lo st, R lo st ∧ Stk f (tl st)
  lo : ∀ j, j < 4 → (∃ lo st, R lo st ∧ f.lo.getD j 0 = lk lo j) ∨ (f.lo.getD j 0 = 2 ∧ ∃ lo st lo' st', R lo st ∧ R lo' st' ∧ lk lo j ≠ lk lo' j)
theorem Wit.mono {R R' : ByteArray → ByteArray → Prop} {f : Fr} (h : Wit R f) (hr : ∀ lo st, R lo st → R' lo st) : Wit R' f := by
  refine ⟨h.wrong, ?_, fun j hj => ?_⟩
  · obtain ⟨lo, st, a, b⟩ := h.one
    exact ⟨lo, st, hr _ _ a, b⟩
  · rcases h.lo j hj with ⟨lo, st, a, b⟩ | ⟨a, lo, st, lo', st', b, c, d⟩
    · exact .inl ⟨lo, st, hr _ _ a, b⟩
    · exact .inr ⟨a, lo, st, lo', st', hr _ _ b, hr _ _ c, d⟩
def At (l : List Ins) (L k : Nat) (lo st : ByteArray) : Prop := Reach l L ⟨k, lo, st⟩
def Sound (l : List Ins) (L : Nat) (fs : List Fr) : Prop := ∀ k f, fs[k]? = some f → f.reached = true → Wit (At l L k) f

theorem reach_ok {l : List Ins} {L : Nat} (hw : Wf l L) {p : Pt} (h : Reach l L p) : Okp l L p := by
  obtain ⟨n, hn⟩ := h
  induction n generalizing p with
  | zero => rw [show p = initP L from hn]; exact init_ok hw
  | succ n ih =>
    obtain ⟨q, ss, h1, h2, h3⟩ := hn
    exact step_ok hw (ih h1) h2 h3

theorem kindN_inj {l : List Ins} {L n : Nat} {p q : Pt} (hp : Okp l L p) (hq : Okp l L q) (hn : n < L) (h : lk p.lo n = lk q.lo n) : byteAt p.lo n = byteAt q.lo n := by
  obtain ⟨c, c1, c2, _⟩ := tl_get (b := p.lo) (n := n) (by rw [hp.lo]; exact hn)
  obtain ⟨d, d1, d2, _⟩ := tl_get (b := q.lo) (n := n) (by rw [hq.lo]; exact hn)
  unfold lk at h
  rw [c2, d2] at h ⊢
  rw [code8_inj (hp.llo c (List.mem_of_getElem? c1)) (hq.llo d (List.mem_of_getElem? d1)) h]

theorem calm_st {i : Ins} {p q : Pt} (h : clashB i p q = false) (he : p.at_ = q.at_) : p.st = q.st ∧ (i.op = 7 → byteAt p.lo i.n = byteAt q.lo i.n) := by
  simp only [clashB, he, beq_self_eq_true, Bool.true_and, Bool.or_eq_false_iff, Bool.not_eq_false', decide_eq_true_eq, Bool.and_eq_false_iff, beq_eq_false_iff_ne, beq_iff_eq] at h
  refine ⟨h.1.symm, fun h7 => ?_⟩
  rcases h.2 with h2 | h2
  · exact absurd h7 h2
  · exact h2.symm

theorem store_tl {lo st : ByteArray} {n : Nat} (hn : n < lo.size) (hp : 1 ≤ st.size) : ∃ c, byteAt st (st.size - 1) = c.toNat ∧ tl (lo.extract 0 n ++ st.extract (st.size - 1) st.size ++ lo.extract (n + 1) lo.size) = (tl lo).set n c := by
  rcases nil_or_snoc (tl st) with e | ⟨s0, d, e⟩
  · have : st.size = 0 := by rw [← tl_len, e]; rfl
    omega
  · obtain ⟨z, z1, z2, z3⟩ := tl_last e
    refine ⟨d, z3, ?_⟩
    rw [tl_append, tl_append, z1, tl_extract, tl_extract]
    have hl : n < (tl lo).length := hn
    rw [List.set_eq_take_append_cons_drop, if_pos hl, show lo.size = (tl lo).length from rfl]
    rw [List.take_of_length_le (l := (tl lo).drop (n + 1)) (by simp)]
    simp

theorem aft_lk {f : Fr} {lo st : ByteArray} {op n : Nat} (h : Ago f lo st op n) (hn : op = 8 → n < lo.size) (j : Nat) : lk (afterV lo st op n).1 j = if op = 8 ∧ j = n then kindN (byteAt st (st.size - 1)) else lk lo j := by
  rw [h.lv]
  by_cases e8 : op = 8
  · rw [if_pos e8]
    obtain ⟨c, c1, c2⟩ := store_tl (hn e8) (h.pos e8)
    have hb : ∀ b : ByteArray, byteAt b j = ((tl b).getD j 0).toNat := fun _ => rfl
    unfold lk
    rw [hb, c2, List.getD_eq_getElem?_getD, List.getElem?_set]
    by_cases hj : j = n
    · subst hj
      rw [if_pos rfl, if_pos (show j < (tl lo).length from hn e8), if_pos ⟨e8, rfl⟩, c1]; rfl
    · rw [if_neg (fun e => hj e.symm), if_neg (fun e => hj e.2), ← List.getD_eq_getElem?_getD]; rfl
  · rw [if_neg e8, if_neg (fun e => e8 e.1)]
theorem loAft_get {lo : List Nat} {st : ByteArray} {op n : Nat} (hl : op = 8 → n < lo.length) (j : Nat) : (loAft lo st op n).getD j 0 = if op = 8 ∧ j = n then kindN (byteAt st (st.size - 1)) else lo.getD j 0 := by
  unfold loAft
  by_cases e8 : op = 8
  · rw [if_pos e8, List.getD_eq_getElem?_getD, List.getElem?_set]
    by_cases hj : j = n
    · subst hj
      rw [if_pos rfl, if_pos (hl e8), if_pos ⟨e8, rfl⟩]; rfl
    · rw [if_neg (fun e => hj e.symm), if_neg (fun e => hj e.2), ← List.getD_eq_getElem?_getD]
  · rw [if_neg e8, if_neg (fun e => e8 e.1)]

/-- Where the code is well typed, a frame that is found on some way is good for every point there. -/
theorem ago_all {l : List Ins} {L k : Nat} (hw : Wf l L) (hwt : WT l L) {i : Ins} (hi : l[k]? = some i) {f : Fr} (hf : Wit (At l L k) f) {lo st : ByteArray} (hr : At l L k lo st) : Ago f lo st i.op i.n := by
  have hm : i ∈ l := List.mem_of_getElem? hi
  have hok := reach_ok hw hr
  have calm : ∀ lo' st', At l L k lo' st' → st' = st ∧ (i.op = 7 → byteAt lo' i.n = byteAt lo i.n) := fun lo' st' h' =>
    calm_st (p := ⟨k, lo', st'⟩) (q := ⟨k, lo, st⟩) (hwt.2 _ _ i h' hr rfl hi) rfl
  have hL := hw.loc
  have harg := hw.arg i hm
  have hlo : lo.size = L := hok.lo
  obtain ⟨lo0, st0, h0, hs0⟩ := hf.one
  rw [(calm _ _ h0).1] at hs0
  have h7 : i.op = 7 → f.lo.getD i.n 0 = kindN (byteAt lo i.n) := by
    intro e7
    have hn := harg (.inl e7)
    rcases hf.lo i.n (by omega) with ⟨lo1, st1, h1, e1⟩ | ⟨_, lo1, st1, lo2, st2, h1, h2, e1⟩
    · rw [e1]; unfold lk; rw [(calm _ _ h1).2 e7]
    · exfalso; apply e1
      unfold lk
      rw [(calm _ _ h1).2 e7, (calm _ _ h2).2 e7]
  rcases aft_both hs0 hf.wrong hok.lst (fun h => by rw [hlo]; exact harg h) (by omega) h7 with h | h
  · exact h
  · exfalso
    have := hwt.1 _ hr
    rw [stepP_eq (p := ⟨k, lo, st⟩) hi, if_pos h.1] at this
    exact this rfl
/-- What is found behind instruction i, at k. -/
def Behind (l : List Ins) (L k : Nat) (i : Ins) (lo st : ByteArray) : Prop := ∃ lo0 st0, At l L k lo0 st0 ∧ (afterV lo0 st0 i.op i.n).2.2 = true ∧ (afterV lo0 st0 i.op i.n).2.1.size ≤ 8 ∧ lo = (afterV lo0 st0 i.op i.n).1 ∧ st = (afterV lo0 st0 i.op i.n).2.1
theorem wit_step {l : List Ins} {L k : Nat} (hw : Wf l L) (hwt : WT l L) {i : Ins} (hi : l[k]? = some i) {f : Fr} (hok : FrOk f) (hf : Wit (At l L k) f) : Wit (Behind l L k i) (afterF f i.op i.n) := by
  have hm : i ∈ l := List.mem_of_getElem? hi
  have harg := hw.arg i hm
  have hL := hw.loc
  have hall : ∀ lo st, At l L k lo st → Ago f lo st i.op i.n ∧ Behind l L k i (afterV lo st i.op i.n).1 (afterV lo st i.op i.n).2.1 ∧ ∀ j, lk (afterV lo st i.op i.n).1 j = if i.op = 8 ∧ j = i.n then kindN (byteAt st (st.size - 1)) else lk lo j := fun lo st h =>
    have ha := ago_all hw hwt hi hf h
    ⟨ha, ⟨lo, st, h, ha.ok, ha.sm, rfl, rfl⟩, aft_lk ha (fun e => by rw [(reach_ok hw h).lo]; exact harg (.inr e))⟩
  obtain ⟨lo0, st0, h0, hs0⟩ := hf.one
  obtain ⟨g0, b0, k0⟩ := hall _ _ h0
  refine ⟨g0.wr, ⟨_, _, b0, g0.sk⟩, fun j hj => ?_⟩
  rw [g0.fl, loAft_get (fun e => by have := harg (.inr e); rw [hok.lo]; omega)]
  by_cases hc : i.op = 8 ∧ j = i.n
  · rw [if_pos hc]
    refine .inl ⟨_, _, b0, ?_⟩
    rw [k0, if_pos hc]
  · rw [if_neg hc]
    rcases hf.lo j hj with ⟨lo1, st1, h1, e1⟩ | ⟨e2, lo1, st1, lo2, st2, h1, h2, e1⟩
    · obtain ⟨_, b1, k1⟩ := hall _ _ h1
      exact .inl ⟨_, _, b1, by rw [k1, if_neg hc]; exact e1⟩
    · obtain ⟨_, b1, k1⟩ := hall _ _ h1
      obtain ⟨_, b2, k2⟩ := hall _ _ h2
      exact .inr ⟨e2, _, _, _, _, b1, b2, by rw [k1, k2, if_neg hc, if_neg hc]; exact e1⟩

theorem zip_get {a b : List Nat} (ha : a.length = 4) (hb : b.length = 4) {j : Nat} (hj : j < 4) : (List.zipWith joinN a b).getD j 0 = joinN (a.getD j 0) (b.getD j 0) := by
  have h1 : j < a.length := by omega
  have h2 : j < b.length := by omega
  simp [List.getD_eq_getElem?_getD, List.getElem?_zipWith, List.getElem?_eq_getElem h1, List.getElem?_eq_getElem h2]

theorem reach_sound {l : List Ins} {L k : Nat} (hwt : WT l L) {fs : List Fr} {way : Fr} (hok : AllOk fs) (hway : FrOk way) (hs : Sound l L fs) (hlen : fs.length = l.length) (hk : k < fs.length) (h : Wit (At l L k) way) :
    (reachF fs k way).2.2 = true ∧ Sound l L (reachF fs k way).1 := by
  have hset : ∀ g : Fr, Wit (At l L k) g → Sound l L (fs.set k g) := by
    intro g hg m f hm hr
    rw [List.getElem?_set] at hm
    by_cases e : k = m
    · subst e
      rw [if_pos rfl, if_pos hk] at hm
      cases hm; exact hg
    · rw [if_neg e] at hm
      exact hs m f hm hr
  have hkn : fs[k]? = some fs[k] := List.getElem?_eq_getElem hk
  unfold reachF
  rw [hkn]
  simp only
  by_cases hr : fs[k].reached = false
  · rw [if_pos hr]
    exact ⟨rfl, hset _ ⟨h.wrong, by obtain ⟨a, b, c, d⟩ := h.one; exact ⟨a, b, c, ⟨d.le, d.depth, d.stk⟩⟩, h.lo⟩⟩
  rw [if_neg hr]
  have hr' : fs[k].reached = true := by simpa using hr
  have hknw := hs k _ hkn hr'
  have hkok := hok _ (List.getElem_mem hk)
  obtain ⟨lo1, st1, a1, b1⟩ := hknw.one
  obtain ⟨lo2, st2, a2, b2⟩ := h.one
  have hk2 : k < l.length := by omega
  have est : st1 = st2 := (calm_st (p := ⟨k, lo1, st1⟩) (q := ⟨k, lo2, st2⟩) (hwt.2 _ _ _ a1 a2 rfl (List.getElem?_eq_getElem hk2)) rfl).1
  rw [est] at b1
  rw [if_neg (by
    rintro (e | e)
    · exact e (b1.depth.trans b2.depth.symm)
    · exact e (b1.stk.trans b2.stk.symm))]
  by_cases hj : fs[k].lo = List.zipWith joinN fs[k].lo way.lo
  · rw [if_pos hj]; exact ⟨rfl, hs⟩
  rw [if_neg hj]
  refine ⟨rfl, hset _ ⟨h.wrong, ⟨lo2, st2, a2, ⟨b2.le, b2.depth, b2.stk⟩⟩, fun j hj4 => ?_⟩⟩
  simp only
  rw [zip_get hkok.lo hway.lo hj4]
  by_cases e : fs[k].lo.getD j 0 = way.lo.getD j 0
  · rw [joinN_eq e]; exact hknw.lo j hj4
  rw [joinN_ne e]
  refine .inr ⟨rfl, ?_⟩
  rcases hknw.lo j hj4 with ⟨lo3, st3, h3, e3⟩ | ⟨_, t⟩
  · rcases h.lo j hj4 with ⟨lo4, st4, h4, e4⟩ | ⟨_, t⟩
    · exact ⟨lo3, st3, lo4, st4, h3, h4, by rw [← e3, ← e4]; exact e⟩
    · exact t
  · exact t

theorem aims_get {l : List Ins} {k : Nat} {i : Ins} (h : l[k]? = some i) : (aims l)[k]? = some ⟨i, aimOf l i⟩ := by
  unfold aims; rw [List.getElem?_map, h]; rfl

/-- A point behind instruction i, at k, is reached at each next instruction. -/
theorem behind_jump {l : List Ins} {L k : Nat} {i : Ins} (hi : l[k]? = some i) (hj : i.op = 19 ∨ i.op = 20) {lo st : ByteArray} (h : Behind l L k i lo st) : At l L (aimOf l i) lo st := by
  obtain ⟨lo0, st0, h0, e1, e2, rfl, rfl⟩ := h
  have hjj : isJump i.op = true := by unfold isJump; rcases hj with e | e <;> rw [e] <;> rfl
  refine Reach.step h0 (stepP_eq (p := ⟨k, lo0, st0⟩) hi ▸ if_neg (by rintro (e | e); · rw [e1] at e; cases e
                                                                      · simp only at e; omega)) ?_
  rw [if_pos hjj, List.mem_append]
  refine .inl ?_
  rw [List.mem_singleton, show aimOf l i = (findP i.n l 0).toNat by unfold aimOf; rw [if_pos hjj]]
theorem behind_next {l : List Ins} {L k : Nat} {i : Ins} (hi : l[k]? = some i) (hj : i.op ≠ 0 ∧ i.op ≠ 19) {lo st : ByteArray} (h : Behind l L k i lo st) : At l L (k + 1) lo st := by
  obtain ⟨lo0, st0, h0, e1, e2, rfl, rfl⟩ := h
  refine Reach.step h0 (stepP_eq (p := ⟨k, lo0, st0⟩) hi ▸ if_neg (by rintro (e | e); · rw [e1] at e; cases e
                                                                      · simp only at e; omega)) ?_
  rw [List.mem_append, if_pos hj]
  exact .inr (by rw [List.mem_singleton])

theorem aim_lt {l : List Ins} {L : Nat} (hw : Wf l L) {i : Ins} (hm : i ∈ l) (hj : i.op = 19 ∨ i.op = 20) : aimOf l i < l.length := by
  have hjj : isJump i.op = true := by unfold isJump; rcases hj with e | e <;> rw [e] <;> rfl
  have h0 := hw.jump i hm hjj
  have h1 := findP_lt _ l 0 h0
  unfold aimOf; rw [if_pos hjj]; omega
theorem next_lt {l : List Ins} {L k : Nat} (hw : Wf l L) {i : Ins} (hi : l[k]? = some i) (hj : i.op ≠ 0 ∧ i.op ≠ 19) : k + 1 < l.length := by
  have hk := (List.getElem?_eq_some_iff.1 hi).1
  rcases Nat.lt_or_ge (k + 1) l.length with h | h
  · exact h
  · exfalso
    have hlast := hw.last
    have h1 : lastOp l = i.op := by
      unfold lastOp
      rw [List.getLast?_eq_getElem?, show l.length - 1 = k by omega, hi]
      rfl
    simp [endsOk, h1] at hlast
    omega

theorem pass_sound {l : List Ins} {L k : Nat} (hw : Wf l L) (hwt : WT l L) {fs : List Fr} (hok : AllOk fs) (hs : Sound l L fs) (hlen : fs.length = l.length) {i : Ins} (hi : l[k]? = some i) :
    (passF fs k ⟨i, aimOf l i⟩).2.2 = true ∧ Sound l L (passF fs k ⟨i, aimOf l i⟩).1 := by
  have hk := (List.getElem?_eq_some_iff.1 hi).1
  have hm : i ∈ l := List.mem_of_getElem? hi
  have hkn : fs[k]? = some (fs[k]'(by omega)) := List.getElem?_eq_getElem (by omega)
  have hkok := hok _ (List.mem_of_getElem? hkn)
  generalize fs[k]'(by omega) = ahead at hkn hkok
  unfold passF
  rw [hkn]
  simp only
  by_cases hr : ahead.reached = false
  · rw [if_pos hr]; exact ⟨rfl, hs⟩
  rw [if_neg hr]
  have hst := wit_step hw hwt hi hkok (hs k _ hkn (by simpa using hr))
  have haok := afterF_ok hkok i.op i.n
  rw [if_neg (by rw [hst.wrong]; simp)]
  by_cases o0 : i.op = 0
  · rw [if_pos o0]; exact ⟨rfl, hs⟩
  rw [if_neg o0]
  by_cases o19 : i.op = 19
  · rw [if_pos o19]
    exact reach_sound hwt hok haok hs hlen (by rw [hlen]; exact aim_lt hw hm (.inl o19)) (hst.mono fun _ _ h => behind_jump hi (.inl o19) h)
  rw [if_neg o19]
  have hnx := next_lt hw hi ⟨o0, o19⟩
  by_cases o20 : i.op = 20
  · rw [if_pos o20]
    obtain ⟨a, b⟩ := reach_sound hwt hok haok hs hlen (by rw [hlen]; exact aim_lt hw hm (.inr o20)) (hst.mono fun _ _ h => behind_jump hi (.inr o20) h)
    rw [if_neg (by rw [a]; simp)]
    exact reach_sound hwt (reachF_ok hok haok) haok b (by rw [reachF_len]; exact hlen) (by rw [reachF_len]; omega) (hst.mono fun _ _ h => behind_next hi ⟨o0, o19⟩ h)
  rw [if_neg o20]
  exact reach_sound hwt hok haok hs hlen (by omega) (hst.mono fun _ _ h => behind_next hi ⟨o0, o19⟩ h)
end Go.Proofs.YteocjidfbbekfaaDoor
