/- What an instruction does to a frame of types and what it does to a point go together. Nothing of a program stands here. -/
import Derived.Test.YteocjidfbbekfaaDoorSpecE
import Derived.Test.YteocjidfbbekfaaDoorFlowD
namespace Go.Proofs.YteocjidfbbekfaaDoor
open Go.RowKit

def code8 (c : UInt8) : Nat := kindN c.toNat
def letter (c : UInt8) : Prop := c = 105 ∨ c = 114
theorem code8_inj {c d : UInt8} (hc : letter c) (hd : letter d) (h : code8 c = code8 d) : c = d := by
  rcases hc with rfl | rfl <;> rcases hd with rfl | rfl
  · rfl
  · exact absurd h (by decide)
  · exact absurd h (by decide)
  · rfl
theorem code8_le (c : UInt8) : code8 c ≤ 1 := by unfold code8 kindN; split <;> omega

theorem nil_or_snoc {α : Type} (s : List α) : s = [] ∨ ∃ s0 d, s = s0 ++ [d] := by
  rcases List.eq_nil_or_concat s with h | ⟨a, b, h⟩
  · exact .inl h
  · exact .inr ⟨a, b, by rw [h, List.concat_eq_append]⟩
/-- The frame's stack holds s. -/
structure Stk (f : Fr) (s : List UInt8) : Prop where
  le : s.length ≤ 8
  depth : f.depth = s.length
  stk : f.stk = s.map code8 ++ List.replicate (8 - s.length) 0

theorem pop_nil {f : Fr} (h : Stk f []) : (popF f).1.wrong = true := by
  unfold popF; rw [if_pos (show f.depth = 0 from h.depth)]; rfl
theorem pop_snoc {f : Fr} {s : List UInt8} {c : UInt8} (h : Stk f (s ++ [c])) :
    Stk (popF f).1 s ∧ (popF f).2 = code8 c ∧ (popF f).1.lo = f.lo ∧ (popF f).1.wrong = f.wrong := by
  have hd : f.depth = s.length + 1 := by simpa using h.depth
  have hle : s.length + 1 ≤ 8 := by simpa using h.le
  unfold popF
  rw [if_neg (by omega), hd, h.stk]
  simp only [Nat.add_sub_cancel, List.map_append, List.map_cons, List.map_nil, List.length_append, List.length_cons, List.length_nil]
  refine ⟨⟨by omega, rfl, ?_⟩, ?_, trivial, trivial⟩
  · simp only
    rw [List.append_assoc, List.set_append_right _ _ (by simp), show 8 - s.length = (8 - (s.length + 1)) + 1 by omega, List.replicate_succ]
    simp
  · simp [List.getD_eq_getElem?_getD]
theorem stk_full {f : Fr} {s : List UInt8} (h : Stk f s) (h8 : s.length = 8) (k : Nat) : (pushF f k).wrong = true := by
  unfold pushF; rw [if_pos (by rw [h.depth, h8])]; rfl
theorem stk_room {f : Fr} {s : List UInt8} (h : Stk f s) (h8 : s.length < 8) (c : UInt8) :
    Stk (pushF f (code8 c)) (s ++ [c]) ∧ (pushF f (code8 c)).lo = f.lo ∧ (pushF f (code8 c)).wrong = f.wrong := by
  unfold pushF
  rw [if_neg (by rw [h.depth]; omega), h.depth, h.stk]
  refine ⟨⟨by simp; omega, by simp, ?_⟩, rfl, rfl⟩
  simp only [List.map_append, List.map_cons, List.map_nil, List.length_append, List.length_cons, List.length_nil]
  rw [List.set_append_right _ _ (by simp), show 8 - s.length = (8 - (s.length + 1)) + 1 by omega, List.replicate_succ]
  simp
theorem popF_wrong {f : Fr} (h : f.wrong = true) : (popF f).1.wrong = true := by
  unfold popF
  by_cases hd : f.depth = 0
  · rw [if_pos hd]; rfl
  · rw [if_neg hd]; exact h
theorem pushF_wrong {f : Fr} (h : f.wrong = true) (k : Nat) : (pushF f k).wrong = true := by
  unfold pushF
  by_cases hd : f.depth = 8
  · rw [if_pos hd]; rfl
  · rw [if_neg hd]; exact h
theorem popR_wrong : ∀ (r : List Nat) {f : Fr}, f.wrong = true → (popR f r).wrong = true
  | [], _, h => h
  | c :: r, f, h => by
    simp only [popR]
    apply popR_wrong r
    by_cases hk : (popF f).2 = kindN c
    · rw [if_pos hk]; exact popF_wrong h
    · rw [if_neg hk]; rfl
theorem pushR_wrong : ∀ (r : List Nat) {f : Fr}, f.wrong = true → (pushR f r).wrong = true
  | [], _, h => h
  | c :: r, f, h => by
    simp only [pushR]
    exact pushR_wrong r (pushF_wrong h _)

theorem popR_both : ∀ (r : List UInt8) (f : Fr) (s : List UInt8), (∀ c ∈ r, letter c) → Stk f s → f.wrong = false → (∀ c ∈ s, letter c) →
    (∃ s', s = s' ++ r.reverse ∧ Stk (popR f (r.map UInt8.toNat)) s' ∧ (popR f (r.map UInt8.toNat)).wrong = false ∧ (popR f (r.map UInt8.toNat)).lo = f.lo) ∨
    ((¬ ∃ s', s = s' ++ r.reverse) ∧ (popR f (r.map UInt8.toNat)).wrong = true)
  | [], f, s, _, hs, hw, _ => .inl ⟨s, by simp, hs, hw, rfl⟩
  | c :: r, f, s, hr, hs, hw, hl => by
    simp only [List.map_cons, popR, List.reverse_cons]
    rcases nil_or_snoc s with rfl | ⟨s0, d, rfl⟩
    · refine .inr ⟨?_, popR_wrong _ ?_⟩
      · rintro ⟨s', h⟩
        have := congrArg List.length h
        simp at this
      · split
        · exact pop_nil hs
        · rfl
    · obtain ⟨h1, h2, h3, h4⟩ := pop_snoc hs
      by_cases hk : (popF f).2 = kindN c.toNat
      · rw [if_pos hk]
        have hdc : d = c := code8_inj (hl d (by simp)) (hr c (by simp)) (by rw [← h2, hk]; rfl)
        subst hdc
        rcases popR_both r (popF f).1 s0 (fun x hx => hr x (by simp [hx])) h1 (h4.trans hw) (fun x hx => hl x (by simp [hx])) with ⟨s', e, a, b, l⟩ | ⟨e, a⟩
        · exact .inl ⟨s', by rw [e]; simp, a, b, l.trans h3⟩
        · refine .inr ⟨?_, a⟩
          rintro ⟨s', h⟩
          apply e
          rw [← List.append_assoc] at h
          exact ⟨s', (List.append_inj' h rfl).1⟩
      · rw [if_neg hk]
        refine .inr ⟨?_, popR_wrong _ rfl⟩
        rintro ⟨s', h⟩
        rw [← List.append_assoc] at h
        have := (List.append_inj' h rfl).2
        simp only [List.cons.injEq, and_true] at this
        apply hk
        rw [h2, this]; rfl
theorem pushR_both : ∀ (r : List UInt8) (f : Fr) (s : List UInt8), Stk f s →
    (s.length + r.length ≤ 8 ∧ Stk (pushR f (r.map UInt8.toNat)) (s ++ r) ∧ (pushR f (r.map UInt8.toNat)).wrong = f.wrong ∧ (pushR f (r.map UInt8.toNat)).lo = f.lo) ∨
    (8 < s.length + r.length ∧ (pushR f (r.map UInt8.toNat)).wrong = true)
  | [], f, s, hs => .inl ⟨by simpa using hs.le, by simpa [pushR] using hs, rfl, rfl⟩
  | c :: r, f, s, hs => by
    simp only [List.map_cons, pushR, List.length_cons]
    by_cases h8 : s.length = 8
    · exact .inr ⟨by omega, pushR_wrong _ (stk_full hs h8 _)⟩
    · obtain ⟨h1, h2, h3⟩ := stk_room hs (by have := hs.le; omega) c
      rcases pushR_both r _ _ h1 with ⟨a, b, d, e⟩ | ⟨a, b⟩
      · refine .inl ⟨by simp at a; omega, ?_, d.trans h3, e.trans h2⟩
        rw [List.append_assoc] at b
        exact b
      · exact .inr ⟨by simp at a; omega, b⟩

def tl (b : ByteArray) : List UInt8 := b.data.toList
theorem tl_len (b : ByteArray) : (tl b).length = b.size := rfl
theorem tl_append (a b : ByteArray) : tl (a ++ b) = tl a ++ tl b := by unfold tl; rw [ByteArray.data_append, Array.toList_append]
theorem tl_extract (a : ByteArray) (i j : Nat) : tl (a.extract i j) = ((tl a).drop i).take (j - i) := by
  unfold tl; rw [ByteArray.data_extract, Array.toList_extract]
theorem tl_inj {a b : ByteArray} (h : tl a = tl b) : a = b := bytes_ext h
theorem tl_get {b : ByteArray} {n : Nat} (h : n < b.size) : ∃ c, (tl b)[n]? = some c ∧ byteAt b n = c.toNat ∧ tl (b.extract n (n + 1)) = [c] := by
  have h' : n < (tl b).length := h
  refine ⟨(tl b)[n], List.getElem?_eq_getElem h', ?_, ?_⟩
  · unfold byteAt; show ((tl b).getD n 0).toNat = _
    rw [List.getD_eq_getElem?_getD, List.getElem?_eq_getElem h']; rfl
  · rw [tl_extract, List.drop_eq_getElem_cons h', show n + 1 - n = 1 by omega]; rfl
theorem tl_last {b : ByteArray} {s : List UInt8} {c : UInt8} (h : tl b = s ++ [c]) : b.size = s.length + 1 ∧ tl (b.extract (b.size - 1) b.size) = [c] ∧ tl (b.extract 0 (b.size - 1)) = s ∧ byteAt b (b.size - 1) = c.toNat := by
  have hz : b.size = s.length + 1 := by rw [← tl_len, h]; simp
  refine ⟨hz, ?_, ?_, ?_⟩
  · rw [tl_extract, h, hz, show s.length + 1 - 1 = s.length by omega, List.drop_left, show s.length + 1 - s.length = 1 by omega]; rfl
  · rw [tl_extract, h, hz, show s.length + 1 - 1 - 0 = s.length by omega]; simp
  · unfold byteAt; show ((tl b).getD _ 0).toNat = _
    rw [h, hz]; simp [List.getD_eq_getElem?_getD]

/-- The types of the locals behind an instruction, as a frame has them. -/
def loAft (lo : List Nat) (st : ByteArray) (op n : Nat) : List Nat := if op = 8 then lo.set n (kindN (byteAt st (st.size - 1))) else lo
structure Ago (f : Fr) (lo st : ByteArray) (op n : Nat) : Prop where
  ok : (afterV lo st op n).2.2 = true
  sm : (afterV lo st op n).2.1.size ≤ 8
  wr : (afterF f op n).wrong = false
  sk : Stk (afterF f op n) (tl (afterV lo st op n).2.1)
  fl : (afterF f op n).lo = loAft f.lo st op n
  lv : (afterV lo st op n).1 = (if op = 8 then lo.extract 0 n ++ st.extract (st.size - 1) st.size ++ lo.extract (n + 1) lo.size else lo)
  pos : op = 8 → 1 ≤ st.size
def Abad (f : Fr) (lo st : ByteArray) (op n : Nat) : Prop := ((afterV lo st op n).2.2 = false ∨ 8 < (afterV lo st op n).2.1.size) ∧ (afterF f op n).wrong = true

theorem letters_pops (op : Nat) : ∀ c ∈ popsL op, letter c := by
  intro c hc
  unfold popsL at hc
  unfold letter
  split at hc
  · simp at hc; exact .inl hc
  split at hc
  · simp at hc; exact .inl hc
  split at hc
  · simp at hc; exact .inr hc
  split at hc
  · simp at hc; exact .inr hc
  split at hc
  · simp at hc; exact hc.symm
  · simp at hc

theorem aft_both {f : Fr} {lo st : ByteArray} {op n : Nat} (hs : Stk f (tl st)) (hw : f.wrong = false) (hl : letters st) (hn : op = 7 ∨ op = 8 → n < lo.size) (h4 : lo.size ≤ 4)
    (h7 : op = 7 → f.lo.getD n 0 = kindN (byteAt lo n)) : Ago f lo st op n ∨ Abad f lo st op n := by
  by_cases e7 : op = 7
  · subst e7
    have hn' := hn (.inl rfl)
    obtain ⟨c, _, hc2, hc3⟩ := tl_get hn'
    have hv : afterV lo st 7 n = (lo, st ++ lo.extract n (n + 1), true) := by simp [afterV]
    have hk : f.lo.getD n 0 = code8 c := by rw [h7 rfl, hc2]; rfl
    have hf : afterF f 7 n = pushF f (code8 c) := by
      have : afterF f 7 n = loadF f n := by simp [afterF]
      rw [this]
      unfold loadF
      have := code8_le c
      rw [if_neg (by omega), hk, if_neg (by omega)]
    have ht : tl (afterV lo st 7 n).2.1 = tl st ++ [c] := by rw [hv]; show tl (st ++ _) = _; rw [tl_append, hc3]
    have hz : (afterV lo st 7 n).2.1.size = (tl st).length + 1 := by rw [← tl_len, ht]; simp
    by_cases h8 : (tl st).length = 8
    · exact .inr ⟨.inr (by omega), by rw [hf]; exact stk_full hs h8 _⟩
    · obtain ⟨a, b, d⟩ := stk_room hs (by have := hs.le; omega) c
      exact .inl ⟨by rw [hv], by have := hs.le; omega, by rw [hf, d, hw], by rw [hf, ht]; exact a, by rw [hf, b]; rfl, by rw [hv]; rfl, fun h => absurd h (by decide)⟩
  by_cases e8 : op = 8
  · subst e8
    have hn' := hn (.inr rfl)
    have hf : afterF f 8 n = { (popF f).1 with lo := (popF f).1.lo.set n (popF f).2 } := by
      have : afterF f 8 n = storeF f n := by simp [afterF]
      rw [this]; unfold storeF; rw [if_neg (by omega)]
    rcases nil_or_snoc (tl st) with e | ⟨s0, d, e⟩
    · have hz : st.size = 0 := by rw [← tl_len, e]; rfl
      refine .inr ⟨.inl (by simp [afterV, hz]), ?_⟩
      rw [hf]; rw [e] at hs; exact pop_nil hs
    · obtain ⟨z, z1, z2, z3⟩ := tl_last e
      have hv : afterV lo st 8 n = (lo.extract 0 n ++ st.extract (st.size - 1) st.size ++ lo.extract (n + 1) lo.size, st.extract 0 (st.size - 1), true) := by
        have : ¬ st.size < 1 := by omega
        simp [afterV, this]
      rw [e] at hs
      obtain ⟨a, b, c, g⟩ := pop_snoc hs
      refine .inl ⟨by rw [hv], ?_, by rw [hf]; exact g.trans hw, ?_, ?_, by rw [hv]; rfl, fun _ => by omega⟩
      · rw [hv]; show (st.extract 0 (st.size - 1)).size ≤ 8
        rw [← tl_len, z2]; exact a.le
      · rw [hf, hv]; show Stk _ (tl (st.extract 0 (st.size - 1)))
        rw [z2]; exact ⟨a.le, a.depth, a.stk⟩
      · rw [hf]; unfold loAft; rw [if_pos rfl, z3, ← show code8 d = kindN d.toNat from rfl, ← b, ← c]
  have hlo : ∀ x, loAft x st op n = x := fun x => by unfold loAft; rw [if_neg e8]
  by_cases e9 : op = 9
  · subst e9
    have hf : afterF f 9 n = dupF f := by simp [afterF]
    rcases nil_or_snoc (tl st) with e | ⟨s0, d, e⟩
    · have hz : st.size = 0 := by rw [← tl_len, e]; rfl
      refine .inr ⟨.inl (by simp [afterV, hz]), ?_⟩
      rw [hf]; rw [e] at hs; exact pushF_wrong (pushF_wrong (pop_nil hs) _) _
    · obtain ⟨z, z1, z2, z3⟩ := tl_last e
      have hv : afterV lo st 9 n = (lo, st ++ st.extract (st.size - 1) st.size, true) := by
        have : ¬ st.size < 1 := by omega
        simp [afterV, this]
      have ht : tl (afterV lo st 9 n).2.1 = tl st ++ [d] := by rw [hv]; show tl (st ++ _) = _; rw [tl_append, z1]
      have hzz : (afterV lo st 9 n).2.1.size = (tl st).length + 1 := by rw [← tl_len, ht]; simp
      have hs' := hs
      rw [e] at hs
      obtain ⟨a, b, c, g⟩ := pop_snoc hs
      obtain ⟨a1, b1, c1⟩ := stk_room a (by have := hs.le; simp at this; omega) d
      rw [← e] at a1
      have hd2 : afterF f 9 n = pushF (pushF (popF f).1 (code8 d)) (code8 d) := by rw [hf]; unfold dupF; rw [b]
      by_cases h8 : (tl st).length = 8
      · exact .inr ⟨.inr (by omega), by rw [hd2]; exact stk_full a1 h8 _⟩
      · obtain ⟨a2, b2, c2⟩ := stk_room a1 (by have := hs'.le; omega) d
        exact .inl ⟨by rw [hv], by have := hs'.le; omega, by rw [hd2, c2, c1, g, hw], by rw [hd2, ht]; exact a2, by rw [hd2, b2, b1, c, hlo], by rw [hv]; rfl, fun h => absurd h (by decide)⟩
  by_cases e10 : op = 10
  · subst e10
    have hf : afterF f 10 n = (popF f).1 := by simp [afterF]
    rcases nil_or_snoc (tl st) with e | ⟨s0, d, e⟩
    · have hz : st.size = 0 := by rw [← tl_len, e]; rfl
      refine .inr ⟨.inl (by simp [afterV, hz]), ?_⟩
      rw [hf]; rw [e] at hs; exact pop_nil hs
    · obtain ⟨z, z1, z2, z3⟩ := tl_last e
      have hv : afterV lo st 10 n = (lo, st.extract 0 (st.size - 1), true) := by
        have : ¬ st.size < 1 := by omega
        simp [afterV, this]
      rw [e] at hs
      obtain ⟨a, b, c, g⟩ := pop_snoc hs
      refine .inl ⟨by rw [hv], ?_, by rw [hf, g, hw], ?_, by rw [hf, c, hlo], by rw [hv]; rfl, fun h => absurd h (by decide)⟩
      · rw [hv]; show (st.extract 0 (st.size - 1)).size ≤ 8
        rw [← tl_len, z2]; exact a.le
      · rw [hf, hv]; show Stk _ (tl (st.extract 0 (st.size - 1)))
        rw [z2]; exact a
  by_cases e11 : op = 11
  · subst e11
    have hf : afterF f 11 n = pushF (pushF (popF (popF f).1).1 (popF f).2) (popF (popF f).1).2 := by simp [afterF, swapF]
    rcases nil_or_snoc (tl st) with e | ⟨s0, d, e⟩
    · have hz : st.size = 0 := by rw [← tl_len, e]; rfl
      refine .inr ⟨.inl (by simp [afterV, hz]), ?_⟩
      rw [hf]; rw [e] at hs; exact pushF_wrong (pushF_wrong (popF_wrong (pop_nil hs)) _) _
    · obtain ⟨z, z1, z2, z3⟩ := tl_last e
      have hs' := hs
      rw [e] at hs
      obtain ⟨a, b, c, g⟩ := pop_snoc hs
      rcases nil_or_snoc s0 with e0 | ⟨s1, d1, e0⟩
      · have hz : st.size = 1 := by rw [z, e0]; rfl
        refine .inr ⟨.inl (by simp [afterV, hz]), ?_⟩
        rw [hf]; rw [e0] at a; exact pushF_wrong (pushF_wrong (pop_nil a) _) _
      · subst e0
        obtain ⟨a', b', c', g'⟩ := pop_snoc a
        have z' : st.size = s1.length + 2 := by rw [z]; simp
        have hv : afterV lo st 11 n = (lo, st.extract 0 (st.size - 2) ++ st.extract (st.size - 1) st.size ++ st.extract (st.size - 2) (st.size - 1), true) := by
          have : ¬ st.size < 2 := by omega
          simp [afterV, this]
        have y0 : tl (st.extract 0 (st.size - 2)) = s1 := by
          rw [tl_extract, e, z', show s1.length + 2 - 2 - 0 = s1.length by omega]; simp
        have y1 : tl (st.extract (st.size - 2) (st.size - 1)) = [d1] := by
          rw [tl_extract, e, z', show s1.length + 2 - 2 = s1.length by omega, show s1.length + 2 - 1 - s1.length = 1 by omega]; simp
        have ht : tl (afterV lo st 11 n).2.1 = s1 ++ [d] ++ [d1] := by rw [hv]; show tl (_ ++ _ ++ _) = _; rw [tl_append, tl_append, y0, z1, y1]
        have hzz : (afterV lo st 11 n).2.1.size = s1.length + 2 := by rw [← tl_len, ht]; simp
        have hl8 := hs'.le
        rw [tl_len] at hl8
        obtain ⟨a1, b1, c1⟩ := stk_room a' (by omega) d
        obtain ⟨a2, b2, c2⟩ := stk_room a1 (by simp; omega) d1
        have hd2 : afterF f 11 n = pushF (pushF (popF (popF f).1).1 (code8 d)) (code8 d1) := by rw [hf, b, b']
        exact .inl ⟨by rw [hv], by omega, by rw [hd2, c2, c1, g', g, hw], by rw [hd2, ht]; exact a2, by rw [hd2, b2, b1, c', c, hlo], by rw [hv]; rfl, fun h => absurd h (by decide)⟩
  have hf : afterF f op n = pushR (popR f (popsN op).reverse) (pushesN op) := by simp [afterF, e7, e8, e9, e10, e11]
  have hpr : (popsN op).reverse = (popsL op).reverse.map UInt8.toNat := by unfold popsN; rw [List.map_reverse]
  have hv0 : afterV lo st op n = (if st.size < (popsS op).size then (lo, st, false)
      else if st.extract (st.size - (popsS op).size) st.size = popsS op then (lo, st.extract 0 (st.size - (popsS op).size) ++ pushesS op, true) else (lo, st, false)) := by
    simp only [afterV, if_neg e7, if_neg e8, if_neg e9, if_neg e10, if_neg e11]
  have hps : tl (popsS op) = popsL op := by simp [tl, popsS]
  have hpz : (popsS op).size = (popsL op).length := by rw [← tl_len, hps]
  have hqs : tl (pushesS op) = pushesL op := by simp [tl, pushesS]
  rcases popR_both (popsL op).reverse f (tl st) (fun c hc => letters_pops op c (by simpa using hc)) hs hw hl with ⟨s', e, a, b, c⟩ | ⟨e, a⟩
  · rw [List.reverse_reverse] at e
    have hz : st.size = s'.length + (popsL op).length := by rw [← tl_len, e]; simp
    have hx : st.extract (st.size - (popsS op).size) st.size = popsS op := by
      apply tl_inj
      rw [tl_extract, e, hps, hz, hpz, show s'.length + (popsL op).length - (popsL op).length = s'.length by omega, List.drop_left, show s'.length + (popsL op).length - s'.length = (popsL op).length by omega, List.take_length]
    have hv : afterV lo st op n = (lo, st.extract 0 (st.size - (popsS op).size) ++ pushesS op, true) := by
      rw [hv0, if_neg (by omega), if_pos hx]
    have ht : tl (afterV lo st op n).2.1 = s' ++ pushesL op := by
      rw [hv]; show tl (_ ++ _) = _
      rw [tl_append, hqs, tl_extract, e, hz, hpz, show s'.length + (popsL op).length - (popsL op).length - 0 = s'.length by omega]; simp
    have hzz : (afterV lo st op n).2.1.size = s'.length + (pushesL op).length := by rw [← tl_len, ht]; simp
    have hfq : afterF f op n = pushR (popR f ((popsL op).reverse.map UInt8.toNat)) ((pushesL op).map UInt8.toNat) := by rw [hf, hpr]; rfl
    rcases pushR_both (pushesL op) _ _ a with ⟨a1, b1, c1, d1⟩ | ⟨a1, b1⟩
    · exact .inl ⟨by rw [hv], by omega, by rw [hfq, c1, b], by rw [hfq, ht]; exact b1, by rw [hfq, d1, c, hlo], by rw [hv]; simp [e8], fun h => absurd h e8⟩
    · exact .inr ⟨.inr (by omega), by rw [hfq]; exact b1⟩
  · refine .inr ⟨.inl ?_, ?_⟩
    · rw [hv0]
      by_cases hlt : st.size < (popsS op).size
      · rw [if_pos hlt]
      · rw [if_neg hlt]
        by_cases hx : st.extract (st.size - (popsS op).size) st.size = popsS op
        · exfalso
          apply e
          rw [List.reverse_reverse]
          have := congrArg tl hx
          rw [tl_extract, hps, show st.size - (st.size - (popsS op).size) = (popsS op).size by omega] at this
          rw [List.take_of_length_le (by rw [List.length_drop, tl_len]; omega)] at this
          refine ⟨(tl st).take (st.size - (popsS op).size), ?_⟩
          rw [← this, List.take_append_drop]
        · rw [if_neg hx]
    · rw [hf, hpr]; exact pushR_wrong _ a

theorem load_mixed {f : Fr} {n : Nat} (h : f.lo.getD n 0 = 2) : (afterF f 7 n).wrong = true := by
  have : afterF f 7 n = loadF f n := by simp [afterF]
  rw [this]; unfold loadF
  by_cases h4 : 4 ≤ n
  · rw [if_pos h4]; rfl
  · rw [if_neg h4, if_pos h]; exact pushF_wrong rfl _
end Go.Proofs.YteocjidfbbekfaaDoor
