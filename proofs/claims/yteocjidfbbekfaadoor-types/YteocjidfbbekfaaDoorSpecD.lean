/- The plain mathematics of ways: steps from point to point, which points a way leads to, what well typed means; the reference's search finds just these. Nothing of a program stands here. -/
import Derived.Test.YteocjidfbbekfaaDoorSpecC
namespace Go.Proofs.YteocjidfbbekfaaDoor
open Go.RowKit

def letters (b : ByteArray) : Prop := ∀ c ∈ b.data.toList, c = 105 ∨ c = 114
theorem letters_append {a b : ByteArray} (ha : letters a) (hb : letters b) : letters (a ++ b) := by
  intro c hc
  rw [ByteArray.data_append, Array.toList_append, List.mem_append] at hc
  rcases hc with h | h
  · exact ha c h
  · exact hb c h
theorem letters_extract {a : ByteArray} (ha : letters a) (i j : Nat) : letters (a.extract i j) := by
  intro c hc
  rw [ByteArray.data_extract, Array.toList_extract] at hc
  exact ha c (List.mem_of_mem_drop (List.mem_of_mem_take hc))
theorem letters_pushes (op : Nat) : letters (pushesS op) := by
  intro c hc
  simp only [pushesS, pushesL] at hc
  split at hc
  · simp at hc; exact .inl hc
  · split at hc
    · simp at hc; exact .inr hc
    · simp at hc

/-- What is known of an image's instructions. -/
structure Wf (l : List Ins) (L : Nat) : Prop where
  pos : 0 < l.length
  len : l.length ≤ 120
  loc : L ≤ 4
  op : ∀ i ∈ l, i.op < 25
  num : ∀ i ∈ l, i.n < 256
  arg : ∀ i ∈ l, i.op = 7 ∨ i.op = 8 → i.n < L
  jump : ∀ i ∈ l, isJump i.op = true → 0 ≤ findP i.n l 0
  last : endsOk l = true

structure Okp (l : List Ins) (L : Nat) (p : Pt) : Prop where
  at_ : p.at_ < l.length
  lo : p.lo.size = L
  llo : letters p.lo
  lst : letters p.st
  st : p.st.size ≤ 8

def stepP (l : List Ins) (p : Pt) : Option (List Pt) :=
  match l[p.at_]? with
  | none => none
  | some i => if (afterV p.lo p.st i.op i.n).2.2 = false ∨ 8 < (afterV p.lo p.st i.op i.n).2.1.size then none else
    some ((if isJump i.op = true then [⟨(findP i.n l 0).toNat, (afterV p.lo p.st i.op i.n).1, (afterV p.lo p.st i.op i.n).2.1⟩] else []) ++
      (if i.op ≠ 0 ∧ i.op ≠ 19 then [⟨p.at_ + 1, (afterV p.lo p.st i.op i.n).1, (afterV p.lo p.st i.op i.n).2.1⟩] else []))
def initP (L : Nat) : Pt := ⟨0, (⟨#[105, 105, 105, 105]⟩ : ByteArray).extract 0 L, ⟨#[]⟩⟩
def ReachN (l : List Ins) (L : Nat) : Nat → Pt → Prop
  | 0, p => p = initP L
  | n + 1, p => ∃ q ss, ReachN l L n q ∧ stepP l q = some ss ∧ p ∈ ss
def Reach (l : List Ins) (L : Nat) (p : Pt) : Prop := ∃ n, ReachN l L n p
theorem Reach.init (l : List Ins) (L : Nat) : Reach l L (initP L) := ⟨0, rfl⟩
theorem Reach.step {l : List Ins} {L : Nat} {p q : Pt} {ss : List Pt} (h : Reach l L q) (hs : stepP l q = some ss) (hp : p ∈ ss) : Reach l L p := by
  obtain ⟨n, hn⟩ := h
  exact ⟨n + 1, q, ss, hn, hs, hp⟩
/-- Well typed code. -/
def WT (l : List Ins) (L : Nat) : Prop := (∀ p, Reach l L p → stepP l p ≠ none) ∧ (∀ p q i, Reach l L p → Reach l L q → p.at_ = q.at_ → l[p.at_]? = some i → clashB i p q = false)

theorem findP_lt (p : Nat) : ∀ (l : List Ins) (k : Nat), 0 ≤ findP p l k → findP p l k < (k : Int) + l.length ∧ (k : Int) ≤ findP p l k := by
  intro l
  induction l with
  | nil => intro k h; simp [findP] at h
  | cons a r ih =>
    intro k h
    simp only [findP] at *
    by_cases hp : a.place = p
    · rw [if_pos hp] at *; simp; omega
    · rw [if_neg hp] at *
      have := ih (k + 1) h
      simp only [List.length_cons]; omega

theorem after_ok {lo st : ByteArray} {op n L : Nat} (hlo : lo.size = L) (h1 : letters lo) (h2 : letters st) (hn : op = 7 ∨ op = 8 → n < L) (hs : (afterV lo st op n).2.2 = true) :
    (afterV lo st op n).1.size = L ∧ letters (afterV lo st op n).1 ∧ letters (afterV lo st op n).2.1 := by
  unfold afterV at *
  by_cases e7 : op = 7
  · simp only [if_pos e7]
    exact ⟨hlo, h1, letters_append h2 (letters_extract h1 _ _)⟩
  simp only [if_neg e7] at *
  by_cases e8 : op = 8
  · have hn' := hn (.inr e8)
    simp only [if_pos e8] at *
    by_cases hk : st.size < 1
    · simp only [if_pos hk] at hs; cases hs
    simp only [if_neg hk] at *
    refine ⟨?_, letters_append (letters_append (letters_extract h1 _ _) (letters_extract h2 _ _)) (letters_extract h1 _ _), letters_extract h2 _ _⟩
    simp only [ByteArray.size_append, ByteArray.size_extract]
    omega
  simp only [if_neg e8] at *
  by_cases e9 : op = 9
  · simp only [if_pos e9] at *
    by_cases hk : st.size < 1
    · simp only [if_pos hk] at hs; cases hs
    simp only [if_neg hk] at *
    exact ⟨hlo, h1, letters_append h2 (letters_extract h2 _ _)⟩
  simp only [if_neg e9] at *
  by_cases e10 : op = 10
  · simp only [if_pos e10] at *
    by_cases hk : st.size < 1
    · simp only [if_pos hk] at hs; cases hs
    simp only [if_neg hk] at *
    exact ⟨hlo, h1, letters_extract h2 _ _⟩
  simp only [if_neg e10] at *
  by_cases e11 : op = 11
  · simp only [if_pos e11] at *
    by_cases hk : st.size < 2
    · simp only [if_pos hk] at hs; cases hs
    simp only [if_neg hk] at *
    exact ⟨hlo, h1, letters_append (letters_append (letters_extract h2 _ _) (letters_extract h2 _ _)) (letters_extract h2 _ _)⟩
  simp only [if_neg e11] at *
  by_cases hk : st.size < (popsS op).size
  · simp only [if_pos hk] at hs; cases hs
  simp only [if_neg hk] at *
  by_cases hx : st.extract (st.size - (popsS op).size) st.size = popsS op
  · simp only [if_pos hx] at *
    exact ⟨hlo, h1, letters_append (letters_extract h2 _ _) (letters_pushes op)⟩
  · simp only [if_neg hx] at hs; cases hs

theorem stepP_eq {l : List Ins} {p : Pt} {i : Ins} (hi : l[p.at_]? = some i) : stepP l p = (if (afterV p.lo p.st i.op i.n).2.2 = false ∨ 8 < (afterV p.lo p.st i.op i.n).2.1.size then none else
    some ((if isJump i.op = true then [⟨(findP i.n l 0).toNat, (afterV p.lo p.st i.op i.n).1, (afterV p.lo p.st i.op i.n).2.1⟩] else []) ++
      (if i.op ≠ 0 ∧ i.op ≠ 19 then [⟨p.at_ + 1, (afterV p.lo p.st i.op i.n).1, (afterV p.lo p.st i.op i.n).2.1⟩] else []))) := by
  unfold stepP; rw [hi]

theorem step_ok {l : List Ins} {L : Nat} (hw : Wf l L) {p s : Pt} {ss : List Pt} (hp : Okp l L p) (h : stepP l p = some ss) (hs : s ∈ ss) : Okp l L s := by
  have hi : l[p.at_]? = some (l[p.at_]'hp.at_) := List.getElem?_eq_getElem hp.at_
  have hm : l[p.at_]'hp.at_ ∈ l := List.getElem_mem hp.at_
  rw [stepP_eq hi] at h
  by_cases hb : (afterV p.lo p.st (l[p.at_]'hp.at_).op (l[p.at_]'hp.at_).n).2.2 = false ∨ 8 < (afterV p.lo p.st (l[p.at_]'hp.at_).op (l[p.at_]'hp.at_).n).2.1.size
  · rw [if_pos hb] at h; cases h
  rw [if_neg hb] at h
  simp only [not_or, Bool.not_eq_false, Nat.not_lt] at hb
  obtain ⟨a1, a2, a3⟩ := after_ok hp.lo hp.llo hp.lst (hw.arg _ hm) hb.1
  simp only [Option.some.injEq] at h
  subst h
  rw [List.mem_append] at hs
  rcases hs with hs | hs
  · by_cases hj : isJump (l[p.at_]'hp.at_).op = true
    · rw [if_pos hj] at hs
      simp only [List.mem_singleton] at hs
      subst hs
      have h0 := hw.jump _ hm hj
      have h1 := findP_lt _ l 0 h0
      exact ⟨by simp only; omega, a1, a2, a3, hb.2⟩
    · rw [if_neg hj] at hs; simp at hs
  · by_cases hj : (l[p.at_]'hp.at_).op ≠ 0 ∧ (l[p.at_]'hp.at_).op ≠ 19
    · rw [if_pos hj] at hs
      simp only [List.mem_singleton] at hs
      subst hs
      refine ⟨?_, a1, a2, a3, hb.2⟩
      simp only
      rcases Nat.lt_or_ge (p.at_ + 1) l.length with h | h
      · exact h
      · exfalso
        have hlast := hw.last
        have e : p.at_ = l.length - 1 := by have := hp.at_; omega
        have h1 : lastOp l = (l[p.at_]'hp.at_).op := by
          unfold lastOp
          rw [List.getLast?_eq_getElem?, ← e, hi]
          rfl
        simp [endsOk, h1] at hlast
        omega
    · rw [if_neg hj] at hs; simp at hs

theorem init_ok {l : List Ins} {L : Nat} (hw : Wf l L) : Okp l L (initP L) := by
  have := hw.loc
  refine ⟨hw.pos, ?_, ?_, fun c hc => by simp [initP] at hc, by show 0 ≤ 8; omega⟩
  · show ((⟨#[105, 105, 105, 105]⟩ : ByteArray).extract 0 L).size = L
    rw [ByteArray.size_extract]
    show min L 4 - 0 = L
    omega
  · apply letters_extract
    intro c hc
    simp at hc
    exact .inl hc

/-! ### Counting -/
theorem nodup_lt : ∀ (n : Nat) (l : List Nat), l.Nodup → (∀ x ∈ l, x < n) → l.length ≤ n := by
  intro n
  induction n with
  | zero => intro l _ h; cases l with
    | nil => simp
    | cons a r => exact absurd (h a (by simp)) (by omega)
  | succ n ih =>
    intro l hd h
    have h1 := ih (l.erase n) (hd.erase n) (fun x hx => by
      rw [hd.mem_erase_iff] at hx
      have := h x hx.2
      omega)
    have h2 : l.length ≤ (l.erase n).length + 1 := by
      by_cases hm : n ∈ l
      · rw [List.length_erase_of_mem hm]; omega
      · rw [List.erase_of_not_mem hm]; omega
    omega
def bits : List UInt8 → Nat
  | [] => 0
  | c :: r => (if c = 114 then 1 else 0) + 2 * bits r
theorem bits_lt : ∀ l : List UInt8, bits l < 2 ^ l.length
  | [] => by simp [bits]
  | c :: r => by
    have := bits_lt r
    simp only [bits, List.length_cons, Nat.pow_succ]
    split <;> omega
theorem bits_inj : ∀ a b : List UInt8, a.length = b.length → (∀ c ∈ a, c = 105 ∨ c = 114) → (∀ c ∈ b, c = 105 ∨ c = 114) → bits a = bits b → a = b
  | [], [], _, _, _, _ => rfl
  | [], _ :: _, h, _, _, _ => by simp at h
  | _ :: _, [], h, _, _, _ => by simp at h
  | c :: r, d :: s, h, ha, hb, e => by
    simp only [bits] at e
    have hc := ha c (by simp)
    have hd := hb d (by simp)
    have h1 := bits_inj r s (by simpa using h) (fun x hx => ha x (by simp [hx])) (fun x hx => hb x (by simp [hx]))
    have h105 : ¬ ((105 : UInt8) = 114) := by decide
    rcases hc with rfl | rfl <;> rcases hd with rfl | rfl
    · simp only [if_neg h105] at e
      rw [h1 (by omega)]
    · simp only [if_neg h105, if_true] at e; omega
    · simp only [if_neg h105, if_true] at e; omega
    · simp only [if_true] at e
      rw [h1 (by omega)]
def keyN (p : Pt) : Nat := p.at_ * 16 + bits p.lo.data.toList
theorem bits_small {l : List Ins} {L : Nat} (hw : Wf l L) {p : Pt} (hp : Okp l L p) : bits p.lo.data.toList < 16 := by
  have h := bits_lt p.lo.data.toList
  have e : p.lo.data.toList.length = L := hp.lo
  have := hw.loc
  rw [e] at h
  have : 2 ^ L ≤ 2 ^ 4 := Nat.pow_le_pow_right (by omega) this
  omega
theorem keyN_lt {l : List Ins} {L : Nat} (hw : Wf l L) {p : Pt} (hp : Okp l L p) : keyN p < 16 * l.length := by
  have := bits_small hw hp
  have := hp.at_
  unfold keyN; omega
theorem bytes_ext {a b : ByteArray} (h : a.data.toList = b.data.toList) : a = b := by
  cases a; cases b
  exact congrArg ByteArray.mk (Array.toList_inj.1 h)
theorem keyN_inj {l : List Ins} {L : Nat} (hw : Wf l L) {p q : Pt} (hp : Okp l L p) (hq : Okp l L q) (h : keyN p = keyN q) : p.at_ = q.at_ ∧ p.lo = q.lo := by
  have h1 := bits_small hw hp
  have h2 := bits_small hw hq
  unfold keyN at h
  refine ⟨by omega, bytes_ext (bits_inj _ _ ?_ hp.llo hq.llo (by omega))⟩
  have e1 : p.lo.data.toList.length = L := hp.lo
  have e2 : q.lo.data.toList.length = L := hq.lo
  omega

/-! ### The search -/
structure Base (l : List Ins) (L : Nat) (all : List Pt) : Prop where
  first : all[0]? = some (initP L)
  reach : ∀ p ∈ all, Reach l L p
  ok : ∀ p ∈ all, Okp l L p
  calm : ∀ p ∈ all, ∀ q ∈ all, p.at_ = q.at_ → ∀ i, l[p.at_]? = some i → clashB i p q = false
  nodup : (all.map keyN).Nodup
theorem Base.len {l : List Ins} {L : Nat} {all : List Pt} (hw : Wf l L) (h : Base l L all) : all.length ≤ 16 * l.length := by
  have := nodup_lt (16 * l.length) (all.map keyN) h.nodup (fun x hx => by
    obtain ⟨p, hp, rfl⟩ := List.mem_map.1 hx
    exact keyN_lt hw (h.ok p hp))
  simpa using this
theorem Base.init {l : List Ins} {L : Nat} (hw : Wf l L) : Base l L [initP L] := by
  refine ⟨rfl, fun p hp => ?_, fun p hp => ?_, fun p hp q hq _ i _ => ?_, by simp⟩
  · rw [List.mem_singleton] at hp; subst hp; exact Reach.init l L
  · rw [List.mem_singleton] at hp; subst hp; exact init_ok hw
  · rw [List.mem_singleton] at hp hq; subst hp; subst hq; simp [clashB]
theorem clash_comm (i : Ins) (p q : Pt) : clashB i p q = clashB i q p := by
  unfold clashB
  rw [Bool.eq_iff_iff]
  simp only [Bool.and_eq_true, beq_iff_eq, Bool.or_eq_true, Bool.not_eq_true', decide_eq_false_iff_not, beq_eq_false_iff_ne]
  constructor
  · rintro ⟨h1, h2⟩; exact ⟨h1.symm, h2.imp (fun h e => h e.symm) (fun h => ⟨h.1, fun e => h.2 e.symm⟩)⟩
  · rintro ⟨h1, h2⟩; exact ⟨h1.symm, h2.imp (fun h e => h e.symm) (fun h => ⟨h.1, fun e => h.2 e.symm⟩)⟩

theorem joined_no {l : List Ins} {L : Nat} {all : List Pt} {s : Pt} {i : Ins} (hb : Base l L all) (hs : Reach l L s) (hi : l[s.at_]? = some i) (h : (joinedP i all s).2 = false) : ¬ WT l L := by
  intro hwt
  unfold joinedP at h
  by_cases hc : all.any (clashB i s) = true
  · rw [List.any_eq_true] at hc
    obtain ⟨q, hq, hcl⟩ := hc
    have hat : s.at_ = q.at_ := by
      simp only [clashB, Bool.and_eq_true, beq_iff_eq] at hcl
      exact hcl.1.symm
    have := hwt.2 s q i hs (hb.reach q hq) hat hi
    rw [this] at hcl; cases hcl
  · rw [if_neg hc] at h
    by_cases hk : all.any (knownB s) = true
    · rw [if_pos hk] at h; cases h
    · rw [if_neg hk] at h; cases h

theorem joined_yes {l : List Ins} {L : Nat} (hw : Wf l L) {all : List Pt} {s : Pt} {i : Ins} (hb : Base l L all) (hs : Reach l L s) (ho : Okp l L s) (hi : l[s.at_]? = some i) (h : (joinedP i all s).2 = true) :
    Base l L (joinedP i all s).1 ∧ (∃ ext, (joinedP i all s).1 = all ++ ext) ∧ s ∈ (joinedP i all s).1 := by
  unfold joinedP at *
  by_cases hc : all.any (clashB i s) = true
  · rw [if_pos hc] at h; cases h
  rw [if_neg hc] at *
  have hcalm : ∀ q ∈ all, clashB i s q = false := by
    intro q hq
    cases e : clashB i s q
    · rfl
    · exact absurd (List.any_eq_true.2 ⟨q, hq, e⟩) hc
  by_cases hk : all.any (knownB s) = true
  · rw [if_pos hk]
    refine ⟨hb, ⟨[], by simp⟩, ?_⟩
    rw [List.any_eq_true] at hk
    obtain ⟨q, hq, hkn⟩ := hk
    simp only [knownB, Bool.and_eq_true, beq_iff_eq, decide_eq_true_eq] at hkn
    have h1 := hcalm q hq
    have h2 : q.st = s.st := by
      by_cases e : q.st = s.st
      · exact e
      · exfalso; simp [clashB, hkn.1, e] at h1
    have : q = s := by
      cases q; cases s
      simp only at hkn h2
      rw [hkn.1, hkn.2, h2]
    exact this ▸ hq
  · rw [if_neg hk]
    refine ⟨⟨?_, ?_, ?_, ?_, ?_⟩, ⟨[s], rfl⟩, by simp⟩
    · have := hb.first
      cases all with
      | nil => simp at this
      | cons a r => simpa using this
    · intro p hp
      rw [List.mem_append, List.mem_singleton] at hp
      rcases hp with hp | rfl
      · exact hb.reach p hp
      · exact hs
    · intro p hp
      rw [List.mem_append, List.mem_singleton] at hp
      rcases hp with hp | rfl
      · exact hb.ok p hp
      · exact ho
    · intro p hp q hq he j hj
      rw [List.mem_append, List.mem_singleton] at hp hq
      rcases hp with hp | rfl
      · rcases hq with hq | rfl
        · exact hb.calm p hp q hq he j hj
        · rw [he, hi] at hj
          cases hj
          rw [clash_comm]
          exact hcalm p hp
      · rw [hi] at hj
        cases hj
        rcases hq with hq | rfl
        · exact hcalm q hq
        · simp [clashB]
    · rw [List.map_append, List.nodup_append]
      refine ⟨hb.nodup, by simp, ?_⟩
      intro a ha b hb2 e
      simp only [List.map_cons, List.map_nil, List.mem_singleton] at hb2
      obtain ⟨q, hq, rfl⟩ := List.mem_map.1 ha
      subst hb2
      obtain ⟨e1, e2⟩ := keyN_inj hw (hb.ok q hq) ho e
      apply hk
      rw [List.any_eq_true]
      exact ⟨q, hq, by simp [knownB, e1, e2]⟩

/-- The points below k have been followed. -/
def Done (l : List Ins) (all : List Pt) (k : Nat) : Prop := ∀ j p, j < k → all[j]? = some p → ∃ ss, stepP l p = some ss ∧ ∀ s ∈ ss, s ∈ all
theorem Done.ext {l : List Ins} {all ext : List Pt} {k : Nat} (h : Done l all k) (hk : k ≤ all.length) : Done l (all ++ ext) k := by
  intro j p hj hp
  rw [List.getElem?_append_left (by omega)] at hp
  obtain ⟨ss, h1, h2⟩ := h j p hj hp
  exact ⟨ss, h1, fun s hs => List.mem_append_left _ (h2 s hs)⟩
theorem ways_end {l : List Ins} {L : Nat} {all : List Pt} (hb : Base l L all) (hd : Done l all all.length) : WT l L ∧ ∀ p, Reach l L p ↔ p ∈ all := by
  have hmem : ∀ n p, ReachN l L n p → p ∈ all := by
    intro n
    induction n with
    | zero => intro p hp; rw [show p = initP L from hp]; exact List.mem_of_getElem? hb.first
    | succ n ih =>
      rintro p ⟨q, ss, h1, h2, h3⟩
      obtain ⟨j, hj, rfl⟩ := List.getElem_of_mem (ih q h1)
      obtain ⟨ss', e1, e2⟩ := hd j _ hj (List.getElem?_eq_getElem hj)
      rw [h2] at e1
      cases e1
      exact e2 p h3
  have hiff : ∀ p, Reach l L p ↔ p ∈ all := fun p => ⟨fun ⟨n, hn⟩ => hmem n p hn, hb.reach p⟩
  refine ⟨⟨fun p hp => ?_, fun p q i hp hq he hi => ?_⟩, hiff⟩
  · obtain ⟨j, hj, rfl⟩ := List.getElem_of_mem ((hiff p).1 hp)
    obtain ⟨ss', e1, _⟩ := hd j _ hj (List.getElem?_eq_getElem hj)
    rw [e1]; simp
  · exact hb.calm p ((hiff p).1 hp) q ((hiff q).1 hq) he i hi
end Go.Proofs.YteocjidfbbekfaaDoor
