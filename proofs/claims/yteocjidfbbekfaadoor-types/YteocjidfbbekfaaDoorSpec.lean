/- The plain mathematics of images: instructions, their decoding, the bytes of a text. Nothing of a program stands here. -/
import Derived.Test.YteocjidfbbekfaaDoorRows
import Derived.WalkKit
namespace Go.Proofs.YteocjidfbbekfaaDoor
open Go.RowKit

theorem hid {p : Prop} (h : p) : Hid p := h
theorem ret_int {k : IntKind} {a b : Int} (h : a = b) : Ending.returned (.int k a) = .returned (.int k b) := by rw [h]
theorem ret_bool {a b : Bool} (h : a = b) : Ending.returned (.bool a) = .returned (.bool b) := by rw [h]
theorem ret2 {k l : IntKind} {a b a' b' : Int} (h : a = a') (h' : b = b') : Ending.returned (.tuple #[.int k a, .int l b]) = .returned (.tuple #[.int k a', .int l b']) := by rw [h, h']

theorem str_eq {a b : ByteArray} (h : a = b) : (a.toList == b.toList) = true := by rw [h]; simp
theorem str_ne {a b : ByteArray} (h : a ≠ b) : (a.toList == b.toList) = false := by
  rw [beq_eq_false_iff_ne, ByteArray.toList_eq, ByteArray.toList_eq]
  intro e
  apply h
  cases a; cases b
  exact congrArg ByteArray.mk (Array.toList_inj.1 e)

/-- An instruction: what it is, its operand, its place. -/
structure Ins where
  op : Nat
  n : Nat
  place : Nat

def findP (p : Nat) : List Ins → Nat → Int
  | [], _ => -1
  | i :: r, k => if i.place = p then (k : Int) else findP p r (k + 1)

def takesB (k : Nat) : Bool := k == 1 || k == 7 || k == 8 || k == 14 || k == 15 || k == 19 || k == 20
def badN (op n locals : Nat) : Bool := (op == 7 || op == 8) && decide (locals ≤ n) || (op == 14 || op == 15) && decide (1 < n)
def byteAt (t : ByteArray) (p : Nat) : Nat := (t.data.toList.getD p 0).toNat
/-- The place behind the instruction at p and its operand; 0: there is none. -/
def behindQ (op size p n locals : Nat) : Nat × Nat :=
  if 24 < op then (0, 0) else if takesB op = false then (p + 1, 0) else if size ≤ p + 1 then (0, 0) else
  if badN op n locals = true then (0, 0) else (p + 2, n)
def behindP (t : ByteArray) (p locals : Nat) : Nat × Nat := behindQ (byteAt t p) t.size p (byteAt t (p + 1)) locals
theorem byteAt_eq (t : ByteArray) (p : Nat) (h : p < t.size) : t[p].toNat = byteAt t p := by
  have : p < t.data.size := h
  simp only [byteAt, List.getD_eq_getElem?_getD, Array.getElem?_toList]
  rw [Array.getElem?_eq_getElem this]
  rfl
theorem byteAt_lt (t : ByteArray) (p : Nat) : byteAt t p < 256 := UInt8.toNat_lt _
theorem wrapb (c : Nat) (h : c < 256) : wrap64 (c : Int) = (c : Int) := by unfold wrap64; omega

theorem behindQ_cases (op size p n locals : Nat) : behindQ op size p n locals = (0, 0) ∨ (behindQ op size p n locals = (p + 1, 0)) ∨ (p + 1 < size ∧ behindQ op size p n locals = (p + 2, n)) := by
  unfold behindQ
  by_cases h1 : 24 < op
  · left; simp [h1]
  · rw [if_neg h1]
    by_cases h2 : takesB op = false
    · right; left; simp [h2]
    · rw [if_neg h2]
      by_cases h3 : size ≤ p + 1
      · left; simp [h3]
      · rw [if_neg h3]
        by_cases h4 : badN op n locals = true
        · left; simp [h4]
        · right; right; exact ⟨by omega, by simp [h4]⟩
theorem behindP_gt (t : ByteArray) (p locals : Nat) (hp : p < t.size) (h : (behindP t p locals).1 ≠ 0) : p < (behindP t p locals).1 ∧ (behindP t p locals).1 ≤ t.size ∧ (behindP t p locals).2 < 256 := by
  unfold behindP at *
  have hb := byteAt_lt t (p + 1)
  rcases behindQ_cases (byteAt t p) t.size p (byteAt t (p + 1)) locals with e | e | ⟨e0, e⟩
  · rw [e] at h; exact absurd rfl h
  · rw [e]; exact ⟨by simp, by simp; omega, by simp⟩
  · rw [e]; exact ⟨by simp, by simp; omega, hb⟩

/-- The instructions of a text, from a place on. -/
def decGo (t : ByteArray) (locals : Nat) : Nat → Nat → Option (List Ins)
  | 0, _ => some []
  | f + 1, p => if p < t.size then (if (behindP t p locals).1 = 0 then none else (decGo t locals f (behindP t p locals).1).map (⟨byteAt t p, (behindP t p locals).2, p⟩ :: ·)) else some []
theorem decGo_fuel (t : ByteArray) (locals : Nat) : ∀ f g p, t.size ≤ p + f → t.size ≤ p + g → decGo t locals f p = decGo t locals g p := by
  intro f
  induction f with
  | zero => intro g p h1 _; cases g with
    | zero => rfl
    | succ g => simp [decGo]; omega
  | succ f ih => intro g p h1 h2; cases g with
    | zero => simp [decGo]; omega
    | succ g =>
      simp only [decGo]
      by_cases hp : p < t.size
      · rw [if_pos hp, if_pos hp]
        by_cases hq : (behindP t p locals).1 = 0
        · rw [if_pos hq, if_pos hq]
        · rw [if_neg hq, if_neg hq]
          have := behindP_gt t p locals hp hq
          rw [ih g _ (by omega) (by omega)]
      · rw [if_neg hp, if_neg hp]
def dec (t : ByteArray) (locals p : Nat) : Option (List Ins) := decGo t locals (t.size - p) p
theorem dec_end (t : ByteArray) (locals p : Nat) (h : t.size ≤ p) : dec t locals p = some [] := by
  unfold dec; rw [show t.size - p = 0 by omega]; rfl
theorem dec_none (t : ByteArray) (locals p : Nat) (h : p < t.size) (hq : (behindP t p locals).1 = 0) : dec t locals p = none := by
  unfold dec
  obtain ⟨f, hf⟩ : ∃ f, t.size - p = f + 1 := ⟨t.size - p - 1, by omega⟩
  rw [hf]; simp [decGo, h, hq]
theorem dec_some (t : ByteArray) (locals p : Nat) (h : p < t.size) (hq : (behindP t p locals).1 ≠ 0) : dec t locals p = (dec t locals (behindP t p locals).1).map (⟨byteAt t p, (behindP t p locals).2, p⟩ :: ·) := by
  have hg := behindP_gt t p locals h hq
  unfold dec
  obtain ⟨f, hf⟩ : ∃ f, t.size - p = f + 1 := ⟨t.size - p - 1, by omega⟩
  rw [hf]
  simp only [decGo, if_pos h, if_neg hq]
  rw [decGo_fuel t locals f (t.size - (behindP t p locals).1) _ (by omega) (by omega)]

def isJump (op : Nat) : Bool := op == 19 || op == 20
def jumpsOk (l : List Ins) : Bool := l.all fun i => !isJump i.op || decide (0 ≤ findP i.n l 0)
def lastOp (l : List Ins) : Nat := (l.getLast?.map Ins.op).getD 1
def endsOk (l : List Ins) : Bool := lastOp l == 0 || lastOp l == 19
def shapedP (s : ByteArray) : Bool := decide (3 ≤ s.size) && decide (s.size ≤ 122) && byteAt s 0 == 84 && decide (byteAt s 1 ≤ 4)
def textOf (s : ByteArray) : ByteArray := s.extract 2 s.size
/-- The error of an image as far as its types are not asked, its instructions, its number of locals. -/
def errOf (s : ByteArray) : Nat :=
  if shapedP s = false then 1 else match dec (textOf s) (byteAt s 1) 0 with
  | none => 2
  | some l => if jumpsOk l = false then 3 else if endsOk l = false then 4 else 0
def codeOf (s : ByteArray) : List Ins := (dec (textOf s) (byteAt s 1) 0).getD []

/-- What is known of instructions that were decoded. -/
def Good (locals size : Nat) (l : List Ins) : Prop := ∀ i ∈ l, i.op ≤ 24 ∧ i.n < 256 ∧ i.place < size ∧ badN i.op i.n locals = false
theorem decGo_good (t : ByteArray) (locals : Nat) : ∀ f p l, decGo t locals f p = some l → Good locals t.size l ∧ l.length ≤ f := by
  intro f
  induction f with
  | zero => intro p l h; simp [decGo] at h; subst h; exact ⟨fun i hi => by simp at hi, by simp⟩
  | succ f ih =>
    intro p l h
    simp only [decGo] at h
    by_cases hp : p < t.size
    · rw [if_pos hp] at h
      by_cases hq : (behindP t p locals).1 = 0
      · rw [if_pos hq] at h; cases h
      · rw [if_neg hq] at h
        cases hr : decGo t locals f (behindP t p locals).1 with
        | none => rw [hr] at h; cases h
        | some r =>
          rw [hr] at h
          simp only [Option.map_some, Option.some.injEq] at h
          subst h
          obtain ⟨g1, g2⟩ := ih _ _ hr
          refine ⟨?_, by simp; omega⟩
          intro i hi
          simp only [List.mem_cons] at hi
          rcases hi with rfl | hi
          · have hg := behindP_gt t p locals hp hq
            refine ⟨?_, hg.2.2, hp, ?_⟩
            · show byteAt t p ≤ 24
              by_cases h24 : 24 < byteAt t p
              · exfalso; apply hq; simp [behindP, behindQ, h24]
              · omega
            · show badN (byteAt t p) (behindP t p locals).2 locals = false
              by_cases h24 : 24 < byteAt t p
              · exfalso; apply hq; simp [behindP, behindQ, h24]
              by_cases htk : takesB (byteAt t p) = false
              · have hne : ∀ k, takesB k = true → byteAt t p ≠ k := fun k hk e => by rw [e, hk] at htk; cases htk
                have a1 := hne 7 rfl
                have a2 := hne 8 rfl
                have a3 := hne 14 rfl
                have a4 := hne 15 rfl
                simp [badN, a1, a2, a3, a4]
              by_cases hsz : t.size ≤ p + 1
              · exfalso; apply hq; simp [behindP, behindQ, h24, htk, hsz]
              by_cases hbd : badN (byteAt t p) (byteAt t (p + 1)) locals = true
              · exfalso; apply hq; simp [behindP, behindQ, h24, htk, hsz, hbd]
              · have : (behindP t p locals).2 = byteAt t (p + 1) := by simp [behindP, behindQ, h24, htk, hsz, hbd]
                rw [this]; simpa using hbd
          · exact g1 i hi
    · rw [if_neg hp] at h; simp at h; subst h; exact ⟨fun i hi => by simp at hi, by simp⟩
theorem dec_good {t : ByteArray} {locals p : Nat} {l : List Ins} (h : dec t locals p = some l) : Good locals t.size l ∧ l.length ≤ t.size - p := decGo_good t locals _ _ _ h

/-- The cells of a list of instructions. -/
def insCells (l : List Ins) : List Value := l.flatMap fun i => [.int .i64 i.op, .int .i64 i.n, .int .i64 i.place]
theorem insCells_len (l : List Ins) : (insCells l).length = l.length * 3 := by
  induction l with
  | nil => rfl
  | cons a r ih => simp only [insCells, List.flatMap_cons, List.length_append, List.length_cons, List.length_nil] at *; omega
theorem insCells_snoc (l : List Ins) (i : Ins) : insCells (l ++ [i]) = insCells l ++ [.int .i64 i.op, .int .i64 i.n, .int .i64 i.place] := by simp [insCells]
theorem insCells_at (l : List Ins) (k : Nat) (h : k < l.length) : (insCells l)[k * 3]? = some (.int .i64 l[k].op) ∧ (insCells l)[k * 3 + 1]? = some (.int .i64 l[k].n) ∧ (insCells l)[k * 3 + 2]? = some (.int .i64 l[k].place) := by
  induction l generalizing k with
  | nil => simp at h
  | cons a r ih =>
    cases k with
    | zero => simp [insCells]
    | succ k =>
      have := ih k (by simpa using h)
      have e0 : (k + 1) * 3 = k * 3 + 3 := by omega
      have e1 : (k + 1) * 3 + 1 = k * 3 + 1 + 3 := by omega
      have e2 : (k + 1) * 3 + 2 = k * 3 + 2 + 3 := by omega
      have hc : ∀ j, (insCells (a :: r))[j + 3]? = (insCells r)[j]? := fun j => by simp [insCells]
      rw [e2, e1, e0, hc, hc, hc]
      simpa using this

/-- The cells of a list of instructions lie at block g. -/
def InsAt (w : World) (g : Nat) (l : List Ins) : Prop :=
  ∀ (i : Nat) (h : i < l.length), w.cell? ⟨g, i * 3, none⟩ = some (.int .i64 l[i].op) ∧ w.cell? ⟨g, i * 3 + 1, none⟩ = some (.int .i64 l[i].n) ∧ w.cell? ⟨g, i * 3 + 2, none⟩ = some (.int .i64 l[i].place)
theorem InsAt.below {w w' : World} {g B : Nat} {l : List Ins} (h : InsAt w g l) (hb : Below B w w') (hg : g < B) : InsAt w' g l := by
  intro i hi
  obtain ⟨h0, h1, h2⟩ := h i hi
  exact ⟨(hb.cell (p := ⟨g, i * 3, none⟩) hg).trans h0, (hb.cell (p := ⟨g, i * 3 + 1, none⟩) hg).trans h1, (hb.cell (p := ⟨g, i * 3 + 2, none⟩) hg).trans h2⟩
theorem addr_add (g j : Nat) : (⟨g, 0, none⟩ : Addr).add j = ⟨g, j, none⟩ := by unfold Addr.add; split <;> simp_all
theorem InsAt.of_owns {w : World} {base e g n cap : Nat} {l : List Ins} (h : w.ownsRow base e 3 (.slice (some ⟨g, 0, none⟩) n cap) l.length (insCells l)) : InsAt w g l := by
  intro i hi
  have hc := h.cells (g := g) rfl
  obtain ⟨a0, a1, a2⟩ := insCells_at l i hi
  have h0 := hc _ _ a0
  have h1 := hc _ _ a1
  have h2 := hc _ _ a2
  rw [addr_add] at h0 h1 h2
  exact ⟨h0, h1, h2⟩

/-- The table of those instructions that have an operand. -/
def TakesTab (w : World) : Prop := ∀ k : Nat, k < 25 → w.cell? ⟨0, k, none⟩ = some (.bool (takesB k))
theorem TakesTab.below {w w' : World} (h : TakesTab w) (hb : Below w.heap.size w w') : TakesTab w' := by
  intro k hk
  have h0 := h k hk
  have := World.block_lt_of_cell? w _ h0
  exact (hb.cell (p := ⟨0, k, none⟩) this).trans h0

end Go.Proofs.YteocjidfbbekfaaDoor
