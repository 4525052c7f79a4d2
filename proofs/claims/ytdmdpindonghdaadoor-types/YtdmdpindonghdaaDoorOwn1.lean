/- What the proofs of these statements stand on, part 1: Spec, SpecB, SpecC, SpecD, SpecE, RefA, RefB, RefC, SpecG, RefD, RefE, RefF, SpecF, CodeA, CodeB, CodeC, CodeD, SpecH, SpecI, FlowA, FlowB, FlowC, FlowD, SpecK, FlowE, FlowF, FlowG, FlowH, SpecJ. -/
import Derived.Test.YtdmdpindonghdaaDoorRows
import Derived.WalkKit
import Derived.WalkSpells
import Derived.WalkLawsBesides
import Derived.Deep.AppendLies
import Derived.OwnWalk
import Derived.BigRegion
import Derived.Deep.QuietTactic
import Derived.BigQuiet
import Derived.WalkSmall
import Derived.Deep.RegionHeld3
import Derived.Deep.DeepCutAuto
import Derived.Deep.LoopGhost
namespace Go.Proofs.YtdmdpindonghdaaDoor
open Go.RowKit
theorem hid {p : Prop} (h : p) : Hid p := h
theorem ret_int {k : IntKind} {a b : Int} (h : a = b) : Ending.returned (.int k a) = .returned (.int k b) := by rw [h]
theorem ret_bool {a b : Bool} (h : a = b) : Ending.returned (.bool a) = .returned (.bool b) := by rw [h]
theorem ret2 {k l : IntKind} {a b a' b' : Int} (h : a = a') (h' : b = b') : Ending.returned (.tuple #[.int k a, .int l b]) = .returned (.tuple #[.int k a', .int l b']) := by rw [h, h']
theorem str_eq {a b : ByteArray} (h : a = b) : (a.toList == b.toList) = true := by rw [h]; simp
theorem str_ne {a b : ByteArray} (h : a ≠ b) : (a.toList == b.toList) = false := by
  rw [beq_eq_false_iff_ne, ByteArray.toList_eq, ByteArray.toList_eq]
  intro e
  apply h
  cases a; cases b
  exact congrArg ByteArray.mk (Array.toList_inj.1 e)
/-- An instruction: what it is, its operand, its place. -/
structure Ins where
  op : Nat
  n : Nat
  place : Nat
def findP (p : Nat) : List Ins → Nat → Int
  | [], _ => -1
  | i :: r, k => if i.place = p then (k : Int) else findP p r (k + 1)
def takesB (k : Nat) : Bool := k == 1 || k == 7 || k == 8 || k == 14 || k == 15 || k == 19 || k == 20
def badN (op n locals : Nat) : Bool := (op == 7 || op == 8) && decide (locals ≤ n) || (op == 14 || op == 15) && decide (1 < n)
def byteAt (t : ByteArray) (p : Nat) : Nat := (t.data.toList.getD p 0).toNat
/-- The place behind the instruction at p and its operand; 0: there is none. -/
def behindQ (op size p n locals : Nat) : Nat × Nat :=
  if 24 < op then (0, 0) else if takesB op = false then (p + 1, 0) else if size ≤ p + 1 then (0, 0) else
  if badN op n locals = true then (0, 0) else (p + 2, n)
def behindP (t : ByteArray) (p locals : Nat) : Nat × Nat := behindQ (byteAt t p) t.size p (byteAt t (p + 1)) locals
theorem byteAt_eq (t : ByteArray) (p : Nat) (h : p < t.size) : t[p].toNat = byteAt t p := by
  have : p < t.data.size := h
  simp only [byteAt, List.getD_eq_getElem?_getD, Array.getElem?_toList]
  rw [Array.getElem?_eq_getElem this]
  rfl
theorem byteAt_lt (t : ByteArray) (p : Nat) : byteAt t p < 256 := UInt8.toNat_lt _
theorem wrapb (c : Nat) (h : c < 256) : wrap64 (c : Int) = (c : Int) := by unfold wrap64; omega
theorem behindQ_cases (op size p n locals : Nat) : behindQ op size p n locals = (0, 0) ∨ (behindQ op size p n locals = (p + 1, 0)) ∨ (p + 1 < size ∧ behindQ op size p n locals = (p + 2, n)) := by
  unfold behindQ
  by_cases h1 : 24 < op
  · left; simp [h1]
  · rw [if_neg h1]
    by_cases h2 : takesB op = false
    · right; left; simp [h2]
    · rw [if_neg h2]
      by_cases h3 : size ≤ p + 1
      · left; simp [h3]
      · rw [if_neg h3]
        by_cases h4 : badN op n locals = true
        · left; simp [h4]
        · right; right; exact ⟨by omega, by simp [h4]⟩
theorem behindP_gt (t : ByteArray) (p locals : Nat) (hp : p < t.size) (h : (behindP t p locals).1 ≠ 0) : p < (behindP t p locals).1 ∧ (behindP t p locals).1 ≤ t.size ∧ (behindP t p locals).2 < 256 := by
  unfold behindP at *
  have hb := byteAt_lt t (p + 1)
  rcases behindQ_cases (byteAt t p) t.size p (byteAt t (p + 1)) locals with e | e | ⟨e0, e⟩
  · rw [e] at h; exact absurd rfl h
  · rw [e]; exact ⟨by simp, by simp; omega, by simp⟩
  · rw [e]; exact ⟨by simp, by simp; omega, hb⟩
/-- The instructions of a text, from a place on. -/
def decGo (t : ByteArray) (locals : Nat) : Nat → Nat → Option (List Ins)
  | 0, _ => some []
  | f + 1, p => if p < t.size then (if (behindP t p locals).1 = 0 then none else (decGo t locals f (behindP t p locals).1).map (⟨byteAt t p, (behindP t p locals).2, p⟩ :: ·)) else some []
theorem decGo_fuel (t : ByteArray) (locals : Nat) : ∀ f g p, t.size ≤ p + f → t.size ≤ p + g → decGo t locals f p = decGo t locals g p := by
  intro f
  induction f with
  | zero => intro g p h1 _; cases g with
    | zero => rfl
    | succ g => simp [decGo]; omega
  | succ f ih => intro g p h1 h2; cases g with
    | zero => simp [decGo]; omega
    | succ g =>
      simp only [decGo]
      by_cases hp : p < t.size
      · rw [if_pos hp, if_pos hp]
        by_cases hq : (behindP t p locals).1 = 0
        · rw [if_pos hq, if_pos hq]
        · rw [if_neg hq, if_neg hq]
          have := behindP_gt t p locals hp hq
          rw [ih g _ (by omega) (by omega)]
      · rw [if_neg hp, if_neg hp]
def dec (t : ByteArray) (locals p : Nat) : Option (List Ins) := decGo t locals (t.size - p) p
theorem dec_end (t : ByteArray) (locals p : Nat) (h : t.size ≤ p) : dec t locals p = some [] := by
  unfold dec; rw [show t.size - p = 0 by omega]; rfl
theorem dec_none (t : ByteArray) (locals p : Nat) (h : p < t.size) (hq : (behindP t p locals).1 = 0) : dec t locals p = none := by
  unfold dec
  obtain ⟨f, hf⟩ : ∃ f, t.size - p = f + 1 := ⟨t.size - p - 1, by omega⟩
  rw [hf]; simp [decGo, h, hq]
theorem dec_some (t : ByteArray) (locals p : Nat) (h : p < t.size) (hq : (behindP t p locals).1 ≠ 0) : dec t locals p = (dec t locals (behindP t p locals).1).map (⟨byteAt t p, (behindP t p locals).2, p⟩ :: ·) := by
  have hg := behindP_gt t p locals h hq
  unfold dec
  obtain ⟨f, hf⟩ : ∃ f, t.size - p = f + 1 := ⟨t.size - p - 1, by omega⟩
  rw [hf]
  simp only [decGo, if_pos h, if_neg hq]
  rw [decGo_fuel t locals f (t.size - (behindP t p locals).1) _ (by omega) (by omega)]
def isJump (op : Nat) : Bool := op == 19 || op == 20
def jumpsOk (l : List Ins) : Bool := l.all fun i => !isJump i.op || decide (0 ≤ findP i.n l 0)
def lastOp (l : List Ins) : Nat := (l.getLast?.map Ins.op).getD 1
def endsOk (l : List Ins) : Bool := lastOp l == 0 || lastOp l == 19
def shapedP (s : ByteArray) : Bool := decide (3 ≤ s.size) && decide (s.size ≤ 122) && byteAt s 0 == 84 && decide (byteAt s 1 ≤ 4)
def textOf (s : ByteArray) : ByteArray := s.extract 2 s.size
/-- The error of an image as far as its types are not asked, its instructions, its number of locals. -/
def errOf (s : ByteArray) : Nat :=
  if shapedP s = false then 1 else match dec (textOf s) (byteAt s 1) 0 with
  | none => 2
  | some l => if jumpsOk l = false then 3 else if endsOk l = false then 4 else 0
def codeOf (s : ByteArray) : List Ins := (dec (textOf s) (byteAt s 1) 0).getD []
/-- What is known of instructions that were decoded. -/
def Good (locals size : Nat) (l : List Ins) : Prop := ∀ i ∈ l, i.op ≤ 24 ∧ i.n < 256 ∧ i.place < size ∧ badN i.op i.n locals = false
theorem decGo_good (t : ByteArray) (locals : Nat) : ∀ f p l, decGo t locals f p = some l → Good locals t.size l ∧ l.length ≤ f := by
  intro f
  induction f with
  | zero => intro p l h; simp [decGo] at h; subst h; exact ⟨fun i hi => by simp at hi, by simp⟩
  | succ f ih =>
    intro p l h
    simp only [decGo] at h
    by_cases hp : p < t.size
    · rw [if_pos hp] at h
      by_cases hq : (behindP t p locals).1 = 0
      · rw [if_pos hq] at h; cases h
      · rw [if_neg hq] at h
        cases hr : decGo t locals f (behindP t p locals).1 with
        | none => rw [hr] at h; cases h
        | some r =>
          rw [hr] at h
          simp only [Option.map_some, Option.some.injEq] at h
          subst h
          obtain ⟨g1, g2⟩ := ih _ _ hr
          refine ⟨?_, by simp; omega⟩
          intro i hi
          simp only [List.mem_cons] at hi
          rcases hi with rfl | hi
          · have hg := behindP_gt t p locals hp hq
            refine ⟨?_, hg.2.2, hp, ?_⟩
            · show byteAt t p ≤ 24
              by_cases h24 : 24 < byteAt t p
              · exfalso; apply hq; simp [behindP, behindQ, h24]
              · omega
            · show badN (byteAt t p) (behindP t p locals).2 locals = false
              by_cases h24 : 24 < byteAt t p
              · exfalso; apply hq; simp [behindP, behindQ, h24]
              by_cases htk : takesB (byteAt t p) = false
              · have hne : ∀ k, takesB k = true → byteAt t p ≠ k := fun k hk e => by rw [e, hk] at htk; cases htk
                have a1 := hne 7 rfl
                have a2 := hne 8 rfl
                have a3 := hne 14 rfl
                have a4 := hne 15 rfl
                simp [badN, a1, a2, a3, a4]
              by_cases hsz : t.size ≤ p + 1
              · exfalso; apply hq; simp [behindP, behindQ, h24, htk, hsz]
              by_cases hbd : badN (byteAt t p) (byteAt t (p + 1)) locals = true
              · exfalso; apply hq; simp [behindP, behindQ, h24, htk, hsz, hbd]
              · have : (behindP t p locals).2 = byteAt t (p + 1) := by simp [behindP, behindQ, h24, htk, hsz, hbd]
                rw [this]; simpa using hbd
          · exact g1 i hi
    · rw [if_neg hp] at h; simp at h; subst h; exact ⟨fun i hi => by simp at hi, by simp⟩
theorem dec_good {t : ByteArray} {locals p : Nat} {l : List Ins} (h : dec t locals p = some l) : Good locals t.size l ∧ l.length ≤ t.size - p := decGo_good t locals _ _ _ h
/-- The cells of a list of instructions. -/
def insCells (l : List Ins) : List Value := l.flatMap fun i => [.int .i64 i.op, .int .i64 i.n, .int .i64 i.place]
theorem insCells_len (l : List Ins) : (insCells l).length = l.length * 3 := by
  induction l with
  | nil => rfl
  | cons a r ih => simp only [insCells, List.flatMap_cons, List.length_append, List.length_cons, List.length_nil] at *; omega
theorem insCells_snoc (l : List Ins) (i : Ins) : insCells (l ++ [i]) = insCells l ++ [.int .i64 i.op, .int .i64 i.n, .int .i64 i.place] := by simp [insCells]
theorem insCells_at (l : List Ins) (k : Nat) (h : k < l.length) : (insCells l)[k * 3]? = some (.int .i64 l[k].op) ∧ (insCells l)[k * 3 + 1]? = some (.int .i64 l[k].n) ∧ (insCells l)[k * 3 + 2]? = some (.int .i64 l[k].place) := by
  induction l generalizing k with
  | nil => simp at h
  | cons a r ih =>
    cases k with
    | zero => simp [insCells]
    | succ k =>
      have := ih k (by simpa using h)
      have e0 : (k + 1) * 3 = k * 3 + 3 := by omega
      have e1 : (k + 1) * 3 + 1 = k * 3 + 1 + 3 := by omega
      have e2 : (k + 1) * 3 + 2 = k * 3 + 2 + 3 := by omega
      have hc : ∀ j, (insCells (a :: r))[j + 3]? = (insCells r)[j]? := fun j => by simp [insCells]
      rw [e2, e1, e0, hc, hc, hc]
      simpa using this
/-- The cells of a list of instructions lie at block g. -/
def InsAt (w : World) (g : Nat) (l : List Ins) : Prop :=
  ∀ (i : Nat) (h : i < l.length), w.cell? ⟨g, i * 3, none⟩ = some (.int .i64 l[i].op) ∧ w.cell? ⟨g, i * 3 + 1, none⟩ = some (.int .i64 l[i].n) ∧ w.cell? ⟨g, i * 3 + 2, none⟩ = some (.int .i64 l[i].place)
theorem InsAt.below {w w' : World} {g B : Nat} {l : List Ins} (h : InsAt w g l) (hb : Below B w w') (hg : g < B) : InsAt w' g l := by
  intro i hi
  obtain ⟨h0, h1, h2⟩ := h i hi
  exact ⟨(hb.cell (p := ⟨g, i * 3, none⟩) hg).trans h0, (hb.cell (p := ⟨g, i * 3 + 1, none⟩) hg).trans h1, (hb.cell (p := ⟨g, i * 3 + 2, none⟩) hg).trans h2⟩
theorem addr_add (g j : Nat) : (⟨g, 0, none⟩ : Addr).add j = ⟨g, j, none⟩ := by unfold Addr.add; split <;> simp_all
theorem InsAt.of_owns {w : World} {base e g n cap : Nat} {l : List Ins} (h : w.ownsRow base e 3 (.slice (some ⟨g, 0, none⟩) n cap) l.length (insCells l)) : InsAt w g l := by
  intro i hi
  have hc := h.cells (g := g) rfl
  obtain ⟨a0, a1, a2⟩ := insCells_at l i hi
  have h0 := hc _ _ a0
  have h1 := hc _ _ a1
  have h2 := hc _ _ a2
  rw [addr_add] at h0 h1 h2
  exact ⟨h0, h1, h2⟩
/-- The table of those instructions that have an operand. -/
def TakesTab (w : World) : Prop := ∀ k : Nat, k < 25 → w.cell? ⟨0, k, none⟩ = some (.bool (takesB k))
theorem TakesTab.below {w w' : World} (h : TakesTab w) (hb : Below w.heap.size w w') : TakesTab w' := by
  intro k hk
  have h0 := h k hk
  have := World.block_lt_of_cell? w _ h0
  exact (hb.cell (p := ⟨0, k, none⟩) this).trans h0
end Go.Proofs.YtdmdpindonghdaaDoor
namespace Go.Proofs.YtdmdpindonghdaaDoor
open Go.RowKit
def popsL (op : Nat) : List UInt8 :=
  if op = 0 ∨ op = 20 ∨ op = 22 then [105] else if op = 2 ∨ op = 3 ∨ op = 4 ∨ op = 5 ∨ op = 6 then [105, 105]
  else if op = 14 ∨ op = 16 ∨ op = 23 ∨ op = 24 then [114] else if op = 15 ∨ op = 18 then [114, 114] else if op = 17 then [114, 105] else []
def pushesL (op : Nat) : List UInt8 :=
  if op = 1 ∨ op = 2 ∨ op = 3 ∨ op = 4 ∨ op = 5 ∨ op = 6 ∨ op = 16 ∨ op = 18 ∨ op = 21 then [105]
  else if op = 12 ∨ op = 13 ∨ op = 14 ∨ op = 23 ∨ op = 24 then [114] else []
def popsS (op : Nat) : ByteArray := ⟨(popsL op).toArray⟩
def pushesS (op : Nat) : ByteArray := ⟨(pushesL op).toArray⟩
theorem popsL_le (op : Nat) : (popsL op).length ≤ 2 := by
  unfold popsL
  split
  · simp
  split
  · simp
  split
  · simp
  split
  · simp
  split <;> simp
theorem pushesL_le (op : Nat) : (pushesL op).length ≤ 1 := by
  unfold pushesL
  split
  · simp
  split <;> simp
theorem popsS_size (op : Nat) : (popsS op).size ≤ 2 := popsL_le op
theorem pushesS_size (op : Nat) : (pushesS op).size ≤ 1 := pushesL_le op
/-- What an instruction does to the types of locals and stack; false: it can't be done. -/
def afterV (lo st : ByteArray) (op n : Nat) : ByteArray × ByteArray × Bool :=
  if op = 7 then (lo, st ++ lo.extract n (n + 1), true)
  else if op = 8 then (if st.size < 1 then (lo, st, false) else (lo.extract 0 n ++ st.extract (st.size - 1) st.size ++ lo.extract (n + 1) lo.size, st.extract 0 (st.size - 1), true))
  else if op = 9 then (if st.size < 1 then (lo, st, false) else (lo, st ++ st.extract (st.size - 1) st.size, true))
  else if op = 10 then (if st.size < 1 then (lo, st, false) else (lo, st.extract 0 (st.size - 1), true))
  else if op = 11 then (if st.size < 2 then (lo, st, false) else (lo, st.extract 0 (st.size - 2) ++ st.extract (st.size - 1) st.size ++ st.extract (st.size - 2) (st.size - 1), true))
  else if st.size < (popsS op).size then (lo, st, false)
  else if st.extract (st.size - (popsS op).size) st.size = popsS op then (lo, st.extract 0 (st.size - (popsS op).size) ++ pushesS op, true) else (lo, st, false)
/-- The reference's two tables of types. -/
def TypeTab (w : World) : Prop := ∀ k : Nat, k < 25 → w.cell? ⟨1, k, none⟩ = some (.string (popsS k)) ∧ w.cell? ⟨2, k, none⟩ = some (.string (pushesS k))
theorem TypeTab.below {w w' : World} (h : TypeTab w) (hb : Below w.heap.size w w') : TypeTab w' := by
  intro k hk
  obtain ⟨h0, h1⟩ := h k hk
  have l0 := World.block_lt_of_cell? w _ h0
  have l1 := World.block_lt_of_cell? w _ h1
  exact ⟨(hb.cell (p := ⟨1, k, none⟩) l0).trans h0, (hb.cell (p := ⟨2, k, none⟩) l1).trans h1⟩
def pointV (a : Nat) (lo st : ByteArray) : Value := .agg #[.int .i64 a, .string lo, .string st]
def AfterPost (a : Nat) (lo st : ByteArray) (op n : Nat) (w : World) (e : Ending) (w' : World) : Prop :=
  Below w.heap.size w w' ∧ e = .returned (.tuple #[.agg #[.int .i64 a, .string (afterV lo st op n).1, .string (afterV lo st op n).2.1], .bool (afterV lo st op n).2.2])
theorem afterPost_mk {a op n : Nat} {lo st lo' st' : ByteArray} {b : Bool} {w w' : World} (hb : Below w.heap.size w w') (h : afterV lo st op n = (lo', st', b)) :
    AfterPost a lo st op n w (.returned (.tuple #[.agg #[.int .i64 a, .string lo', .string st'], .bool b])) w' := by
  unfold AfterPost; rw [h]; exact ⟨hb, rfl⟩
end Go.Proofs.YtdmdpindonghdaaDoor
namespace Go.Proofs.YtdmdpindonghdaaDoor
open Go.RowKit
/-- A point: an instruction that a way leads to, with the types there. -/
structure Pt where
  at_ : Nat
  lo : ByteArray
  st : ByteArray
def ptCells (l : List Pt) : List Value := l.flatMap fun i => [.int .i64 i.at_, .string i.lo, .string i.st]
theorem ptCells_len (l : List Pt) : (ptCells l).length = l.length * 3 := by
  induction l with
  | nil => rfl
  | cons a r ih => simp only [ptCells, List.flatMap_cons, List.length_append, List.length_cons, List.length_nil] at *; omega
theorem ptCells_snoc (l : List Pt) (i : Pt) : ptCells (l ++ [i]) = ptCells l ++ [.int .i64 i.at_, .string i.lo, .string i.st] := by simp [ptCells]
theorem ptCells_at (l : List Pt) (k : Nat) (h : k < l.length) : (ptCells l)[k * 3]? = some (.int .i64 l[k].at_) ∧ (ptCells l)[k * 3 + 1]? = some (.string l[k].lo) ∧ (ptCells l)[k * 3 + 2]? = some (.string l[k].st) := by
  induction l generalizing k with
  | nil => simp at h
  | cons a r ih =>
    cases k with
    | zero => simp [ptCells]
    | succ k =>
      have := ih k (by simpa using h)
      have e0 : (k + 1) * 3 = k * 3 + 3 := by omega
      have e1 : (k + 1) * 3 + 1 = k * 3 + 1 + 3 := by omega
      have e2 : (k + 1) * 3 + 2 = k * 3 + 2 + 3 := by omega
      have hc : ∀ j, (ptCells (a :: r))[j + 3]? = (ptCells r)[j]? := fun j => by simp [ptCells]
      rw [e2, e1, e0, hc, hc, hc]
      simpa using this
/-- The cells of a list of points lie at block g. -/
def PtAt (w : World) (g : Nat) (l : List Pt) : Prop :=
  ∀ (i : Nat) (h : i < l.length), w.cell? ⟨g, i * 3, none⟩ = some (.int .i64 l[i].at_) ∧ w.cell? ⟨g, i * 3 + 1, none⟩ = some (.string l[i].lo) ∧ w.cell? ⟨g, i * 3 + 2, none⟩ = some (.string l[i].st)
theorem PtAt.below {w w' : World} {g B : Nat} {l : List Pt} (h : PtAt w g l) (hb : Below B w w') (hg : g < B) : PtAt w' g l := by
  intro i hi
  obtain ⟨h0, h1, h2⟩ := h i hi
  exact ⟨(hb.cell (p := ⟨g, i * 3, none⟩) hg).trans h0, (hb.cell (p := ⟨g, i * 3 + 1, none⟩) hg).trans h1, (hb.cell (p := ⟨g, i * 3 + 2, none⟩) hg).trans h2⟩
theorem PtAt.of_owns {w : World} {base e g n cap : Nat} {l : List Pt} (h : w.ownsRow base e 3 (.slice (some ⟨g, 0, none⟩) n cap) l.length (ptCells l)) : PtAt w g l := by
  intro i hi
  have hc := h.cells (g := g) rfl
  obtain ⟨a0, a1, a2⟩ := ptCells_at l i hi
  have h0 := hc _ _ a0
  have h1 := hc _ _ a1
  have h2 := hc _ _ a2
  rw [addr_add] at h0 h1 h2
  exact ⟨h0, h1, h2⟩
/-- Two points that do not go together, where instruction i is. -/
def clashB (i : Ins) (p q : Pt) : Bool := q.at_ == p.at_ && (!decide (q.st = p.st) || i.op == 7 && !(byteAt q.lo i.n == byteAt p.lo i.n))
def knownB (p q : Pt) : Bool := q.at_ == p.at_ && decide (q.lo = p.lo)
/-- A point more, if it is new; false: it does not go together with those that are known. -/
def joinedP (i : Ins) (all : List Pt) (p : Pt) : List Pt × Bool :=
  if all.any (clashB i p) = true then (all, false) else if all.any (knownB p) = true then (all, true) else (all ++ [p], true)
theorem joinedP_clash {i : Ins} {all : List Pt} {p : Pt} {k : Nat} (hk : k < all.length) (h : clashB i p all[k] = true) : joinedP i all p = (all, false) := by
  unfold joinedP
  rw [if_pos]
  rw [List.any_eq_true]
  exact ⟨all[k], List.getElem_mem hk, h⟩
theorem any_take_succ {α : Type} (f : α → Bool) (l : List α) (k : Nat) (h : k < l.length) : (l.take (k + 1)).any f = ((l.take k).any f || f l[k]) := by
  rw [List.take_succ_eq_append_getElem h, List.any_append]
  simp
/-- All blocks but g are as they were. -/
def Keeps (g : Nat) (w w' : World) : Prop := ∀ b, b < w.heap.size → b ≠ g → w'.heap[b]? = w.heap[b]?
theorem Keeps.of_below {g : Nat} {w w' : World} (h : Below w.heap.size w w') : Keeps g w w' := fun b hb _ => h.block b hb
theorem Keeps.cell {g : Nat} {w w' : World} (h : Keeps g w w') {b o : Nat} (hb : b < w.heap.size) (hg : b ≠ g) : w'.cell? ⟨b, o, none⟩ = w.cell? ⟨b, o, none⟩ := World.cell?_of_block (a := ⟨b, o, none⟩) (h b hb hg)
def JoinPost (i : Ins) (all : List Pt) (p : Pt) (base g : Nat) (w : World) (e : Ending) (w' : World) : Prop :=
  Below base w w' ∧ Keeps g w w' ∧ ∃ v, e = .returned (.tuple #[v, .bool (joinedP i all p).2]) ∧ (∀ g', v.ownBlock = some g' → g' = g ∨ w.heap.size ≤ g') ∧ w'.ownsRow base 132 3 v (joinedP i all p).1.length (ptCells (joinedP i all p).1)
theorem joinPost_mk {i : Ins} {all all' : List Pt} {p : Pt} {b : Bool} {base g : Nat} {w w' : World} {v : Value} (hb : Below base w w') (hk : Keeps g w w') (hv : ∀ g', v.ownBlock = some g' → g' = g ∨ w.heap.size ≤ g') (h : joinedP i all p = (all', b)) {n : Nat} {xs : List Value} (hn : n = all'.length) (hx : xs = ptCells all') (ho : w'.ownsRow base 132 3 v n xs) :
    JoinPost i all p base g w (.returned (.tuple #[v, .bool b])) w' := by
  subst hn; subst hx
  unfold JoinPost; rw [h]; exact ⟨hb, hk, v, rfl, hv, ho⟩
/-- What is owned stays owned where nothing below B turns. -/
theorem owns_below {w w' : World} {B base e size n : Nat} {v : Value} {xs : List Value} (h : w.ownsRow base e size v n xs) (hb : Below B w w') (hlt : ∀ g, v.ownBlock = some g → g < B) : w'.ownsRow base e size v n xs := by
  refine ⟨h.1, ?_⟩
  rcases h.2 with h2 | ⟨g, cap, cur, hv, hg, hh, r⟩
  · exact .inl h2
  · refine .inr ⟨g, cap, cur, hv, hg, ?_, r⟩
    rw [hb.block g (hlt g (by rw [hv]; rfl))]
    exact hh
end Go.Proofs.YtdmdpindonghdaaDoor
namespace Go.Proofs.YtdmdpindonghdaaDoor
open Go.RowKit
def letters (b : ByteArray) : Prop := ∀ c ∈ b.data.toList, c = 105 ∨ c = 114
theorem letters_append {a b : ByteArray} (ha : letters a) (hb : letters b) : letters (a ++ b) := by
  intro c hc
  rw [ByteArray.data_append, Array.toList_append, List.mem_append] at hc
  rcases hc with h | h
  · exact ha c h
  · exact hb c h
theorem letters_extract {a : ByteArray} (ha : letters a) (i j : Nat) : letters (a.extract i j) := by
  intro c hc
  rw [ByteArray.data_extract, Array.toList_extract] at hc
  exact ha c (List.mem_of_mem_drop (List.mem_of_mem_take hc))
theorem letters_pushes (op : Nat) : letters (pushesS op) := by
  intro c hc
  simp only [pushesS, pushesL] at hc
  split at hc
  · simp at hc; exact .inl hc
  · split at hc
    · simp at hc; exact .inr hc
    · simp at hc
/-- What is known of an image's instructions. -/
structure Wf (l : List Ins) (L : Nat) : Prop where
  pos : 0 < l.length
  len : l.length ≤ 120
  loc : L ≤ 4
  op : ∀ i ∈ l, i.op < 25
  num : ∀ i ∈ l, i.n < 256
  arg : ∀ i ∈ l, i.op = 7 ∨ i.op = 8 → i.n < L
  jump : ∀ i ∈ l, isJump i.op = true → 0 ≤ findP i.n l 0
  last : endsOk l = true
structure Okp (l : List Ins) (L : Nat) (p : Pt) : Prop where
  at_ : p.at_ < l.length
  lo : p.lo.size = L
  llo : letters p.lo
  lst : letters p.st
  st : p.st.size ≤ 8
def stepP (l : List Ins) (p : Pt) : Option (List Pt) :=
  match l[p.at_]? with
  | none => none
  | some i => if (afterV p.lo p.st i.op i.n).2.2 = false ∨ 8 < (afterV p.lo p.st i.op i.n).2.1.size then none else
    some ((if isJump i.op = true then [⟨(findP i.n l 0).toNat, (afterV p.lo p.st i.op i.n).1, (afterV p.lo p.st i.op i.n).2.1⟩] else []) ++
      (if i.op ≠ 0 ∧ i.op ≠ 19 then [⟨p.at_ + 1, (afterV p.lo p.st i.op i.n).1, (afterV p.lo p.st i.op i.n).2.1⟩] else []))
def initP (L : Nat) : Pt := ⟨0, (⟨#[105, 105, 105, 105]⟩ : ByteArray).extract 0 L, ⟨#[]⟩⟩
def ReachN (l : List Ins) (L : Nat) : Nat → Pt → Prop
  | 0, p => p = initP L
  | n + 1, p => ∃ q ss, ReachN l L n q ∧ stepP l q = some ss ∧ p ∈ ss
def Reach (l : List Ins) (L : Nat) (p : Pt) : Prop := ∃ n, ReachN l L n p
theorem Reach.init (l : List Ins) (L : Nat) : Reach l L (initP L) := ⟨0, rfl⟩
theorem Reach.step {l : List Ins} {L : Nat} {p q : Pt} {ss : List Pt} (h : Reach l L q) (hs : stepP l q = some ss) (hp : p ∈ ss) : Reach l L p := by
  obtain ⟨n, hn⟩ := h
  exact ⟨n + 1, q, ss, hn, hs, hp⟩
/-- Well typed code. -/
def WT (l : List Ins) (L : Nat) : Prop := (∀ p, Reach l L p → stepP l p ≠ none) ∧ (∀ p q i, Reach l L p → Reach l L q → p.at_ = q.at_ → l[p.at_]? = some i → clashB i p q = false)
theorem findP_lt (p : Nat) : ∀ (l : List Ins) (k : Nat), 0 ≤ findP p l k → findP p l k < (k : Int) + l.length ∧ (k : Int) ≤ findP p l k := by
  intro l
  induction l with
  | nil => intro k h; simp [findP] at h
  | cons a r ih =>
    intro k h
    simp only [findP] at *
    by_cases hp : a.place = p
    · rw [if_pos hp] at *; simp; omega
    · rw [if_neg hp] at *
      have := ih (k + 1) h
      simp only [List.length_cons]; omega
theorem after_ok {lo st : ByteArray} {op n L : Nat} (hlo : lo.size = L) (h1 : letters lo) (h2 : letters st) (hn : op = 7 ∨ op = 8 → n < L) (hs : (afterV lo st op n).2.2 = true) :
    (afterV lo st op n).1.size = L ∧ letters (afterV lo st op n).1 ∧ letters (afterV lo st op n).2.1 := by
  unfold afterV at *
  by_cases e7 : op = 7
  · simp only [if_pos e7]
    exact ⟨hlo, h1, letters_append h2 (letters_extract h1 _ _)⟩
  simp only [if_neg e7] at *
  by_cases e8 : op = 8
  · have hn' := hn (.inr e8)
    simp only [if_pos e8] at *
    by_cases hk : st.size < 1
    · simp only [if_pos hk] at hs; cases hs
    simp only [if_neg hk] at *
    refine ⟨?_, letters_append (letters_append (letters_extract h1 _ _) (letters_extract h2 _ _)) (letters_extract h1 _ _), letters_extract h2 _ _⟩
    simp only [ByteArray.size_append, ByteArray.size_extract]
    omega
  simp only [if_neg e8] at *
  by_cases e9 : op = 9
  · simp only [if_pos e9] at *
    by_cases hk : st.size < 1
    · simp only [if_pos hk] at hs; cases hs
    simp only [if_neg hk] at *
    exact ⟨hlo, h1, letters_append h2 (letters_extract h2 _ _)⟩
  simp only [if_neg e9] at *
  by_cases e10 : op = 10
  · simp only [if_pos e10] at *
    by_cases hk : st.size < 1
    · simp only [if_pos hk] at hs; cases hs
    simp only [if_neg hk] at *
    exact ⟨hlo, h1, letters_extract h2 _ _⟩
  simp only [if_neg e10] at *
  by_cases e11 : op = 11
  · simp only [if_pos e11] at *
    by_cases hk : st.size < 2
    · simp only [if_pos hk] at hs; cases hs
    simp only [if_neg hk] at *
    exact ⟨hlo, h1, letters_append (letters_append (letters_extract h2 _ _) (letters_extract h2 _ _)) (letters_extract h2 _ _)⟩
  simp only [if_neg e11] at *
  by_cases hk : st.size < (popsS op).size
  · simp only [if_pos hk] at hs; cases hs
  simp only [if_neg hk] at *
  by_cases hx : st.extract (st.size - (popsS op).size) st.size = popsS op
  · simp only [if_pos hx] at *
    exact ⟨hlo, h1, letters_append (letters_extract h2 _ _) (letters_pushes op)⟩
  · simp only [if_neg hx] at hs; cases hs
theorem stepP_eq {l : List Ins} {p : Pt} {i : Ins} (hi : l[p.at_]? = some i) : stepP l p = (if (afterV p.lo p.st i.op i.n).2.2 = false ∨ 8 < (afterV p.lo p.st i.op i.n).2.1.size then none else
    some ((if isJump i.op = true then [⟨(findP i.n l 0).toNat, (afterV p.lo p.st i.op i.n).1, (afterV p.lo p.st i.op i.n).2.1⟩] else []) ++
      (if i.op ≠ 0 ∧ i.op ≠ 19 then [⟨p.at_ + 1, (afterV p.lo p.st i.op i.n).1, (afterV p.lo p.st i.op i.n).2.1⟩] else []))) := by
  unfold stepP; rw [hi]
theorem step_ok {l : List Ins} {L : Nat} (hw : Wf l L) {p s : Pt} {ss : List Pt} (hp : Okp l L p) (h : stepP l p = some ss) (hs : s ∈ ss) : Okp l L s := by
  have hi : l[p.at_]? = some (l[p.at_]'hp.at_) := List.getElem?_eq_getElem hp.at_
  have hm : l[p.at_]'hp.at_ ∈ l := List.getElem_mem hp.at_
  rw [stepP_eq hi] at h
  by_cases hb : (afterV p.lo p.st (l[p.at_]'hp.at_).op (l[p.at_]'hp.at_).n).2.2 = false ∨ 8 < (afterV p.lo p.st (l[p.at_]'hp.at_).op (l[p.at_]'hp.at_).n).2.1.size
  · rw [if_pos hb] at h; cases h
  rw [if_neg hb] at h
  simp only [not_or, Bool.not_eq_false, Nat.not_lt] at hb
  obtain ⟨a1, a2, a3⟩ := after_ok hp.lo hp.llo hp.lst (hw.arg _ hm) hb.1
  simp only [Option.some.injEq] at h
  subst h
  rw [List.mem_append] at hs
  rcases hs with hs | hs
  · by_cases hj : isJump (l[p.at_]'hp.at_).op = true
    · rw [if_pos hj] at hs
      simp only [List.mem_singleton] at hs
      subst hs
      have h0 := hw.jump _ hm hj
      have h1 := findP_lt _ l 0 h0
      exact ⟨by simp only; omega, a1, a2, a3, hb.2⟩
    · rw [if_neg hj] at hs; simp at hs
  · by_cases hj : (l[p.at_]'hp.at_).op ≠ 0 ∧ (l[p.at_]'hp.at_).op ≠ 19
    · rw [if_pos hj] at hs
      simp only [List.mem_singleton] at hs
      subst hs
      refine ⟨?_, a1, a2, a3, hb.2⟩
      simp only
      rcases Nat.lt_or_ge (p.at_ + 1) l.length with h | h
      · exact h
      · exfalso
        have hlast := hw.last
        have e : p.at_ = l.length - 1 := by have := hp.at_; omega
        have h1 : lastOp l = (l[p.at_]'hp.at_).op := by
          unfold lastOp
          rw [List.getLast?_eq_getElem?, ← e, hi]
          rfl
        simp [endsOk, h1] at hlast
        omega
    · rw [if_neg hj] at hs; simp at hs
theorem init_ok {l : List Ins} {L : Nat} (hw : Wf l L) : Okp l L (initP L) := by
  have := hw.loc
  refine ⟨hw.pos, ?_, ?_, fun c hc => by simp [initP] at hc, by show 0 ≤ 8; omega⟩
  · show ((⟨#[105, 105, 105, 105]⟩ : ByteArray).extract 0 L).size = L
    rw [ByteArray.size_extract]
    show min L 4 - 0 = L
    omega
  · apply letters_extract
    intro c hc
    simp at hc
    exact .inl hc
theorem nodup_lt : ∀ (n : Nat) (l : List Nat), l.Nodup → (∀ x ∈ l, x < n) → l.length ≤ n := by
  intro n
  induction n with
  | zero => intro l _ h; cases l with
    | nil => simp
    | cons a r => exact absurd (h a (by simp)) (by omega)
  | succ n ih =>
    intro l hd h
    have h1 := ih (l.erase n) (hd.erase n) (fun x hx => by
      rw [hd.mem_erase_iff] at hx
      have := h x hx.2
      omega)
    have h2 : l.length ≤ (l.erase n).length + 1 := by
      by_cases hm : n ∈ l
      · rw [List.length_erase_of_mem hm]; omega
      · rw [List.erase_of_not_mem hm]; omega
    omega
def bits : List UInt8 → Nat
  | [] => 0
  | c :: r => (if c = 114 then 1 else 0) + 2 * bits r
theorem bits_lt : ∀ l : List UInt8, bits l < 2 ^ l.length
  | [] => by simp [bits]
  | c :: r => by
    have := bits_lt r
    simp only [bits, List.length_cons, Nat.pow_succ]
    split <;> omega
theorem bits_inj : ∀ a b : List UInt8, a.length = b.length → (∀ c ∈ a, c = 105 ∨ c = 114) → (∀ c ∈ b, c = 105 ∨ c = 114) → bits a = bits b → a = b
  | [], [], _, _, _, _ => rfl
  | [], _ :: _, h, _, _, _ => by simp at h
  | _ :: _, [], h, _, _, _ => by simp at h
  | c :: r, d :: s, h, ha, hb, e => by
    simp only [bits] at e
    have hc := ha c (by simp)
    have hd := hb d (by simp)
    have h1 := bits_inj r s (by simpa using h) (fun x hx => ha x (by simp [hx])) (fun x hx => hb x (by simp [hx]))
    have h105 : ¬ ((105 : UInt8) = 114) := by decide
    rcases hc with rfl | rfl <;> rcases hd with rfl | rfl
    · simp only [if_neg h105] at e
      rw [h1 (by omega)]
    · simp only [if_neg h105, if_true] at e; omega
    · simp only [if_neg h105, if_true] at e; omega
    · simp only [if_true] at e
      rw [h1 (by omega)]
def keyN (p : Pt) : Nat := p.at_ * 16 + bits p.lo.data.toList
theorem bits_small {l : List Ins} {L : Nat} (hw : Wf l L) {p : Pt} (hp : Okp l L p) : bits p.lo.data.toList < 16 := by
  have h := bits_lt p.lo.data.toList
  have e : p.lo.data.toList.length = L := hp.lo
  have := hw.loc
  rw [e] at h
  have : 2 ^ L ≤ 2 ^ 4 := Nat.pow_le_pow_right (by omega) this
  omega
theorem keyN_lt {l : List Ins} {L : Nat} (hw : Wf l L) {p : Pt} (hp : Okp l L p) : keyN p < 16 * l.length := by
  have := bits_small hw hp
  have := hp.at_
  unfold keyN; omega
theorem bytes_ext {a b : ByteArray} (h : a.data.toList = b.data.toList) : a = b := by
  cases a; cases b
  exact congrArg ByteArray.mk (Array.toList_inj.1 h)
theorem keyN_inj {l : List Ins} {L : Nat} (hw : Wf l L) {p q : Pt} (hp : Okp l L p) (hq : Okp l L q) (h : keyN p = keyN q) : p.at_ = q.at_ ∧ p.lo = q.lo := by
  have h1 := bits_small hw hp
  have h2 := bits_small hw hq
  unfold keyN at h
  refine ⟨by omega, bytes_ext (bits_inj _ _ ?_ hp.llo hq.llo (by omega))⟩
  have e1 : p.lo.data.toList.length = L := hp.lo
  have e2 : q.lo.data.toList.length = L := hq.lo
  omega
structure Base (l : List Ins) (L : Nat) (all : List Pt) : Prop where
  first : all[0]? = some (initP L)
  reach : ∀ p ∈ all, Reach l L p
  ok : ∀ p ∈ all, Okp l L p
  calm : ∀ p ∈ all, ∀ q ∈ all, p.at_ = q.at_ → ∀ i, l[p.at_]? = some i → clashB i p q = false
  nodup : (all.map keyN).Nodup
theorem Base.len {l : List Ins} {L : Nat} {all : List Pt} (hw : Wf l L) (h : Base l L all) : all.length ≤ 16 * l.length := by
  have := nodup_lt (16 * l.length) (all.map keyN) h.nodup (fun x hx => by
    obtain ⟨p, hp, rfl⟩ := List.mem_map.1 hx
    exact keyN_lt hw (h.ok p hp))
  simpa using this
theorem Base.init {l : List Ins} {L : Nat} (hw : Wf l L) : Base l L [initP L] := by
  refine ⟨rfl, fun p hp => ?_, fun p hp => ?_, fun p hp q hq _ i _ => ?_, by simp⟩
  · rw [List.mem_singleton] at hp; subst hp; exact Reach.init l L
  · rw [List.mem_singleton] at hp; subst hp; exact init_ok hw
  · rw [List.mem_singleton] at hp hq; subst hp; subst hq; simp [clashB]
theorem clash_comm (i : Ins) (p q : Pt) : clashB i p q = clashB i q p := by
  unfold clashB
  rw [Bool.eq_iff_iff]
  simp only [Bool.and_eq_true, beq_iff_eq, Bool.or_eq_true, Bool.not_eq_true', decide_eq_false_iff_not, beq_eq_false_iff_ne]
  constructor
  · rintro ⟨h1, h2⟩; exact ⟨h1.symm, h2.imp (fun h e => h e.symm) (fun h => ⟨h.1, fun e => h.2 e.symm⟩)⟩
  · rintro ⟨h1, h2⟩; exact ⟨h1.symm, h2.imp (fun h e => h e.symm) (fun h => ⟨h.1, fun e => h.2 e.symm⟩)⟩
theorem joined_no {l : List Ins} {L : Nat} {all : List Pt} {s : Pt} {i : Ins} (hb : Base l L all) (hs : Reach l L s) (hi : l[s.at_]? = some i) (h : (joinedP i all s).2 = false) : ¬ WT l L := by
  intro hwt
  unfold joinedP at h
  by_cases hc : all.any (clashB i s) = true
  · rw [List.any_eq_true] at hc
    obtain ⟨q, hq, hcl⟩ := hc
    have hat : s.at_ = q.at_ := by
      simp only [clashB, Bool.and_eq_true, beq_iff_eq] at hcl
      exact hcl.1.symm
    have := hwt.2 s q i hs (hb.reach q hq) hat hi
    rw [this] at hcl; cases hcl
  · rw [if_neg hc] at h
    by_cases hk : all.any (knownB s) = true
    · rw [if_pos hk] at h; cases h
    · rw [if_neg hk] at h; cases h
theorem joined_yes {l : List Ins} {L : Nat} (hw : Wf l L) {all : List Pt} {s : Pt} {i : Ins} (hb : Base l L all) (hs : Reach l L s) (ho : Okp l L s) (hi : l[s.at_]? = some i) (h : (joinedP i all s).2 = true) :
    Base l L (joinedP i all s).1 ∧ (∃ ext, (joinedP i all s).1 = all ++ ext) ∧ s ∈ (joinedP i all s).1 := by
  unfold joinedP at *
  by_cases hc : all.any (clashB i s) = true
  · rw [if_pos hc] at h; cases h
  rw [if_neg hc] at *
  have hcalm : ∀ q ∈ all, clashB i s q = false := by
    intro q hq
    cases e : clashB i s q
    · rfl
    · exact absurd (List.any_eq_true.2 ⟨q, hq, e⟩) hc
  by_cases hk : all.any (knownB s) = true
  · rw [if_pos hk]
    refine ⟨hb, ⟨[], by simp⟩, ?_⟩
    rw [List.any_eq_true] at hk
    obtain ⟨q, hq, hkn⟩ := hk
    simp only [knownB, Bool.and_eq_true, beq_iff_eq, decide_eq_true_eq] at hkn
    have h1 := hcalm q hq
    have h2 : q.st = s.st := by
      by_cases e : q.st = s.st
      · exact e
      · exfalso; simp [clashB, hkn.1, e] at h1
    have : q = s := by
      cases q; cases s
      simp only at hkn h2
      rw [hkn.1, hkn.2, h2]
    exact this ▸ hq
  · rw [if_neg hk]
    refine ⟨⟨?_, ?_, ?_, ?_, ?_⟩, ⟨[s], rfl⟩, by simp⟩
    · have := hb.first
      cases all with
      | nil => simp at this
      | cons a r => simpa using this
    · intro p hp
      rw [List.mem_append, List.mem_singleton] at hp
      rcases hp with hp | rfl
      · exact hb.reach p hp
      · exact hs
    · intro p hp
      rw [List.mem_append, List.mem_singleton] at hp
      rcases hp with hp | rfl
      · exact hb.ok p hp
      · exact ho
    · intro p hp q hq he j hj
      rw [List.mem_append, List.mem_singleton] at hp hq
      rcases hp with hp | rfl
      · rcases hq with hq | rfl
        · exact hb.calm p hp q hq he j hj
        · rw [he, hi] at hj
          cases hj
          rw [clash_comm]
          exact hcalm p hp
      · rw [hi] at hj
        cases hj
        rcases hq with hq | rfl
        · exact hcalm q hq
        · simp [clashB]
    · rw [List.map_append, List.nodup_append]
      refine ⟨hb.nodup, by simp, ?_⟩
      intro a ha b hb2 e
      simp only [List.map_cons, List.map_nil, List.mem_singleton] at hb2
      obtain ⟨q, hq, rfl⟩ := List.mem_map.1 ha
      subst hb2
      obtain ⟨e1, e2⟩ := keyN_inj hw (hb.ok q hq) ho e
      apply hk
      rw [List.any_eq_true]
      exact ⟨q, hq, by simp [knownB, e1, e2]⟩
/-- The points below k have been followed. -/
def Done (l : List Ins) (all : List Pt) (k : Nat) : Prop := ∀ j p, j < k → all[j]? = some p → ∃ ss, stepP l p = some ss ∧ ∀ s ∈ ss, s ∈ all
theorem Done.ext {l : List Ins} {all ext : List Pt} {k : Nat} (h : Done l all k) (hk : k ≤ all.length) : Done l (all ++ ext) k := by
  intro j p hj hp
  rw [List.getElem?_append_left (by omega)] at hp
  obtain ⟨ss, h1, h2⟩ := h j p hj hp
  exact ⟨ss, h1, fun s hs => List.mem_append_left _ (h2 s hs)⟩
theorem ways_end {l : List Ins} {L : Nat} {all : List Pt} (hb : Base l L all) (hd : Done l all all.length) : WT l L ∧ ∀ p, Reach l L p ↔ p ∈ all := by
  have hmem : ∀ n p, ReachN l L n p → p ∈ all := by
    intro n
    induction n with
    | zero => intro p hp; rw [show p = initP L from hp]; exact List.mem_of_getElem? hb.first
    | succ n ih =>
      rintro p ⟨q, ss, h1, h2, h3⟩
      obtain ⟨j, hj, rfl⟩ := List.getElem_of_mem (ih q h1)
      obtain ⟨ss', e1, e2⟩ := hd j _ hj (List.getElem?_eq_getElem hj)
      rw [h2] at e1
      cases e1
      exact e2 p h3
  have hiff : ∀ p, Reach l L p ↔ p ∈ all := fun p => ⟨fun ⟨n, hn⟩ => hmem n p hn, hb.reach p⟩
  refine ⟨⟨fun p hp => ?_, fun p q i hp hq he hi => ?_⟩, hiff⟩
  · obtain ⟨j, hj, rfl⟩ := List.getElem_of_mem ((hiff p).1 hp)
    obtain ⟨ss', e1, _⟩ := hd j _ hj (List.getElem?_eq_getElem hj)
    rw [e1]; simp
  · exact hb.calm p ((hiff p).1 hp) q ((hiff q).1 hq) he i hi
end Go.Proofs.YtdmdpindonghdaaDoor
namespace Go.Proofs.YtdmdpindonghdaaDoor
open Go.RowKit
theorem errOf_zero {s : ByteArray} (h : errOf s = 0) : shapedP s = true ∧ dec (textOf s) (byteAt s 1) 0 = some (codeOf s) ∧ jumpsOk (codeOf s) = true ∧ endsOk (codeOf s) = true := by
  unfold errOf at h
  cases hs : shapedP s
  · rw [hs] at h; simp at h
  · rw [hs] at h
    simp only [Bool.true_eq_false, if_false] at h
    cases hd : dec (textOf s) (byteAt s 1) 0 with
    | none => rw [hd] at h; simp at h
    | some l =>
      rw [hd] at h
      simp only at h
      have hc : codeOf s = l := by unfold codeOf; rw [hd]; rfl
      rw [hc]
      cases hj : jumpsOk l
      · rw [hj] at h; simp at h
      · cases he : endsOk l
        · rw [hj, he] at h; simp at h
        · exact ⟨rfl, rfl, rfl, rfl⟩
theorem wf_of {s : ByteArray} (h : errOf s = 0) : Wf (codeOf s) (byteAt s 1) := by
  obtain ⟨hs, hd, hj, he⟩ := errOf_zero h
  obtain ⟨⟨⟨h3, h4⟩, _⟩, h1⟩ : ((3 ≤ s.size ∧ s.size ≤ 122) ∧ byteAt s 0 = 84) ∧ byteAt s 1 ≤ 4 := by simpa [shapedP] using hs
  have hsz : (textOf s).size = s.size - 2 := by simp [textOf]
  obtain ⟨hg, hl⟩ := dec_good hd
  refine ⟨?_, by omega, h1, fun i hi => ?_, fun i hi => (hg i hi).2.1, fun i hi h => ?_, fun i hi h => ?_, he⟩
  · rcases Nat.eq_zero_or_pos (codeOf s).length with h | h
    · exfalso
      rw [List.length_eq_zero_iff.1 h] at he
      simp [endsOk, lastOp] at he
    · exact h
  · have := (hg i hi).1; omega
  · have := (hg i hi).2.2.2
    simp only [badN, Bool.or_eq_false_iff, Bool.and_eq_false_iff, decide_eq_false_iff_not, beq_eq_false_iff_ne] at this
    rcases this.1 with ⟨a, b⟩ | a
    · rcases h with h | h
      · exact absurd h a
      · exact absurd h b
    · omega
  · unfold jumpsOk at hj
    rw [List.all_eq_true] at hj
    have := hj i hi
    simp only [h, Bool.not_true, Bool.false_or, decide_eq_true_eq] at this
    exact this
/-- r is the error of the image. -/
def IsErr (s : ByteArray) (r : Nat) : Prop := (errOf s ≠ 0 ∧ r = errOf s) ∨ (errOf s = 0 ∧ WT (codeOf s) (byteAt s 1) ∧ r = 0) ∨ (errOf s = 0 ∧ ¬ WT (codeOf s) (byteAt s 1) ∧ r = 5)
theorem IsErr.unique {s : ByteArray} {r r' : Nat} (h : IsErr s r) (h' : IsErr s r') : r = r' := by
  rcases h with ⟨a, b⟩ | ⟨a, b, c⟩ | ⟨a, b, c⟩ <;> rcases h' with ⟨a', b'⟩ | ⟨a', b', c'⟩ | ⟨a', b', c'⟩
  · omega
  · exact absurd a' a
  · exact absurd a' a
  · exact absurd a a'
  · omega
  · exact absurd b b'
  · exact absurd a a'
  · exact absurd b' b
  · omega
end Go.Proofs.YtdmdpindonghdaaDoor
namespace Go.Proofs.YtdmdpindonghdaaDoor
open Go.RowKit
set_option maxRecDepth 100000 in
set_option maxHeartbeats 400000 in
theorem find_any (l : List Ins) (g cap p : Nat) (w : World) (hl : l.length ≤ 200) (hat : InsAt w g l) :
    Calls Tryd.prog 65 #[.slice (some ⟨g, 0, none⟩) l.length cap, .int .i64 p] w fun e w' => e = .returned (.int .i64 (findP p l 0)) ∧ w' = w := by
  go_enter Tryd.func65, Tryd.ntmps65
  go_wp2
  go_loop [5] (fun i => ∃ k : Nat, k ≤ l.length ∧ i = .int .i64 k ∧ findP p l 0 = findP p (l.drop k) k) (fun i => l.length - (intOf i).toNat)
  case atStart => exact ⟨0, Nat.zero_le _, rfl, by simp⟩
  case round =>
    obtain ⟨k, hk, rfl, hf⟩ := hrel
    have HF : Hid (findP p l 0 = findP p (l.drop k) k) := hf
    clear hf
    by_cases hlt : k < l.length
    · obtain ⟨h0, h1, h2⟩ := hat k hlt
      have HD : Hid (l.drop k = l[k] :: l.drop (k + 1)) := List.drop_eq_getElem_cons hlt
      by_cases hp : l[k].place = p
      · have hp' : (((l[k].place : Nat) : Int) == (p : Int)) = true := by simp; omega
        have HP : Hid (l[k].place = p) := hp
        clear hp
        go_wp2
        go_ret
        exact ⟨ret_int (by rw [HF.out, HD.out]; simp [findP, HP.out]), rfl⟩
      · have hp' : (((l[k].place : Nat) : Int) == (p : Int)) = false := by simp; omega
        go_wp2
        go_round
        case rel => exact ⟨k + 1, by omega, by go_num, by rw [HF.out, HD.out]; simp [findP, hp]⟩
        case measure => simp [intOf]; omega
    · go_wp2
      go_ret
      exact ⟨ret_int (by rw [HF.out, List.drop_of_length_le (by omega)]; simp [findP]), rfl⟩
set_option maxRecDepth 100000 in
set_option maxHeartbeats 400000 in
theorem behind_any (t : ByteArray) (p locals : Nat) (w : World) (hs : t.size ≤ 200) (hp : p < t.size) (hl : locals ≤ 4) (htab : TakesTab w) :
    Calls Tryd.prog 64 #[.string t, .int .i64 p, .int .i64 locals] w fun e w' => e = .returned (.tuple #[.int .i64 ((behindP t p locals).1 : Nat), .int .i64 ((behindP t p locals).2 : Nat)]) ∧ w' = w := by
  have hc := byteAt_eq t p hp
  have hc2 := byteAt_lt t p
  have hd := byteAt_eq t (p + 1)
  have hd2 := byteAt_lt t (p + 1)
  generalize hB : behindP t p locals = B
  have HB : Hid (behindP t p locals = B) := hB
  clear hB
  unfold behindP at HB
  generalize byteAt t p = c at *
  generalize byteAt t (p + 1) = n at *
  have hw := wrapb c hc2
  have hw2 := wrapb n hd2
  by_cases h24 : 24 < c
  · have HE : Hid ((0, 0) = B) := hid (by rw [← HB.out]; simp [behindQ, h24])
    clear HB htab hd hd2 hw2
    go_enter Tryd.func64, Tryd.ntmps64
    go_wp2
    go_ret2
    exact ⟨ret2 (by rw [← HE.out]; rfl) (by rw [← HE.out]; rfl), rfl⟩
  have hk := htab c (by omega)
  clear htab
  cases htk : takesB c
  · have HE : Hid ((p + 1, 0) = B) := hid (by rw [← HB.out]; simp [behindQ, h24, htk])
    rw [htk] at hk
    clear HB hd hd2 hw2 htk
    go_enter Tryd.func64, Tryd.ntmps64
    go_wp2
    go_ret2
    exact ⟨ret2 (by rw [← HE.out]; simp) (by rw [← HE.out]; rfl), rfl⟩
  rw [htk] at hk
  by_cases hsz : t.size ≤ p + 1
  · have HE : Hid ((0, 0) = B) := hid (by rw [← HB.out]; simp [behindQ, h24, htk, hsz])
    clear HB hd hd2 hw2 htk
    go_enter Tryd.func64, Tryd.ntmps64
    go_wp2
    go_ret2
    exact ⟨ret2 (by rw [← HE.out]; rfl) (by rw [← HE.out]; rfl), rfl⟩
  have hd' := hd (by omega)
  clear hd
  have HE : Hid ((if badN c n locals = true then (0, 0) else (p + 2, n)) = B) := hid (by rw [← HB.out]; simp [behindQ, h24, htk, hsz])
  clear HB htk
  have hl' : (locals : Int) ≤ 4 := by omega
  go_enter Tryd.func64, Tryd.ntmps64
  go_wp2
  all_goals go_ret2
  all_goals
    first
    | (have e1 : badN c n locals = true := by (simp [badN]; omega)
       have h1 := HE.out
       rw [if_pos e1] at h1
       exact ⟨ret2 (by rw [← h1]; simp) (by rw [← h1]; simp), rfl⟩)
    | (have e1 : badN c n locals = false := by (simp [badN]; omega)
       have h1 := HE.out
       rw [if_neg (by simp [e1])] at h1
       exact ⟨ret2 (by rw [← h1]; simp) (by rw [← h1]), rfl⟩)
end Go.Proofs.YtdmdpindonghdaaDoor
namespace Go.Proofs.YtdmdpindonghdaaDoor
open Go.RowKit
theorem Tryd.infoIns : (Tryd.prog.info? 129).map (fun i => (i.zero, i.size, i.bytes)) = some (some (.agg #[.int .i64 0, .int .i64 0, .int .i64 0]), 3, 24) := by kernel_rfl
theorem jumpsOk_false {ls : List Ins} {k : Nat} (h : k < ls.length) (hj : ls[k].op = 19 ∨ ls[k].op = 20) (hf : findP ls[k].n ls 0 < 0) : jumpsOk ls = false := by
  unfold jumpsOk
  rw [List.all_eq_false]
  refine ⟨ls[k], List.getElem_mem h, ?_⟩
  simp [isJump]
  exact ⟨fun h => hj.resolve_left h, hf⟩
theorem jumpsOk_true {ls : List Ins} (h : ∀ j (h : j < ls.length), isJump ls[j].op = false ∨ 0 ≤ findP ls[j].n ls 0) : jumpsOk ls = true := by
  unfold jumpsOk
  rw [List.all_eq_true]
  intro i hi
  obtain ⟨j, hj, rfl⟩ := List.getElem_of_mem hi
  rcases h j hj with h | h
  · simp [h]
  · simp [h]
theorem lastOp_eq {ls : List Ins} (h : 0 < ls.length) : lastOp ls = (ls[ls.length - 1]'(by omega)).op := by
  unfold lastOp
  rw [List.getLast?_eq_getElem?, List.getElem?_eq_getElem (by omega)]
  rfl
def CodePost (s : ByteArray) (w : World) (e : Ending) (w' : World) : Prop :=
  Below w.heap.size w w' ∧ ((errOf s ≠ 0 ∧ e = .returned (.tuple #[.slice none 0 0, .int .i64 0, .int .i64 (errOf s : Nat)])) ∨
    (errOf s = 0 ∧ ∃ g cap, e = .returned (.tuple #[.slice (some ⟨g, 0, none⟩) (codeOf s).length cap, .int .i64 (byteAt s 1 : Nat), .int .i64 0]) ∧ w.heap.size ≤ g ∧ g < w'.heap.size ∧ InsAt w' g (codeOf s)))
theorem codePost_err {s : ByteArray} {w w' : World} {k : Nat} (hb : Below w.heap.size w w') (he : errOf s = k) (hk : k ≠ 0) {z : Int} (hz : z = (k : Int)) : CodePost s w (.returned (.tuple #[.slice none 0 0, .int .i64 0, .int .i64 z])) w' := by
  subst he; subst hz; exact ⟨hb, .inl ⟨hk, rfl⟩⟩
theorem codePost_ok {s : ByteArray} {w w' : World} {L g cap n : Nat} {ls : List Ins} (hb : Below w.heap.size w w') (he : errOf s = 0) (hL : byteAt s 1 = L) (hc : codeOf s = ls) (hn : ls.length = n) (h1 : w.heap.size ≤ g) (h2 : g < w'.heap.size) (h3 : InsAt w' g ls) :
    CodePost s w (.returned (.tuple #[.slice (some ⟨g, 0, none⟩) n cap, .int .i64 (L : Nat), .int .i64 0])) w' := by
  subst hL; subst hc; subst hn; exact ⟨hb, .inr ⟨he, g, cap, rfl, h1, h2, h3⟩⟩
set_option maxRecDepth 100000 in
set_option maxHeartbeats 1000000 in
theorem code_shaped (s : ByteArray) (w : World) (htab : TakesTab w) (hsh : shapedP s = true) :
    Calls Tryd.prog 39 #[.string s] w (CodePost s w) := by
  obtain ⟨i0, hi0, hz0, hz1, hz2⟩ := info_parts Tryd.infoIns
  obtain ⟨⟨⟨h3, h4⟩, h0⟩, h1⟩ : ((3 ≤ s.size ∧ s.size ≤ 122) ∧ byteAt s 0 = 84) ∧ byteAt s 1 ≤ 4 := by simpa [shapedP] using hsh
  have hsz : (textOf s).size = s.size - 2 := by simp [textOf]
  have e0 := byteAt_eq s 0 (by omega)
  have e1 := byteAt_eq s 1 (by omega)
  rw [h0] at e0
  have HB : Hid (errOf s = match dec (textOf s) (byteAt s 1) 0 with
    | none => 2
    | some l => if jumpsOk l = false then 3 else if endsOk l = false then 4 else 0) := hid (by unfold errOf; rw [hsh]; rfl)
  have HC : Hid (codeOf s = (dec (textOf s) (byteAt s 1) 0).getD []) := hid rfl
  generalize hL : byteAt s 1 = L at *
  have HL := hid hL
  clear hsh h0 hL
  have HT : Hid (textOf s = s.extract 2 s.size) := hid rfl
  have d1 : decide ((s.size : Int) < 3) = false := by simp; omega
  have d2 : decide (122 < (s.size : Int)) = false := by simp; omega
  have d3 : decide (4 < (L : Int)) = false := by simp; omega
  have t1 : 1 ≤ (textOf s).size := by omega
  have t2 : (textOf s).size ≤ 120 := by omega
  clear hsz
  go_enter Tryd.func39, Tryd.ntmps39
  go_wp2_with fail
  rw [← HT.out]
  generalize textOf s = t at *
  clear HT
  go_loopw [7, 8] (fun l p w' => ∃ (pn : Nat) (ls : List Ins), pn ≤ t.size ∧ p = .int .i64 pn ∧ w'.ownsRow w.heap.size 129 3 l ls.length (insCells ls) ∧ Below w.heap.size w w' ∧ dec t L 0 = (dec t L pn).map (ls ++ ·) ∧ ls.length ≤ pn) (fun _ p _ => t.size - (intOf p).toNat)
  case atStart => exact ⟨0, [], by omega, rfl, World.ownsRow_nil _ _ _ _, Below.refl _ _, by simp, by simp⟩
  case round =>
    obtain ⟨pn, ls, hpn, rfl, hown, hbel, hdec, hlen⟩ := hrel
    have HDEC := hid hdec
    clear hdec
    have hsize := hbel.size
    by_cases hlt : pn < t.size
    · have htab' := htab.below hbel
      have c0 := byteAt_eq t pn hlt
      have c1 := byteAt_lt t pn
      by_cases hq : (behindP t pn L).1 = 0
      · have HD := hid (dec_none t L pn hlt hq)
        have hq' : (((behindP t pn L).1 : Nat) : Int) = 0 := by omega
        clear hq
        go_wp2_with (go_at_call 64; refine (behind_any _ _ _ _ (by omega) hlt (by omega) htab').mono ?_; rintro e w2 ⟨rfl, rfl⟩)
        go_ret3
        exact codePost_err (k := 2) hbel (by have h := HB.out; rw [HDEC.out, HD.out] at h; exact h) (by decide) rfl
      · have hgt := behindP_gt t pn L hlt hq
        have HD := hid (dec_some t L pn hlt hq)
        have hbh := hid (behind_any t pn L wr (by omega) hlt (by omega) htab')
        generalize behindP t pn L = B at *
        obtain ⟨q, n⟩ := B
        simp only at hgt hq HD hbh
        obtain ⟨g1, g2, g3⟩ := hgt
        have q0 : (((q : Nat) : Int) == 0) = false := by simp; omega
        go_wp2_with fail
        refine hbh.out.mono ?_
        clear hbh
        rintro e w2 ⟨rfl, rfl⟩
        go_wp2_with (at_builtin; go_loud (refine wpList_append_lies _ (by rfl) _ _ _ (by rfl) w.heap.size 129 i0 _ 3 24 Tryd.underlying84 hi0 hz0 hz1 hz2 rfl (by omega) _ ls.length (insCells ls) (by rfl) (hown.alloc _) ⟨_, 0, none⟩ 1 1 [.int .i64 (byteAt t pn : Nat), .int .i64 n, .int .i64 pn] (by rfl) (by rfl) (World.news_of_block (cs := #[.int .i64 (byteAt t pn : Nat), .int .i64 n, .int .i64 pn]) (t := 129) (fr := (0, 0)) (heap_alloc_new _ _)) (by simp [Value.oneCell']) (by omega) (by unfold maxLen; omega) (by omega) (by simp; omega) _ rfl ?_); intro gg cap w1 hown1 hgrow hat hlt2)
        refine ⟨⟨q, ls ++ [⟨byteAt t pn, n, pn⟩], g2, rfl, by rw [insCells_snoc, List.length_append]; exact hown1, (hbel.alloc hsize _).grown hgrow (by simp; omega) (fun k hk => (hown.lt k hk).1), ?_, by simp; omega⟩, by simp [intOf]; omega⟩
        rw [HDEC.out, HD.out]
        cases dec t L q <;> simp
    · have HD := hid (dec_end t L pn (by omega))
      have hne : 0 < ls.length := by
        rcases Nat.eq_zero_or_pos ls.length with h | h
        · exfalso
          have h' := HDEC.out
          rw [HD.out, List.length_eq_zero_iff.1 h] at h'
          by_cases hq : (behindP t 0 L).1 = 0
          · rw [dec_none t L 0 (by omega) hq] at h'; cases h'
          · rw [dec_some t L 0 (by omega) hq] at h'
            cases hx : dec t L (behindP t 0 L).1 with
            | none => rw [hx] at h'; cases h'
            | some r => rw [hx] at h'; cases h'
        · exact h
      have HDEC2 : Hid (dec t L 0 = some ls) := hid (by rw [HDEC.out, HD.out]; simp)
      clear HDEC HD
      obtain ⟨g, cap, rfl, hg1, hg2⟩ := hown.form hne
      have hat := InsAt.of_owns hown
      have hlen2 : ls.length ≤ 120 := by omega
      clear hown hpn hlen
      go_wp2_with fail
      go_loopw [11] (fun i w' => ∃ (k : Nat), k ≤ ls.length ∧ i = .int .i64 k ∧ w' = wr ∧ ∀ j (h : j < ls.length), j < k → isJump ls[j].op = false ∨ 0 ≤ findP ls[j].n ls 0) (fun i _ => ls.length - (intOf i).toNat)
      case atStart => exact ⟨0, by omega, rfl, rfl, fun j _ h => by omega⟩
      case round =>
        obtain ⟨k, hk, rfl, hweq, hall⟩ := hrel
        subst hweq
        have HA := hid hall
        clear hall
        by_cases hkl : k < ls.length
        · obtain ⟨a0, a1, a2⟩ := hat k hkl
          have hfd := hid (find_any ls g cap ls[k].n wr (by omega) hat)
          go_wp2_with (go_at_call 65; go_must (refine hfd.out.mono ?_); rintro e w2 ⟨rfl, rfl⟩)
          all_goals
            first
            | (go_ret3
               exact codePost_err (k := 3) hbel (by have h := HB.out; rw [HDEC2.out] at h; simpa [jumpsOk_false hkl (by omega) (by omega)] using h) (by decide) rfl)
            | (refine ⟨⟨k + 1, by omega, by go_num, by first | rfl | trivial, fun j hj hjk => ?_⟩, by simp [intOf]; omega⟩
               rcases Nat.lt_or_ge j k with hlt2 | hge2
               · exact HA.out j hj hlt2
               · have : j = k := by omega
                 subst this
                 first
                 | (right; omega)
                 | (left; simp [isJump]; omega))
        · have HJ := hid (jumpsOk_true (ls := ls) fun j h => HA.out j h (by omega))
          have hlo := hid (lastOp_eq hne)
          obtain ⟨a0, a1, a2⟩ := hat (ls.length - 1) (by omega)
          have HEnd : Hid (errOf s = if endsOk ls = false then 4 else 0) := hid (by
            have h := HB.out
            rw [HDEC2.out] at h
            simpa [HJ.out] using h)
          have HCode : Hid (codeOf s = ls) := hid (by rw [HC.out, HDEC2.out]; rfl)
          by_cases hx0 : ls[ls.length - 1].op = 0
          · have hy0 : (((ls[ls.length - 1].op : Nat) : Int) != 0) = false := by simp; omega
            have HE2 : Hid (errOf s = 0) := hid (by rw [HEnd.out]; simp [endsOk, hlo.out, hx0])
            clear HEnd
            go_wp2_with fail
            go_ret3
            exact codePost_ok hbel HE2.out HL.out HCode.out rfl hg1 hg2 hat
          · have hy0 : (((ls[ls.length - 1].op : Nat) : Int) != 0) = true := by simp; omega
            by_cases hx1 : ls[ls.length - 1].op = 19
            · have hy1 : (((ls[ls.length - 1].op : Nat) : Int) != 19) = false := by simp; omega
              have HE2 : Hid (errOf s = 0) := hid (by rw [HEnd.out]; simp [endsOk, hlo.out, hx1])
              clear HEnd hx1 hx0
              go_wp2_with fail
              go_ret3
              exact codePost_ok hbel HE2.out HL.out HCode.out rfl hg1 hg2 hat
            · have hy1 : (((ls[ls.length - 1].op : Nat) : Int) != 19) = true := by simp; omega
              have HE2 : Hid (errOf s = 4) := hid (by rw [HEnd.out]; simp [endsOk, hlo.out, hx1, hx0])
              clear HEnd hx1 hx0
              go_wp2_with fail
              go_ret3
              exact codePost_err hbel HE2.out (by decide) rfl
set_option maxRecDepth 100000 in
set_option maxHeartbeats 400000 in
theorem code_unshaped (s : ByteArray) (w : World) (hs : s.size ≤ maxLen) (hsh : shapedP s = false) :
    Calls Tryd.prog 39 #[.string s] w (CodePost s w) := by
  unfold maxLen at hs
  have HE : Hid (errOf s = 1) := hid (by simp [errOf, hsh])
  have b0 := byteAt_lt s 0
  have b1 := byteAt_lt s 1
  by_cases h3 : s.size < 3
  · clear hsh
    go_enter Tryd.func39, Tryd.ntmps39
    go_wp2_with fail
    go_ret3
    exact codePost_err (Below.refl _ _) HE.out (by decide) rfl
  by_cases h4 : 122 < s.size
  · clear hsh
    go_enter Tryd.func39, Tryd.ntmps39
    go_wp2_with fail
    go_ret3
    exact codePost_err (Below.refl _ _) HE.out (by decide) rfl
  have e0 := byteAt_eq s 0 (by omega)
  have e1 := byteAt_eq s 1 (by omega)
  by_cases h5 : byteAt s 0 = 84
  · have h6 : 4 < byteAt s 1 := by
      simp [shapedP] at hsh
      exact hsh (by omega) (by omega) h5
    clear hsh
    rw [h5] at e0
    have d1 : decide ((s.size : Int) < 3) = false := by simp; omega
    have d2 : decide (122 < (s.size : Int)) = false := by simp; omega
    clear h5
    go_enter Tryd.func39, Tryd.ntmps39
    go_wp2_with fail
    go_ret3
    exact codePost_err (Below.refl _ _) HE.out (by decide) rfl
  · have d1 : decide ((s.size : Int) < 3) = false := by simp; omega
    have d2 : decide (122 < (s.size : Int)) = false := by simp; omega
    have h7 : (((byteAt s 0 : Nat) : Int) != 84) = true := by simp; omega
    clear hsh
    go_enter Tryd.func39, Tryd.ntmps39
    go_wp2_with fail
    go_ret3
    exact codePost_err (Below.refl _ _) HE.out (by decide) rfl
theorem code_any (s : ByteArray) (w : World) (hs : s.size ≤ maxLen) (htab : TakesTab w) :
    Calls Tryd.prog 39 #[.string s] w (CodePost s w) := by
  cases hsh : shapedP s
  · exact code_unshaped s w hs hsh
  · exact code_shaped s w htab hsh
end Go.Proofs.YtdmdpindonghdaaDoor
namespace Go.Proofs.YtdmdpindonghdaaDoor
open Go.RowKit
theorem three_new_r (w : World) (a b c : Obj) : Below w.heap.size w (((w.alloc a).alloc b).alloc c) :=
  (((Below.refl _ _).alloc (Nat.le_refl _) _).alloc (by simp) _).alloc (by simp; omega) _
theorem three_new_r_drew (w : World) (a b c : Obj) : Below w.heap.size w ((((w.alloc a).alloc b).alloc c).drew) := (three_new_r w a b c).drew
set_option maxRecDepth 100000 in
set_option maxHeartbeats 400000 in
theorem after_load (a n pl : Nat) (lo st : ByteArray) (w : World) (h1 : lo.size ≤ 4) (h2 : st.size ≤ 8) (h3 : n < lo.size) :
    Calls Tryd.prog 66 #[.agg #[.int .i64 a, .string lo, .string st], .agg #[.int .i64 (7 : Nat), .int .i64 n, .int .i64 pl]] w (AfterPost a lo st 7 n w) := by
  go_enter Tryd.func66, Tryd.ntmps66
  go_wp2
  exact bodyPost_ret (v := .tuple #[.agg #[.int .i64 a, .string lo, .string (st ++ lo.extract n (n + 1))], .bool true]) (by simp [results, Tryd.results66, go_sem]) rfl (afterPost_mk (three_new_r _ _ _ _) rfl)
set_option maxRecDepth 100000 in
set_option maxHeartbeats 400000 in
theorem after_store (a n pl : Nat) (lo st : ByteArray) (w : World) (h1 : lo.size ≤ 4) (h2 : st.size ≤ 8) (h3 : n < lo.size) (hk : 1 ≤ st.size) :
    Calls Tryd.prog 66 #[.agg #[.int .i64 a, .string lo, .string st], .agg #[.int .i64 (8 : Nat), .int .i64 n, .int .i64 pl]] w (AfterPost a lo st 8 n w) := by
  have hn0 : (0 : Int) ≤ (n : Int) := by omega
  have hn1 : (n : Int) + 1 ≤ (lo.size : Int) := by omega
  have hn2 : (n : Int) ≤ (lo.size : Int) := by omega
  have hs0 : (0 : Int) ≤ (st.size : Int) - 1 := by omega
  have hs1 : (st.size : Int) - 1 ≤ (st.size : Int) := by omega
  have d1 : decide ((st.size : Int) < 1) = false := by simp; omega
  have HE : Hid (afterV lo st 8 n = (lo.extract 0 n ++ st.extract (st.size - 1) st.size ++ lo.extract (n + 1) lo.size, st.extract 0 (st.size - 1), true)) := hid (by
    unfold afterV; rw [if_neg (by decide), if_pos rfl, if_neg (by omega)])
  go_enter Tryd.func66, Tryd.ntmps66
  go_wp2
  go_region
  all_goals go_wp2
  exact bodyPost_ret (v := .tuple #[.agg #[.int .i64 a, .string (lo.extract 0 n ++ st.extract (st.size - 1) st.size ++ lo.extract (n + 1) lo.size), .string (st.extract 0 (st.size - 1))], .bool true]) (by simp [results, Tryd.results66, go_sem]) rfl (afterPost_mk (three_new_r_drew _ _ _ _) HE.out)
set_option maxRecDepth 100000 in
set_option maxHeartbeats 400000 in
theorem after_dup (a n pl : Nat) (lo st : ByteArray) (w : World) (h2 : st.size ≤ 8) (hk : 1 ≤ st.size) :
    Calls Tryd.prog 66 #[.agg #[.int .i64 a, .string lo, .string st], .agg #[.int .i64 (9 : Nat), .int .i64 n, .int .i64 pl]] w (AfterPost a lo st 9 n w) := by
  have HE : Hid (afterV lo st 9 n = (lo, st ++ st.extract (st.size - 1) st.size, true)) := hid (by
    unfold afterV; rw [if_neg (by decide), if_neg (by decide), if_pos rfl, if_neg (by omega)])
  go_enter Tryd.func66, Tryd.ntmps66
  go_wp2
  exact bodyPost_ret (v := .tuple #[.agg #[.int .i64 a, .string lo, .string (st ++ st.extract (st.size - 1) st.size)], .bool true]) (by simp [results, Tryd.results66, go_sem]) rfl (afterPost_mk (three_new_r _ _ _ _) HE.out)
set_option maxRecDepth 100000 in
set_option maxHeartbeats 400000 in
theorem after_drop (a n pl : Nat) (lo st : ByteArray) (w : World) (h2 : st.size ≤ 8) (hk : 1 ≤ st.size) :
    Calls Tryd.prog 66 #[.agg #[.int .i64 a, .string lo, .string st], .agg #[.int .i64 (10 : Nat), .int .i64 n, .int .i64 pl]] w (AfterPost a lo st 10 n w) := by
  have HE : Hid (afterV lo st 10 n = (lo, st.extract 0 (st.size - 1), true)) := hid (by
    unfold afterV; rw [if_neg (by decide), if_neg (by decide), if_neg (by decide), if_pos rfl, if_neg (by omega)])
  go_enter Tryd.func66, Tryd.ntmps66
  go_wp2
  exact bodyPost_ret (v := .tuple #[.agg #[.int .i64 a, .string lo, .string (st.extract 0 (st.size - 1))], .bool true]) (by simp [results, Tryd.results66, go_sem]) rfl (afterPost_mk (three_new_r _ _ _ _) HE.out)
set_option maxRecDepth 100000 in
set_option maxHeartbeats 400000 in
theorem after_swap (a n pl : Nat) (lo st : ByteArray) (w : World) (h2 : st.size ≤ 8) (hk : 2 ≤ st.size) :
    Calls Tryd.prog 66 #[.agg #[.int .i64 a, .string lo, .string st], .agg #[.int .i64 (11 : Nat), .int .i64 n, .int .i64 pl]] w (AfterPost a lo st 11 n w) := by
  have hs0 : (0 : Int) ≤ (st.size : Int) - 2 := by omega
  have hs1 : (st.size : Int) - 2 ≤ (st.size : Int) - 1 := by omega
  have hs2 : (st.size : Int) - 1 ≤ (st.size : Int) := by omega
  have d1 : decide ((st.size : Int) < 2) = false := by simp; omega
  have HE : Hid (afterV lo st 11 n = (lo, st.extract 0 (st.size - 2) ++ st.extract (st.size - 1) st.size ++ st.extract (st.size - 2) (st.size - 1), true)) := hid (by
    unfold afterV; rw [if_neg (by decide), if_neg (by decide), if_neg (by decide), if_neg (by decide), if_pos rfl, if_neg (by omega)])
  go_enter Tryd.func66, Tryd.ntmps66
  go_wp2
  go_region
  all_goals go_wp2
  exact bodyPost_ret (v := .tuple #[.agg #[.int .i64 a, .string lo, .string (st.extract 0 (st.size - 2) ++ st.extract (st.size - 1) st.size ++ st.extract (st.size - 2) (st.size - 1))], .bool true]) (by simp [results, Tryd.results66, go_sem]) rfl (afterPost_mk (three_new_r_drew _ _ _ _) HE.out)
set_option maxRecDepth 100000 in
set_option maxHeartbeats 400000 in
theorem after_short (a op n pl : Nat) (lo st : ByteArray) (w : World) (h2 : st.size ≤ 8) (hk : op = 8 ∧ st.size < 1 ∨ op = 9 ∧ st.size < 1 ∨ op = 10 ∧ st.size < 1 ∨ op = 11 ∧ st.size < 2) :
    Calls Tryd.prog 66 #[.agg #[.int .i64 a, .string lo, .string st], .agg #[.int .i64 op, .int .i64 n, .int .i64 pl]] w (AfterPost a lo st op n w) := by
  have HE : Hid (afterV lo st op n = (lo, st, false)) := hid (by
    unfold afterV
    rcases hk with ⟨rfl, h⟩ | ⟨rfl, h⟩ | ⟨rfl, h⟩ | ⟨rfl, h⟩ <;> simp [h])
  rcases hk with ⟨rfl, h⟩ | ⟨rfl, h⟩ | ⟨rfl, h⟩ | ⟨rfl, h⟩
  all_goals
    go_enter Tryd.func66, Tryd.ntmps66
    go_wp2
    exact bodyPost_ret (v := .tuple #[.agg #[.int .i64 a, .string lo, .string st], .bool false]) (by simp [results, Tryd.results66, go_sem]) rfl (afterPost_mk (three_new_r _ _ _ _) HE.out)
theorem after_eqs (op : Nat) (hne : op ≠ 7 ∧ op ≠ 8 ∧ op ≠ 9 ∧ op ≠ 10 ∧ op ≠ 11) : ((op : Int) == 7) = false ∧ ((op : Int) == 8) = false ∧ ((op : Int) == 9) = false ∧ ((op : Int) == 10) = false ∧ ((op : Int) == 11) = false := by
  simp only [beq_eq_false_iff_ne]; omega
set_option maxRecDepth 100000 in
set_option maxHeartbeats 400000 in
theorem after_few (a op n pl : Nat) (lo st : ByteArray) (w : World) (hop : op < 25) (hne : op ≠ 7 ∧ op ≠ 8 ∧ op ≠ 9 ∧ op ≠ 10 ∧ op ≠ 11) (htab : TypeTab w) (hk : st.size < (popsS op).size) :
    Calls Tryd.prog 66 #[.agg #[.int .i64 a, .string lo, .string st], .agg #[.int .i64 op, .int .i64 n, .int .i64 pl]] w (AfterPost a lo st op n w) := by
  have HE : Hid (afterV lo st op n = (lo, st, false)) := hid (by
    unfold afterV
    simp [hne, hk])
  obtain ⟨c1, c2⟩ := htab op hop
  obtain ⟨q1, q2, q3, q4, q5⟩ := after_eqs op hne
  have hps := popsS_size op
  have l2 := World.block_lt_of_cell? w _ c2
  have l1 := World.block_lt_of_cell? w _ c1
  have l0 : 0 < w.heap.size := by omega
  clear htab hne
  generalize popsS op = P at *
  go_enter Tryd.func66, Tryd.ntmps66
  go_wp2
  exact bodyPost_ret (v := .tuple #[.agg #[.int .i64 a, .string lo, .string st], .bool false]) (by simp [results, Tryd.results66, go_sem]) rfl (afterPost_mk (three_new_r _ _ _ _) HE.out)
set_option maxRecDepth 100000 in
set_option maxHeartbeats 400000 in
theorem after_wrong (a op n pl : Nat) (lo st : ByteArray) (w : World) (h2 : st.size ≤ 8) (hop : op < 25) (hne : op ≠ 7 ∧ op ≠ 8 ∧ op ≠ 9 ∧ op ≠ 10 ∧ op ≠ 11) (htab : TypeTab w) (hk : (popsS op).size ≤ st.size) (hx : st.extract (st.size - (popsS op).size) st.size ≠ popsS op) :
    Calls Tryd.prog 66 #[.agg #[.int .i64 a, .string lo, .string st], .agg #[.int .i64 op, .int .i64 n, .int .i64 pl]] w (AfterPost a lo st op n w) := by
  have HE : Hid (afterV lo st op n = (lo, st, false)) := hid (by
    unfold afterV
    simp [hne, hx])
  obtain ⟨c1, c2⟩ := htab op hop
  obtain ⟨q1, q2, q3, q4, q5⟩ := after_eqs op hne
  have hps := popsS_size op
  have l2 := World.block_lt_of_cell? w _ c2
  have l1 := World.block_lt_of_cell? w _ c1
  have l0 : 0 < w.heap.size := by omega
  clear htab hne
  generalize popsS op = P at *
  have hx' := str_ne hx
  clear hx
  go_enter Tryd.func66, Tryd.ntmps66
  go_wp2
  exact bodyPost_ret (v := .tuple #[.agg #[.int .i64 a, .string lo, .string st], .bool false]) (by simp [results, Tryd.results66, go_sem]) rfl (afterPost_mk (three_new_r _ _ _ _) HE.out)
set_option maxRecDepth 100000 in
set_option maxHeartbeats 400000 in
theorem after_right (a op n pl : Nat) (lo st : ByteArray) (w : World) (h2 : st.size ≤ 8) (hop : op < 25) (hne : op ≠ 7 ∧ op ≠ 8 ∧ op ≠ 9 ∧ op ≠ 10 ∧ op ≠ 11) (htab : TypeTab w) (hk : (popsS op).size ≤ st.size) (hx : st.extract (st.size - (popsS op).size) st.size = popsS op) :
    Calls Tryd.prog 66 #[.agg #[.int .i64 a, .string lo, .string st], .agg #[.int .i64 op, .int .i64 n, .int .i64 pl]] w (AfterPost a lo st op n w) := by
  have HE : Hid (afterV lo st op n = (lo, st.extract 0 (st.size - (popsS op).size) ++ pushesS op, true)) := hid (by
    unfold afterV
    simp [hne, hx]; omega)
  obtain ⟨c1, c2⟩ := htab op hop
  obtain ⟨q1, q2, q3, q4, q5⟩ := after_eqs op hne
  have hps := popsS_size op
  have hpu := pushesS_size op
  have l2 := World.block_lt_of_cell? w _ c2
  have l1 := World.block_lt_of_cell? w _ c1
  have l0 : 0 < w.heap.size := by omega
  clear htab hne
  generalize popsS op = P at *
  generalize pushesS op = R at *
  have hx' := str_eq hx
  clear hx
  go_enter Tryd.func66, Tryd.ntmps66
  go_wp2
  go_region
  all_goals go_wp2
  exact bodyPost_ret (v := .tuple #[.agg #[.int .i64 a, .string lo, .string (st.extract 0 (st.size - P.size) ++ R)], .bool true]) (by simp [results, Tryd.results66, go_sem]) rfl (afterPost_mk (three_new_r_drew _ _ _ _) HE.out)
theorem after_any (a op n pl : Nat) (lo st : ByteArray) (w : World) (h1 : lo.size ≤ 4) (h2 : st.size ≤ 8) (hop : op < 25) (hn : op = 7 ∨ op = 8 → n < lo.size) (htab : TypeTab w) :
    Calls Tryd.prog 66 #[.agg #[.int .i64 a, .string lo, .string st], .agg #[.int .i64 op, .int .i64 n, .int .i64 pl]] w (AfterPost a lo st op n w) := by
  by_cases e7 : op = 7
  · subst e7; exact after_load a n pl lo st w h1 h2 (hn (.inl rfl))
  by_cases e8 : op = 8
  · by_cases hk : 1 ≤ st.size
    · subst e8; exact after_store a n pl lo st w h1 h2 (hn (.inr rfl)) hk
    · exact after_short a op n pl lo st w h2 (.inl ⟨e8, by omega⟩)
  by_cases e9 : op = 9
  · by_cases hk : 1 ≤ st.size
    · subst e9; exact after_dup a n pl lo st w h2 hk
    · exact after_short a op n pl lo st w h2 (.inr (.inl ⟨e9, by omega⟩))
  by_cases e10 : op = 10
  · by_cases hk : 1 ≤ st.size
    · subst e10; exact after_drop a n pl lo st w h2 hk
    · exact after_short a op n pl lo st w h2 (.inr (.inr (.inl ⟨e10, by omega⟩)))
  by_cases e11 : op = 11
  · by_cases hk : 2 ≤ st.size
    · subst e11; exact after_swap a n pl lo st w h2 hk
    · exact after_short a op n pl lo st w h2 (.inr (.inr (.inr ⟨e11, by omega⟩)))
  by_cases hk : st.size < (popsS op).size
  · exact after_few a op n pl lo st w hop ⟨e7, e8, e9, e10, e11⟩ htab hk
  by_cases hx : st.extract (st.size - (popsS op).size) st.size = popsS op
  · exact after_right a op n pl lo st w h2 hop ⟨e7, e8, e9, e10, e11⟩ htab (by omega) hx
  · exact after_wrong a op n pl lo st w h2 hop ⟨e7, e8, e9, e10, e11⟩ htab (by omega) hx
end Go.Proofs.YtdmdpindonghdaaDoor
namespace Go.Proofs.YtdmdpindonghdaaDoor
open Go.RowKit
theorem box_cells {w wr : World} {c : Array Value} {t : TypeId} (hb : Below (w.heap.size + 1) (w.alloc (.cells c t)) wr) :
    (∀ o, wr.cell? ⟨w.heap.size, o, none⟩ = c[o]?) ∧ (∀ b o, b < w.heap.size → wr.cell? ⟨b, o, none⟩ = w.cell? ⟨b, o, none⟩) ∧ w.heap.size + 1 ≤ wr.heap.size := by
  refine ⟨fun o => ?_, fun b o h => ?_, ?_⟩
  · rw [hb.cell (p := ⟨w.heap.size, o, none⟩) (by simp)]; simp
  · rw [hb.cell (p := ⟨b, o, none⟩) (by simp; omega), World.cell?_alloc_past _ _ _ h]
  · have := hb.size; simpa using this
theorem box_below {w wr : World} {o : Obj} {base : Nat} (hbase : base ≤ w.heap.size) (hb : Below (w.heap.size + 1) (w.alloc o) wr) : Below base w wr :=
  ((Below.refl base w).alloc hbase o).trans (hb.mono (by omega))
theorem heap_two_new (w : World) (a b : Obj) : ((w.alloc a).alloc b).heap[w.heap.size + 1]? = some b := by
  have h := heap_alloc_new (w.alloc a) b
  have e : (w.alloc a).heap.size = w.heap.size + 1 := by simp
  rw [e] at h
  exact h
theorem setCell_row {w : World} {b : Nat} {cs : Array Value} {t : TypeId} {fr : Nat × Nat} (j : Nat) (v : Value) (h : w.heap[b]? = some (.cells cs t fr)) : (w.setCell ⟨b, j, none⟩ v).heap[b]? = some (.cells (cs.setIfInBounds j v) t fr) := by
  simp [World.setCell, Array.getElem?_modify, h]
theorem owns_set {w : World} {base e size n : Nat} {v : Value} {xs : List Value} {a : Addr} (h : w.ownsRow base e size v n xs) (hne : v.ownBlock ≠ some a.block) (u : Value) : (w.setCell a u).ownsRow base e size v n xs := by
  refine ⟨h.1, ?_⟩
  rcases h.2 with h2 | ⟨g, cap, cur, hv, hg, hh, r⟩
  · exact .inl h2
  · refine .inr ⟨g, cap, cur, hv, hg, ?_, r⟩
    rw [Below.heap_setCell _ _ _ _ (fun e => hne (by rw [hv, ← e]; rfl))]
    exact hh
theorem heap_set_new (w : World) (a : Addr) (v : Value) (o : Obj) : ((w.setCell a v).alloc o).heap[w.heap.size]? = some o := by
  have h := heap_alloc_new (w.setCell a v) o
  have e : (w.setCell a v).heap.size = w.heap.size := by simp [World.setCell]
  rw [e] at h
  exact h
end Go.Proofs.YtdmdpindonghdaaDoor
namespace Go.Proofs.YtdmdpindonghdaaDoor
open Go.RowKit
theorem Tryd.infoPt : (Tryd.prog.info? 132).map (fun i => (i.zero, i.size, i.bytes)) = some (some (.agg #[.int .i64 0, .string ⟨#[]⟩, .string ⟨#[]⟩]), 3, 40) := by kernel_rfl
theorem keeps_grown {g : Nat} {w wr w1 : World} {o : Obj} {n cap : Nat} (hb : Below w.heap.size w wr) (hg : (wr.alloc o).grownBy w1 (Value.ownBlock (.slice (some ⟨g, 0, none⟩) n cap))) : Keeps g w w1 := by
  intro b hlt hne
  have h1 := hb.size
  rw [hg.block b (by simp; omega) (by simp [Value.ownBlock]; exact hne), Below.heap_alloc _ _ _ (by omega), hb.block b hlt]
theorem joined_lies {w wr : World} {o : Obj} {g gg n cap n2 cap2 : Nat} (hz : w.heap.size + 1 ≤ wr.heap.size) (h : Value.ownBlock (.slice (some ⟨g, 0, none⟩) n cap) = some gg ∨ gg = (wr.alloc o).heap.size) :
    ∀ g', Value.ownBlock (.slice (some ⟨gg, 0, none⟩) n2 cap2) = some g' → g' = g ∨ w.heap.size ≤ g' := by
  intro g' hg'
  cases hg'
  rcases h with h | h
  · cases h; exact .inl rfl
  · right; rw [h]; simp; omega
theorem joined_known {x y kb d : Bool} {z : Bool} (h : x = (kb || y)) (hy : y = z) (hk : kb = true ∧ d = true ∨ ¬ kb = true ∧ d = z) : x = d := by
  rcases hk with ⟨h1, h2⟩ | ⟨h1, h2⟩
  · rw [h, h1, h2]; rfl
  · have : kb = false := by simpa using h1
    rw [h, this, hy, h2]; rfl
set_option maxRecDepth 100000 in
set_option maxHeartbeats 1000000 in
theorem joined_any (l : List Ins) (gi ci : Nat) (all : List Pt) (g cap base : Nat) (p : Pt) (w : World) (hat : InsAt w gi l) (hgi : gi < w.heap.size) (hl : p.at_ < l.length)
    (hown : w.ownsRow base 132 3 (.slice (some ⟨g, 0, none⟩) all.length cap) all.length (ptCells all)) (hbase : base ≤ w.heap.size) (hlen : all.length ≤ 100000)
    (hop : l[p.at_].op = 7 → l[p.at_].n < p.lo.size ∧ ∀ q ∈ all, l[p.at_].n < q.lo.size) :
    Calls Tryd.prog 67 #[.slice (some ⟨gi, 0, none⟩) l.length ci, .slice (some ⟨g, 0, none⟩) all.length cap, .agg #[.int .i64 p.at_, .string p.lo, .string p.st]] w (JoinPost l[p.at_] all p base g w) := by
  obtain ⟨i0, hi0, hz0, hz1, hz2⟩ := info_parts Tryd.infoPt
  have hpt := PtAt.of_owns hown
  have hg := (hown.lt g rfl)
  obtain ⟨j0, j1, j2⟩ := hat _ hl
  clear hat
  obtain ⟨a, lo, st⟩ := p
  simp only at hl hop j0 j1 j2 ⊢
  generalize hI : l[a] = I at *
  have HI := hid hI
  clear hI
  obtain ⟨io, inn, ipl⟩ := I
  simp only at hop j0 j1 j2
  go_enter Tryd.func67, Tryd.ntmps67
  go_wp2_with fail
  go_loopw [8, 9] (fun kn i w' => ∃ (k : Nat) (kb : Bool), k ≤ all.length ∧ i = .int .i64 k ∧ kn = .bool kb ∧ (all.take k).any (knownB ⟨a, lo, st⟩) = kb ∧ (all.take k).any (clashB ⟨io, inn, ipl⟩ ⟨a, lo, st⟩) = false ∧
    Below (w.heap.size + 1) (w.alloc (.cells #[.int .i64 a, .string lo, .string st] 132)) w') (fun _ i _ => all.length - (intOf i).toNat)
  case atStart => exact ⟨0, false, Nat.zero_le _, rfl, rfl, rfl, rfl, Below.refl _ _⟩
  case round =>
    obtain ⟨k, kb, hk, rfl, rfl, hkb, hcl, hbel⟩ := hrel
    have HC := hid hcl
    have HKB := hid hkb
    clear hcl hkb
    obtain ⟨bx, bo, hz⟩ := box_cells hbel
    have hz' : w.heap.size < wr.heap.size := by omega
    have hz3 : w.heap.size ≤ wr.heap.size := by omega
    have hg1 : g < wr.heap.size := by omega
    have hg2 : g ≤ wr.heap.size := by omega
    have hgi1 : gi < wr.heap.size := by omega
    have hgi2 : gi ≤ wr.heap.size := by omega
    have x0 := bx 0
    have x1 := bx 1
    have x2 := bx 2
    simp only [List.getElem?_toArray, List.getElem?_cons_zero, List.getElem?_cons_succ] at x0 x1 x2
    by_cases hlt : k < all.length
    · obtain ⟨q0, q1, q2⟩ := hpt k hlt
      rw [← bo _ _ hg.2] at q0 q1 q2
      rw [← bo _ _ hgi] at j0 j1 j2
      have HQ : Hid ((∀ q ∈ all, io = 7 → inn < q.lo.size)) := hid fun q hq h => (hop h).2 q hq
      have HKN : Hid ((all.take (k + 1)).any (knownB ⟨a, lo, st⟩) = (kb || knownB ⟨a, lo, st⟩ all[k])) := hid (by rw [any_take_succ _ _ _ hlt, HKB.out])
      have HCN : Hid ((all.take (k + 1)).any (clashB ⟨io, inn, ipl⟩ ⟨a, lo, st⟩) = clashB ⟨io, inn, ipl⟩ ⟨a, lo, st⟩ all[k]) := hid (by rw [any_take_succ _ _ _ hlt, HC.out]; rfl)
      have HN : Hid ((all[k].lo.toList == lo.toList) = decide (all[k].lo = lo)) := hid (by
        by_cases h : all[k].lo = lo
        · rw [str_eq h]; simp [h]
        · rw [str_ne h]; simp [h])
      clear bx bo hpt
      by_cases ha : all[k].at_ = a
      · have ha' : (((all[k].at_ : Nat) : Int) != (a : Int)) = false := by simp; omega
        have hl0 : (0 : Int) ≤ (a : Int) := by omega
        have hl1 : (a : Int) < (l.length : Int) := by omega
        have HK1 : Hid (knownB ⟨a, lo, st⟩ all[k] = (all[k].lo.toList == lo.toList)) := hid (by rw [HN.out]; simp [knownB, ha])
        by_cases hst : all[k].st = st
        · have hst' := str_eq hst
          by_cases h7 : io = 7
          · have h7' : ((io : Int) == 7) = true := by simp; omega
            have n0 := (hop h7).1
            have n1 := HQ.out all[k] (List.getElem_mem hlt) h7
            have hin0 : (0 : Int) ≤ (inn : Int) := by omega
            have hin1 : (inn : Int) < (lo.size : Int) := by omega
            have hin2 : (inn : Int) < (all[k].lo.size : Int) := by omega
            have b0 := byteAt_eq lo inn n0
            have b1 := byteAt_eq all[k].lo inn n1
            have b2 := byteAt_lt lo inn
            have b3 := byteAt_lt all[k].lo inn
            by_cases hb : byteAt all[k].lo inn = byteAt lo inn
            · have hb' : (((byteAt all[k].lo inn : Nat) : Int) != (byteAt lo inn : Nat)) = false := by simp; omega
              have HCL : Hid (clashB ⟨io, inn, ipl⟩ ⟨a, lo, st⟩ all[k] = false) := hid (by simp [clashB, hst, hb])
              clear hb hst ha h7 hop
              go_wp2_with fail
              go_quiet (fail)
              go_wp2_with fail
              all_goals
                rename_i hkb2
                exact ⟨⟨k + 1, _, by omega, by go_num, rfl, by first | exact joined_known HKN.out HK1.out (.inl ⟨hkb2, rfl⟩) | exact joined_known HKN.out HK1.out (.inr ⟨hkb2, rfl⟩), HCN.out.trans HCL.out, below_drewN ((hbel.alloc hz _).alloc (by simp; omega) _) _⟩, by simp [intOf]; omega⟩
            · have hb' : (((byteAt all[k].lo inn : Nat) : Int) != (byteAt lo inn : Nat)) = true := by simp; omega
              have HCL : Hid (clashB ⟨io, inn, ipl⟩ ⟨a, lo, st⟩ all[k] = true) := hid (by simp [clashB, hst, hb, ha, h7])
              clear hb hst ha h7 hop
              go_wp2_with fail
              go_quiet (fail)
              go_wp2_with fail
              go_ret2
              exact joinPost_mk (box_below hbase (below_drewN ((hbel.alloc hz _).alloc (by simp; omega) _) _)) (.of_below (box_below (Nat.le_refl _) (below_drewN ((hbel.alloc hz _).alloc (by simp; omega) _) _))) (fun g' hg' => by cases hg'; exact .inl rfl) (joinedP_clash hlt HCL.out) rfl rfl (owns_below hown (box_below (Nat.le_refl _) (below_drewN ((hbel.alloc hz _).alloc (by simp; omega) _) _)) (fun g' hg' => by cases hg'; exact hg.2))
          · have h7' : ((io : Int) == 7) = false := by simp; omega
            have HCL : Hid (clashB ⟨io, inn, ipl⟩ ⟨a, lo, st⟩ all[k] = false) := hid (by simp [clashB, hst, h7])
            clear hst ha h7 hop
            go_wp2_with fail
            go_quiet (fail)
            go_wp2_with fail
            all_goals
              rename_i hkb2
              exact ⟨⟨k + 1, _, by omega, by go_num, rfl, by first | exact joined_known HKN.out HK1.out (.inl ⟨hkb2, rfl⟩) | exact joined_known HKN.out HK1.out (.inr ⟨hkb2, rfl⟩), HCN.out.trans HCL.out, below_drewN ((hbel.alloc hz _).alloc (by simp; omega) _) _⟩, by simp [intOf]; omega⟩
        · have hst' := str_ne hst
          have HCL : Hid (clashB ⟨io, inn, ipl⟩ ⟨a, lo, st⟩ all[k] = true) := hid (by simp [clashB, hst, ha])
          clear hst ha hop
          go_wp2_with fail
          go_quiet (fail)
          go_wp2_with fail
          go_ret2
          exact joinPost_mk (box_below hbase (below_drewN ((hbel.alloc hz _).alloc (by simp; omega) _) _)) (.of_below (box_below (Nat.le_refl _) (below_drewN ((hbel.alloc hz _).alloc (by simp; omega) _) _))) (fun g' hg' => by cases hg'; exact .inl rfl) (joinedP_clash hlt HCL.out) rfl rfl (owns_below hown (box_below (Nat.le_refl _) (below_drewN ((hbel.alloc hz _).alloc (by simp; omega) _) _)) (fun g' hg' => by cases hg'; exact hg.2))
      · have ha' : (((all[k].at_ : Nat) : Int) != (a : Int)) = true := by simp; omega
        have HK1 : Hid (knownB ⟨a, lo, st⟩ all[k] = false) := hid (by simp [knownB, ha])
        have HCL : Hid (clashB ⟨io, inn, ipl⟩ ⟨a, lo, st⟩ all[k] = false) := hid (by simp [clashB, ha])
        clear ha
        go_wp2_with fail
        exact ⟨⟨k + 1, _, by omega, by go_num, rfl, by rw [HKN.out, HK1.out]; simp, HCN.out.trans HCL.out, hbel.alloc hz _⟩, by simp [intOf]; omega⟩
    · have hke : all.take k = all := List.take_of_length_le (by omega)
      have HKB' : Hid (all.any (knownB ⟨a, lo, st⟩) = kb) := hid (by rw [← HKB.out, hke])
      have HC' : Hid (all.any (clashB ⟨io, inn, ipl⟩ ⟨a, lo, st⟩) = false) := hid (by rw [← HC.out, hke])
      clear hke HKB HC
      cases kb
      · have HJ : Hid (joinedP ⟨io, inn, ipl⟩ all ⟨a, lo, st⟩ = (all ++ [⟨a, lo, st⟩], true)) := hid (by simp [joinedP, HC'.out, HKB'.out])
        have hown2 := owns_below hown (box_below (Nat.le_refl _) hbel) (fun g' hg' => by cases hg'; exact hg.2)
        go_wp2_with (at_builtin; go_must (refine wpList_append_lies _ (by rfl) _ _ _ (by rfl) base 132 i0 _ 3 40 Tryd.underlying87 hi0 hz0 hz1 hz2 rfl (by omega) _ all.length (ptCells all) (by rfl) (hown2.alloc _) ⟨_, 0, none⟩ 1 1 [.int .i64 a, .string lo, .string st] (by rfl) (by rfl) (World.news_of_block (cs := #[.int .i64 a, .string lo, .string st]) (t := 132) (fr := (0, 0)) (heap_alloc_new _ _)) (by simp [Value.oneCell']) (by omega) (by unfold maxLen; omega) (by omega) (by simp; omega) _ rfl ?_); intro gg cap2 w1 hown1 hgrow hat hlt2)
        go_ret2
        exact joinPost_mk (((box_below hbase hbel).alloc (by omega) _).grown hgrow (by simp; omega) (fun k' hk' => by cases hk'; exact hg.1)) (keeps_grown (box_below (Nat.le_refl _) hbel) hgrow) (joined_lies hz hat) HJ.out (by simp) (by rw [ptCells_snoc]) hown1
      · have HJ : Hid (joinedP ⟨io, inn, ipl⟩ all ⟨a, lo, st⟩ = (all, true)) := hid (by simp [joinedP, HC'.out, HKB'.out])
        go_wp2_with fail
        go_ret2
        exact joinPost_mk (box_below hbase hbel) (.of_below (box_below (Nat.le_refl _) hbel)) (fun g' hg' => by cases hg'; exact .inl rfl) HJ.out rfl rfl (owns_below hown (box_below (Nat.le_refl _) hbel) (fun g' hg' => by cases hg'; exact hg.2))
end Go.Proofs.YtdmdpindonghdaaDoor
namespace Go.Proofs.YtdmdpindonghdaaDoor
open Go.RowKit
theorem InsAt.get {w : World} {g : Nat} {l : List Ins} (h : InsAt w g l) {a : Nat} {i : Ins} (hi : l[a]? = some i) :
    w.cell? ⟨g, a * 3, none⟩ = some (.int .i64 i.op) ∧ w.cell? ⟨g, a * 3 + 1, none⟩ = some (.int .i64 i.n) ∧ w.cell? ⟨g, a * 3 + 2, none⟩ = some (.int .i64 i.place) := by
  obtain ⟨h1, rfl⟩ := List.getElem?_eq_some_iff.1 hi
  exact h a h1
theorem PtAt.get {w : World} {g : Nat} {l : List Pt} (h : PtAt w g l) {a : Nat} {i : Pt} (hi : l[a]? = some i) :
    w.cell? ⟨g, a * 3, none⟩ = some (.int .i64 i.at_) ∧ w.cell? ⟨g, a * 3 + 1, none⟩ = some (.string i.lo) ∧ w.cell? ⟨g, a * 3 + 2, none⟩ = some (.string i.st) := by
  obtain ⟨h1, rfl⟩ := List.getElem?_eq_some_iff.1 hi
  exact h a h1
theorem bcell_r {W w1 : World} (hb : Below W.heap.size W w1) : (∀ b o, b < W.heap.size → w1.cell? ⟨b, o, none⟩ = W.cell? ⟨b, o, none⟩) ∧ (∀ b o, b < W.heap.size → w1.frozen? ⟨b, o, none⟩ = W.frozen? ⟨b, o, none⟩) :=
  ⟨fun b o h => hb.cell (p := ⟨b, o, none⟩) h, fun b o h => hb.frozen (p := ⟨b, o, none⟩) h⟩
theorem cut_i {wr w2 : World} {nb : Obj} (c : Obj) (hb : Below (wr.alloc nb).drew.heap.size (wr.alloc nb).drew w2) : wr.heap.size + 1 ≤ w2.heap.size ∧ (w2.alloc c).heap[w2.heap.size]? = some c ∧ Below (wr.heap.size + 1) (wr.alloc nb) (w2.alloc c) := by
  have e : (wr.alloc nb).drew.heap.size = wr.heap.size + 1 := by simp
  have hs := hb.size
  rw [e] at hb hs
  exact ⟨hs, heap_alloc_new _ _, ((Below.refl _ _).drew.trans hb).alloc hs _⟩
theorem cut_ii {wr w2 : World} {nb : Obj} {z0 z1 z2 : Value} {t : TypeId} (v0 v1 v2 : Value) (hb : Below ((wr.alloc nb).alloc (.cells #[z0, z1, z2] t)).drew.heap.size ((wr.alloc nb).alloc (.cells #[z0, z1, z2] t)).drew w2) :
    (((w2.setCell ⟨wr.heap.size + 1, 0, none⟩ v0).setCell ⟨wr.heap.size + 1, 1, none⟩ v1).setCell ⟨wr.heap.size + 1, 2, none⟩ v2).heap[wr.heap.size + 1]? = some (.cells #[v0, v1, v2] t) ∧
    Below (wr.heap.size + 1) (wr.alloc nb) (((w2.setCell ⟨wr.heap.size + 1, 0, none⟩ v0).setCell ⟨wr.heap.size + 1, 1, none⟩ v1).setCell ⟨wr.heap.size + 1, 2, none⟩ v2) := by
  have e : ((wr.alloc nb).alloc (.cells #[z0, z1, z2] t)).drew.heap.size = wr.heap.size + 1 + 1 := by simp
  rw [e] at hb
  have h0 : w2.heap[wr.heap.size + 1]? = some (.cells #[z0, z1, z2] t) := (hb.block _ (by omega)).trans (heap_two_new wr _ _)
  have h1 := setCell_row 0 v0 h0
  have h2 := setCell_row 1 v1 h1
  have h3 := setCell_row 2 v2 h2
  refine ⟨by simpa using h3, ?_⟩
  have hb1 : Below (wr.heap.size + 1) (wr.alloc nb) w2 := (((Below.refl _ _).alloc (by simp) _).drew).trans (hb.mono (by omega))
  exact ((hb1.setCell (by simp) _).setCell (by simp) _).setCell (by simp) _
theorem joined_wf {l : List Ins} {L gi ci g cap base : Nat} {all : List Pt} {s : Pt} {i : Ins} {W : World} {x : Int} (hw : Wf l L) (hb : Base l L all) (ho : Okp l L s) (hi : l[s.at_]? = some i) (hat : InsAt W gi l) (hgi : gi < W.heap.size)
    (hown : W.ownsRow base 132 3 (.slice (some ⟨g, 0, none⟩) all.length cap) all.length (ptCells all)) (hbase : base ≤ W.heap.size) (hx : x = (s.at_ : Int)) :
    Calls Tryd.prog 67 #[.slice (some ⟨gi, 0, none⟩) l.length ci, .slice (some ⟨g, 0, none⟩) all.length cap, .agg #[.int .i64 x, .string s.lo, .string s.st]] W (JoinPost i all s base g W) := by
  subst hx
  obtain ⟨h1, rfl⟩ := List.getElem?_eq_some_iff.1 hi
  have hlen := hb.len hw
  have hl120 := hw.len
  refine joined_any l gi ci all g cap base s W hat hgi h1 hown hbase (by omega) (fun h => ?_)
  have hn := hw.arg _ (List.getElem_mem h1) (.inl h)
  exact ⟨by rw [ho.lo]; exact hn, fun q hq => by rw [(hb.ok q hq).lo]; exact hn⟩
theorem ways_world {w wr W : World} {nb : Obj} {l : List Ins} {gi g n cap e : Nat} {xs : List Value} (hbel : Below w.heap.size w wr) (hb : Below (wr.heap.size + 1) (wr.alloc nb) W) (hat : InsAt w gi l) (hgi : gi < w.heap.size)
    (hown : wr.ownsRow w.heap.size e 3 (.slice (some ⟨g, 0, none⟩) n cap) n xs) (hg : g < wr.heap.size) :
    Below w.heap.size w W ∧ InsAt W gi l ∧ gi < W.heap.size ∧ W.ownsRow w.heap.size e 3 (.slice (some ⟨g, 0, none⟩) n cap) n xs ∧ w.heap.size ≤ W.heap.size := by
  have h1 : Below wr.heap.size wr W := box_below (Nat.le_refl _) hb
  have hs := hbel.size
  have h2 : Below w.heap.size w W := hbel.trans (h1.mono hs)
  have h3 := h2.size
  exact ⟨h2, hat.below h2 hgi, by omega, owns_below hown h1 (fun g' hg' => by cases hg'; exact hg), h3⟩
theorem done_step {l : List Ins} {all ext ss : List Pt} {k : Nat} {p : Pt} (hd : Done l all k) (hk : k ≤ all.length) (hp : all[k]? = some p) (hs : stepP l p = some ss) (hm : ∀ s ∈ ss, s ∈ all ++ ext) : Done l (all ++ ext) (k + 1) := by
  intro j q hj hq
  by_cases h : j < k
  · exact hd.ext hk j q h hq
  · have : j = k := by omega
    subst this
    obtain ⟨h1, _⟩ := List.getElem?_eq_some_iff.1 hp
    rw [List.getElem?_append_left h1, hp] at hq
    cases hq
    exact ⟨ss, hs, hm⟩
def WaysPost (l : List Ins) (L : Nat) (w : World) (e : Ending) (w' : World) : Prop :=
  Below w.heap.size w w' ∧ ((WT l L ∧ ∃ g cap all, e = .returned (.tuple #[.slice (some ⟨g, 0, none⟩) all.length cap, .bool true]) ∧ w.heap.size ≤ g ∧ g < w'.heap.size ∧ PtAt w' g all ∧ Base l L all ∧ ∀ p, Reach l L p ↔ p ∈ all) ∨
    (¬ WT l L ∧ e = .returned (.tuple #[.slice none 0 0, .bool false])))
set_option maxRecDepth 100000 in
set_option maxHeartbeats 1000000 in
theorem ways_any (l : List Ins) (L gi ci : Nat) (w : World) (hw : Wf l L) (hat : InsAt w gi l) (hgi : gi < w.heap.size) (htab : TypeTab w) :
    Calls Tryd.prog 40 #[.slice (some ⟨gi, 0, none⟩) l.length ci, .int .i64 L] w (WaysPost l L w) := by
  have hL := hw.loc
  have hL0 : (0 : Int) ≤ (L : Int) := by omega
  have hL4 : (L : Int) ≤ 4 := by omega
  go_enter Tryd.func40, Tryd.ntmps40
  go_wp2_with fail
  go_loopw [7, 8] (fun v i w' => ∃ (k : Nat) (all : List Pt) (g cap : Nat), i = .int .i64 k ∧ v = .slice (some ⟨g, 0, none⟩) all.length cap ∧ w'.ownsRow w.heap.size 132 3 (.slice (some ⟨g, 0, none⟩) all.length cap) all.length (ptCells all) ∧
    Below w.heap.size w w' ∧ Base l L all ∧ Done l all k ∧ k ≤ all.length) (fun _ i _ => 16 * l.length + 1 - (intOf i).toNat)
  case atStart =>
    refine ⟨0, [initP L], w.heap.size + 1, 1, rfl, rfl, ⟨rfl, .inr ⟨w.heap.size + 1, 1, #[.int .i64 0, .string ((⟨#[105, 105, 105, 105]⟩ : ByteArray).extract 0 L), .string ⟨#[]⟩], rfl, by omega, heap_two_new w _ _, by simp, by unfold maxLen; simp, rfl, rfl⟩⟩, ((Below.refl _ _).alloc (Nat.le_refl _) _).alloc (by simp) _, Base.init hw, fun j p hj => by omega, by simp⟩
  case round =>
    obtain ⟨k, all, g, cap, rfl, rfl, hown, hbel, hbase, hdone, hk⟩ := hrel
    have hpt := PtAt.of_owns hown
    have hg := hown.lt g rfl
    have hlen := hbase.len hw
    have hl120 := hw.len
    have HB := hid hbase
    have HD := hid hdone
    have hsz := hbel.size
    have hgi2 : gi < wr.heap.size := by omega
    clear hbase hdone
    by_cases hlt : k < all.length
    · obtain ⟨p, hp⟩ : ∃ p, all[k]? = some p := ⟨_, List.getElem?_eq_getElem hlt⟩
      have HPM := hid (List.mem_of_getElem? hp)
      have HOK := hid (HB.out.ok p HPM.out)
      obtain ⟨ins, hins⟩ : ∃ i, l[p.at_]? = some i := ⟨_, List.getElem?_eq_getElem HOK.out.at_⟩
      have HM := hid (List.mem_of_getElem? hins)
      have hop := hw.op ins HM.out
      have harg := hid (hw.arg ins HM.out)
      have hnum := hw.num ins HM.out
      obtain ⟨q0, q1, q2⟩ := hpt.get hp
      obtain ⟨j0, j1, j2⟩ := (hat.below hbel hgi).get hins
      have HP := hid hp
      have HI := hid hins
      have ha0 : (0 : Int) ≤ (p.at_ : Int) := by omega
      have ha1 : (p.at_ : Int) < (l.length : Int) := by have := HOK.out.at_; omega
      have hk0 : (0 : Int) ≤ (k : Int) := by omega
      have hk1 : (k : Int) < (all.length : Int) := by omega
      have hlo : p.lo.size ≤ 4 := by have := HOK.out.lo; omega
      have hst := HOK.out.st
      clear hp hins hpt
      obtain ⟨a, lo, st⟩ := p
      obtain ⟨op, n, pl⟩ := ins
      simp only at q0 q1 q2 j0 j1 j2 ha0 ha1 hop hnum hlo hst
      have HA := hid (fun W (hW : TypeTab W) => after_any a op n pl lo st W hlo hst hop (fun h => by have := harg.out h; have := HOK.out.lo; simp only at *; omega) hW)
      have htab2 := htab.below hbel
      generalize hav : afterV lo st op n = A at *
      have HAV := hid hav
      clear hav
      obtain ⟨lo2, st2, ok⟩ := A
      go_upto_region 7 with fail
      go_cut [10, 11] (fun x10 x11 wc => ∃ B : Nat, x10 = .pointer (some ⟨B, 0, none⟩) ∧ x11 = .bool ok ∧ wr.heap.size + 1 ≤ B ∧ wc.heap[B]? = some (.cells #[.int .i64 a, .string lo2, .string st2] 132) ∧
        Below (wr.heap.size + 1) (wr.alloc (.cells #[.int .i64 op, .int .i64 n, .int .i64 pl] 129)) wc)
      case first =>
        go_region_with (go_at_call 66; go_must (refine (HA.out _ (htab2.below (by repeat (first | exact Below.refl _ _ | refine Below.drew ?_ | refine Below.alloc ?_ (by simp) _)))).mono ?_; intro e w2 hpost; obtain ⟨hb2, he2⟩ := hpost; rw [HAV.out] at he2; subst he2; obtain ⟨hc2, hf2⟩ := bcell_r hb2; have hz2 := hb2.size; simp at hc2 hf2 hz2))
        all_goals (go_wp2_with fail; go_meet)
        all_goals
          first
          | exact ⟨_, rfl, rfl, (cut_i (.cells #[] 0) hb2).1, (cut_i _ hb2).2.1, (cut_i _ hb2).2.2⟩
          | exact ⟨_, rfl, rfl, Nat.le_refl _, (cut_ii _ _ _ hb2).1, (cut_ii _ _ _ hb2).2⟩
      case rest =>
        obtain ⟨B, rfl, rfl, hB, hrow, hbc⟩ := hcut
        obtain ⟨bx, bo, hz⟩ := box_cells hbc
        have n0 := bx 0
        have n1 := bx 1
        have n2 := bx 2
        simp only [List.getElem?_toArray, List.getElem?_cons_zero, List.getElem?_cons_succ] at n0 n1 n2
        have r0 := cell_of_row wc B 0 _ _ _ hrow
        have r1 := cell_of_row wc B 1 _ _ _ hrow
        have r2 := cell_of_row wc B 2 _ _ _ hrow
        simp only [List.getElem?_toArray, List.getElem?_cons_zero, List.getElem?_cons_succ] at r0 r1 r2
        have rf := frozen_of_row wc B 0 _ _ hrow
        have hBz := World.block_lt_of_cell? wc _ r0
        simp only at hBz
        have hbc1 : Below wr.heap.size wr wc := box_below (Nat.le_refl _) hbc
        have hbw : Below w.heap.size w wc := hbel.trans (hbc1.mono (by omega))
        have hown1 := owns_below hown hbc1 (fun g' hg' => by cases hg'; exact hg.2)
        clear q0 q1 q2 j0 j1 j2 bx bo HA
        cases ok
        · have hno : Hid (¬ WT l L) := hid (fun hwt => hwt.1 _ (HB.out.reach _ HPM.out) (by rw [stepP_eq HI.out]; simp [HAV.out]))
          go_wp2_with fail
          go_ret2
          exact ⟨hbw, .inr ⟨hno.out, rfl⟩⟩
        by_cases h8 : 8 < st2.size
        · have hno : Hid (¬ WT l L) := hid (fun hwt => hwt.1 _ (HB.out.reach _ HPM.out) (by rw [stepP_eq HI.out]; simp [HAV.out, h8]))
          go_wp2_with fail
          go_ret2
          exact ⟨hbw, .inr ⟨hno.out, rfl⟩⟩
        have HSS : Hid (stepP l ⟨a, lo, st⟩ = some ((if isJump op = true then [⟨(findP n l 0).toNat, lo2, st2⟩] else []) ++ (if op ≠ 0 ∧ op ≠ 19 then [⟨a + 1, lo2, st2⟩] else []))) := hid (by
          rw [stepP_eq HI.out]; simp only [HAV.out]; rw [if_neg (by simp; omega)])
        have HRCH := hid (HB.out.reach _ HPM.out)
        obtain ⟨q0, q1, q2⟩ := (PtAt.of_owns hown1).get HP.out
        simp only at q0 q1 q2
        clear HAV harg q1 q2
        by_cases h0 : op = 0
        · have t0 : ((op : Int) == 19) = false := by simp; omega
          have t1 : ((op : Int) == 20) = false := by simp; omega
          have t2 : ((op : Int) != 0) = false := by simp; omega
          have HS0 : Hid (stepP l ⟨a, lo, st⟩ = some []) := hid (by rw [HSS.out]; simp [h0, isJump])
          clear h0
          go_wp2_with fail
          refine ⟨⟨k + 1, all, g, cap, by go_num, rfl, hown1, hbw, HB.out, ?_, by omega⟩, by simp [intOf]; omega⟩
          have := done_step (ext := []) HD.out hk HP.out HS0.out (fun s hs => by simp at hs)
          simpa using this
        by_cases h19 : op = 19
        · obtain ⟨tn, htn⟩ : ∃ tn : Nat, findP n l 0 = (tn : Int) := ⟨(findP n l 0).toNat, by have := hw.jump _ HM.out (by simp [isJump, h19]); simp only at this; omega⟩
          have t0 : ((op : Int) == 19) = true := by simp; omega
          have t2 : ((op : Int) != 0) = true := by simp; omega
          have t3 : ((op : Int) != 19) = false := by simp; omega
          have HS0 : Hid (stepP l ⟨a, lo, st⟩ = some [⟨tn, lo2, st2⟩]) := hid (by rw [HSS.out]; simp [h19, isJump, htn])
          have HTN := hid htn
          have HR2 := hid (HRCH.out.step HS0.out (List.mem_singleton.2 rfl))
          have HO2 := hid (step_ok hw HOK.out HS0.out (List.mem_singleton.2 rfl))
          obtain ⟨i2, hi2⟩ : ∃ i, l[tn]? = some i := ⟨_, List.getElem?_eq_getElem HO2.out.at_⟩
          have HI2 := hid hi2
          clear hi2 h0 h19 htn
          have HWS := hid (fun v => ways_world hbel (hbc.setCell (p := ⟨B, 0, none⟩) hB v) hat hgi hown hg.2)
          have HBX := hid (fun v => box_cells (hbc.setCell (p := ⟨B, 0, none⟩) hB v))
          go_wp2_with fail
          refine (find_any l gi ci n wc (by omega) (hat.below hbw hgi)).mono ?_
          intro e w9 hfd
          obtain ⟨he9, hw9⟩ := hfd
          subst e
          subst w9
          rw [HTN.out]
          go_wp2_with fail
          refine (joined_wf (s := ⟨tn, lo2, st2⟩) hw HB.out HO2.out HI2.out (HWS.out _).2.1 (HWS.out _).2.2.1 (HWS.out _).2.2.2.1 (HWS.out _).2.2.2.2 rfl).mono ?_
          intro e w3 hjp
          obtain ⟨hb3, hk3, v3, rfl, hv3, hown3⟩ := hjp
          have hbw3 := (HWS.out _).1.trans hb3
          have m0 := (hk3.cell (b := wr.heap.size) (o := 0) (by have := (HBX.out (.int .i64 tn)).2.2; omega) (by omega)).trans ((HBX.out _).1 0)
          simp only [List.getElem?_toArray, List.getElem?_cons_zero] at m0
          generalize hJ : joinedP i2 all ⟨tn, lo2, st2⟩ = J at *
          have HJ := hid hJ
          clear hJ
          obtain ⟨all2, ok2⟩ := J
          cases ok2
          · have hno := hid (joined_no HB.out HR2.out HI2.out (by rw [HJ.out]))
            clear hk3 hv3 HWS HBX
            go_wp2_with fail
            go_ret2
            exact ⟨hbw3, .inr ⟨hno.out, rfl⟩⟩
          · obtain ⟨hbase2, ⟨ext, hext⟩, hmem⟩ := joined_yes hw HB.out HR2.out HO2.out HI2.out (by rw [HJ.out])
            rw [HJ.out] at hbase2 hext hmem
            simp only at hbase2 hext hmem hown3
            have hlen2 : all.length ≤ all2.length := by rw [hext]; simp
            have hlen3 := hbase2.len hw
            obtain ⟨g3, cap3, rfl, hg3, hg4⟩ := hown3.form (by omega)
            have HB2 := hid hbase2
            have HD2 : Hid (Done l all2 (k + 1)) := hid (by
              rw [hext] at hmem ⊢
              exact done_step HD.out hk HP.out HS0.out (fun s hs => by rw [List.mem_singleton] at hs; subst hs; exact hmem))
            clear hk3 hv3 HWS HBX hbase2 hext hmem
            go_wp2_with fail
            exact ⟨⟨k + 1, all2, g3, cap3, by go_num, rfl, hown3, hbw3, HB2.out, HD2.out, by omega⟩, by simp [intOf]; omega⟩
        by_cases h20 : op = 20
        · obtain ⟨tn, htn⟩ : ∃ tn : Nat, findP n l 0 = (tn : Int) := ⟨(findP n l 0).toNat, by have := hw.jump _ HM.out (by simp [isJump, h20]); simp only at this; omega⟩
          have t0 : ((op : Int) == 19) = false := by simp; omega
          have t1 : ((op : Int) == 20) = true := by simp; omega
          have t2 : ((op : Int) != 0) = true := by simp; omega
          have t3 : ((op : Int) != 19) = true := by simp; omega
          have HS0 : Hid (stepP l ⟨a, lo, st⟩ = some [⟨tn, lo2, st2⟩, ⟨a + 1, lo2, st2⟩]) := hid (by rw [HSS.out]; simp [h20, isJump, htn])
          have HTN := hid htn
          have HR2 := hid (HRCH.out.step HS0.out (p := ⟨tn, lo2, st2⟩) (by simp))
          have HO2 := hid (step_ok hw HOK.out HS0.out (s := ⟨tn, lo2, st2⟩) (by simp))
          have HR4 := hid (HRCH.out.step HS0.out (p := ⟨a + 1, lo2, st2⟩) (by simp))
          have HO4 := hid (step_ok hw HOK.out HS0.out (s := ⟨a + 1, lo2, st2⟩) (by simp))
          obtain ⟨i2, hi2⟩ : ∃ i, l[tn]? = some i := ⟨_, List.getElem?_eq_getElem HO2.out.at_⟩
          have HI2 := hid hi2
          obtain ⟨i4, hi4⟩ : ∃ i, l[a + 1]? = some i := ⟨_, List.getElem?_eq_getElem HO4.out.at_⟩
          have HI4 := hid hi4
          clear hi2 hi4 h0 h19 h20 htn
          have HWS := hid (fun v => ways_world hbel (hbc.setCell (p := ⟨B, 0, none⟩) hB v) hat hgi hown hg.2)
          have HBX := hid (fun v => box_cells (hbc.setCell (p := ⟨B, 0, none⟩) hB v))
          go_wp2_with fail
          refine (find_any l gi ci n wc (by omega) (hat.below hbw hgi)).mono ?_
          intro e w9 hfd
          obtain ⟨he9, hw9⟩ := hfd
          subst e
          subst w9
          rw [HTN.out]
          go_wp2_with fail
          refine (joined_wf (s := ⟨tn, lo2, st2⟩) hw HB.out HO2.out HI2.out (HWS.out _).2.1 (HWS.out _).2.2.1 (HWS.out _).2.2.2.1 (HWS.out _).2.2.2.2 rfl).mono ?_
          intro e w3 hjp
          obtain ⟨hb3, hk3, v3, rfl, hv3, hown3⟩ := hjp
          have hbw3 := (HWS.out _).1.trans hb3
          have hwz := (HBX.out (.int .i64 tn)).2.2
          have hBz2 : B < (wc.setCell ⟨B, 0, none⟩ (.int .i64 tn)).heap.size := by simpa [World.setCell] using hBz
          have m0 := (hk3.cell (b := wr.heap.size) (o := 0) (by omega) (by omega)).trans ((HBX.out _).1 0)
          simp only [List.getElem?_toArray, List.getElem?_cons_zero] at m0
          have hrow3 := (hk3 B hBz2 (by omega)).trans (setCell_row 0 (.int .i64 tn) hrow)
          simp at hrow3
          generalize hJ : joinedP i2 all ⟨tn, lo2, st2⟩ = J at *
          have HJ := hid hJ
          clear hJ
          obtain ⟨all2, ok2⟩ := J
          cases ok2
          · have hno := hid (joined_no HB.out HR2.out HI2.out (by rw [HJ.out]))
            clear hk3 hv3 HWS HBX hrow3
            go_wp2_with fail
            go_ret2
            exact ⟨hbw3, .inr ⟨hno.out, rfl⟩⟩
          obtain ⟨hbase2, ⟨ext, hext⟩, hmem⟩ := joined_yes hw HB.out HR2.out HO2.out HI2.out (by rw [HJ.out])
          rw [HJ.out] at hbase2 hext hmem
          simp only at hbase2 hext hmem hown3
          have hlen2 : all.length ≤ all2.length := by rw [hext]; simp
          have hlen3 := hbase2.len hw
          obtain ⟨g3, cap3, rfl, hg3, hg4⟩ := hown3.form (by omega)
          have hBg : B ≠ g3 := by
            rcases hv3 g3 rfl with h | h
            · omega
            · omega
          have HB2 := hid hbase2
          have HP2 : Hid (all2[k]? = some ⟨a, lo, st⟩) := hid (by rw [hext, List.getElem?_append_left hlt]; exact HP.out)
          have HX2 := hid hext
          have HM2 := hid hmem
          obtain ⟨s0, s1, s2⟩ := (PtAt.of_owns hown3).get HP2.out
          simp only at s0
          have v0 := cell_of_row w3 B 0 _ _ _ hrow3
          have v1 := cell_of_row w3 B 1 _ _ _ hrow3
          have v2 := cell_of_row w3 B 2 _ _ _ hrow3
          simp only [List.getElem?_toArray, List.getElem?_cons_zero, List.getElem?_cons_succ] at v0 v1 v2
          have vf := frozen_of_row w3 B 0 _ _ hrow3
          have hk2a : (k : Int) < (all2.length : Int) := by omega
          have HW3 : Hid (∀ v, Below w.heap.size w (w3.setCell ⟨B, 0, none⟩ v) ∧ (w3.setCell ⟨B, 0, none⟩ v).ownsRow w.heap.size 132 3 (.slice (some ⟨g3, 0, none⟩) all2.length cap3) all2.length (ptCells all2)) := hid (fun v =>
            ⟨hbw3.setCell (p := ⟨B, 0, none⟩) (by simp only; omega) v, owns_set hown3 (by simp only [Value.ownBlock]; intro h; cases h; exact hBg rfl) v⟩)
          clear hk3 hv3 HWS HBX hbase2 hext hmem s1 s2 hrow3
          go_wp2_with fail
          refine (joined_wf (s := ⟨a + 1, lo2, st2⟩) hw HB2.out HO4.out HI4.out (hat.below (HW3.out _).1 hgi) (by have := (HW3.out (.int .i64 0)).1.size; simp [World.setCell] at *; omega) (HW3.out _).2 (HW3.out _).1.size (by simp)).mono ?_
          intro e w5 hjp
          obtain ⟨hb5, hk5, v5, rfl, hv5, hown5⟩ := hjp
          have hbw5 := (HW3.out _).1.trans hb5
          generalize hJ : joinedP i4 all2 ⟨a + 1, lo2, st2⟩ = J at *
          have HJ4 := hid hJ
          clear hJ
          obtain ⟨all4, ok4⟩ := J
          cases ok4
          · have hno := hid (joined_no HB2.out HR4.out HI4.out (by rw [HJ4.out]))
            clear hk5 hv5 HW3
            go_wp2_with fail
            go_ret2
            exact ⟨hbw5, .inr ⟨hno.out, rfl⟩⟩
          obtain ⟨hbase4, ⟨ext4, hext4⟩, hmem4⟩ := joined_yes hw HB2.out HR4.out HO4.out HI4.out (by rw [HJ4.out])
          rw [HJ4.out] at hbase4 hext4 hmem4
          simp only at hbase4 hext4 hmem4 hown5
          have hlen4 : all2.length ≤ all4.length := by rw [hext4]; simp
          have hlen5 := hbase4.len hw
          obtain ⟨g5, cap5, rfl, hg5, hg6⟩ := hown5.form (by omega)
          have HB4 := hid hbase4
          have HD4 : Hid (Done l all4 (k + 1)) := hid (by
            have e : all4 = all ++ (ext ++ ext4) := by rw [hext4, HX2.out, List.append_assoc]
            have hm2 := HM2.out
            rw [HX2.out] at hm2
            rw [e] at hmem4 ⊢
            refine done_step HD.out hk HP.out HS0.out (fun s hs => ?_)
            simp only [List.mem_cons, List.not_mem_nil, or_false] at hs
            rcases hs with rfl | rfl
            · rw [← List.append_assoc]; exact List.mem_append_left _ hm2
            · exact hmem4)
          clear hk5 hv5 HW3 hbase4 hext4 hmem4
          go_wp2_with fail
          exact ⟨⟨k + 1, all4, g5, cap5, by go_num, rfl, hown5, hbw5, HB4.out, HD4.out, by omega⟩, by simp [intOf]; omega⟩
        have t0 : ((op : Int) == 19) = false := by simp; omega
        have t1 : ((op : Int) == 20) = false := by simp; omega
        have t2 : ((op : Int) != 0) = true := by simp; omega
        have t3 : ((op : Int) != 19) = true := by simp; omega
        have HS0 : Hid (stepP l ⟨a, lo, st⟩ = some [⟨a + 1, lo2, st2⟩]) := hid (by rw [HSS.out]; simp [h0, h19, h20, isJump])
        have HR2 := hid (HRCH.out.step HS0.out (List.mem_singleton.2 rfl))
        have HO2 := hid (step_ok hw HOK.out HS0.out (List.mem_singleton.2 rfl))
        obtain ⟨i2, hi2⟩ : ∃ i, l[a + 1]? = some i := ⟨_, List.getElem?_eq_getElem HO2.out.at_⟩
        have HI2 := hid hi2
        clear hi2 h0 h19 h20
        have HWS := hid (fun v => ways_world hbel (hbc.setCell (p := ⟨B, 0, none⟩) hB v) hat hgi hown hg.2)
        go_wp2_with fail
        refine (joined_wf (s := ⟨a + 1, lo2, st2⟩) hw HB.out HO2.out HI2.out (HWS.out _).2.1 (HWS.out _).2.2.1 (HWS.out _).2.2.2.1 (HWS.out _).2.2.2.2 (by simp)).mono ?_
        intro e w3 hjp
        obtain ⟨hb3, hk3, v3, rfl, hv3, hown3⟩ := hjp
        have hbw3 := (HWS.out _).1.trans hb3
        generalize hJ : joinedP i2 all ⟨a + 1, lo2, st2⟩ = J at *
        have HJ := hid hJ
        clear hJ
        obtain ⟨all2, ok2⟩ := J
        cases ok2
        · have hno := hid (joined_no HB.out HR2.out HI2.out (by rw [HJ.out]))
          clear hk3 hv3 HWS
          go_wp2_with fail
          go_ret2
          exact ⟨hbw3, .inr ⟨hno.out, rfl⟩⟩
        · obtain ⟨hbase2, ⟨ext, hext⟩, hmem⟩ := joined_yes hw HB.out HR2.out HO2.out HI2.out (by rw [HJ.out])
          rw [HJ.out] at hbase2 hext hmem
          simp only at hbase2 hext hmem hown3
          have hlen2 : all.length ≤ all2.length := by rw [hext]; simp
          have hlen3 := hbase2.len hw
          obtain ⟨g3, cap3, rfl, hg3, hg4⟩ := hown3.form (by omega)
          have HB2 := hid hbase2
          have HD2 : Hid (Done l all2 (k + 1)) := hid (by
            rw [hext] at hmem ⊢
            exact done_step HD.out hk HP.out HS0.out (fun s hs => by rw [List.mem_singleton] at hs; subst hs; exact hmem))
          clear hk3 hv3 HWS hbase2 hext hmem
          go_wp2_with fail
          exact ⟨⟨k + 1, all2, g3, cap3, by go_num, rfl, hown3, hbw3, HB2.out, HD2.out, by omega⟩, by simp [intOf]; omega⟩
    · have hke : k = all.length := by omega
      subst hke
      have hend := hid (ways_end HB.out HD.out)
      go_wp2_with fail
      go_ret2
      exact ⟨hbel, .inl ⟨hend.out.1, g, cap, all, rfl, hg.1, hg.2, hpt, HB.out, hend.out.2⟩⟩
end Go.Proofs.YtdmdpindonghdaaDoor
namespace Go.Proofs.YtdmdpindonghdaaDoor
open Go.RowKit
def CheckPost (s : ByteArray) (w : World) (e : Ending) (w' : World) : Prop := Below w.heap.size w w' ∧ ∃ r : Nat, e = .returned (.int .i64 r) ∧ IsErr s r
theorem checkPost_mk {s : ByteArray} {w w' : World} {r : Nat} {x : Int} (hb : Below w.heap.size w w') (hx : x = (r : Int)) (h : IsErr s r) : CheckPost s w (.returned (.int .i64 x)) w' := by
  subst hx; exact ⟨hb, r, rfl, h⟩
set_option maxRecDepth 100000 in
set_option maxHeartbeats 400000 in
theorem refCheck_any (s : ByteArray) (w : World) (hs : s.size ≤ maxLen) (ht : TakesTab w) (htt : TypeTab w) :
    Calls Tryd.prog 11 #[.string s] w (CheckPost s w) := by
  have hc := hid (code_any s w hs ht)
  clear hs
  go_enter Tryd.func11, Tryd.ntmps11
  go_wp2_with fail
  refine hc.out.mono ?_
  intro e w1 hp
  obtain ⟨hb, hp⟩ := hp
  clear hc
  rcases hp with ⟨he, rfl⟩ | ⟨he, g, cap, rfl, h1, h2, h3⟩
  · have he' : (((errOf s : Nat) : Int) != 0) = true := by simp; omega
    have HE := hid he
    clear he
    go_wp2_with fail
    go_ret
    exact checkPost_mk hb rfl (.inl ⟨HE.out, rfl⟩)
  · have HE := hid he
    have htt1 := htt.below hb
    have hw := hid (wf_of he)
    clear he
    go_wp2_with fail
    refine (ways_any (codeOf s) (byteAt s 1) g cap w1 hw.out h3 h2 htt1).mono ?_
    intro e w2 hp
    obtain ⟨hb2, hp⟩ := hp
    have hbb : Below w.heap.size w w2 := hb.trans (hb2.mono hb.size)
    rcases hp with ⟨hwt, g2, cap2, all, rfl, _⟩ | ⟨hwt, rfl⟩
    · have HWT := hid hwt
      clear hwt
      go_wp2_with fail
      go_ret
      exact checkPost_mk (r := 0) hbb rfl (.inr (.inl ⟨HE.out, HWT.out, rfl⟩))
    · have HWT := hid hwt
      clear hwt
      go_wp2_with fail
      go_ret
      exact checkPost_mk (r := 5) hbb rfl (.inr (.inr ⟨HE.out, HWT.out, rfl⟩))
end Go.Proofs.YtdmdpindonghdaaDoor
namespace Go.Proofs.YtdmdpindonghdaaDoor
open Go.RowKit
structure CI where
  ins : Ins
  tg : Nat
def ciCells (l : List CI) : List Value := l.flatMap fun i => [.int .i64 i.ins.place, .int .i64 i.ins.op, .int .i64 i.ins.n, .int .i64 i.tg]
theorem ciCells_len (l : List CI) : (ciCells l).length = l.length * 4 := by
  induction l with
  | nil => rfl
  | cons a r ih => simp only [ciCells, List.flatMap_cons, List.length_append, List.length_cons, List.length_nil] at *; omega
theorem ciCells_snoc (l : List CI) (i : CI) : ciCells (l ++ [i]) = ciCells l ++ [.int .i64 i.ins.place, .int .i64 i.ins.op, .int .i64 i.ins.n, .int .i64 i.tg] := by simp [ciCells]
theorem ciCells_at (l : List CI) (k : Nat) (h : k < l.length) : (ciCells l)[k * 4]? = some (.int .i64 l[k].ins.place) ∧ (ciCells l)[k * 4 + 1]? = some (.int .i64 l[k].ins.op) ∧ (ciCells l)[k * 4 + 2]? = some (.int .i64 l[k].ins.n) ∧ (ciCells l)[k * 4 + 3]? = some (.int .i64 l[k].tg) := by
  induction l generalizing k with
  | nil => simp at h
  | cons a r ih =>
    cases k with
    | zero => simp [ciCells]
    | succ k =>
      have := ih k (by simpa using h)
      have e0 : (k + 1) * 4 = k * 4 + 4 := by omega
      have e1 : (k + 1) * 4 + 1 = k * 4 + 1 + 4 := by omega
      have e2 : (k + 1) * 4 + 2 = k * 4 + 2 + 4 := by omega
      have e3 : (k + 1) * 4 + 3 = k * 4 + 3 + 4 := by omega
      have hc : ∀ j, (ciCells (a :: r))[j + 4]? = (ciCells r)[j]? := fun j => by simp [ciCells]
      rw [e3, e2, e1, e0, hc, hc, hc, hc]
      simpa using this
def CiAt (w : World) (g : Nat) (l : List CI) : Prop :=
  ∀ (i : Nat) (c : CI), l[i]? = some c → w.cell? ⟨g, i * 4, none⟩ = some (.int .i64 c.ins.place) ∧ w.cell? ⟨g, i * 4 + 1, none⟩ = some (.int .i64 c.ins.op) ∧ w.cell? ⟨g, i * 4 + 2, none⟩ = some (.int .i64 c.ins.n) ∧ w.cell? ⟨g, i * 4 + 3, none⟩ = some (.int .i64 c.tg)
theorem CiAt.below {w w' : World} {g B : Nat} {l : List CI} (h : CiAt w g l) (hb : Below B w w') (hg : g < B) : CiAt w' g l := by
  intro i c hi
  obtain ⟨h0, h1, h2, h3⟩ := h i c hi
  exact ⟨(hb.cell (p := ⟨g, i * 4, none⟩) hg).trans h0, (hb.cell (p := ⟨g, i * 4 + 1, none⟩) hg).trans h1, (hb.cell (p := ⟨g, i * 4 + 2, none⟩) hg).trans h2, (hb.cell (p := ⟨g, i * 4 + 3, none⟩) hg).trans h3⟩
theorem CiAt.of_owns {w : World} {base e g n cap : Nat} {l : List CI} (h : w.ownsRow base e 4 (.slice (some ⟨g, 0, none⟩) n cap) l.length (ciCells l)) : CiAt w g l := by
  intro i c hi
  obtain ⟨hl, rfl⟩ := List.getElem?_eq_some_iff.1 hi
  have hc := h.cells (g := g) rfl
  obtain ⟨a0, a1, a2, a3⟩ := ciCells_at l i hl
  have h0 := hc _ _ a0
  have h1 := hc _ _ a1
  have h2 := hc _ _ a2
  have h3 := hc _ _ a3
  rw [addr_add] at h0 h1 h2 h3
  exact ⟨h0, h1, h2, h3⟩
theorem CiAt.same {w w' : World} {g : Nat} {l : List CI} (h : CiAt w g l) (hb : w'.heap[g]? = w.heap[g]?) : CiAt w' g l := by
  have hc : ∀ o, w'.cell? ⟨g, o, none⟩ = w.cell? ⟨g, o, none⟩ := fun o => World.cell?_of_block (a := ⟨g, o, none⟩) hb
  intro i c hi
  obtain ⟨h0, h1, h2, h3⟩ := h i c hi
  exact ⟨(hc _).trans h0, (hc _).trans h1, (hc _).trans h2, (hc _).trans h3⟩
def plain (i : Ins) : CI := ⟨i, 0⟩
def plains (l : List Ins) : List CI := l.map plain
theorem plains_len (l : List Ins) : (plains l).length = l.length := by simp [plains]
theorem plains_snoc (l : List Ins) (i : Ins) : plains (l ++ [i]) = plains l ++ [⟨i, 0⟩] := by simp [plains, plain]
/-- The index that a jump aims at. -/
def aimOf (l : List Ins) (i : Ins) : Nat := if isJump i.op = true then (findP i.n l 0).toNat else 0
def aims (l : List Ins) : List CI := l.map fun i => ⟨i, aimOf l i⟩
theorem aims_len (l : List Ins) : (aims l).length = l.length := by simp [aims]
end Go.Proofs.YtdmdpindonghdaaDoor
namespace Go.Proofs.YtdmdpindonghdaaDoor
open Go.RowKit
set_option maxRecDepth 100000 in
set_option maxHeartbeats 400000 in
theorem shaped_any (s : ByteArray) (w : World) (hs : s.size ≤ maxLen) :
    Calls Tryd.prog 80 #[.string s] w fun e w' => e = .returned (.bool (shapedP s)) ∧ w' = w := by
  unfold maxLen at hs
  generalize hS : shapedP s = S
  have HS := hid hS
  clear hS
  have b0 := byteAt_lt s 0
  have b1 := byteAt_lt s 1
  by_cases h3 : s.size < 3
  · have HF : Hid (S = false) := hid (by rw [← HS.out]; simp [shapedP]; omega)
    go_enter Tryd.func80, Tryd.ntmps80
    go_wp2
    go_ret
    exact ⟨ret_bool HF.out.symm, rfl⟩
  by_cases h4 : 122 < s.size
  · have HF : Hid (S = false) := hid (by rw [← HS.out]; simp [shapedP]; omega)
    go_enter Tryd.func80, Tryd.ntmps80
    go_wp2
    go_ret
    exact ⟨ret_bool HF.out.symm, rfl⟩
  have e0 := byteAt_eq s 0 (by omega)
  have e1 := byteAt_eq s 1 (by omega)
  have d1 : decide ((s.size : Int) ≤ 2) = false := by simp; omega
  have d2 : decide (122 < (s.size : Int)) = false := by simp; omega
  by_cases h5 : byteAt s 0 = 84
  · have h5' : (((byteAt s 0 : Nat) : Int) == 84) = true := by simp; omega
    have HF : Hid (S = decide ((byteAt s 1 : Int) ≤ 4)) := hid (by
      rw [← HS.out, Bool.eq_iff_iff]; simp [shapedP, h5]; omega)
    clear h5
    go_enter Tryd.func80, Tryd.ntmps80
    go_wp2
    go_ret
    exact ⟨ret_bool HF.out.symm, rfl⟩
  · have h5' : (((byteAt s 0 : Nat) : Int) == 84) = false := by simp; omega
    have HF : Hid (S = false) := hid (by rw [← HS.out]; simp [shapedP, h5])
    clear h5
    go_enter Tryd.func80, Tryd.ntmps80
    go_wp2
    go_ret
    exact ⟨ret_bool HF.out.symm, rfl⟩
set_option maxRecDepth 100000 in
set_option maxHeartbeats 400000 in
theorem hasOperand_any (k : Nat) (w : World) :
    Calls Tryd.prog 97 #[.int .i64 k] w fun e w' => e = .returned (.bool (takesB k)) ∧ w' = w := by
  generalize hS : takesB k = S
  have HS := hid hS
  clear hS
  go_enter Tryd.func97, Tryd.ntmps97
  go_wp2
  all_goals go_ret
  all_goals simp only [beq_iff_eq, beq_eq_false_iff_ne, ne_eq] at *
  all_goals exact ⟨ret_bool (by rw [← HS.out]; simp [takesB]; omega), by first | rfl | trivial⟩
set_option maxRecDepth 100000 in
set_option maxHeartbeats 400000 in
theorem operandFits_any (pl tg x : Int) (op n locals : Nat) (w : World) (hx : x = (n : Int)) :
    Calls Tryd.prog 98 #[.agg #[.int .i64 pl, .int .i64 op, .int .i64 x, .int .i64 tg], .int .i64 locals] w fun e w' => e = .returned (.bool (!badN op n locals)) ∧ Below w.heap.size w w' := by
  subst hx
  generalize hS : badN op n locals = S
  have HS := hid hS
  clear hS
  by_cases h1 : op = 7 ∨ op = 8
  · have HF : Hid ((!S) = decide (n < locals)) := hid (by
      rw [← HS.out, Bool.eq_iff_iff]; simp [badN]; omega)
    go_enter Tryd.func98, Tryd.ntmps98
    go_wp2
    all_goals go_ret
    all_goals exact ⟨ret_bool (by rw [HF.out]), (Below.refl _ _).alloc (Nat.le_refl _) _⟩
  by_cases h2 : op = 14 ∨ op = 15
  · have HF : Hid ((!S) = decide ((n : Int) ≤ 1)) := hid (by
      rw [← HS.out, Bool.eq_iff_iff]; simp [badN]; omega)
    go_enter Tryd.func98, Tryd.ntmps98
    go_wp2
    all_goals go_ret
    all_goals exact ⟨ret_bool (by rw [HF.out]), (Below.refl _ _).alloc (Nat.le_refl _) _⟩
  · have HF : Hid ((!S) = true) := hid (by rw [← HS.out]; simp [badN]; omega)
    go_enter Tryd.func98, Tryd.ntmps98
    go_wp2
    all_goals go_ret
    all_goals exact ⟨ret_bool (by rw [HF.out]), (Below.refl _ _).alloc (Nat.le_refl _) _⟩
end Go.Proofs.YtdmdpindonghdaaDoor
namespace Go.Proofs.YtdmdpindonghdaaDoor
open Go.RowKit
theorem Tryd.infoCI : (Tryd.prog.info? 98).map (fun i => (i.zero, i.size, i.bytes)) = some (some (.agg #[.int .i64 0, .int .i64 0, .int .i64 0, .int .i64 0]), 4, 32) := by kernel_rfl
theorem instr_below {wr w2 : World} {o : Obj} (hb : Below (wr.alloc o).heap.size (wr.alloc o) w2) : Below (wr.heap.size + 1) (wr.alloc o) w2 := hb.mono (by simp)
def InstrPost (t : ByteArray) (L : Nat) (w : World) (e : Ending) (w' : World) : Prop :=
  Below w.heap.size w w' ∧ ((dec t L 0 = none ∧ e = .returned (.tuple #[.slice none 0 0, .bool false])) ∨
    (∃ ls g cap, dec t L 0 = some ls ∧ 0 < ls.length ∧ ls.length ≤ t.size ∧ e = .returned (.tuple #[.slice (some ⟨g, 0, none⟩) ls.length cap, .bool true]) ∧ w.heap.size ≤ g ∧ g < w'.heap.size ∧ CiAt w' g (plains ls)))
set_option maxRecDepth 100000 in
set_option maxHeartbeats 1000000 in
theorem instructions_any (t : ByteArray) (L : Nat) (w : World) (ht1 : 1 ≤ t.size) (ht2 : t.size ≤ 120) :
    Calls Tryd.prog 81 #[.string t, .int .i64 L] w (InstrPost t L w) := by
  obtain ⟨i0, hi0, hz0, hz1, hz2⟩ := info_parts Tryd.infoCI
  go_enter Tryd.func81, Tryd.ntmps81
  go_wp2_with fail
  go_loopw [6, 7] (fun l p w' => ∃ (pn : Nat) (ls : List Ins), pn ≤ t.size ∧ p = .int .i64 pn ∧ w'.ownsRow w.heap.size 98 4 l ls.length (ciCells (plains ls)) ∧ Below w.heap.size w w' ∧ dec t L 0 = (dec t L pn).map (ls ++ ·) ∧ ls.length ≤ pn) (fun _ p _ => t.size - (intOf p).toNat)
  case atStart => exact ⟨0, [], by omega, rfl, World.ownsRow_nil _ _ _ _, Below.refl _ _, by simp, by simp⟩
  case round =>
    obtain ⟨pn, ls, hpn, rfl, hown, hbel, hdec, hlen⟩ := hrel
    have HDEC := hid hdec
    clear hdec
    have hsize := hbel.size
    by_cases hlt : pn < t.size
    · have c0 := byteAt_eq t pn hlt
      have c1 := byteAt_lt t pn
      have HBQ : Hid (behindP t pn L = behindQ (byteAt t pn) t.size pn (byteAt t (pn + 1)) L) := hid rfl
      have d1 := byteAt_lt t (pn + 1)
      have d0 := byteAt_eq t (pn + 1)
      have HNO := hid (dec_none t L pn hlt)
      have HYES := hid (dec_some t L pn hlt)
      generalize byteAt t pn = c at *
      generalize byteAt t (pn + 1) = n at *
      generalize behindP t pn L = Q at *
      by_cases h24 : 24 < c
      · have HF : Hid (dec t L pn = none) := hid (HNO.out (by rw [HBQ.out]; simp [behindQ, h24]))
        clear d0
        go_wp2_with fail
        go_ret2
        exact ⟨hbel, .inl ⟨by rw [HDEC.out, HF.out]; rfl, rfl⟩⟩
      cases htk : takesB c
      · have HF : Hid (dec t L pn = (dec t L (pn + 1)).map (⟨c, 0, pn⟩ :: ·)) := hid (by
          have e : Q = (pn + 1, 0) := by rw [HBQ.out]; simp [behindQ, h24, htk]
          have := HYES.out (by rw [e]; simp)
          rw [e] at this
          exact this)
        have hbad : badN c 0 L = false := by
          have hne : ∀ k, takesB k = true → c ≠ k := fun k hk e => by rw [e, hk] at htk; cases htk
          have a1 := hne 7 rfl
          have a2 := hne 8 rfl
          have a3 := hne 14 rfl
          have a4 := hne 15 rfl
          simp [badN, a1, a2]
        have HBAD := hid hbad
        have HTK := hid htk
        clear hbad htk d0
        go_wp2_with fail
        refine (hasOperand_any c _).mono ?_
        intro e w9 hh
        obtain ⟨he9, hw9⟩ := hh
        rw [HTK.out] at he9
        subst e
        subst w9
        go_wp2_with fail
        refine (operandFits_any _ _ _ c 0 L _ rfl).mono ?_
        intro e w2 hh
        obtain ⟨he2, hb2⟩ := hh
        rw [HBAD.out] at he2
        subst e
        have hb3 := instr_below hb2
        obtain ⟨bx, bo, hz⟩ := box_cells hb3
        have x0 := bx 0
        have x1 := bx 1
        have x2 := bx 2
        have x3 := bx 3
        simp only [List.getElem?_toArray, List.getElem?_cons_zero, List.getElem?_cons_succ] at x0 x1 x2 x3
        have hb4 : Below wr.heap.size wr w2 := box_below (Nat.le_refl _) hb3
        have hown2 := owns_below hown hb4 (fun g' hg' => (hown.lt g' hg').2)
        have hbel2 : Below w.heap.size w w2 := hbel.trans (hb4.mono hsize)
        clear bx bo hb2
        go_wp2_with (at_builtin; go_must (refine wpList_append_lies _ (by rfl) _ _ _ (by rfl) w.heap.size 98 i0 _ 4 32 Tryd.underlying78 hi0 hz0 hz1 hz2 rfl (by omega) _ ls.length (ciCells (plains ls)) (by rfl) (hown2.alloc _) ⟨_, 0, none⟩ 1 1 [.int .i64 pn, .int .i64 c, .int .i64 0, .int .i64 0] (by rfl) (by rfl) (World.news_of_block (cs := #[.int .i64 pn, .int .i64 c, .int .i64 0, .int .i64 0]) (t := 98) (fr := (0, 0)) (heap_alloc_new _ _)) (by simp [Value.oneCell']) (by omega) (by unfold maxLen; omega) (by omega) (by simp; omega) _ rfl ?_); intro gg cap w3 hown3 hgrow hat hlt2)
        refine ⟨⟨pn + 1, ls ++ [⟨c, 0, pn⟩], by omega, by go_num, by rw [plains_snoc, ciCells_snoc, List.length_append]; exact hown3, (hbel2.alloc (by omega) _).grown hgrow (by simp; omega) (fun k hk => (hown.lt k hk).1), ?_, by simp; omega⟩, by simp [intOf]; omega⟩
        rw [HDEC.out, HF.out]
        cases dec t L (pn + 1) <;> simp
      by_cases hsz : t.size ≤ pn + 1
      · have HF : Hid (dec t L pn = none) := hid (HNO.out (by rw [HBQ.out]; simp [behindQ, h24, htk, hsz]))
        have HTK := hid htk
        clear htk d0
        go_wp2_with fail
        refine (hasOperand_any c _).mono ?_
        intro e w9 hh
        obtain ⟨he9, hw9⟩ := hh
        rw [HTK.out] at he9
        subst e
        subst w9
        go_wp2_with fail
        go_ret2
        exact ⟨hbel.alloc hsize _, .inl ⟨by rw [HDEC.out, HF.out]; rfl, rfl⟩⟩
      have d2 := d0 (by omega)
      clear d0
      cases hbd : badN c n L
      · have HF : Hid (dec t L pn = (dec t L (pn + 2)).map (⟨c, n, pn⟩ :: ·)) := hid (by
          have e : Q = (pn + 2, n) := by rw [HBQ.out]; simp [behindQ, h24, htk, hsz, hbd]
          have := HYES.out (by rw [e]; simp)
          rw [e] at this
          exact this)
        have HBAD := hid hbd
        have HTK := hid htk
        clear hbd htk
        go_wp2_with fail
        refine (hasOperand_any c _).mono ?_
        intro e w9 hh
        obtain ⟨he9, hw9⟩ := hh
        rw [HTK.out] at he9
        subst e
        subst w9
        go_wp2_with fail
        refine (operandFits_any _ _ _ c n L _ rfl).mono ?_
        intro e w2 hh
        obtain ⟨he2, hb2⟩ := hh
        rw [HBAD.out] at he2
        subst e
        have hb3 := instr_below hb2
        obtain ⟨bx, bo, hz⟩ := box_cells hb3
        have x0 := bx 0
        have x1 := bx 1
        have x2 := bx 2
        have x3 := bx 3
        simp only [List.getElem?_toArray, List.getElem?_cons_zero, List.getElem?_cons_succ] at x0 x1 x2 x3
        have hb4 : Below wr.heap.size wr w2 := box_below (Nat.le_refl _) hb3
        have hown2 := owns_below hown hb4 (fun g' hg' => (hown.lt g' hg').2)
        have hbel2 : Below w.heap.size w w2 := hbel.trans (hb4.mono hsize)
        clear bx bo hb2
        go_wp2_with (at_builtin; go_must (refine wpList_append_lies _ (by rfl) _ _ _ (by rfl) w.heap.size 98 i0 _ 4 32 Tryd.underlying78 hi0 hz0 hz1 hz2 rfl (by omega) _ ls.length (ciCells (plains ls)) (by rfl) (hown2.alloc _) ⟨_, 0, none⟩ 1 1 [.int .i64 pn, .int .i64 c, .int .i64 n, .int .i64 0] (by rfl) (by rfl) (World.news_of_block (cs := #[.int .i64 pn, .int .i64 c, .int .i64 n, .int .i64 0]) (t := 98) (fr := (0, 0)) (heap_alloc_new _ _)) (by simp [Value.oneCell']) (by omega) (by unfold maxLen; omega) (by omega) (by simp; omega) _ rfl ?_); intro gg cap w3 hown3 hgrow hat hlt2)
        refine ⟨⟨pn + 2, ls ++ [⟨c, n, pn⟩], by omega, by go_num, by rw [plains_snoc, ciCells_snoc, List.length_append]; exact hown3, (hbel2.alloc (by omega) _).grown hgrow (by simp; omega) (fun k hk => (hown.lt k hk).1), ?_, by simp; omega⟩, by simp [intOf]; omega⟩
        rw [HDEC.out, HF.out]
        cases dec t L (pn + 2) <;> simp
      · have HF : Hid (dec t L pn = none) := hid (HNO.out (by rw [HBQ.out]; simp [behindQ, h24, htk, hsz, hbd]))
        have HBAD := hid hbd
        have HTK := hid htk
        clear hbd htk
        go_wp2_with fail
        refine (hasOperand_any c _).mono ?_
        intro e w9 hh
        obtain ⟨he9, hw9⟩ := hh
        rw [HTK.out] at he9
        subst e
        subst w9
        go_wp2_with fail
        refine (operandFits_any _ _ _ c n L _ rfl).mono ?_
        intro e w2 hh
        obtain ⟨he2, hb2⟩ := hh
        rw [HBAD.out] at he2
        subst e
        have hb4 : Below wr.heap.size wr w2 := box_below (Nat.le_refl _) (instr_below hb2)
        have hbel2 : Below w.heap.size w w2 := hbel.trans (hb4.mono hsize)
        go_wp2_with fail
        go_ret2
        exact ⟨hbel2, .inl ⟨by rw [HDEC.out, HF.out]; rfl, rfl⟩⟩
    · have HD := hid (dec_end t L pn (by omega))
      have hne : 0 < ls.length := by
        rcases Nat.eq_zero_or_pos ls.length with h | h
        · exfalso
          have h' := HDEC.out
          rw [HD.out, List.length_eq_zero_iff.1 h] at h'
          by_cases hq : (behindP t 0 L).1 = 0
          · rw [dec_none t L 0 (by omega) hq] at h'; cases h'
          · rw [dec_some t L 0 (by omega) hq] at h'
            cases hx : dec t L (behindP t 0 L).1 with
            | none => rw [hx] at h'; cases h'
            | some r => rw [hx] at h'; cases h'
        · exact h
      have HDEC2 : Hid (dec t L 0 = some ls) := hid (by rw [HDEC.out, HD.out]; simp)
      clear HDEC HD
      obtain ⟨g, cap, rfl, hg1, hg2⟩ := hown.form hne
      have hat := CiAt.of_owns (l := plains ls) (by rw [plains_len]; exact hown)
      go_wp2_with fail
      go_ret2
      exact ⟨hbel, .inr ⟨ls, g, cap, HDEC2.out, hne, by omega, rfl, hg1, hg2, hat⟩⟩
end Go.Proofs.YtdmdpindonghdaaDoor
namespace Go.Proofs.YtdmdpindonghdaaDoor
open Go.RowKit
theorem plains_get {ls : List Ins} {k : Nat} (h : k < ls.length) : (plains ls)[k]? = some ⟨ls[k], 0⟩ := by
  simp [plains, plain, h]
set_option maxRecDepth 100000 in
set_option maxHeartbeats 400000 in
theorem indexOf_any (ls : List Ins) (g cap p : Nat) (w : World) (hl : ls.length ≤ 200) (hat : CiAt w g (plains ls)) (hg : g < w.heap.size) :
    Calls Tryd.prog 99 #[.slice (some ⟨g, 0, none⟩) ls.length cap, .int .i64 p] w fun e w' => e = .returned (.int .i64 (findP p ls 0)) ∧ Below w.heap.size w w' := by
  go_enter Tryd.func99, Tryd.ntmps99
  go_wp2_with fail
  go_loopw [9] (fun i w' => ∃ k : Nat, k ≤ ls.length ∧ i = .int .i64 k ∧ findP p ls 0 = findP p (ls.drop k) k ∧ Below w.heap.size w w') (fun i _ => ls.length - (intOf i).toNat)
  case atStart => exact ⟨0, Nat.zero_le _, rfl, by simp, Below.refl _ _⟩
  case round =>
    obtain ⟨k, hk, rfl, hf, hbel⟩ := hrel
    have HF : Hid (findP p ls 0 = findP p (ls.drop k) k) := hf
    clear hf
    have hsz := hbel.size
    by_cases hlt : k < ls.length
    · obtain ⟨h0, h1, h2, h3⟩ := (hat.below hbel hg) k _ (plains_get hlt)
      simp only at h0 h1 h2 h3
      have HD : Hid (ls.drop k = ls[k] :: ls.drop (k + 1)) := List.drop_eq_getElem_cons hlt
      by_cases hp : ls[k].place = p
      · have hp' : (((ls[k].place : Nat) : Int) == (p : Int)) = true := by simp; omega
        have HP : Hid (ls[k].place = p) := hp
        clear hp
        go_wp2_with fail
        go_ret
        exact ⟨ret_int (by rw [HF.out, HD.out]; simp [findP, HP.out]), hbel.alloc hsz _⟩
      · have hp' : (((ls[k].place : Nat) : Int) == (p : Int)) = false := by simp; omega
        have HP := hid hp
        clear hp
        go_wp2_with fail
        exact ⟨⟨k + 1, by omega, by go_num, by rw [HF.out, HD.out]; simp [findP, HP.out], hbel.alloc hsz _⟩, by simp [intOf]; omega⟩
    · go_wp2_with fail
      go_ret
      exact ⟨ret_int (by rw [HF.out, List.drop_of_length_le (by omega)]; simp [findP]), hbel⟩
def aim1 (ls : List Ins) (i : Ins) : CI := ⟨i, aimOf ls i⟩
theorem take_map_snoc {ls : List Ins} {k : Nat} (h : k < ls.length) : (ls.take (k + 1)).map (aim1 ls) = (ls.take k).map (aim1 ls) ++ [aim1 ls ls[k]] := by
  rw [List.take_succ_eq_append_getElem h, List.map_append]
  rfl
theorem jumps_false {ls : List Ins} {k : Nat} (h : k < ls.length) (hj : isJump ls[k].op = true) (hf : findP ls[k].n ls 0 < 0) : jumpsOk ls = false := by
  unfold jumpsOk
  rw [List.all_eq_false]
  refine ⟨ls[k], List.getElem_mem h, ?_⟩
  simp [hj]
  exact hf
theorem jumps_true {ls : List Ins} (h : ∀ j (h : j < ls.length), isJump ls[j].op = false ∨ 0 ≤ findP ls[j].n ls 0) : jumpsOk ls = true := by
  unfold jumpsOk
  rw [List.all_eq_true]
  intro i hi
  obtain ⟨j, hj, rfl⟩ := List.getElem_of_mem hi
  rcases h j hj with h | h
  · simp [h]
  · simp [h]
def AimPost (ls : List Ins) (w : World) (e : Ending) (w' : World) : Prop :=
  Below w.heap.size w w' ∧ ((jumpsOk ls = false ∧ e = .returned (.tuple #[.slice none 0 0, .bool false])) ∨
    (jumpsOk ls = true ∧ ∃ g cap, e = .returned (.tuple #[.slice (some ⟨g, 0, none⟩) ls.length cap, .bool true]) ∧ w.heap.size ≤ g ∧ g < w'.heap.size ∧ CiAt w' g (aims ls)))
set_option maxRecDepth 100000 in
set_option maxHeartbeats 1000000 in
theorem withTargets_any (ls : List Ins) (g cap : Nat) (w : World) (hpos : 0 < ls.length) (hl : ls.length ≤ 200) (hat : CiAt w g (plains ls)) (hg : g < w.heap.size) :
    Calls Tryd.prog 82 #[.slice (some ⟨g, 0, none⟩) ls.length cap] w (AimPost ls w) := by
  obtain ⟨i0, hi0, hz0, hz1, hz2⟩ := info_parts Tryd.infoCI
  go_enter Tryd.func82, Tryd.ntmps82
  go_wp2_with fail
  go_loopw [4, 10] (fun v i w' => ∃ k : Nat, k ≤ ls.length ∧ i = .int .i64 k ∧ w'.ownsRow w.heap.size 98 4 v k (ciCells ((ls.take k).map (aim1 ls))) ∧ Below w.heap.size w w' ∧ (∀ j (h : j < ls.length), j < k → isJump ls[j].op = false ∨ 0 ≤ findP ls[j].n ls 0)) (fun _ i _ => ls.length - (intOf i).toNat)
  case atStart => exact ⟨0, Nat.zero_le _, rfl, World.ownsRow_nil _ _ _ _, Below.refl _ _, fun j _ h => by omega⟩
  case round =>
    obtain ⟨k, hk, rfl, hown, hbel, hall⟩ := hrel
    have HA := hid hall
    clear hall
    have hsz := hbel.size
    by_cases hlt : k < ls.length
    · obtain ⟨h0, h1, h2, h3⟩ := (hat.below hbel hg) k _ (plains_get hlt)
      simp only at h0 h1 h2 h3
      have HS := hid (take_map_snoc hlt)
      have hgr : g < wr.heap.size := by omega
      cases hj : isJump ls[k].op
      · have hj' : ((ls[k].op : Int) == 19) = false ∧ ((ls[k].op : Int) == 20) = false := by
          simp [isJump] at hj; simp only [beq_eq_false_iff_ne]; omega
        obtain ⟨t0, t1⟩ := hj'
        have HJ := hid hj
        have HC : Hid (aim1 ls ls[k] = ⟨ls[k], 0⟩) := hid (by simp [aim1, aimOf, hj])
        clear hj
        go_wp2_with (at_builtin; go_must (refine wpList_append_lies _ (by rfl) _ _ _ (by rfl) w.heap.size 98 i0 _ 4 32 Tryd.underlying78 hi0 hz0 hz1 hz2 rfl (by omega) _ k (ciCells ((ls.take k).map (aim1 ls))) (by rfl) ((hown.alloc _).alloc _) ⟨wr.heap.size + 1, 0, none⟩ 1 1 [.int .i64 ls[k].place, .int .i64 ls[k].op, .int .i64 ls[k].n, .int .i64 0] (by rfl) (by rfl) (World.news_of_block (cs := #[.int .i64 ls[k].place, .int .i64 ls[k].op, .int .i64 ls[k].n, .int .i64 0]) (t := 98) (fr := (0, 0)) (heap_two_new wr _ _)) (by simp [Value.oneCell']) (by omega) (by unfold maxLen; omega) (by omega) (by simp; omega) (wr.heap.size + 1 + 1) (by simp) ?_); intro gg cap3 w3 hown3 hgrow hat3 hlt3)
        refine ⟨⟨k + 1, by omega, by go_num, by rw [HS.out, HC.out, ciCells_snoc]; exact hown3, ((hbel.alloc hsz _).alloc (by simp; omega) _).grown hgrow (by simp; omega) (fun k' hk' => (hown.lt k' hk').1), fun j hj2 hjk => ?_⟩, by simp [intOf]; omega⟩
        rcases Nat.lt_or_ge j k with h | h
        · exact HA.out j hj2 h
        · have : j = k := by omega
          subst this
          exact .inl HJ.out
      · have HJ := hid hj
        have hj' : ((ls[k].op : Int) == 19) = true ∧ (0 : Int) ≤ 1 ∨ ((ls[k].op : Int) == 19) = false ∧ ((ls[k].op : Int) == 20) = true := by
          simp [isJump] at hj; simp only [beq_eq_false_iff_ne, beq_iff_eq]; omega
        clear hj
        have hidx := hid (indexOf_any ls g cap ls[k].n (wr.alloc (.cells #[.int .i64 ls[k].place, .int .i64 ls[k].op, .int .i64 ls[k].n, .int .i64 0] 98)) hl (hat.below (hbel.alloc hsz _) hg) (by simp; omega))
        by_cases hf : findP ls[k].n ls 0 < 0
        · have HN := hid (jumps_false hlt HJ.out hf)
          generalize findP ls[k].n ls 0 = F at *
          rcases hj' with ⟨t0, t1⟩ | ⟨t0, t1⟩
          all_goals
            go_wp2_with fail
            refine hidx.out.mono ?_
            clear hidx
            intro e w2 hh
            obtain ⟨he2, hb2⟩ := hh
            subst e
            have hbel2 : Below w.heap.size w w2 := (hbel.alloc hsz _).trans (hb2.mono (by simp; omega))
            go_wp2_with fail
            go_ret2
            exact ⟨hbel2, .inl ⟨HN.out, rfl⟩⟩
        · obtain ⟨tn, htn⟩ : ∃ tn : Nat, findP ls[k].n ls 0 = (tn : Int) := ⟨(findP ls[k].n ls 0).toNat, by omega⟩
          have HC : Hid (aim1 ls ls[k] = ⟨ls[k], tn⟩) := hid (by simp [aim1, aimOf, HJ.out, htn])
          have HTN := hid htn
          have HFN := hid hf
          rw [htn] at hidx
          clear htn hf
          rcases hj' with ⟨t0, t1⟩ | ⟨t0, t1⟩
          all_goals
            go_wp2_with fail
            refine hidx.out.mono ?_
            clear hidx
            intro e w2 hh
            obtain ⟨he2, hb2⟩ := hh
            subst e
            have hb3 := instr_below hb2
            obtain ⟨bx, bo, hz⟩ := box_cells hb3
            have x0 := bx 0
            have x1 := bx 1
            have x2 := bx 2
            have x3 := bx 3
            simp only [List.getElem?_toArray, List.getElem?_cons_zero, List.getElem?_cons_succ] at x0 x1 x2 x3
            have hfz := hb3.frozen (p := ⟨wr.heap.size, 3, none⟩) (by simp)
            have hb4 : Below wr.heap.size wr w2 := box_below (Nat.le_refl _) hb3
            have hown2 := owns_below hown hb4 (fun g' hg' => (hown.lt g' hg').2)
            have hbel2 : Below w.heap.size w w2 := hbel.trans (hb4.mono hsz)
            clear bx bo hb2
            have hown4 := owns_set (a := ⟨wr.heap.size, 3, none⟩) hown2 (by intro h; have := (hown.lt _ h).2; simp at this) (.int .i64 tn)
            have hz5 : (w2.setCell ⟨wr.heap.size, 3, none⟩ (.int .i64 tn)).heap.size = w2.heap.size := by simp [World.setCell]
            have HZ5 := hid hz5
            have hbel4 := hbel2.setCell (p := ⟨wr.heap.size, 3, none⟩) (by simp; omega) (.int .i64 tn)
            clear hz5
            go_wp2_with (at_builtin; go_must (refine wpList_append_lies _ (by rfl) _ _ _ (by rfl) w.heap.size 98 i0 _ 4 32 Tryd.underlying78 hi0 hz0 hz1 hz2 rfl (by omega) _ k (ciCells ((ls.take k).map (aim1 ls))) (by rfl) (hown4.alloc _) ⟨w2.heap.size, 0, none⟩ 1 1 [.int .i64 ls[k].place, .int .i64 ls[k].op, .int .i64 ls[k].n, .int .i64 tn] (by rfl) (by rfl) (World.news_of_block (cs := #[.int .i64 ls[k].place, .int .i64 ls[k].op, .int .i64 ls[k].n, .int .i64 tn]) (t := 98) (fr := (0, 0)) (heap_set_new w2 _ _ _)) (by simp [Value.oneCell']) (by omega) (by unfold maxLen; omega) (by omega) (by simp [World.setCell]; omega) (w2.heap.size + 1) (by simp [World.setCell]) ?_); intro gg cap3 w3 hown3 hgrow hat3 hlt3)
            refine ⟨⟨k + 1, by omega, by go_num, by rw [HS.out, HC.out, ciCells_snoc]; exact hown3, (hbel4.alloc (by rw [HZ5.out]; omega) _).grown hgrow (by simp [World.setCell]; omega) (fun k' hk' => (hown.lt k' hk').1), fun j hj2 hjk => ?_⟩, by simp [intOf]; omega⟩
            rcases Nat.lt_or_ge j k with h | h
            · exact HA.out j hj2 h
            · have : j = k := by omega
              subst this
              exact .inr (by rw [HTN.out]; omega)
    · have hke : k = ls.length := by omega
      subst hke
      have HJ := hid (jumps_true (ls := ls) fun j h => HA.out j h h)
      obtain ⟨g3, cap3, rfl, hg3, hg4⟩ := hown.form (by omega)
      have hat3 := CiAt.of_owns (l := aims ls) (by rw [aims_len]; rw [List.take_length] at hown; exact hown)
      go_wp2_with fail
      go_ret2
      exact ⟨hbel, .inr ⟨HJ.out, g3, cap3, rfl, hg3, hg4, hat3⟩⟩
set_option maxRecDepth 100000 in
set_option maxHeartbeats 400000 in
theorem endsWell_any (ls : List Ins) (cl : List CI) (g cap : Nat) (w : World) (hpos : 0 < ls.length) (hl : ls.length ≤ 200) (hcl : cl = aims ls) (hat : CiAt w g cl) :
    Calls Tryd.prog 83 #[.slice (some ⟨g, 0, none⟩) ls.length cap] w fun e w' => e = .returned (.bool (endsOk ls)) ∧ w' = w := by
  obtain ⟨h0, h1, h2, h3⟩ := hat (ls.length - 1) (aim1 ls (ls[ls.length - 1]'(by omega))) (by
    rw [hcl]; simp only [aims, List.getElem?_map]; rw [List.getElem?_eq_getElem (by omega)]; rfl)
  simp only [aim1] at h0 h1 h2 h3
  have HO : Hid (endsOk ls = ((ls[ls.length - 1]'(by omega)).op == 0 || (ls[ls.length - 1]'(by omega)).op == 19)) := hid (by
    unfold endsOk lastOp
    rw [List.getLast?_eq_getElem?, List.getElem?_eq_getElem (by omega)]
    rfl)
  generalize endsOk ls = E at *
  clear hat hcl
  have hne : (((ls.length : Nat) : Int) == 0) = false := by rw [beq_eq_false_iff_ne]; omega
  go_enter Tryd.func83, Tryd.ntmps83
  go_wp2
  all_goals go_ret
  all_goals simp only [beq_eq_false_iff_ne, ne_eq] at *
  all_goals exact ⟨ret_bool (by rw [HO.out, Bool.eq_iff_iff]; simp; omega), by first | rfl | trivial⟩
end Go.Proofs.YtdmdpindonghdaaDoor
namespace Go.Proofs.YtdmdpindonghdaaDoor
open Go.RowKit
def ReadPost (s : ByteArray) (w : World) (e : Ending) (w' : World) : Prop :=
  Below w.heap.size w w' ∧ ((errOf s ≠ 0 ∧ e = .returned (.tuple #[.agg #[.int .i64 0, .slice none 0 0], .int .i64 (errOf s : Nat)])) ∨
    (errOf s = 0 ∧ ∃ g cap, e = .returned (.tuple #[.agg #[.int .i64 (byteAt s 1 : Nat), .slice (some ⟨g, 0, none⟩) (codeOf s).length cap], .int .i64 0]) ∧ w.heap.size ≤ g ∧ g < w'.heap.size ∧ CiAt w' g (aims (codeOf s))))
theorem readPost_err {s : ByteArray} {w w' : World} {k : Nat} {z : Int} (hb : Below w.heap.size w w') (he : errOf s = k) (hk : k ≠ 0) (hz : z = (k : Int)) : ReadPost s w (.returned (.tuple #[.agg #[.int .i64 0, .slice none 0 0], .int .i64 z])) w' := by
  subst he; subst hz; exact ⟨hb, .inl ⟨hk, rfl⟩⟩
theorem two_set {w w2 : World} {o : Obj} {u v : Value} (hb : Below (w.heap.size + 1) (w.alloc o) w2) : Below w.heap.size w ((w2.setCell ⟨w.heap.size, 0, none⟩ u).setCell ⟨w.heap.size, 1, none⟩ v) :=
  ((box_below (Nat.le_refl _) hb).setCell (by simp) _).setCell (by simp) _
set_option maxRecDepth 100000 in
set_option maxHeartbeats 1000000 in
theorem read_any (s : ByteArray) (w : World) (hs : s.size ≤ maxLen) :
    Calls Tryd.prog 62 #[.string s] w (ReadPost s w) := by
  have hshp := hid (shaped_any s (w.alloc (.cells #[.int .i64 0, .slice none 0 0] 80)) hs)
  cases hsh : shapedP s
  · have HE : Hid (errOf s = 1) := hid (by simp [errOf, hsh])
    rw [hsh] at hshp
    clear hsh hs
    go_enter Tryd.func62, Tryd.ntmps62
    go_wp2_with fail
    refine hshp.out.mono ?_
    intro e w9 hh
    obtain ⟨he9, hw9⟩ := hh
    subst e
    subst w9
    clear hshp
    go_wp2_with fail
    exact bodyPost_ret (v := .tuple #[.agg #[.int .i64 0, .slice none 0 0], .int .i64 1]) (by simp [results, Tryd.results62, go_sem]) rfl (readPost_err ((Below.refl _ _).alloc (Nat.le_refl _) _) HE.out (by decide) rfl)
  · obtain ⟨⟨⟨h3, h4⟩, h0⟩, h1⟩ : ((3 ≤ s.size ∧ s.size ≤ 122) ∧ byteAt s 0 = 84) ∧ byteAt s 1 ≤ 4 := by simpa [shapedP] using hsh
    have hsz : (textOf s).size = s.size - 2 := by simp [textOf]
    have e1 := byteAt_eq s 1 (by omega)
    have HB : Hid (errOf s = match dec (textOf s) (byteAt s 1) 0 with
      | none => 2
      | some l => if jumpsOk l = false then 3 else if endsOk l = false then 4 else 0) := hid (by unfold errOf; rw [hsh]; rfl)
    have HC : Hid (codeOf s = (dec (textOf s) (byteAt s 1) 0).getD []) := hid rfl
    rw [hsh] at hshp
    have HT : Hid (textOf s = s.extract 2 s.size) := hid rfl
    have hins := hid (fun W => instructions_any (textOf s) (byteAt s 1) W (by omega) (by omega))
    generalize hL : byteAt s 1 = L at *
    have HL := hid hL
    have t2 : (textOf s).size ≤ 120 := by omega
    clear hsh h0 hL hs hsz
    go_enter Tryd.func62, Tryd.ntmps62
    go_wp2_with fail
    refine hshp.out.mono ?_
    intro e w9 hh
    obtain ⟨he9, hw9⟩ := hh
    subst e
    subst w9
    clear hshp
    go_wp2_with fail
    rw [← HT.out]
    refine (hins.out _).mono ?_
    clear hins
    intro e w2 hp
    obtain ⟨hb, hp⟩ := hp
    have hb1 := instr_below hb
    obtain ⟨bx, bo, hz⟩ := box_cells hb1
    have x0 := bx 0
    have x1 := bx 1
    simp only [List.getElem?_toArray, List.getElem?_cons_zero, List.getElem?_cons_succ] at x0 x1
    clear bx bo hb
    rcases hp with ⟨hd, rfl⟩ | ⟨ls, g, cap, hd, hpos, hle, rfl, hg1, hg2, hat⟩
    · have HE : Hid (errOf s = 2) := hid (by have := HB.out; rw [hd] at this; exact this)
      clear hd
      have hf0 := hb1.frozen (p := ⟨w.heap.size, 0, none⟩) (by simp)
      have hf1 := hb1.frozen (p := ⟨w.heap.size, 1, none⟩) (by simp)
      go_wp2_with fail
      exact bodyPost_ret (v := .tuple #[.agg #[.int .i64 0, .slice none 0 0], .int .i64 2]) (by simp [results, Tryd.results62, go_sem, x0, x1]) rfl (readPost_err (two_set hb1) HE.out (by decide) rfl)
    · have hws := hid (withTargets_any ls g cap w2 hpos (by omega) hat hg2)
      have hgz : w.heap.size + 1 ≤ g := by simpa using hg1
      clear hg1 hat
      have HD := hid hd
      clear hd
      go_wp2_with fail
      refine hws.out.mono ?_
      clear hws
      intro e w3 hp
      obtain ⟨hb3, hp⟩ := hp
      have hb4 : Below (w.heap.size + 1) (w.alloc (.cells #[.int .i64 0, .slice none 0 0] 80)) w3 := hb1.trans (hb3.mono hz)
      have hz3 := hb3.size
      obtain ⟨bx, bo, hz4⟩ := box_cells hb4
      have y0 := bx 0
      have y1 := bx 1
      simp only [List.getElem?_toArray, List.getElem?_cons_zero, List.getElem?_cons_succ] at y0 y1
      have hf0 := hb4.frozen (p := ⟨w.heap.size, 0, none⟩) (by simp)
      have hf1 := hb4.frozen (p := ⟨w.heap.size, 1, none⟩) (by simp)
      clear bx bo x0 x1
      rcases hp with ⟨hj, rfl⟩ | ⟨hj, g3, cap3, rfl, hg3, hg4, hat3⟩
      · have HE : Hid (errOf s = 3) := hid (by have := HB.out; rw [HD.out] at this; simpa [hj] using this)
        clear hj
        go_wp2_with fail
        exact bodyPost_ret (v := .tuple #[.agg #[.int .i64 0, .slice none 0 0], .int .i64 3]) (by simp [results, Tryd.results62, go_sem, y0, y1]) rfl (readPost_err (two_set hb4) HE.out (by decide) rfl)
      · have HJ := hid hj
        clear hj
        have hew := hid (endsWell_any ls (aims ls) g3 cap3 w3 hpos (by omega) rfl hat3)
        go_wp2_with fail
        refine hew.out.mono ?_
        clear hew
        intro e w9 hh
        obtain ⟨he9, hw9⟩ := hh
        subst e
        subst w9
        cases hen : endsOk ls
        · have HE : Hid (errOf s = 4) := hid (by have := HB.out; rw [HD.out] at this; simpa [HJ.out, hen] using this)
          clear hen
          go_wp2_with fail
          exact bodyPost_ret (v := .tuple #[.agg #[.int .i64 0, .slice none 0 0], .int .i64 4]) (by simp [results, Tryd.results62, go_sem, y0, y1]) rfl (readPost_err (two_set hb4) HE.out (by decide) rfl)
        · have HE : Hid (errOf s = 0) := hid (by have := HB.out; rw [HD.out] at this; simpa [HJ.out, hen] using this)
          have HCO : Hid (codeOf s = ls) := hid (by rw [HC.out, HD.out]; rfl)
          clear hen
          go_wp2_with fail
          refine bodyPost_ret (v := .tuple #[.agg #[.int .i64 L, .slice (some ⟨g3, 0, none⟩) ls.length cap3], .int .i64 0]) (by simp [results, Tryd.results62, go_sem, y0, y1]) rfl ⟨two_set hb4, .inr ⟨HE.out, ?_⟩⟩
          rw [HL.out, HCO.out]
          exact ⟨g3, cap3, rfl, by omega, by simp [World.setCell]; exact hg4, hat3.same (by rw [Below.heap_setCell _ _ _ _ (by simp; omega), Below.heap_setCell _ _ _ _ (by simp; omega)])⟩
end Go.Proofs.YtdmdpindonghdaaDoor
namespace Go.Proofs.YtdmdpindonghdaaDoor
open Go.RowKit
/-- Only block b may have turned; no block is new. -/
structure Only (b : Nat) (w w' : World) : Prop where
  os : w'.os = w.os
  tape : w'.tape = w.tape
  output : w'.output = w.output
  size : w'.heap.size = w.heap.size
  block : ∀ k, k ≠ b → w'.heap[k]? = w.heap[k]?
theorem Only.refl (b : Nat) (w : World) : Only b w w := ⟨rfl, rfl, rfl, rfl, fun _ _ => rfl⟩
theorem Only.trans {b : Nat} {w1 w2 w3 : World} (h : Only b w1 w2) (k : Only b w2 w3) : Only b w1 w3 :=
  ⟨k.os.trans h.os, k.tape.trans h.tape, k.output.trans h.output, k.size.trans h.size, fun i hi => (k.block i hi).trans (h.block i hi)⟩
theorem Only.set {b : Nat} {w1 w2 : World} (h : Only b w1 w2) (o : Nat) (v : Value) : Only b w1 (w2.setCell ⟨b, o, none⟩ v) :=
  h.trans ⟨rfl, rfl, rfl, by simp [World.setCell], fun k hk => Below.heap_setCell _ _ _ _ hk⟩
theorem Only.drewN {b : Nat} {w1 w2 : World} (h : Only b w1 w2) (n : Nat) : Only b w1 (w2.drewN n) := h.trans ⟨rfl, rfl, rfl, rfl, fun _ _ => rfl⟩
theorem Only.drew {b : Nat} {w1 w2 : World} (h : Only b w1 w2) : Only b w1 w2.drew := h.trans ⟨rfl, rfl, rfl, rfl, fun _ _ => rfl⟩
theorem Only.below {b B : Nat} {w w' : World} (h : Only b w w') (hb : B ≤ b) : Below B w w' :=
  ⟨h.os, h.tape, h.output, by rw [h.size]; exact Nat.le_refl _, fun k hk => h.block k (by omega)⟩
theorem Only.cell {b : Nat} {w w' : World} (h : Only b w w') {k o : Nat} (hk : k ≠ b) : w'.cell? ⟨k, o, none⟩ = w.cell? ⟨k, o, none⟩ := World.cell?_of_block (a := ⟨k, o, none⟩) (h.block k hk)
/-- A frame's row lies at block b. -/
def RowAt (w : World) (b : Nat) (cs : Array Value) : Prop := w.heap[b]? = some (.cells cs 93)
theorem RowAt.cell {w : World} {b : Nat} {cs : Array Value} (h : RowAt w b cs) (j : Nat) : w.cell? ⟨b, j, none⟩ = cs[j]? := cell_of_row w b j cs _ _ h
theorem RowAt.frozen {w : World} {b : Nat} {cs : Array Value} (h : RowAt w b cs) (j : Nat) : w.frozen? ⟨b, j, none⟩ = false := frozen_of_row w b j cs _ h
theorem RowAt.set {w : World} {b : Nat} {cs : Array Value} (h : RowAt w b cs) (j : Nat) (v : Value) : RowAt (w.setCell ⟨b, j, none⟩ v) b (cs.setIfInBounds j v) := setCell_row j v h
theorem RowAt.drewN {w : World} {b : Nat} {cs : Array Value} (h : RowAt w b cs) (n : Nat) : RowAt (w.drewN n) b cs := h
theorem RowAt.lt {w : World} {b : Nat} {cs : Array Value} (h : RowAt w b cs) : b < w.heap.size := by
  unfold RowAt at h
  exact (Array.getElem?_eq_some_iff.1 h).1
end Go.Proofs.YtdmdpindonghdaaDoor
namespace Go.Proofs.YtdmdpindonghdaaDoor
open Go.RowKit
structure Fr where
  reached : Bool
  lo : List Nat
  depth : Nat
  stk : List Nat
  wrong : Bool
structure FrOk (f : Fr) : Prop where
  lo : f.lo.length = 4
  stk : f.stk.length = 8
  depth : f.depth ≤ 8
def numV (n : Nat) : Value := .int .i64 (n : Int)
def frL (f : Fr) : List Value := .bool f.reached :: (f.lo.map numV ++ (numV f.depth :: (f.stk.map numV ++ [.bool f.wrong])))
def FrAt (w : World) (b : Nat) (f : Fr) : Prop := RowAt w b (frL f).toArray
theorem four {l : List Nat} (h : l.length = 4) : ∃ a b c d, l = [a, b, c, d] := by
  match l, h with
  | [a, b, c, d], _ => exact ⟨a, b, c, d, rfl⟩
theorem eight {l : List Nat} (h : l.length = 8) : ∃ a b c d e f g i, l = [a, b, c, d, e, f, g, i] := by
  match l, h with
  | [a, b, c, d, e, f, g, i], _ => exact ⟨a, b, c, d, e, f, g, i, rfl⟩
theorem fr_get {f : Fr} (h : FrOk f) : (frL f).toArray[0]? = some (.bool f.reached) ∧ (frL f).toArray[5]? = some (numV f.depth) ∧ (frL f).toArray[14]? = some (.bool f.wrong) := by
  obtain ⟨r, lo, d, st, wr⟩ := f
  obtain ⟨h1, h2, h3⟩ := h
  simp only at h1 h2
  obtain ⟨a, b, c, e, rfl⟩ := four h1
  obtain ⟨s0, s1, s2, s3, s4, s5, s6, s7, rfl⟩ := eight h2
  exact ⟨rfl, rfl, rfl⟩
theorem fr_lo {f : Fr} (h : FrOk f) {i : Nat} (hi : i < 4) : (frL f).toArray[1 + i]? = some (numV (f.lo.getD i 0)) := by
  obtain ⟨r, lo, d, st, wr⟩ := f
  obtain ⟨h1, h2, h3⟩ := h
  simp only at h1 h2
  obtain ⟨a, b, c, e, rfl⟩ := four h1
  match i, hi with
  | 0, _ => rfl
  | 1, _ => rfl
  | 2, _ => rfl
  | 3, _ => rfl
theorem fr_stk {f : Fr} (h : FrOk f) {i : Nat} (hi : i < 8) : (frL f).toArray[6 + i]? = some (numV (f.stk.getD i 0)) := by
  obtain ⟨r, lo, d, st, wr⟩ := f
  obtain ⟨h1, h2, h3⟩ := h
  simp only at h1 h2
  obtain ⟨a, b, c, e, rfl⟩ := four h1
  obtain ⟨s0, s1, s2, s3, s4, s5, s6, s7, rfl⟩ := eight h2
  match i, hi with
  | 0, _ => rfl
  | 1, _ => rfl
  | 2, _ => rfl
  | 3, _ => rfl
  | 4, _ => rfl
  | 5, _ => rfl
  | 6, _ => rfl
  | 7, _ => rfl
theorem fr_set_depth {f : Fr} (h : FrOk f) (n : Nat) : (frL f).toArray.setIfInBounds 5 (numV n) = (frL { f with depth := n }).toArray := by
  obtain ⟨r, lo, d, st, wr⟩ := f
  obtain ⟨h1, h2, h3⟩ := h
  simp only at h1 h2
  obtain ⟨a, b, c, e, rfl⟩ := four h1
  simp [frL]
theorem fr_set_wrong {f : Fr} (h : FrOk f) (u : Bool) : (frL f).toArray.setIfInBounds 14 (.bool u) = (frL { f with wrong := u }).toArray := by
  obtain ⟨r, lo, d, st, wr⟩ := f
  obtain ⟨h1, h2, h3⟩ := h
  simp only at h1 h2
  obtain ⟨a, b, c, e, rfl⟩ := four h1
  obtain ⟨s0, s1, s2, s3, s4, s5, s6, s7, rfl⟩ := eight h2
  simp [frL]
theorem fr_set_stk {f : Fr} (h : FrOk f) {i : Nat} (hi : i < 8) (n : Nat) : (frL f).toArray.setIfInBounds (6 + i) (numV n) = (frL { f with stk := f.stk.set i n }).toArray := by
  obtain ⟨r, lo, d, st, wr⟩ := f
  obtain ⟨h1, h2, h3⟩ := h
  simp only at h1 h2
  obtain ⟨a, b, c, e, rfl⟩ := four h1
  obtain ⟨s0, s1, s2, s3, s4, s5, s6, s7, rfl⟩ := eight h2
  match i, hi with
  | 0, _ => simp [frL]
  | 1, _ => simp [frL]
  | 2, _ => simp [frL]
  | 3, _ => simp [frL]
  | 4, _ => simp [frL]
  | 5, _ => simp [frL]
  | 6, _ => simp [frL]
  | 7, _ => simp [frL]
theorem fr_set_lo {f : Fr} (h : FrOk f) {i : Nat} (hi : i < 4) (n : Nat) : (frL f).toArray.setIfInBounds (1 + i) (numV n) = (frL { f with lo := f.lo.set i n }).toArray := by
  obtain ⟨r, lo, d, st, wr⟩ := f
  obtain ⟨h1, h2, h3⟩ := h
  simp only at h1 h2
  obtain ⟨a, b, c, e, rfl⟩ := four h1
  match i, hi with
  | 0, _ => simp [frL]
  | 1, _ => simp [frL]
  | 2, _ => simp [frL]
  | 3, _ => simp [frL]
def badF (f : Fr) : Fr := { f with wrong := true }
def popF (f : Fr) : Fr × Nat := if f.depth = 0 then (badF f, 0) else ({ f with depth := f.depth - 1, stk := f.stk.set (f.depth - 1) 0 }, f.stk.getD (f.depth - 1) 0)
def pushF (f : Fr) (k : Nat) : Fr := if f.depth = 8 then badF f else { f with stk := f.stk.set f.depth k, depth := f.depth + 1 }
theorem badF_ok {f : Fr} (h : FrOk f) : FrOk (badF f) := ⟨h.lo, h.stk, h.depth⟩
theorem popF_ok {f : Fr} (h : FrOk f) : FrOk (popF f).1 := by
  unfold popF
  by_cases hd : f.depth = 0
  · rw [if_pos hd]; exact badF_ok h
  · rw [if_neg hd]; exact ⟨h.lo, by simp [h.stk], by have := h.depth; simp only; omega⟩
theorem pushF_ok {f : Fr} (h : FrOk f) (k : Nat) : FrOk (pushF f k) := by
  unfold pushF
  by_cases hd : f.depth = 8
  · rw [if_pos hd]; exact badF_ok h
  · rw [if_neg hd]; exact ⟨h.lo, by simp [h.stk], by have := h.depth; simp only; omega⟩
end Go.Proofs.YtdmdpindonghdaaDoor
namespace Go.Proofs.YtdmdpindonghdaaDoor
open Go.RowKit
set_option maxRecDepth 100000 in
set_option maxHeartbeats 400000 in
theorem pop_ok (b : Nat) (cs : Array Value) (e k : Nat) (w : World) (hr : RowAt w b cs) (h5 : cs[5]? = some (.int .i64 ((e + 1 : Nat) : Int))) (he : e < 8) (hk : cs[6 + e]? = some (.int .i64 k)) :
    Calls Tryd.prog 126 #[.pointer (some ⟨b, 0, none⟩)] w fun x w' => x = .returned (.int .i64 k) ∧ RowAt w' b ((cs.setIfInBounds 5 (.int .i64 e)).setIfInBounds (6 + e) (.int .i64 0)) ∧ Only b w w' := by
  have c5 := (hr.cell 5).trans h5
  have c6 := (hr.cell (6 + e)).trans hk
  have f5 := hr.frozen 5
  have f6 := hr.frozen (6 + e)
  have hcs : 6 + e < cs.size := (Array.getElem?_eq_some_iff.1 hk).1
  have r1 := hr.set 5 (.int .i64 e)
  have d5 := r1.cell 5
  have d6 := r1.cell (6 + e)
  have g6 := r1.frozen (6 + e)
  rw [Array.getElem?_setIfInBounds_self_of_lt (by omega)] at d5
  rw [Array.getElem?_setIfInBounds_ne (by omega), hk] at d6
  have R1 := hid r1
  have i0 : (0 : Int) ≤ (e : Int) := by omega
  have i1 : (e : Int) < 8 := by omega
  have HH5 := hid h5
  have HHK := hid hk
  clear r1 h5 hk
  go_enter Tryd.func126, Tryd.ntmps126
  go_wp2
  go_quiet (fail)
  go_wp2
  go_region
  all_goals go_wp2
  go_ret
  exact ⟨rfl, (R1.out.drewN _).set _ _, (((Only.refl _ _).set _ _).drewN _).set _ _⟩
set_option maxRecDepth 100000 in
set_option maxHeartbeats 400000 in
theorem pop_bad (b : Nat) (cs : Array Value) (u : Bool) (w : World) (hr : RowAt w b cs) (h5 : cs[5]? = some (.int .i64 0)) (h14 : cs[14]? = some (.bool u)) :
    Calls Tryd.prog 126 #[.pointer (some ⟨b, 0, none⟩)] w fun x w' => x = .returned (.int .i64 0) ∧ RowAt w' b (cs.setIfInBounds 14 (.bool true)) ∧ Only b w w' := by
  have c5 := (hr.cell 5).trans h5
  have c14 := (hr.cell 14).trans h14
  have f14 := hr.frozen 14
  go_enter Tryd.func126, Tryd.ntmps126
  go_wp2
  go_ret
  exact ⟨rfl, hr.set _ _, (Only.refl _ _).set _ _⟩
set_option maxRecDepth 100000 in
set_option maxHeartbeats 400000 in
theorem push_ok (b : Nat) (cs : Array Value) (d k : Nat) (v : Value) (w : World) (hr : RowAt w b cs) (h5 : cs[5]? = some (.int .i64 (d : Nat))) (hd : d < 8) (hk : cs[6 + d]? = some v) :
    Calls Tryd.prog 127 #[.pointer (some ⟨b, 0, none⟩), .int .i64 k] w fun x w' => x = .returned (.tuple #[]) ∧ RowAt w' b ((cs.setIfInBounds (6 + d) (.int .i64 k)).setIfInBounds 5 (.int .i64 ((d : Int) + 1))) ∧ Only b w w' := by
  have c5 := (hr.cell 5).trans h5
  have c6 := (hr.cell (6 + d)).trans hk
  have f5 := hr.frozen 5
  have f6 := hr.frozen (6 + d)
  have hcs : 6 + d < cs.size := (Array.getElem?_eq_some_iff.1 hk).1
  have r1 := hr.set (6 + d) (.int .i64 k)
  have d5 := r1.cell 5
  have g5 := r1.frozen 5
  rw [Array.getElem?_setIfInBounds_ne (by omega), h5] at d5
  have R1 := hid r1
  have i0 : (0 : Int) ≤ (d : Int) := by omega
  have i1 : (d : Int) < 8 := by omega
  clear r1 h5 hk
  go_enter Tryd.func127, Tryd.ntmps127
  go_wp2
  go_region
  all_goals go_wp2
  go_end0
  exact ⟨rfl, (show RowAt _ b _ from R1.out).set _ _, ((Only.refl _ _).set _ _).drew.set _ _⟩
set_option maxRecDepth 100000 in
set_option maxHeartbeats 400000 in
theorem push_full (b : Nat) (cs : Array Value) (u : Bool) (k : Nat) (w : World) (hr : RowAt w b cs) (h5 : cs[5]? = some (.int .i64 8)) (h14 : cs[14]? = some (.bool u)) :
    Calls Tryd.prog 127 #[.pointer (some ⟨b, 0, none⟩), .int .i64 k] w fun x w' => x = .returned (.tuple #[]) ∧ RowAt w' b (cs.setIfInBounds 14 (.bool true)) ∧ Only b w w' := by
  have c5 := (hr.cell 5).trans h5
  have c14 := (hr.cell 14).trans h14
  have f14 := hr.frozen 14
  go_enter Tryd.func127, Tryd.ntmps127
  go_wp2
  exact bodyPost_ret (v := .tuple #[]) (by simp [results, Tryd.results127, go_sem]) rfl ⟨rfl, hr.set _ _, (Only.refl _ _).set _ _⟩
end Go.Proofs.YtdmdpindonghdaaDoor
namespace Go.Proofs.YtdmdpindonghdaaDoor
open Go.RowKit
theorem pop_any (b : Nat) (f : Fr) (w : World) (h : FrAt w b f) (ok : FrOk f) :
    Calls Tryd.prog 126 #[.pointer (some ⟨b, 0, none⟩)] w fun x w' => x = .returned (.int .i64 ((popF f).2 : Nat)) ∧ FrAt w' b (popF f).1 ∧ Only b w w' := by
  obtain ⟨g0, g5, g14⟩ := fr_get ok
  have hd := ok.depth
  by_cases h0 : f.depth = 0
  · rw [h0] at g5
    refine (pop_bad b _ f.wrong w h g5 g14).mono ?_
    rintro x w' ⟨h1, h2, h3⟩
    rw [fr_set_wrong ok] at h2
    simp only [popF, if_pos h0]
    exact ⟨h1, h2, h3⟩
  · obtain ⟨e, he⟩ : ∃ e, f.depth = e + 1 := ⟨f.depth - 1, by omega⟩
    rw [he] at g5
    have hs := fr_stk ok (i := e) (by omega)
    refine (pop_ok b _ e _ w h g5 (by omega) hs).mono ?_
    rintro x w' ⟨h1, h2, h3⟩
    rw [show (Value.int .i64 (e : Int)) = numV e from rfl, fr_set_depth ok, show (Value.int .i64 0) = numV 0 from rfl, fr_set_stk (f := { f with depth := e }) ⟨ok.lo, ok.stk, by simp only; omega⟩ (by omega)] at h2
    simp only [popF, if_neg h0]
    rw [show f.depth - 1 = e by omega]
    exact ⟨h1, h2, h3⟩
theorem push_any (b : Nat) (f : Fr) (k : Nat) (w : World) (h : FrAt w b f) (ok : FrOk f) :
    Calls Tryd.prog 127 #[.pointer (some ⟨b, 0, none⟩), .int .i64 k] w fun x w' => x = .returned (.tuple #[]) ∧ FrAt w' b (pushF f k) ∧ Only b w w' := by
  obtain ⟨g0, g5, g14⟩ := fr_get ok
  have hd := ok.depth
  by_cases h0 : f.depth = 8
  · rw [h0] at g5
    refine (push_full b _ f.wrong k w h g5 g14).mono ?_
    rintro x w' ⟨h1, h2, h3⟩
    rw [fr_set_wrong ok] at h2
    simp only [pushF, if_pos h0]
    exact ⟨h1, h2, h3⟩
  · have hs := fr_stk ok (i := f.depth) (by omega)
    refine (push_ok b _ f.depth k _ w h g5 (by omega) hs).mono ?_
    rintro x w' ⟨h1, h2, h3⟩
    rw [show (Value.int .i64 (k : Int)) = numV k from rfl, fr_set_stk ok (by omega), show (Value.int .i64 ((f.depth : Int) + 1)) = numV (f.depth + 1) from rfl, fr_set_depth (f := { f with stk := f.stk.set f.depth k }) ⟨ok.lo, by simp [ok.stk], ok.depth⟩] at h2
    simp only [pushF, if_neg h0]
    exact ⟨h1, h2, h3⟩
/-- What a Load and a Store do to a frame. -/
def loadF (f : Fr) (n : Nat) : Fr := if 4 ≤ n then badF f else pushF (if f.lo.getD n 0 = 2 then badF f else f) (f.lo.getD n 0)
def storeF (f : Fr) (n : Nat) : Fr := if 4 ≤ n then badF (popF f).1 else { (popF f).1 with lo := (popF f).1.lo.set n (popF f).2 }
theorem loadF_ok {f : Fr} (h : FrOk f) (n : Nat) : FrOk (loadF f n) := by
  unfold loadF
  by_cases hn : 4 ≤ n
  · rw [if_pos hn]; exact badF_ok h
  · rw [if_neg hn]
    apply pushF_ok
    by_cases h2 : f.lo.getD n 0 = 2
    · rw [if_pos h2]; exact badF_ok h
    · rw [if_neg h2]; exact h
theorem storeF_ok {f : Fr} (h : FrOk f) (n : Nat) : FrOk (storeF f n) := by
  unfold storeF
  have h1 := popF_ok h
  by_cases hn : 4 ≤ n
  · rw [if_pos hn]; exact badF_ok h1
  · rw [if_neg hn]; exact ⟨by simp [h1.lo], h1.stk, h1.depth⟩
set_option maxRecDepth 100000 in
set_option maxHeartbeats 400000 in
theorem load_any (b : Nat) (f : Fr) (n : Nat) (w : World) (h : FrAt w b f) (ok : FrOk f) (hn : n < 4) :
    Calls Tryd.prog 124 #[.pointer (some ⟨b, 0, none⟩), .int .i64 n] w fun x w' => x = .returned (.tuple #[]) ∧ FrAt w' b (loadF f n) ∧ Only b w w' := by
  obtain ⟨g0, g5, g14⟩ := fr_get ok
  have c := (RowAt.cell h (1 + n)).trans (fr_lo ok hn)
  have c14 := (RowAt.cell h 14).trans g14
  have f14 := RowAt.frozen h 14
  have i0 : (0 : Int) ≤ (n : Int) := by omega
  have i1 : (n : Int) < 4 := by omega
  have HR := hid h
  simp only [numV] at c
  have HL : Hid (loadF f n = pushF (if f.lo.getD n 0 = 2 then badF f else f) (f.lo.getD n 0)) := hid (by unfold loadF; rw [if_neg (by omega)])
  generalize f.lo.getD n 0 = k at *
  clear g0 g5 g14 h
  by_cases h2 : k = 2
  · have h2' : ((k : Int) == 2) = true := by simp; omega
    have hrow : FrAt (w.setCell ⟨b, 14, none⟩ (.bool true)) b (badF f) := by
      have := RowAt.set HR.out 14 (.bool true)
      rw [fr_set_wrong ok] at this
      exact this
    have hp := hid (push_any b (badF f) k _ hrow (badF_ok ok))
    rw [if_pos h2] at HL
    clear h2 hrow
    go_enter Tryd.func124, Tryd.ntmps124
    go_wp2_with fail
    refine hp.out.mono ?_
    rintro x w2 ⟨rfl, h3, h4⟩
    go_wp2_with fail
    go_end0
    exact ⟨rfl, by rw [HL.out]; exact h3, ((Only.refl _ _).set _ _).trans h4⟩
  · have h2' : ((k : Int) == 2) = false := by simp; omega
    have hp := hid (push_any b f k w HR.out ok)
    rw [if_neg h2] at HL
    clear h2
    go_enter Tryd.func124, Tryd.ntmps124
    go_wp2_with fail
    refine hp.out.mono ?_
    rintro x w2 ⟨rfl, h3, h4⟩
    go_wp2_with fail
    go_end0
    exact ⟨rfl, by rw [HL.out]; exact h3, h4⟩
set_option maxRecDepth 100000 in
set_option maxHeartbeats 400000 in
theorem store_any (b : Nat) (f : Fr) (n : Nat) (w : World) (h : FrAt w b f) (ok : FrOk f) (hn : n < 4) :
    Calls Tryd.prog 125 #[.pointer (some ⟨b, 0, none⟩), .int .i64 n] w fun x w' => x = .returned (.tuple #[]) ∧ FrAt w' b (storeF f n) ∧ Only b w w' := by
  have hp := hid (pop_any b f w h ok)
  have hok := popF_ok ok
  have i0 : (0 : Int) ≤ (n : Int) := by omega
  have i1 : (n : Int) < 4 := by omega
  have HL : Hid (storeF f n = { (popF f).1 with lo := (popF f).1.lo.set n (popF f).2 }) := hid (by unfold storeF; rw [if_neg (by omega)])
  generalize popF f = P at *
  obtain ⟨f2, k⟩ := P
  simp only at hok hp HL
  clear h
  go_enter Tryd.func125, Tryd.ntmps125
  go_wp2_with fail
  refine hp.out.mono ?_
  rintro x w2 ⟨rfl, h3, h4⟩
  have c := (RowAt.cell h3 (1 + n)).trans (fr_lo hok hn)
  have fz := RowAt.frozen h3 (1 + n)
  have H3 := hid h3
  clear h3 hp
  go_wp2_with fail
  go_end0
  refine ⟨rfl, ?_, h4.set _ _⟩
  have := RowAt.set H3.out (1 + n) (numV k)
  rw [fr_set_lo hok hn] at this
  rw [HL.out]
  exact this
end Go.Proofs.YtdmdpindonghdaaDoor
namespace Go.Proofs.YtdmdpindonghdaaDoor
open Go.RowKit
def kindN (c : Nat) : Nat := if c = 114 then 1 else 0
def popR (f : Fr) : List Nat → Fr
  | [] => f
  | c :: r => popR (if (popF f).2 = kindN c then (popF f).1 else badF (popF f).1) r
def pushR (f : Fr) : List Nat → Fr
  | [] => f
  | c :: r => pushR (pushF f (kindN c)) r
theorem popR_ok : ∀ (l : List Nat) (f : Fr), FrOk f → FrOk (popR f l)
  | [], _, h => h
  | c :: r, f, h => by
    simp only [popR]
    apply popR_ok r
    by_cases e : (popF f).2 = kindN c
    · rw [if_pos e]; exact popF_ok h
    · rw [if_neg e]; exact badF_ok (popF_ok h)
theorem pushR_ok : ∀ (l : List Nat) (f : Fr), FrOk f → FrOk (pushR f l)
  | [], _, h => h
  | c :: r, f, h => by
    simp only [pushR]
    exact pushR_ok r _ (pushF_ok h _)
def popsN (op : Nat) : List Nat := (popsL op).map UInt8.toNat
def pushesN (op : Nat) : List Nat := (pushesL op).map UInt8.toNat
theorem popsN_at {op j : Nat} (h : j < (popsS op).size) : ∃ h' : j < (popsN op).length, (popsN op)[j] = byteAt (popsS op) j := by
  have h1 : j < (popsL op).length := h
  refine ⟨by simp [popsN]; exact h1, ?_⟩
  simp [popsN, byteAt, popsS, h1]
theorem pushesN_at {op j : Nat} (h : j < (pushesS op).size) : ∃ h' : j < (pushesN op).length, (pushesN op)[j] = byteAt (pushesS op) j := by
  have h1 : j < (pushesL op).length := h
  refine ⟨by simp [pushesN]; exact h1, ?_⟩
  simp [pushesN, byteAt, pushesS, h1]
theorem popsN_len (op : Nat) : (popsN op).length = (popsS op).size := by simp [popsN, popsS]; rfl
theorem pushesN_len (op : Nat) : (pushesN op).length = (pushesS op).size := by simp [pushesN, pushesS]; rfl
/-- The program's two tables of types. -/
def FlowTab (w : World) : Prop := ∀ k : Nat, k < 25 → w.cell? ⟨3, k, none⟩ = some (.string (popsS k)) ∧ w.cell? ⟨4, k, none⟩ = some (.string (pushesS k))
theorem FlowTab.below {w w' : World} (h : FlowTab w) (hb : Below w.heap.size w w') : FlowTab w' := by
  intro k hk
  obtain ⟨h0, h1⟩ := h k hk
  have l0 := World.block_lt_of_cell? w _ h0
  have l1 := World.block_lt_of_cell? w _ h1
  exact ⟨(hb.cell (p := ⟨3, k, none⟩) l0).trans h0, (hb.cell (p := ⟨4, k, none⟩) l1).trans h1⟩
theorem FlowTab.only {b : Nat} {w w' : World} (h : FlowTab w) (hb : Only b w w') (h3 : b ≠ 3) (h4 : b ≠ 4) : FlowTab w' := by
  intro k hk
  obtain ⟨h0, h1⟩ := h k hk
  exact ⟨(hb.cell (Ne.symm h3)).trans h0, (hb.cell (Ne.symm h4)).trans h1⟩
set_option maxRecDepth 100000 in
set_option maxHeartbeats 400000 in
theorem typeOf_any (c : Nat) (w : World) :
    Calls Tryd.prog 131 #[.int .u8 c] w fun e w' => e = .returned (.int .i64 (kindN c : Nat)) ∧ w' = w := by
  by_cases h : c = 114
  · have h' : ((c : Int) == 114) = true := by simp; omega
    have HE : Hid (kindN c = 1) := hid (by simp [kindN, h])
    clear h
    go_enter Tryd.func131, Tryd.ntmps131
    go_wp2
    go_ret
    exact ⟨ret_int (by rw [HE.out]; rfl), rfl⟩
  · have h' : ((c : Int) == 114) = false := by simp; omega
    have HE : Hid (kindN c = 0) := hid (by simp [kindN, h])
    clear h
    go_enter Tryd.func131, Tryd.ntmps131
    go_wp2
    go_ret
    exact ⟨ret_int (by rw [HE.out]; rfl), rfl⟩
theorem take_rev {l : List Nat} {j : Nat} (h : j < l.length) : (l.take (j + 1)).reverse = l[j] :: (l.take j).reverse := by
  rw [List.take_succ_eq_append_getElem h, List.reverse_append]; rfl
set_option maxRecDepth 100000 in
set_option maxHeartbeats 1000000 in
theorem popAll_any (b : Nat) (f : Fr) (op : Nat) (w : World) (h : FrAt w b f) (ok : FrOk f) (hop : op < 25) (htab : FlowTab w) :
    Calls Tryd.prog 128 #[.pointer (some ⟨b, 0, none⟩), .int .i64 op] w fun x w' => x = .returned (.tuple #[]) ∧ FrAt w' b (popR f (popsN op).reverse) ∧ Only b w w' := by
  obtain ⟨c1, c2⟩ := htab op hop
  have hsz := popsS_size op
  have i0 : (0 : Int) ≤ (op : Int) := by omega
  have i1 : (op : Int) < 25 := by omega
  have HN := hid (fun j (h : j < (popsS op).size) => popsN_at (op := op) h)
  have HLN := hid (popsN_len op)
  generalize popsS op = P at *
  generalize popsN op = N at *
  clear htab c2
  go_enter Tryd.func128, Tryd.ntmps128
  go_wp2_with fail
  go_loopw [5] (fun i w' => ∃ (j : Nat) (f' : Fr), j ≤ P.size ∧ i = .int .i64 ((j : Int) - 1) ∧ FrAt w' b f' ∧ FrOk f' ∧ popR f N.reverse = popR f' (N.take j).reverse ∧ Only b w w') (fun i _ => (intOf i + 1).toNat)
  case atStart => exact ⟨P.size, f, Nat.le_refl _, rfl, h, ok, by rw [List.take_of_length_le (by have := HLN.out; omega)], Only.refl _ _⟩
  case round =>
    obtain ⟨j, f', hj, rfl, hf, hok, hpr, honly⟩ := hrel
    have HPR := hid hpr
    clear hpr
    cases j with
    | zero =>
      go_wp2_with fail
      go_end0
      exact ⟨rfl, by rw [HPR.out]; exact hf, honly⟩
    | succ j =>
      obtain ⟨hjn, hbyte⟩ := HN.out j (by omega)
      have e0 := byteAt_eq P j (by omega)
      have hp := hid (pop_any b f' wr hf hok)
      have hok2 := popF_ok hok
      have HS : Hid (popR f' (N.take (j + 1)).reverse = popR (if (popF f').2 = kindN (byteAt P j) then (popF f').1 else badF (popF f').1) (N.take j).reverse) := hid (by
        rw [take_rev hjn, hbyte]; rfl)
      generalize popF f' = Q at *
      obtain ⟨f2, k⟩ := Q
      simp only at hok2 hp HS
      have hty := hid (fun W => typeOf_any (byteAt P j) W)
      have hb2 := byteAt_lt P j
      have ej : (((j + 1 : Nat) : Int) - 1) = (j : Int) := by omega
      rw [ej]
      clear hf hbyte
      generalize byteAt P j = c at *
      by_cases hk : k = kindN c
      · rw [if_pos hk] at HS
        have hk' : ((k : Int) != ((kindN c : Nat) : Int)) = false := by simp; omega
        clear hk
        go_wp2_with fail
        refine hp.out.mono ?_
        rintro x w2 ⟨rfl, h3, h4⟩
        clear hp
        go_wp2_with fail
        refine (hty.out w2).mono ?_
        clear hty
        intro e w9 hh
        obtain ⟨he9, hw9⟩ := hh
        subst e
        subst w9
        go_wp2_with fail
        exact ⟨⟨j, f2, by omega, by go_num, h3, hok2, by rw [HPR.out, HS.out], honly.trans h4⟩, by simp [intOf] <;> omega⟩
      · rw [if_neg hk] at HS
        have hk' : ((k : Int) != ((kindN c : Nat) : Int)) = true := by simp; omega
        clear hk
        go_wp2_with fail
        refine hp.out.mono ?_
        rintro x w2 ⟨rfl, h3, h4⟩
        clear hp
        have c14 := (RowAt.cell h3 14).trans (fr_get hok2).2.2
        have f14 := RowAt.frozen h3 14
        have hrow : Hid (FrAt (w2.setCell ⟨b, 14, none⟩ (.bool true)) b (badF f2)) := hid (by
          have := RowAt.set h3 14 (.bool true)
          rw [fr_set_wrong hok2] at this
          exact this)
        clear h3
        go_wp2_with fail
        refine (hty.out w2).mono ?_
        clear hty
        intro e w9 hh
        obtain ⟨he9, hw9⟩ := hh
        subst e
        subst w9
        go_wp2_with fail
        exact ⟨⟨j, badF f2, by omega, by go_num, hrow.out, badF_ok hok2, by rw [HPR.out, HS.out], (honly.trans h4).set _ _⟩, by simp [intOf] <;> omega⟩
set_option maxRecDepth 100000 in
set_option maxHeartbeats 1000000 in
theorem pushAll_any (b : Nat) (f : Fr) (op : Nat) (w : World) (h : FrAt w b f) (ok : FrOk f) (hop : op < 25) (htab : FlowTab w) :
    Calls Tryd.prog 129 #[.pointer (some ⟨b, 0, none⟩), .int .i64 op] w fun x w' => x = .returned (.tuple #[]) ∧ FrAt w' b (pushR f (pushesN op)) ∧ Only b w w' := by
  obtain ⟨c1, c2⟩ := htab op hop
  have hsz := pushesS_size op
  have i0 : (0 : Int) ≤ (op : Int) := by omega
  have i1 : (op : Int) < 25 := by omega
  have HN := hid (fun j (h : j < (pushesS op).size) => pushesN_at (op := op) h)
  have HLN := hid (pushesN_len op)
  generalize pushesS op = P at *
  generalize pushesN op = N at *
  clear htab c1
  go_enter Tryd.func129, Tryd.ntmps129
  go_wp2_with fail
  go_loopw [5] (fun i w' => ∃ (j : Nat) (f' : Fr), j ≤ P.size ∧ i = .int .i64 j ∧ FrAt w' b f' ∧ FrOk f' ∧ pushR f N = pushR f' (N.drop j) ∧ Only b w w') (fun i _ => P.size - (intOf i).toNat)
  case atStart => exact ⟨0, f, Nat.zero_le _, rfl, h, ok, by simp, Only.refl _ _⟩
  case round =>
    obtain ⟨j, f', hj, rfl, hf, hok, hpr, honly⟩ := hrel
    have HPR := hid hpr
    clear hpr
    by_cases hlt : j < P.size
    · obtain ⟨hjn, hbyte⟩ := HN.out j hlt
      have e0 := byteAt_eq P j hlt
      have HS : Hid (pushR f' (N.drop j) = pushR (pushF f' (kindN (byteAt P j))) (N.drop (j + 1))) := hid (by
        rw [List.drop_eq_getElem_cons hjn, hbyte]; rfl)
      have hp := hid (push_any b f' (kindN (byteAt P j)) wr hf hok)
      have hok2 := pushF_ok hok (kindN (byteAt P j))
      have hty := hid (typeOf_any (byteAt P j) wr)
      have hb2 := byteAt_lt P j
      clear hf hbyte
      generalize byteAt P j = c at *
      go_wp2_with fail
      refine hty.out.mono ?_
      clear hty
      intro e w9 hh
      obtain ⟨he9, hw9⟩ := hh
      subst e
      subst w9
      go_wp2_with fail
      refine hp.out.mono ?_
      rintro x w2 ⟨rfl, h3, h4⟩
      clear hp
      go_wp2_with fail
      exact ⟨⟨j + 1, _, by omega, by go_num, h3, hok2, by rw [HPR.out, HS.out], honly.trans h4⟩, by simp [intOf] <;> omega⟩
    · go_wp2_with fail
      go_end0
      exact ⟨rfl, by rw [HPR.out, List.drop_of_length_le (by have := HLN.out; omega)]; exact hf, honly⟩
end Go.Proofs.YtdmdpindonghdaaDoor
namespace Go.Proofs.YtdmdpindonghdaaDoor
open Go.RowKit
theorem three_new (w : World) (a b c : Obj) : Below w.heap.size w (((w.alloc a).alloc b).alloc c) :=
  (((Below.refl _ _).alloc (Nat.le_refl _) _).alloc (by simp) _).alloc (by simp; omega) _
def dupF (f : Fr) : Fr := pushF (pushF (popF f).1 (popF f).2) (popF f).2
def swapF (f : Fr) : Fr := pushF (pushF (popF (popF f).1).1 (popF f).2) (popF (popF f).1).2
/-- What an instruction does to a frame. -/
def afterF (f : Fr) (op n : Nat) : Fr :=
  if op = 7 then loadF f n else if op = 8 then storeF f n else if op = 9 then dupF f else if op = 10 then (popF f).1 else if op = 11 then swapF f
  else pushR (popR f (popsN op).reverse) (pushesN op)
theorem afterF_ok {f : Fr} (h : FrOk f) (op n : Nat) : FrOk (afterF f op n) := by
  unfold afterF
  split
  · exact loadF_ok h n
  split
  · exact storeF_ok h n
  split
  · exact pushF_ok (pushF_ok (popF_ok h) _) _
  split
  · exact popF_ok h
  split
  · exact pushF_ok (pushF_ok (popF_ok (popF_ok h)) _) _
  · exact pushR_ok _ _ (popR_ok _ _ h)
theorem heap_three_first (w : World) (a b c : Obj) : (((w.alloc a).alloc b).alloc c).heap[w.heap.size]? = some a := by
  rw [Below.heap_alloc _ _ _ (by simp; omega), Below.heap_alloc _ _ _ (by simp), heap_alloc_new]
theorem cell_three_second (w : World) (a c : Obj) (cs : Array Value) (t : TypeId) (j : Nat) : (((w.alloc a).alloc (.cells cs t)).alloc c).cell? ⟨w.heap.size + 1, j, none⟩ = cs[j]? :=
  cell_of_row _ _ j cs t (0, 0) (by rw [Below.heap_alloc _ _ _ (by simp)]; exact heap_two_new w _ _)
theorem heap_three_third (w : World) (a b c : Obj) : (((w.alloc a).alloc b).alloc c).heap[w.heap.size + 1 + 1]? = some c := by
  have h := heap_alloc_new ((w.alloc a).alloc b) c
  have e : ((w.alloc a).alloc b).heap.size = w.heap.size + 1 + 1 := by simp
  rw [e] at h
  exact h
def AftPost (f : Fr) (op n : Nat) (w : World) (e : Ending) (w' : World) : Prop :=
  Below w.heap.size w w' ∧ e = .returned (.tuple #[.agg (frL (afterF f op n)).toArray, .bool (!(afterF f op n).wrong)])
theorem RowAt.drew {w : World} {b : Nat} {cs : Array Value} (h : RowAt w b cs) : RowAt w.drew b cs := h
theorem fifteen_set {w : World} {b : Nat} {z0 z1 z2 z3 z4 z5 z6 z7 z8 z9 z10 z11 z12 z13 z14 : Value} (h : RowAt w b #[z0, z1, z2, z3, z4, z5, z6, z7, z8, z9, z10, z11, z12, z13, z14]) (v0 v1 v2 v3 v4 v5 v6 v7 v8 v9 v10 v11 v12 v13 v14 : Value) :
    RowAt (((((((((((((((w.setCell ⟨b, 0, none⟩ v0).setCell ⟨b, 1, none⟩ v1).setCell ⟨b, 2, none⟩ v2).setCell ⟨b, 3, none⟩ v3).setCell ⟨b, 4, none⟩ v4).setCell ⟨b, 5, none⟩ v5).setCell ⟨b, 6, none⟩ v6).setCell ⟨b, 7, none⟩ v7).setCell ⟨b, 8, none⟩ v8).setCell ⟨b, 9, none⟩ v9).setCell ⟨b, 10, none⟩ v10).setCell ⟨b, 11, none⟩ v11).setCell ⟨b, 12, none⟩ v12).setCell ⟨b, 13, none⟩ v13).setCell ⟨b, 14, none⟩ v14) b #[v0, v1, v2, v3, v4, v5, v6, v7, v8, v9, v10, v11, v12, v13, v14] := by
  simpa using (((((((((((((((h.set 0 v0).set 1 v1).set 2 v2).set 3 v3).set 4 v4).set 5 v5).set 6 v6).set 7 v7).set 8 v8).set 9 v9).set 10 v10).set 11 v11).set 12 v12).set 13 v13).set 14 v14)
theorem fifteen_below {B : Nat} {w0 w : World} {b : Nat} (h : Below B w0 w) (hb : B ≤ b) (v0 v1 v2 v3 v4 v5 v6 v7 v8 v9 v10 v11 v12 v13 v14 : Value) :
    Below B w0 (((((((((((((((w.setCell ⟨b, 0, none⟩ v0).setCell ⟨b, 1, none⟩ v1).setCell ⟨b, 2, none⟩ v2).setCell ⟨b, 3, none⟩ v3).setCell ⟨b, 4, none⟩ v4).setCell ⟨b, 5, none⟩ v5).setCell ⟨b, 6, none⟩ v6).setCell ⟨b, 7, none⟩ v7).setCell ⟨b, 8, none⟩ v8).setCell ⟨b, 9, none⟩ v9).setCell ⟨b, 10, none⟩ v10).setCell ⟨b, 11, none⟩ v11).setCell ⟨b, 12, none⟩ v12).setCell ⟨b, 13, none⟩ v13).setCell ⟨b, 14, none⟩ v14) :=
  (((((((((((((((h.setCell (p := ⟨b, 0, none⟩) hb v0).setCell (p := ⟨b, 1, none⟩) hb v1).setCell (p := ⟨b, 2, none⟩) hb v2).setCell (p := ⟨b, 3, none⟩) hb v3).setCell (p := ⟨b, 4, none⟩) hb v4).setCell (p := ⟨b, 5, none⟩) hb v5).setCell (p := ⟨b, 6, none⟩) hb v6).setCell (p := ⟨b, 7, none⟩) hb v7).setCell (p := ⟨b, 8, none⟩) hb v8).setCell (p := ⟨b, 9, none⟩) hb v9).setCell (p := ⟨b, 10, none⟩) hb v10).setCell (p := ⟨b, 11, none⟩) hb v11).setCell (p := ⟨b, 12, none⟩) hb v12).setCell (p := ⟨b, 13, none⟩) hb v13).setCell (p := ⟨b, 14, none⟩) hb v14)
set_option maxRecDepth 100000 in
set_option maxHeartbeats 1000000 in
theorem aft_res {tmps : Array Value} {W : World} {B : Nat} {r wg u : Bool} {a b c e d t0 t1 t2 t3 t4 t5 t6 t7 : Nat} (h4 : tmps[4]? = some (.pointer (some ⟨B, 0, none⟩))) (h5 : tmps[5]? = some (.bool u))
    (hrow : RowAt W B #[.bool r, .int .i64 a, .int .i64 b, .int .i64 c, .int .i64 e, .int .i64 d, .int .i64 t0, .int .i64 t1, .int .i64 t2, .int .i64 t3, .int .i64 t4, .int .i64 t5, .int .i64 t6, .int .i64 t7, .bool wg]) :
    (results Tryd.f119 tmps).run Tryd.prog W = .ok (.tuple #[.agg #[.bool r, .int .i64 a, .int .i64 b, .int .i64 c, .int .i64 e, .int .i64 d, .int .i64 t0, .int .i64 t1, .int .i64 t2, .int .i64 t3, .int .i64 t4, .int .i64 t5, .int .i64 t6, .int .i64 t7, .bool wg], .bool u]) W := by
  have y0 := RowAt.cell hrow 0
  have y1 := RowAt.cell hrow 1
  have y2 := RowAt.cell hrow 2
  have y3 := RowAt.cell hrow 3
  have y4 := RowAt.cell hrow 4
  have y5 := RowAt.cell hrow 5
  have y6 := RowAt.cell hrow 6
  have y7 := RowAt.cell hrow 7
  have y8 := RowAt.cell hrow 8
  have y9 := RowAt.cell hrow 9
  have y10 := RowAt.cell hrow 10
  have y11 := RowAt.cell hrow 11
  have y12 := RowAt.cell hrow 12
  have y13 := RowAt.cell hrow 13
  have y14 := RowAt.cell hrow 14
  simp only [List.getElem?_toArray, List.getElem?_cons_zero, List.getElem?_cons_succ] at y0 y1 y2 y3 y4 y5 y6 y7 y8 y9 y10 y11 y12 y13 y14
  simp [results, Tryd.results119, go_sem, *]
theorem aftPost_mk {f : Fr} {op n : Nat} {w W : World} (b : Bool) (hb : Below w.heap.size w W) (h : b = !(afterF f op n).wrong) : AftPost f op n w (.returned (.tuple #[.agg (frL (afterF f op n)).toArray, .bool b])) W := by
  subst h; exact ⟨hb, rfl⟩
end Go.Proofs.YtdmdpindonghdaaDoor
namespace Go.Proofs.YtdmdpindonghdaaDoor
open Go.RowKit
def code8 (c : UInt8) : Nat := kindN c.toNat
def letter (c : UInt8) : Prop := c = 105 ∨ c = 114
theorem code8_inj {c d : UInt8} (hc : letter c) (hd : letter d) (h : code8 c = code8 d) : c = d := by
  rcases hc with rfl | rfl <;> rcases hd with rfl | rfl
  · rfl
  · exact absurd h (by decide)
  · exact absurd h (by decide)
  · rfl
theorem code8_le (c : UInt8) : code8 c ≤ 1 := by unfold code8 kindN; split <;> omega
theorem nil_or_snoc {α : Type} (s : List α) : s = [] ∨ ∃ s0 d, s = s0 ++ [d] := by
  rcases List.eq_nil_or_concat s with h | ⟨a, b, h⟩
  · exact .inl h
  · exact .inr ⟨a, b, by rw [h, List.concat_eq_append]⟩
/-- The frame's stack holds s. -/
structure Stk (f : Fr) (s : List UInt8) : Prop where
  le : s.length ≤ 8
  depth : f.depth = s.length
  stk : f.stk = s.map code8 ++ List.replicate (8 - s.length) 0
theorem pop_nil {f : Fr} (h : Stk f []) : (popF f).1.wrong = true := by
  unfold popF; rw [if_pos (show f.depth = 0 from h.depth)]; rfl
theorem pop_snoc {f : Fr} {s : List UInt8} {c : UInt8} (h : Stk f (s ++ [c])) :
    Stk (popF f).1 s ∧ (popF f).2 = code8 c ∧ (popF f).1.lo = f.lo ∧ (popF f).1.wrong = f.wrong := by
  have hd : f.depth = s.length + 1 := by simpa using h.depth
  have hle : s.length + 1 ≤ 8 := by simpa using h.le
  unfold popF
  rw [if_neg (by omega), hd, h.stk]
  simp only [Nat.add_sub_cancel, List.map_append, List.map_cons, List.map_nil, List.length_append, List.length_cons, List.length_nil]
  refine ⟨⟨by omega, rfl, ?_⟩, ?_, trivial, trivial⟩
  · simp only
    rw [List.append_assoc, List.set_append_right _ _ (by simp), show 8 - s.length = (8 - (s.length + 1)) + 1 by omega, List.replicate_succ]
    simp
  · simp [List.getD_eq_getElem?_getD]
theorem stk_full {f : Fr} {s : List UInt8} (h : Stk f s) (h8 : s.length = 8) (k : Nat) : (pushF f k).wrong = true := by
  unfold pushF; rw [if_pos (by rw [h.depth, h8])]; rfl
theorem stk_room {f : Fr} {s : List UInt8} (h : Stk f s) (h8 : s.length < 8) (c : UInt8) :
    Stk (pushF f (code8 c)) (s ++ [c]) ∧ (pushF f (code8 c)).lo = f.lo ∧ (pushF f (code8 c)).wrong = f.wrong := by
  unfold pushF
  rw [if_neg (by rw [h.depth]; omega), h.depth, h.stk]
  refine ⟨⟨by simp; omega, by simp, ?_⟩, rfl, rfl⟩
  simp only [List.map_append, List.map_cons, List.map_nil, List.length_append, List.length_cons, List.length_nil]
  rw [List.set_append_right _ _ (by simp), show 8 - s.length = (8 - (s.length + 1)) + 1 by omega, List.replicate_succ]
  simp
theorem popF_wrong {f : Fr} (h : f.wrong = true) : (popF f).1.wrong = true := by
  unfold popF
  by_cases hd : f.depth = 0
  · rw [if_pos hd]; rfl
  · rw [if_neg hd]; exact h
theorem pushF_wrong {f : Fr} (h : f.wrong = true) (k : Nat) : (pushF f k).wrong = true := by
  unfold pushF
  by_cases hd : f.depth = 8
  · rw [if_pos hd]; rfl
  · rw [if_neg hd]; exact h
theorem popR_wrong : ∀ (r : List Nat) {f : Fr}, f.wrong = true → (popR f r).wrong = true
  | [], _, h => h
  | c :: r, f, h => by
    simp only [popR]
    apply popR_wrong r
    by_cases hk : (popF f).2 = kindN c
    · rw [if_pos hk]; exact popF_wrong h
    · rw [if_neg hk]; rfl
theorem pushR_wrong : ∀ (r : List Nat) {f : Fr}, f.wrong = true → (pushR f r).wrong = true
  | [], _, h => h
  | c :: r, f, h => by
    simp only [pushR]
    exact pushR_wrong r (pushF_wrong h _)
theorem popR_both : ∀ (r : List UInt8) (f : Fr) (s : List UInt8), (∀ c ∈ r, letter c) → Stk f s → f.wrong = false → (∀ c ∈ s, letter c) →
    (∃ s', s = s' ++ r.reverse ∧ Stk (popR f (r.map UInt8.toNat)) s' ∧ (popR f (r.map UInt8.toNat)).wrong = false ∧ (popR f (r.map UInt8.toNat)).lo = f.lo) ∨
    ((¬ ∃ s', s = s' ++ r.reverse) ∧ (popR f (r.map UInt8.toNat)).wrong = true)
  | [], f, s, _, hs, hw, _ => .inl ⟨s, by simp, hs, hw, rfl⟩
  | c :: r, f, s, hr, hs, hw, hl => by
    simp only [List.map_cons, popR, List.reverse_cons]
    rcases nil_or_snoc s with rfl | ⟨s0, d, rfl⟩
    · refine .inr ⟨?_, popR_wrong _ ?_⟩
      · rintro ⟨s', h⟩
        have := congrArg List.length h
        simp at this
      · split
        · exact pop_nil hs
        · rfl
    · obtain ⟨h1, h2, h3, h4⟩ := pop_snoc hs
      by_cases hk : (popF f).2 = kindN c.toNat
      · rw [if_pos hk]
        have hdc : d = c := code8_inj (hl d (by simp)) (hr c (by simp)) (by rw [← h2, hk]; rfl)
        subst hdc
        rcases popR_both r (popF f).1 s0 (fun x hx => hr x (by simp [hx])) h1 (h4.trans hw) (fun x hx => hl x (by simp [hx])) with ⟨s', e, a, b, l⟩ | ⟨e, a⟩
        · exact .inl ⟨s', by rw [e]; simp, a, b, l.trans h3⟩
        · refine .inr ⟨?_, a⟩
          rintro ⟨s', h⟩
          apply e
          rw [← List.append_assoc] at h
          exact ⟨s', (List.append_inj' h rfl).1⟩
      · rw [if_neg hk]
        refine .inr ⟨?_, popR_wrong _ rfl⟩
        rintro ⟨s', h⟩
        rw [← List.append_assoc] at h
        have := (List.append_inj' h rfl).2
        simp only [List.cons.injEq, and_true] at this
        apply hk
        rw [h2, this]; rfl
theorem pushR_both : ∀ (r : List UInt8) (f : Fr) (s : List UInt8), Stk f s →
    (s.length + r.length ≤ 8 ∧ Stk (pushR f (r.map UInt8.toNat)) (s ++ r) ∧ (pushR f (r.map UInt8.toNat)).wrong = f.wrong ∧ (pushR f (r.map UInt8.toNat)).lo = f.lo) ∨
    (8 < s.length + r.length ∧ (pushR f (r.map UInt8.toNat)).wrong = true)
  | [], f, s, hs => .inl ⟨by simpa using hs.le, by simpa [pushR] using hs, rfl, rfl⟩
  | c :: r, f, s, hs => by
    simp only [List.map_cons, pushR, List.length_cons]
    by_cases h8 : s.length = 8
    · exact .inr ⟨by omega, pushR_wrong _ (stk_full hs h8 _)⟩
    · obtain ⟨h1, h2, h3⟩ := stk_room hs (by have := hs.le; omega) c
      rcases pushR_both r _ _ h1 with ⟨a, b, d, e⟩ | ⟨a, b⟩
      · refine .inl ⟨by simp at a; omega, ?_, d.trans h3, e.trans h2⟩
        rw [List.append_assoc] at b
        exact b
      · exact .inr ⟨by simp at a; omega, b⟩
def tl (b : ByteArray) : List UInt8 := b.data.toList
theorem tl_len (b : ByteArray) : (tl b).length = b.size := rfl
theorem tl_append (a b : ByteArray) : tl (a ++ b) = tl a ++ tl b := by unfold tl; rw [ByteArray.data_append, Array.toList_append]
theorem tl_extract (a : ByteArray) (i j : Nat) : tl (a.extract i j) = ((tl a).drop i).take (j - i) := by
  unfold tl; rw [ByteArray.data_extract, Array.toList_extract]
theorem tl_inj {a b : ByteArray} (h : tl a = tl b) : a = b := bytes_ext h
theorem tl_get {b : ByteArray} {n : Nat} (h : n < b.size) : ∃ c, (tl b)[n]? = some c ∧ byteAt b n = c.toNat ∧ tl (b.extract n (n + 1)) = [c] := by
  have h' : n < (tl b).length := h
  refine ⟨(tl b)[n], List.getElem?_eq_getElem h', ?_, ?_⟩
  · unfold byteAt; show ((tl b).getD n 0).toNat = _
    rw [List.getD_eq_getElem?_getD, List.getElem?_eq_getElem h']; rfl
  · rw [tl_extract, List.drop_eq_getElem_cons h', show n + 1 - n = 1 by omega]; rfl
theorem tl_last {b : ByteArray} {s : List UInt8} {c : UInt8} (h : tl b = s ++ [c]) : b.size = s.length + 1 ∧ tl (b.extract (b.size - 1) b.size) = [c] ∧ tl (b.extract 0 (b.size - 1)) = s ∧ byteAt b (b.size - 1) = c.toNat := by
  have hz : b.size = s.length + 1 := by rw [← tl_len, h]; simp
  refine ⟨hz, ?_, ?_, ?_⟩
  · rw [tl_extract, h, hz, show s.length + 1 - 1 = s.length by omega, List.drop_left, show s.length + 1 - s.length = 1 by omega]; rfl
  · rw [tl_extract, h, hz, show s.length + 1 - 1 - 0 = s.length by omega]; simp
  · unfold byteAt; show ((tl b).getD _ 0).toNat = _
    rw [h, hz]; simp [List.getD_eq_getElem?_getD]
/-- The types of the locals behind an instruction, as a frame has them. -/
def loAft (lo : List Nat) (st : ByteArray) (op n : Nat) : List Nat := if op = 8 then lo.set n (kindN (byteAt st (st.size - 1))) else lo
structure Ago (f : Fr) (lo st : ByteArray) (op n : Nat) : Prop where
  ok : (afterV lo st op n).2.2 = true
  sm : (afterV lo st op n).2.1.size ≤ 8
  wr : (afterF f op n).wrong = false
  sk : Stk (afterF f op n) (tl (afterV lo st op n).2.1)
  fl : (afterF f op n).lo = loAft f.lo st op n
  lv : (afterV lo st op n).1 = (if op = 8 then lo.extract 0 n ++ st.extract (st.size - 1) st.size ++ lo.extract (n + 1) lo.size else lo)
  pos : op = 8 → 1 ≤ st.size
def Abad (f : Fr) (lo st : ByteArray) (op n : Nat) : Prop := ((afterV lo st op n).2.2 = false ∨ 8 < (afterV lo st op n).2.1.size) ∧ (afterF f op n).wrong = true
theorem letters_pops (op : Nat) : ∀ c ∈ popsL op, letter c := by
  intro c hc
  unfold popsL at hc
  unfold letter
  split at hc
  · simp at hc; exact .inl hc
  split at hc
  · simp at hc; exact .inl hc
  split at hc
  · simp at hc; exact .inr hc
  split at hc
  · simp at hc; exact .inr hc
  split at hc
  · simp at hc; exact hc.symm
  · simp at hc
theorem aft_both {f : Fr} {lo st : ByteArray} {op n : Nat} (hs : Stk f (tl st)) (hw : f.wrong = false) (hl : letters st) (hn : op = 7 ∨ op = 8 → n < lo.size) (h4 : lo.size ≤ 4)
    (h7 : op = 7 → f.lo.getD n 0 = kindN (byteAt lo n)) : Ago f lo st op n ∨ Abad f lo st op n := by
  by_cases e7 : op = 7
  · subst e7
    have hn' := hn (.inl rfl)
    obtain ⟨c, _, hc2, hc3⟩ := tl_get hn'
    have hv : afterV lo st 7 n = (lo, st ++ lo.extract n (n + 1), true) := by simp [afterV]
    have hk : f.lo.getD n 0 = code8 c := by rw [h7 rfl, hc2]; rfl
    have hf : afterF f 7 n = pushF f (code8 c) := by
      have : afterF f 7 n = loadF f n := by simp [afterF]
      rw [this]
      unfold loadF
      have := code8_le c
      rw [if_neg (by omega), hk, if_neg (by omega)]
    have ht : tl (afterV lo st 7 n).2.1 = tl st ++ [c] := by rw [hv]; show tl (st ++ _) = _; rw [tl_append, hc3]
    have hz : (afterV lo st 7 n).2.1.size = (tl st).length + 1 := by rw [← tl_len, ht]; simp
    by_cases h8 : (tl st).length = 8
    · exact .inr ⟨.inr (by omega), by rw [hf]; exact stk_full hs h8 _⟩
    · obtain ⟨a, b, d⟩ := stk_room hs (by have := hs.le; omega) c
      exact .inl ⟨by rw [hv], by have := hs.le; omega, by rw [hf, d, hw], by rw [hf, ht]; exact a, by rw [hf, b]; rfl, by rw [hv]; rfl, fun h => absurd h (by decide)⟩
  by_cases e8 : op = 8
  · subst e8
    have hn' := hn (.inr rfl)
    have hf : afterF f 8 n = { (popF f).1 with lo := (popF f).1.lo.set n (popF f).2 } := by
      have : afterF f 8 n = storeF f n := by simp [afterF]
      rw [this]; unfold storeF; rw [if_neg (by omega)]
    rcases nil_or_snoc (tl st) with e | ⟨s0, d, e⟩
    · have hz : st.size = 0 := by rw [← tl_len, e]; rfl
      refine .inr ⟨.inl (by simp [afterV, hz]), ?_⟩
      rw [hf]; rw [e] at hs; exact pop_nil hs
    · obtain ⟨z, z1, z2, z3⟩ := tl_last e
      have hv : afterV lo st 8 n = (lo.extract 0 n ++ st.extract (st.size - 1) st.size ++ lo.extract (n + 1) lo.size, st.extract 0 (st.size - 1), true) := by
        have : ¬ st.size < 1 := by omega
        simp [afterV, this]
      rw [e] at hs
      obtain ⟨a, b, c, g⟩ := pop_snoc hs
      refine .inl ⟨by rw [hv], ?_, by rw [hf]; exact g.trans hw, ?_, ?_, by rw [hv]; rfl, fun _ => by omega⟩
      · rw [hv]; show (st.extract 0 (st.size - 1)).size ≤ 8
        rw [← tl_len, z2]; exact a.le
      · rw [hf, hv]; show Stk _ (tl (st.extract 0 (st.size - 1)))
        rw [z2]; exact ⟨a.le, a.depth, a.stk⟩
      · rw [hf]; unfold loAft; rw [if_pos rfl, z3, ← show code8 d = kindN d.toNat from rfl, ← b, ← c]
  have hlo : ∀ x, loAft x st op n = x := fun x => by unfold loAft; rw [if_neg e8]
  by_cases e9 : op = 9
  · subst e9
    have hf : afterF f 9 n = dupF f := by simp [afterF]
    rcases nil_or_snoc (tl st) with e | ⟨s0, d, e⟩
    · have hz : st.size = 0 := by rw [← tl_len, e]; rfl
      refine .inr ⟨.inl (by simp [afterV, hz]), ?_⟩
      rw [hf]; rw [e] at hs; exact pushF_wrong (pushF_wrong (pop_nil hs) _) _
    · obtain ⟨z, z1, z2, z3⟩ := tl_last e
      have hv : afterV lo st 9 n = (lo, st ++ st.extract (st.size - 1) st.size, true) := by
        have : ¬ st.size < 1 := by omega
        simp [afterV, this]
      have ht : tl (afterV lo st 9 n).2.1 = tl st ++ [d] := by rw [hv]; show tl (st ++ _) = _; rw [tl_append, z1]
      have hzz : (afterV lo st 9 n).2.1.size = (tl st).length + 1 := by rw [← tl_len, ht]; simp
      have hs' := hs
      rw [e] at hs
      obtain ⟨a, b, c, g⟩ := pop_snoc hs
      obtain ⟨a1, b1, c1⟩ := stk_room a (by have := hs.le; simp at this; omega) d
      rw [← e] at a1
      have hd2 : afterF f 9 n = pushF (pushF (popF f).1 (code8 d)) (code8 d) := by rw [hf]; unfold dupF; rw [b]
      by_cases h8 : (tl st).length = 8
      · exact .inr ⟨.inr (by omega), by rw [hd2]; exact stk_full a1 h8 _⟩
      · obtain ⟨a2, b2, c2⟩ := stk_room a1 (by have := hs'.le; omega) d
        exact .inl ⟨by rw [hv], by have := hs'.le; omega, by rw [hd2, c2, c1, g, hw], by rw [hd2, ht]; exact a2, by rw [hd2, b2, b1, c, hlo], by rw [hv]; rfl, fun h => absurd h (by decide)⟩
  by_cases e10 : op = 10
  · subst e10
    have hf : afterF f 10 n = (popF f).1 := by simp [afterF]
    rcases nil_or_snoc (tl st) with e | ⟨s0, d, e⟩
    · have hz : st.size = 0 := by rw [← tl_len, e]; rfl
      refine .inr ⟨.inl (by simp [afterV, hz]), ?_⟩
      rw [hf]; rw [e] at hs; exact pop_nil hs
    · obtain ⟨z, z1, z2, z3⟩ := tl_last e
      have hv : afterV lo st 10 n = (lo, st.extract 0 (st.size - 1), true) := by
        have : ¬ st.size < 1 := by omega
        simp [afterV, this]
      rw [e] at hs
      obtain ⟨a, b, c, g⟩ := pop_snoc hs
      refine .inl ⟨by rw [hv], ?_, by rw [hf, g, hw], ?_, by rw [hf, c, hlo], by rw [hv]; rfl, fun h => absurd h (by decide)⟩
      · rw [hv]; show (st.extract 0 (st.size - 1)).size ≤ 8
        rw [← tl_len, z2]; exact a.le
      · rw [hf, hv]; show Stk _ (tl (st.extract 0 (st.size - 1)))
        rw [z2]; exact a
  by_cases e11 : op = 11
  · subst e11
    have hf : afterF f 11 n = pushF (pushF (popF (popF f).1).1 (popF f).2) (popF (popF f).1).2 := by simp [afterF, swapF]
    rcases nil_or_snoc (tl st) with e | ⟨s0, d, e⟩
    · have hz : st.size = 0 := by rw [← tl_len, e]; rfl
      refine .inr ⟨.inl (by simp [afterV, hz]), ?_⟩
      rw [hf]; rw [e] at hs; exact pushF_wrong (pushF_wrong (popF_wrong (pop_nil hs)) _) _
    · obtain ⟨z, z1, z2, z3⟩ := tl_last e
      have hs' := hs
      rw [e] at hs
      obtain ⟨a, b, c, g⟩ := pop_snoc hs
      rcases nil_or_snoc s0 with e0 | ⟨s1, d1, e0⟩
      · have hz : st.size = 1 := by rw [z, e0]; rfl
        refine .inr ⟨.inl (by simp [afterV, hz]), ?_⟩
        rw [hf]; rw [e0] at a; exact pushF_wrong (pushF_wrong (pop_nil a) _) _
      · subst e0
        obtain ⟨a', b', c', g'⟩ := pop_snoc a
        have z' : st.size = s1.length + 2 := by rw [z]; simp
        have hv : afterV lo st 11 n = (lo, st.extract 0 (st.size - 2) ++ st.extract (st.size - 1) st.size ++ st.extract (st.size - 2) (st.size - 1), true) := by
          have : ¬ st.size < 2 := by omega
          simp [afterV, this]
        have y0 : tl (st.extract 0 (st.size - 2)) = s1 := by
          rw [tl_extract, e, z', show s1.length + 2 - 2 - 0 = s1.length by omega]; simp
        have y1 : tl (st.extract (st.size - 2) (st.size - 1)) = [d1] := by
          rw [tl_extract, e, z', show s1.length + 2 - 2 = s1.length by omega, show s1.length + 2 - 1 - s1.length = 1 by omega]; simp
        have ht : tl (afterV lo st 11 n).2.1 = s1 ++ [d] ++ [d1] := by rw [hv]; show tl (_ ++ _ ++ _) = _; rw [tl_append, tl_append, y0, z1, y1]
        have hzz : (afterV lo st 11 n).2.1.size = s1.length + 2 := by rw [← tl_len, ht]; simp
        have hl8 := hs'.le
        rw [tl_len] at hl8
        obtain ⟨a1, b1, c1⟩ := stk_room a' (by omega) d
        obtain ⟨a2, b2, c2⟩ := stk_room a1 (by simp; omega) d1
        have hd2 : afterF f 11 n = pushF (pushF (popF (popF f).1).1 (code8 d)) (code8 d1) := by rw [hf, b, b']
        exact .inl ⟨by rw [hv], by omega, by rw [hd2, c2, c1, g', g, hw], by rw [hd2, ht]; exact a2, by rw [hd2, b2, b1, c', c, hlo], by rw [hv]; rfl, fun h => absurd h (by decide)⟩
  have hf : afterF f op n = pushR (popR f (popsN op).reverse) (pushesN op) := by simp [afterF, e7, e8, e9, e10, e11]
  have hpr : (popsN op).reverse = (popsL op).reverse.map UInt8.toNat := by unfold popsN; rw [List.map_reverse]
  have hv0 : afterV lo st op n = (if st.size < (popsS op).size then (lo, st, false)
      else if st.extract (st.size - (popsS op).size) st.size = popsS op then (lo, st.extract 0 (st.size - (popsS op).size) ++ pushesS op, true) else (lo, st, false)) := by
    simp only [afterV, if_neg e7, if_neg e8, if_neg e9, if_neg e10, if_neg e11]
  have hps : tl (popsS op) = popsL op := by simp [tl, popsS]
  have hpz : (popsS op).size = (popsL op).length := by rw [← tl_len, hps]
  have hqs : tl (pushesS op) = pushesL op := by simp [tl, pushesS]
  rcases popR_both (popsL op).reverse f (tl st) (fun c hc => letters_pops op c (by simpa using hc)) hs hw hl with ⟨s', e, a, b, c⟩ | ⟨e, a⟩
  · rw [List.reverse_reverse] at e
    have hz : st.size = s'.length + (popsL op).length := by rw [← tl_len, e]; simp
    have hx : st.extract (st.size - (popsS op).size) st.size = popsS op := by
      apply tl_inj
      rw [tl_extract, e, hps, hz, hpz, show s'.length + (popsL op).length - (popsL op).length = s'.length by omega, List.drop_left, show s'.length + (popsL op).length - s'.length = (popsL op).length by omega, List.take_length]
    have hv : afterV lo st op n = (lo, st.extract 0 (st.size - (popsS op).size) ++ pushesS op, true) := by
      rw [hv0, if_neg (by omega), if_pos hx]
    have ht : tl (afterV lo st op n).2.1 = s' ++ pushesL op := by
      rw [hv]; show tl (_ ++ _) = _
      rw [tl_append, hqs, tl_extract, e, hz, hpz, show s'.length + (popsL op).length - (popsL op).length - 0 = s'.length by omega]; simp
    have hzz : (afterV lo st op n).2.1.size = s'.length + (pushesL op).length := by rw [← tl_len, ht]; simp
    have hfq : afterF f op n = pushR (popR f ((popsL op).reverse.map UInt8.toNat)) ((pushesL op).map UInt8.toNat) := by rw [hf, hpr]; rfl
    rcases pushR_both (pushesL op) _ _ a with ⟨a1, b1, c1, d1⟩ | ⟨a1, b1⟩
    · exact .inl ⟨by rw [hv], by omega, by rw [hfq, c1, b], by rw [hfq, ht]; exact b1, by rw [hfq, d1, c, hlo], by rw [hv]; simp [e8], fun h => absurd h e8⟩
    · exact .inr ⟨.inr (by omega), by rw [hfq]; exact b1⟩
  · refine .inr ⟨.inl ?_, ?_⟩
    · rw [hv0]
      by_cases hlt : st.size < (popsS op).size
      · rw [if_pos hlt]
      · rw [if_neg hlt]
        by_cases hx : st.extract (st.size - (popsS op).size) st.size = popsS op
        · exfalso
          apply e
          rw [List.reverse_reverse]
          have := congrArg tl hx
          rw [tl_extract, hps, show st.size - (st.size - (popsS op).size) = (popsS op).size by omega] at this
          rw [List.take_of_length_le (by rw [List.length_drop, tl_len]; omega)] at this
          refine ⟨(tl st).take (st.size - (popsS op).size), ?_⟩
          rw [← this, List.take_append_drop]
        · rw [if_neg hx]
    · rw [hf, hpr]; exact pushR_wrong _ a
theorem load_mixed {f : Fr} {n : Nat} (h : f.lo.getD n 0 = 2) : (afterF f 7 n).wrong = true := by
  have : afterF f 7 n = loadF f n := by simp [afterF]
  rw [this]; unfold loadF
  by_cases h4 : 4 ≤ n
  · rw [if_pos h4]; rfl
  · rw [if_neg h4, if_pos h]; exact pushF_wrong rfl _
end Go.Proofs.YtdmdpindonghdaaDoor
namespace Go.Proofs.YtdmdpindonghdaaDoor
open Go.RowKit
set_option maxRecDepth 100000 in
set_option maxHeartbeats 1000000 in
theorem aft_load (f : Fr) (n pl tg : Nat) (w : World) (ok : FrOk f) (hn : n < 4) :
    Calls Tryd.prog 119 #[.agg (frL f).toArray, .agg #[.int .i64 pl, .int .i64 (7 : Nat), .int .i64 n, .int .i64 tg]] w (AftPost f 7 n w) := by
  have HF : Hid (afterF f 7 n = loadF f n) := hid (rfl)
  have hld := hid (fun W hW => load_any w.heap.size f n W hW ok hn)
  obtain ⟨r, lo, d, st, wg⟩ := f
  obtain ⟨h1, h2, h3d⟩ := ok
  simp only at h1 h2
  obtain ⟨a, b, c, e, rfl⟩ := four h1
  obtain ⟨s0, s1, s2, s3, s4, s5, s6, s7, rfl⟩ := eight h2
  simp only [frL, List.map_cons, List.map_nil, List.cons_append, List.nil_append, numV]
  go_enter Tryd.func119, Tryd.ntmps119
  go_wp2_with fail
  refine (hld.out _ (heap_three_first w _ _ _)).mono ?_
  rintro x w2 ⟨rfl, h3, h4⟩
  have hz := h4.size
  simp at hz
  have hres := hid ((h4.block (w.heap.size + 1 + 1) (by omega)).trans (heap_three_third w _ _ _))
  rw [← HF.out] at h3
  have hok3 : FrOk (afterF ⟨r, [a, b, c, e], d, [s0, s1, s2, s3, s4, s5, s6, s7], wg⟩ 7 n) := afterF_ok ⟨rfl, rfl, h3d⟩ 7 n
  have HPM := hid (fun W b' hb' hr' => aftPost_mk (f := ⟨r, [a, b, c, e], d, [s0, s1, s2, s3, s4, s5, s6, s7], wg⟩) (op := 7) (n := n) (w := w) (W := W) b' hb' hr')
  generalize afterF ⟨r, [a, b, c, e], d, [s0, s1, s2, s3, s4, s5, s6, s7], wg⟩ 7 n = G at *
  obtain ⟨r', lo', d', st', wg'⟩ := G
  obtain ⟨j1, j2, j3⟩ := hok3
  simp only at j1 j2
  obtain ⟨a', b', c', e', rfl⟩ := four j1
  obtain ⟨t0, t1, t2, t3, t4, t5, t6, t7, rfl⟩ := eight j2
  have c0 := RowAt.cell h3 0
  have c1 := RowAt.cell h3 1
  have c2 := RowAt.cell h3 2
  have c3 := RowAt.cell h3 3
  have c4 := RowAt.cell h3 4
  have c5 := RowAt.cell h3 5
  have c6 := RowAt.cell h3 6
  have c7 := RowAt.cell h3 7
  have c8 := RowAt.cell h3 8
  have c9 := RowAt.cell h3 9
  have c10 := RowAt.cell h3 10
  have c11 := RowAt.cell h3 11
  have c12 := RowAt.cell h3 12
  have c13 := RowAt.cell h3 13
  have c14 := RowAt.cell h3 14
  have z0 := cell_of_row w2 (w.heap.size + 1 + 1) 0 _ _ _ hres.out
  have z1 := cell_of_row w2 (w.heap.size + 1 + 1) 1 _ _ _ hres.out
  have z2 := cell_of_row w2 (w.heap.size + 1 + 1) 2 _ _ _ hres.out
  have z3 := cell_of_row w2 (w.heap.size + 1 + 1) 3 _ _ _ hres.out
  have z4 := cell_of_row w2 (w.heap.size + 1 + 1) 4 _ _ _ hres.out
  have z5 := cell_of_row w2 (w.heap.size + 1 + 1) 5 _ _ _ hres.out
  have z6 := cell_of_row w2 (w.heap.size + 1 + 1) 6 _ _ _ hres.out
  have z7 := cell_of_row w2 (w.heap.size + 1 + 1) 7 _ _ _ hres.out
  have z8 := cell_of_row w2 (w.heap.size + 1 + 1) 8 _ _ _ hres.out
  have z9 := cell_of_row w2 (w.heap.size + 1 + 1) 9 _ _ _ hres.out
  have z10 := cell_of_row w2 (w.heap.size + 1 + 1) 10 _ _ _ hres.out
  have z11 := cell_of_row w2 (w.heap.size + 1 + 1) 11 _ _ _ hres.out
  have z12 := cell_of_row w2 (w.heap.size + 1 + 1) 12 _ _ _ hres.out
  have z13 := cell_of_row w2 (w.heap.size + 1 + 1) 13 _ _ _ hres.out
  have z14 := cell_of_row w2 (w.heap.size + 1 + 1) 14 _ _ _ hres.out
  have g0 := frozen_of_row w2 (w.heap.size + 1 + 1) 0 _ _ hres.out
  have g1 := frozen_of_row w2 (w.heap.size + 1 + 1) 1 _ _ hres.out
  have g2 := frozen_of_row w2 (w.heap.size + 1 + 1) 2 _ _ hres.out
  have g3 := frozen_of_row w2 (w.heap.size + 1 + 1) 3 _ _ hres.out
  have g4 := frozen_of_row w2 (w.heap.size + 1 + 1) 4 _ _ hres.out
  have g5 := frozen_of_row w2 (w.heap.size + 1 + 1) 5 _ _ hres.out
  have g6 := frozen_of_row w2 (w.heap.size + 1 + 1) 6 _ _ hres.out
  have g7 := frozen_of_row w2 (w.heap.size + 1 + 1) 7 _ _ hres.out
  have g8 := frozen_of_row w2 (w.heap.size + 1 + 1) 8 _ _ hres.out
  have g9 := frozen_of_row w2 (w.heap.size + 1 + 1) 9 _ _ hres.out
  have g10 := frozen_of_row w2 (w.heap.size + 1 + 1) 10 _ _ hres.out
  have g11 := frozen_of_row w2 (w.heap.size + 1 + 1) 11 _ _ hres.out
  have g12 := frozen_of_row w2 (w.heap.size + 1 + 1) 12 _ _ hres.out
  have g13 := frozen_of_row w2 (w.heap.size + 1 + 1) 13 _ _ hres.out
  have g14 := frozen_of_row w2 (w.heap.size + 1 + 1) 14 _ _ hres.out
  simp only [frL, List.map_cons, List.map_nil, List.cons_append, List.nil_append, numV, List.getElem?_toArray, List.getElem?_cons_zero, List.getElem?_cons_succ] at c0 c1 c2 c3 c4 c5 c6 c7 c8 c9 c10 c11 c12 c13 c14 z0 z1 z2 z3 z4 z5 z6 z7 z8 z9 z10 z11 z12 z13 z14
  simp only [frL, List.map_cons, List.map_nil, List.cons_append, List.nil_append, numV] at HPM
  go_wp2_with fail
  go_region
  go_wp2_with fail
  have hbw : Below w.heap.size w w2 := (three_new w _ _ _).trans (h4.below (Nat.le_refl _))
  exact bodyPost_ret (aft_res (by rfl) (by rfl) (fifteen_set hres.out _ _ _ _ _ _ _ _ _ _ _ _ _ _ _).drew) rfl (HPM.out _ _ (fifteen_below hbw (by omega) _ _ _ _ _ _ _ _ _ _ _ _ _ _ _).drew rfl)
set_option maxRecDepth 100000 in
set_option maxHeartbeats 1000000 in
theorem aft_store (f : Fr) (n pl tg : Nat) (w : World) (ok : FrOk f) (hn : n < 4) :
    Calls Tryd.prog 119 #[.agg (frL f).toArray, .agg #[.int .i64 pl, .int .i64 (8 : Nat), .int .i64 n, .int .i64 tg]] w (AftPost f 8 n w) := by
  have HF : Hid (afterF f 8 n = storeF f n) := hid (rfl)
  have hld := hid (fun W hW => store_any w.heap.size f n W hW ok hn)
  obtain ⟨r, lo, d, st, wg⟩ := f
  obtain ⟨h1, h2, h3d⟩ := ok
  simp only at h1 h2
  obtain ⟨a, b, c, e, rfl⟩ := four h1
  obtain ⟨s0, s1, s2, s3, s4, s5, s6, s7, rfl⟩ := eight h2
  simp only [frL, List.map_cons, List.map_nil, List.cons_append, List.nil_append, numV]
  go_enter Tryd.func119, Tryd.ntmps119
  go_wp2_with fail
  refine (hld.out _ (heap_three_first w _ _ _)).mono ?_
  rintro x w2 ⟨rfl, h3, h4⟩
  have hz := h4.size
  simp at hz
  have hres := hid ((h4.block (w.heap.size + 1 + 1) (by omega)).trans (heap_three_third w _ _ _))
  rw [← HF.out] at h3
  have hok3 : FrOk (afterF ⟨r, [a, b, c, e], d, [s0, s1, s2, s3, s4, s5, s6, s7], wg⟩ 8 n) := afterF_ok ⟨rfl, rfl, h3d⟩ 8 n
  have HPM := hid (fun W b' hb' hr' => aftPost_mk (f := ⟨r, [a, b, c, e], d, [s0, s1, s2, s3, s4, s5, s6, s7], wg⟩) (op := 8) (n := n) (w := w) (W := W) b' hb' hr')
  generalize afterF ⟨r, [a, b, c, e], d, [s0, s1, s2, s3, s4, s5, s6, s7], wg⟩ 8 n = G at *
  obtain ⟨r', lo', d', st', wg'⟩ := G
  obtain ⟨j1, j2, j3⟩ := hok3
  simp only at j1 j2
  obtain ⟨a', b', c', e', rfl⟩ := four j1
  obtain ⟨t0, t1, t2, t3, t4, t5, t6, t7, rfl⟩ := eight j2
  have c0 := RowAt.cell h3 0
  have c1 := RowAt.cell h3 1
  have c2 := RowAt.cell h3 2
  have c3 := RowAt.cell h3 3
  have c4 := RowAt.cell h3 4
  have c5 := RowAt.cell h3 5
  have c6 := RowAt.cell h3 6
  have c7 := RowAt.cell h3 7
  have c8 := RowAt.cell h3 8
  have c9 := RowAt.cell h3 9
  have c10 := RowAt.cell h3 10
  have c11 := RowAt.cell h3 11
  have c12 := RowAt.cell h3 12
  have c13 := RowAt.cell h3 13
  have c14 := RowAt.cell h3 14
  have z0 := cell_of_row w2 (w.heap.size + 1 + 1) 0 _ _ _ hres.out
  have z1 := cell_of_row w2 (w.heap.size + 1 + 1) 1 _ _ _ hres.out
  have z2 := cell_of_row w2 (w.heap.size + 1 + 1) 2 _ _ _ hres.out
  have z3 := cell_of_row w2 (w.heap.size + 1 + 1) 3 _ _ _ hres.out
  have z4 := cell_of_row w2 (w.heap.size + 1 + 1) 4 _ _ _ hres.out
  have z5 := cell_of_row w2 (w.heap.size + 1 + 1) 5 _ _ _ hres.out
  have z6 := cell_of_row w2 (w.heap.size + 1 + 1) 6 _ _ _ hres.out
  have z7 := cell_of_row w2 (w.heap.size + 1 + 1) 7 _ _ _ hres.out
  have z8 := cell_of_row w2 (w.heap.size + 1 + 1) 8 _ _ _ hres.out
  have z9 := cell_of_row w2 (w.heap.size + 1 + 1) 9 _ _ _ hres.out
  have z10 := cell_of_row w2 (w.heap.size + 1 + 1) 10 _ _ _ hres.out
  have z11 := cell_of_row w2 (w.heap.size + 1 + 1) 11 _ _ _ hres.out
  have z12 := cell_of_row w2 (w.heap.size + 1 + 1) 12 _ _ _ hres.out
  have z13 := cell_of_row w2 (w.heap.size + 1 + 1) 13 _ _ _ hres.out
  have z14 := cell_of_row w2 (w.heap.size + 1 + 1) 14 _ _ _ hres.out
  have g0 := frozen_of_row w2 (w.heap.size + 1 + 1) 0 _ _ hres.out
  have g1 := frozen_of_row w2 (w.heap.size + 1 + 1) 1 _ _ hres.out
  have g2 := frozen_of_row w2 (w.heap.size + 1 + 1) 2 _ _ hres.out
  have g3 := frozen_of_row w2 (w.heap.size + 1 + 1) 3 _ _ hres.out
  have g4 := frozen_of_row w2 (w.heap.size + 1 + 1) 4 _ _ hres.out
  have g5 := frozen_of_row w2 (w.heap.size + 1 + 1) 5 _ _ hres.out
  have g6 := frozen_of_row w2 (w.heap.size + 1 + 1) 6 _ _ hres.out
  have g7 := frozen_of_row w2 (w.heap.size + 1 + 1) 7 _ _ hres.out
  have g8 := frozen_of_row w2 (w.heap.size + 1 + 1) 8 _ _ hres.out
  have g9 := frozen_of_row w2 (w.heap.size + 1 + 1) 9 _ _ hres.out
  have g10 := frozen_of_row w2 (w.heap.size + 1 + 1) 10 _ _ hres.out
  have g11 := frozen_of_row w2 (w.heap.size + 1 + 1) 11 _ _ hres.out
  have g12 := frozen_of_row w2 (w.heap.size + 1 + 1) 12 _ _ hres.out
  have g13 := frozen_of_row w2 (w.heap.size + 1 + 1) 13 _ _ hres.out
  have g14 := frozen_of_row w2 (w.heap.size + 1 + 1) 14 _ _ hres.out
  simp only [frL, List.map_cons, List.map_nil, List.cons_append, List.nil_append, numV, List.getElem?_toArray, List.getElem?_cons_zero, List.getElem?_cons_succ] at c0 c1 c2 c3 c4 c5 c6 c7 c8 c9 c10 c11 c12 c13 c14 z0 z1 z2 z3 z4 z5 z6 z7 z8 z9 z10 z11 z12 z13 z14
  simp only [frL, List.map_cons, List.map_nil, List.cons_append, List.nil_append, numV] at HPM
  go_wp2_with fail
  go_region
  go_wp2_with fail
  have hbw : Below w.heap.size w w2 := (three_new w _ _ _).trans (h4.below (Nat.le_refl _))
  exact bodyPost_ret (aft_res (by rfl) (by rfl) (fifteen_set hres.out _ _ _ _ _ _ _ _ _ _ _ _ _ _ _).drew) rfl (HPM.out _ _ (fifteen_below hbw (by omega) _ _ _ _ _ _ _ _ _ _ _ _ _ _ _).drew rfl)
set_option maxRecDepth 100000 in
set_option maxHeartbeats 1000000 in
theorem aft_drop (f : Fr) (n pl tg : Nat) (w : World) (ok : FrOk f) :
    Calls Tryd.prog 119 #[.agg (frL f).toArray, .agg #[.int .i64 pl, .int .i64 (10 : Nat), .int .i64 n, .int .i64 tg]] w (AftPost f 10 n w) := by
  have HF : Hid (afterF f 10 n = (popF f).1) := hid (rfl)
  have hld := hid (fun W hW => pop_any w.heap.size f W hW ok)
  obtain ⟨r, lo, d, st, wg⟩ := f
  obtain ⟨h1, h2, h3d⟩ := ok
  simp only at h1 h2
  obtain ⟨a, b, c, e, rfl⟩ := four h1
  obtain ⟨s0, s1, s2, s3, s4, s5, s6, s7, rfl⟩ := eight h2
  simp only [frL, List.map_cons, List.map_nil, List.cons_append, List.nil_append, numV]
  go_enter Tryd.func119, Tryd.ntmps119
  go_wp2_with fail
  refine (hld.out _ (heap_three_first w _ _ _)).mono ?_
  rintro x w2 ⟨rfl, h3, h4⟩
  have hz := h4.size
  simp at hz
  have hres := hid ((h4.block (w.heap.size + 1 + 1) (by omega)).trans (heap_three_third w _ _ _))
  rw [← HF.out] at h3
  have hok3 : FrOk (afterF ⟨r, [a, b, c, e], d, [s0, s1, s2, s3, s4, s5, s6, s7], wg⟩ 10 n) := afterF_ok ⟨rfl, rfl, h3d⟩ 10 n
  have HPM := hid (fun W b' hb' hr' => aftPost_mk (f := ⟨r, [a, b, c, e], d, [s0, s1, s2, s3, s4, s5, s6, s7], wg⟩) (op := 10) (n := n) (w := w) (W := W) b' hb' hr')
  generalize afterF ⟨r, [a, b, c, e], d, [s0, s1, s2, s3, s4, s5, s6, s7], wg⟩ 10 n = G at *
  obtain ⟨r', lo', d', st', wg'⟩ := G
  obtain ⟨j1, j2, j3⟩ := hok3
  simp only at j1 j2
  obtain ⟨a', b', c', e', rfl⟩ := four j1
  obtain ⟨t0, t1, t2, t3, t4, t5, t6, t7, rfl⟩ := eight j2
  have c0 := RowAt.cell h3 0
  have c1 := RowAt.cell h3 1
  have c2 := RowAt.cell h3 2
  have c3 := RowAt.cell h3 3
  have c4 := RowAt.cell h3 4
  have c5 := RowAt.cell h3 5
  have c6 := RowAt.cell h3 6
  have c7 := RowAt.cell h3 7
  have c8 := RowAt.cell h3 8
  have c9 := RowAt.cell h3 9
  have c10 := RowAt.cell h3 10
  have c11 := RowAt.cell h3 11
  have c12 := RowAt.cell h3 12
  have c13 := RowAt.cell h3 13
  have c14 := RowAt.cell h3 14
  have z0 := cell_of_row w2 (w.heap.size + 1 + 1) 0 _ _ _ hres.out
  have z1 := cell_of_row w2 (w.heap.size + 1 + 1) 1 _ _ _ hres.out
  have z2 := cell_of_row w2 (w.heap.size + 1 + 1) 2 _ _ _ hres.out
  have z3 := cell_of_row w2 (w.heap.size + 1 + 1) 3 _ _ _ hres.out
  have z4 := cell_of_row w2 (w.heap.size + 1 + 1) 4 _ _ _ hres.out
  have z5 := cell_of_row w2 (w.heap.size + 1 + 1) 5 _ _ _ hres.out
  have z6 := cell_of_row w2 (w.heap.size + 1 + 1) 6 _ _ _ hres.out
  have z7 := cell_of_row w2 (w.heap.size + 1 + 1) 7 _ _ _ hres.out
  have z8 := cell_of_row w2 (w.heap.size + 1 + 1) 8 _ _ _ hres.out
  have z9 := cell_of_row w2 (w.heap.size + 1 + 1) 9 _ _ _ hres.out
  have z10 := cell_of_row w2 (w.heap.size + 1 + 1) 10 _ _ _ hres.out
  have z11 := cell_of_row w2 (w.heap.size + 1 + 1) 11 _ _ _ hres.out
  have z12 := cell_of_row w2 (w.heap.size + 1 + 1) 12 _ _ _ hres.out
  have z13 := cell_of_row w2 (w.heap.size + 1 + 1) 13 _ _ _ hres.out
  have z14 := cell_of_row w2 (w.heap.size + 1 + 1) 14 _ _ _ hres.out
  have g0 := frozen_of_row w2 (w.heap.size + 1 + 1) 0 _ _ hres.out
  have g1 := frozen_of_row w2 (w.heap.size + 1 + 1) 1 _ _ hres.out
  have g2 := frozen_of_row w2 (w.heap.size + 1 + 1) 2 _ _ hres.out
  have g3 := frozen_of_row w2 (w.heap.size + 1 + 1) 3 _ _ hres.out
  have g4 := frozen_of_row w2 (w.heap.size + 1 + 1) 4 _ _ hres.out
  have g5 := frozen_of_row w2 (w.heap.size + 1 + 1) 5 _ _ hres.out
  have g6 := frozen_of_row w2 (w.heap.size + 1 + 1) 6 _ _ hres.out
  have g7 := frozen_of_row w2 (w.heap.size + 1 + 1) 7 _ _ hres.out
  have g8 := frozen_of_row w2 (w.heap.size + 1 + 1) 8 _ _ hres.out
  have g9 := frozen_of_row w2 (w.heap.size + 1 + 1) 9 _ _ hres.out
  have g10 := frozen_of_row w2 (w.heap.size + 1 + 1) 10 _ _ hres.out
  have g11 := frozen_of_row w2 (w.heap.size + 1 + 1) 11 _ _ hres.out
  have g12 := frozen_of_row w2 (w.heap.size + 1 + 1) 12 _ _ hres.out
  have g13 := frozen_of_row w2 (w.heap.size + 1 + 1) 13 _ _ hres.out
  have g14 := frozen_of_row w2 (w.heap.size + 1 + 1) 14 _ _ hres.out
  simp only [frL, List.map_cons, List.map_nil, List.cons_append, List.nil_append, numV, List.getElem?_toArray, List.getElem?_cons_zero, List.getElem?_cons_succ] at c0 c1 c2 c3 c4 c5 c6 c7 c8 c9 c10 c11 c12 c13 c14 z0 z1 z2 z3 z4 z5 z6 z7 z8 z9 z10 z11 z12 z13 z14
  simp only [frL, List.map_cons, List.map_nil, List.cons_append, List.nil_append, numV] at HPM
  go_wp2_with fail
  go_region
  go_wp2_with fail
  have hbw : Below w.heap.size w w2 := (three_new w _ _ _).trans (h4.below (Nat.le_refl _))
  exact bodyPost_ret (aft_res (by rfl) (by rfl) (fifteen_set hres.out _ _ _ _ _ _ _ _ _ _ _ _ _ _ _).drew) rfl (HPM.out _ _ (fifteen_below hbw (by omega) _ _ _ _ _ _ _ _ _ _ _ _ _ _ _).drew rfl)
end Go.Proofs.YtdmdpindonghdaaDoor
namespace Go.Proofs.YtdmdpindonghdaaDoor
open Go.RowKit
set_option maxRecDepth 100000 in
set_option maxHeartbeats 1000000 in
theorem aft_dup (f : Fr) (n pl tg : Nat) (w : World) (ok : FrOk f) :
    Calls Tryd.prog 119 #[.agg (frL f).toArray, .agg #[.int .i64 pl, .int .i64 (9 : Nat), .int .i64 n, .int .i64 tg]] w (AftPost f 9 n w) := by
  have HF : Hid (afterF f 9 n = pushF (pushF (popF f).1 (popF f).2) (popF f).2) := hid (rfl)
  have k1 := hid (fun W hW => pop_any w.heap.size f W hW ok)
  have k2 := hid (fun W hW => push_any w.heap.size (popF f).1 (popF f).2 W hW (popF_ok ok))
  have k3 := hid (fun W hW => push_any w.heap.size (pushF (popF f).1 (popF f).2) (popF f).2 W hW (pushF_ok (popF_ok ok) _))
  obtain ⟨r, lo, d, st, wg⟩ := f
  obtain ⟨h1, h2, h3d⟩ := ok
  simp only at h1 h2
  obtain ⟨a, b, c, e, rfl⟩ := four h1
  obtain ⟨s0, s1, s2, s3, s4, s5, s6, s7, rfl⟩ := eight h2
  simp only [frL, List.map_cons, List.map_nil, List.cons_append, List.nil_append, numV]
  go_enter Tryd.func119, Tryd.ntmps119
  go_wp2_with fail
  refine (k1.out _ (heap_three_first w _ _ _)).mono ?_
  rintro x w3 ⟨rfl, h5, h6⟩
  go_wp2_with fail
  refine (k2.out _ h5).mono ?_
  rintro x w4 ⟨rfl, h7, h8⟩
  go_wp2_with fail
  refine (k3.out _ h7).mono ?_
  rintro x w2 ⟨rfl, h3, h9⟩
  have h4 := (h6.trans h8).trans h9
  clear k1 k2 k3 h5 h6 h7 h8 h9
  have hz := h4.size
  simp at hz
  have hres := hid ((h4.block (w.heap.size + 1 + 1) (by omega)).trans (heap_three_third w _ _ _))
  rw [← HF.out] at h3
  have hok3 : FrOk (afterF ⟨r, [a, b, c, e], d, [s0, s1, s2, s3, s4, s5, s6, s7], wg⟩ 9 n) := afterF_ok ⟨rfl, rfl, h3d⟩ 9 n
  have HPM := hid (fun W b' hb' hr' => aftPost_mk (f := ⟨r, [a, b, c, e], d, [s0, s1, s2, s3, s4, s5, s6, s7], wg⟩) (op := 9) (n := n) (w := w) (W := W) b' hb' hr')
  generalize afterF ⟨r, [a, b, c, e], d, [s0, s1, s2, s3, s4, s5, s6, s7], wg⟩ 9 n = G at *
  obtain ⟨r', lo', d', st', wg'⟩ := G
  obtain ⟨j1, j2, j3⟩ := hok3
  simp only at j1 j2
  obtain ⟨a', b', c', e', rfl⟩ := four j1
  obtain ⟨t0, t1, t2, t3, t4, t5, t6, t7, rfl⟩ := eight j2
  have c0 := RowAt.cell h3 0
  have c1 := RowAt.cell h3 1
  have c2 := RowAt.cell h3 2
  have c3 := RowAt.cell h3 3
  have c4 := RowAt.cell h3 4
  have c5 := RowAt.cell h3 5
  have c6 := RowAt.cell h3 6
  have c7 := RowAt.cell h3 7
  have c8 := RowAt.cell h3 8
  have c9 := RowAt.cell h3 9
  have c10 := RowAt.cell h3 10
  have c11 := RowAt.cell h3 11
  have c12 := RowAt.cell h3 12
  have c13 := RowAt.cell h3 13
  have c14 := RowAt.cell h3 14
  have z0 := cell_of_row w2 (w.heap.size + 1 + 1) 0 _ _ _ hres.out
  have z1 := cell_of_row w2 (w.heap.size + 1 + 1) 1 _ _ _ hres.out
  have z2 := cell_of_row w2 (w.heap.size + 1 + 1) 2 _ _ _ hres.out
  have z3 := cell_of_row w2 (w.heap.size + 1 + 1) 3 _ _ _ hres.out
  have z4 := cell_of_row w2 (w.heap.size + 1 + 1) 4 _ _ _ hres.out
  have z5 := cell_of_row w2 (w.heap.size + 1 + 1) 5 _ _ _ hres.out
  have z6 := cell_of_row w2 (w.heap.size + 1 + 1) 6 _ _ _ hres.out
  have z7 := cell_of_row w2 (w.heap.size + 1 + 1) 7 _ _ _ hres.out
  have z8 := cell_of_row w2 (w.heap.size + 1 + 1) 8 _ _ _ hres.out
  have z9 := cell_of_row w2 (w.heap.size + 1 + 1) 9 _ _ _ hres.out
  have z10 := cell_of_row w2 (w.heap.size + 1 + 1) 10 _ _ _ hres.out
  have z11 := cell_of_row w2 (w.heap.size + 1 + 1) 11 _ _ _ hres.out
  have z12 := cell_of_row w2 (w.heap.size + 1 + 1) 12 _ _ _ hres.out
  have z13 := cell_of_row w2 (w.heap.size + 1 + 1) 13 _ _ _ hres.out
  have z14 := cell_of_row w2 (w.heap.size + 1 + 1) 14 _ _ _ hres.out
  have g0 := frozen_of_row w2 (w.heap.size + 1 + 1) 0 _ _ hres.out
  have g1 := frozen_of_row w2 (w.heap.size + 1 + 1) 1 _ _ hres.out
  have g2 := frozen_of_row w2 (w.heap.size + 1 + 1) 2 _ _ hres.out
  have g3 := frozen_of_row w2 (w.heap.size + 1 + 1) 3 _ _ hres.out
  have g4 := frozen_of_row w2 (w.heap.size + 1 + 1) 4 _ _ hres.out
  have g5 := frozen_of_row w2 (w.heap.size + 1 + 1) 5 _ _ hres.out
  have g6 := frozen_of_row w2 (w.heap.size + 1 + 1) 6 _ _ hres.out
  have g7 := frozen_of_row w2 (w.heap.size + 1 + 1) 7 _ _ hres.out
  have g8 := frozen_of_row w2 (w.heap.size + 1 + 1) 8 _ _ hres.out
  have g9 := frozen_of_row w2 (w.heap.size + 1 + 1) 9 _ _ hres.out
  have g10 := frozen_of_row w2 (w.heap.size + 1 + 1) 10 _ _ hres.out
  have g11 := frozen_of_row w2 (w.heap.size + 1 + 1) 11 _ _ hres.out
  have g12 := frozen_of_row w2 (w.heap.size + 1 + 1) 12 _ _ hres.out
  have g13 := frozen_of_row w2 (w.heap.size + 1 + 1) 13 _ _ hres.out
  have g14 := frozen_of_row w2 (w.heap.size + 1 + 1) 14 _ _ hres.out
  simp only [frL, List.map_cons, List.map_nil, List.cons_append, List.nil_append, numV, List.getElem?_toArray, List.getElem?_cons_zero, List.getElem?_cons_succ] at c0 c1 c2 c3 c4 c5 c6 c7 c8 c9 c10 c11 c12 c13 c14 z0 z1 z2 z3 z4 z5 z6 z7 z8 z9 z10 z11 z12 z13 z14
  simp only [frL, List.map_cons, List.map_nil, List.cons_append, List.nil_append, numV] at HPM
  go_wp2_with fail
  go_region
  go_wp2_with fail
  have hbw : Below w.heap.size w w2 := (three_new w _ _ _).trans (h4.below (Nat.le_refl _))
  exact bodyPost_ret (aft_res (by rfl) (by rfl) (fifteen_set hres.out _ _ _ _ _ _ _ _ _ _ _ _ _ _ _).drew) rfl (HPM.out _ _ (fifteen_below hbw (by omega) _ _ _ _ _ _ _ _ _ _ _ _ _ _ _).drew rfl)
set_option maxRecDepth 100000 in
set_option maxHeartbeats 1000000 in
theorem aft_swap (f : Fr) (n pl tg : Nat) (w : World) (ok : FrOk f) :
    Calls Tryd.prog 119 #[.agg (frL f).toArray, .agg #[.int .i64 pl, .int .i64 (11 : Nat), .int .i64 n, .int .i64 tg]] w (AftPost f 11 n w) := by
  have HF : Hid (afterF f 11 n = pushF (pushF (popF (popF f).1).1 (popF f).2) (popF (popF f).1).2) := hid (rfl)
  have k1 := hid (fun W hW => pop_any w.heap.size f W hW ok)
  have k2 := hid (fun W hW => pop_any w.heap.size (popF f).1 W hW (popF_ok ok))
  have k3 := hid (fun W hW => push_any w.heap.size (popF (popF f).1).1 (popF f).2 W hW (popF_ok (popF_ok ok)))
  have k4 := hid (fun W hW => push_any w.heap.size (pushF (popF (popF f).1).1 (popF f).2) (popF (popF f).1).2 W hW (pushF_ok (popF_ok (popF_ok ok)) _))
  obtain ⟨r, lo, d, st, wg⟩ := f
  obtain ⟨h1, h2, h3d⟩ := ok
  simp only at h1 h2
  obtain ⟨a, b, c, e, rfl⟩ := four h1
  obtain ⟨s0, s1, s2, s3, s4, s5, s6, s7, rfl⟩ := eight h2
  simp only [frL, List.map_cons, List.map_nil, List.cons_append, List.nil_append, numV]
  go_enter Tryd.func119, Tryd.ntmps119
  go_wp2_with fail
  refine (k1.out _ (heap_three_first w _ _ _)).mono ?_
  rintro x w3 ⟨rfl, h5, h6⟩
  go_wp2_with fail
  refine (k2.out _ h5).mono ?_
  rintro x w4 ⟨rfl, h7, h8⟩
  go_wp2_with fail
  refine (k3.out _ h7).mono ?_
  rintro x w5 ⟨rfl, h9, h10⟩
  go_wp2_with fail
  refine (k4.out _ h9).mono ?_
  rintro x w2 ⟨rfl, h3, h11⟩
  have h4 := ((h6.trans h8).trans h10).trans h11
  clear k1 k2 k3 k4 h5 h6 h7 h8 h9 h10 h11
  have hz := h4.size
  simp at hz
  have hres := hid ((h4.block (w.heap.size + 1 + 1) (by omega)).trans (heap_three_third w _ _ _))
  rw [← HF.out] at h3
  have hok3 : FrOk (afterF ⟨r, [a, b, c, e], d, [s0, s1, s2, s3, s4, s5, s6, s7], wg⟩ 11 n) := afterF_ok ⟨rfl, rfl, h3d⟩ 11 n
  have HPM := hid (fun W b' hb' hr' => aftPost_mk (f := ⟨r, [a, b, c, e], d, [s0, s1, s2, s3, s4, s5, s6, s7], wg⟩) (op := 11) (n := n) (w := w) (W := W) b' hb' hr')
  generalize afterF ⟨r, [a, b, c, e], d, [s0, s1, s2, s3, s4, s5, s6, s7], wg⟩ 11 n = G at *
  obtain ⟨r', lo', d', st', wg'⟩ := G
  obtain ⟨j1, j2, j3⟩ := hok3
  simp only at j1 j2
  obtain ⟨a', b', c', e', rfl⟩ := four j1
  obtain ⟨t0, t1, t2, t3, t4, t5, t6, t7, rfl⟩ := eight j2
  have c0 := RowAt.cell h3 0
  have c1 := RowAt.cell h3 1
  have c2 := RowAt.cell h3 2
  have c3 := RowAt.cell h3 3
  have c4 := RowAt.cell h3 4
  have c5 := RowAt.cell h3 5
  have c6 := RowAt.cell h3 6
  have c7 := RowAt.cell h3 7
  have c8 := RowAt.cell h3 8
  have c9 := RowAt.cell h3 9
  have c10 := RowAt.cell h3 10
  have c11 := RowAt.cell h3 11
  have c12 := RowAt.cell h3 12
  have c13 := RowAt.cell h3 13
  have c14 := RowAt.cell h3 14
  have z0 := cell_of_row w2 (w.heap.size + 1 + 1) 0 _ _ _ hres.out
  have z1 := cell_of_row w2 (w.heap.size + 1 + 1) 1 _ _ _ hres.out
  have z2 := cell_of_row w2 (w.heap.size + 1 + 1) 2 _ _ _ hres.out
  have z3 := cell_of_row w2 (w.heap.size + 1 + 1) 3 _ _ _ hres.out
  have z4 := cell_of_row w2 (w.heap.size + 1 + 1) 4 _ _ _ hres.out
  have z5 := cell_of_row w2 (w.heap.size + 1 + 1) 5 _ _ _ hres.out
  have z6 := cell_of_row w2 (w.heap.size + 1 + 1) 6 _ _ _ hres.out
  have z7 := cell_of_row w2 (w.heap.size + 1 + 1) 7 _ _ _ hres.out
  have z8 := cell_of_row w2 (w.heap.size + 1 + 1) 8 _ _ _ hres.out
  have z9 := cell_of_row w2 (w.heap.size + 1 + 1) 9 _ _ _ hres.out
  have z10 := cell_of_row w2 (w.heap.size + 1 + 1) 10 _ _ _ hres.out
  have z11 := cell_of_row w2 (w.heap.size + 1 + 1) 11 _ _ _ hres.out
  have z12 := cell_of_row w2 (w.heap.size + 1 + 1) 12 _ _ _ hres.out
  have z13 := cell_of_row w2 (w.heap.size + 1 + 1) 13 _ _ _ hres.out
  have z14 := cell_of_row w2 (w.heap.size + 1 + 1) 14 _ _ _ hres.out
  have g0 := frozen_of_row w2 (w.heap.size + 1 + 1) 0 _ _ hres.out
  have g1 := frozen_of_row w2 (w.heap.size + 1 + 1) 1 _ _ hres.out
  have g2 := frozen_of_row w2 (w.heap.size + 1 + 1) 2 _ _ hres.out
  have g3 := frozen_of_row w2 (w.heap.size + 1 + 1) 3 _ _ hres.out
  have g4 := frozen_of_row w2 (w.heap.size + 1 + 1) 4 _ _ hres.out
  have g5 := frozen_of_row w2 (w.heap.size + 1 + 1) 5 _ _ hres.out
  have g6 := frozen_of_row w2 (w.heap.size + 1 + 1) 6 _ _ hres.out
  have g7 := frozen_of_row w2 (w.heap.size + 1 + 1) 7 _ _ hres.out
  have g8 := frozen_of_row w2 (w.heap.size + 1 + 1) 8 _ _ hres.out
  have g9 := frozen_of_row w2 (w.heap.size + 1 + 1) 9 _ _ hres.out
  have g10 := frozen_of_row w2 (w.heap.size + 1 + 1) 10 _ _ hres.out
  have g11 := frozen_of_row w2 (w.heap.size + 1 + 1) 11 _ _ hres.out
  have g12 := frozen_of_row w2 (w.heap.size + 1 + 1) 12 _ _ hres.out
  have g13 := frozen_of_row w2 (w.heap.size + 1 + 1) 13 _ _ hres.out
  have g14 := frozen_of_row w2 (w.heap.size + 1 + 1) 14 _ _ hres.out
  simp only [frL, List.map_cons, List.map_nil, List.cons_append, List.nil_append, numV, List.getElem?_toArray, List.getElem?_cons_zero, List.getElem?_cons_succ] at c0 c1 c2 c3 c4 c5 c6 c7 c8 c9 c10 c11 c12 c13 c14 z0 z1 z2 z3 z4 z5 z6 z7 z8 z9 z10 z11 z12 z13 z14
  simp only [frL, List.map_cons, List.map_nil, List.cons_append, List.nil_append, numV] at HPM
  go_wp2_with fail
  go_region
  go_wp2_with fail
  have hbw : Below w.heap.size w w2 := (three_new w _ _ _).trans (h4.below (Nat.le_refl _))
  exact bodyPost_ret (aft_res (by rfl) (by rfl) (fifteen_set hres.out _ _ _ _ _ _ _ _ _ _ _ _ _ _ _).drew) rfl (HPM.out _ _ (fifteen_below hbw (by omega) _ _ _ _ _ _ _ _ _ _ _ _ _ _ _).drew rfl)
end Go.Proofs.YtdmdpindonghdaaDoor
namespace Go.Proofs.YtdmdpindonghdaaDoor
open Go.RowKit
set_option maxRecDepth 100000 in
set_option maxHeartbeats 1000000 in
theorem aft_other (f : Fr) (op n pl tg : Nat) (w : World) (ok : FrOk f) (hop : op < 25) (hne : op ≠ 7 ∧ op ≠ 8 ∧ op ≠ 9 ∧ op ≠ 10 ∧ op ≠ 11) (htab : FlowTab w) :
    Calls Tryd.prog 119 #[.agg (frL f).toArray, .agg #[.int .i64 pl, .int .i64 op, .int .i64 n, .int .i64 tg]] w (AftPost f op n w) := by
  have HF : Hid (afterF f op n = pushR (popR f (popsN op).reverse) (pushesN op)) := hid (by unfold afterF; rw [if_neg hne.1, if_neg hne.2.1, if_neg hne.2.2.1, if_neg hne.2.2.2.1, if_neg hne.2.2.2.2])
  have k1 := hid (fun W hW ht => popAll_any w.heap.size f op W hW ok hop ht)
  have k2 := hid (fun W hW ht => pushAll_any w.heap.size (popR f (popsN op).reverse) op W hW (popR_ok _ _ ok) hop ht)
  obtain ⟨q1, q2, q3, q4, q5⟩ : ((op : Int) == 7) = false ∧ ((op : Int) == 8) = false ∧ ((op : Int) == 9) = false ∧ ((op : Int) == 10) = false ∧ ((op : Int) == 11) = false := by
    simp only [beq_eq_false_iff_ne]; omega
  have hg3 := World.block_lt_of_cell? w _ (htab op hop).1
  have hg4 := World.block_lt_of_cell? w _ (htab op hop).2
  simp only at hg3 hg4
  clear hne
  obtain ⟨r, lo, d, st, wg⟩ := f
  obtain ⟨h1, h2, h3d⟩ := ok
  simp only at h1 h2
  obtain ⟨a, b, c, e, rfl⟩ := four h1
  obtain ⟨s0, s1, s2, s3, s4, s5, s6, s7, rfl⟩ := eight h2
  simp only [frL, List.map_cons, List.map_nil, List.cons_append, List.nil_append, numV]
  go_enter Tryd.func119, Tryd.ntmps119
  go_wp2_with fail
  refine (k1.out _ (heap_three_first w _ _ _) (htab.below (three_new w _ _ _))).mono ?_
  rintro x w3 ⟨rfl, h5, h6⟩
  have m1 := (h6.cell (k := w.heap.size + 1) (o := 1) (by omega)).trans (cell_three_second w _ _ _ _ 1)
  simp only [List.getElem?_toArray, List.getElem?_cons_zero, List.getElem?_cons_succ] at m1
  have ht3 := FlowTab.only (htab.below (three_new w _ _ _)) h6 (by omega) (by omega)
  go_wp2_with fail
  refine (k2.out _ h5 ht3).mono ?_
  rintro x w2 ⟨rfl, h3, h9⟩
  have h4 := h6.trans h9
  clear k1 k2 h5 h6 h9 m1 ht3
  have hz := h4.size
  simp at hz
  have hres := hid ((h4.block (w.heap.size + 1 + 1) (by omega)).trans (heap_three_third w _ _ _))
  rw [← HF.out] at h3
  have hok3 : FrOk (afterF ⟨r, [a, b, c, e], d, [s0, s1, s2, s3, s4, s5, s6, s7], wg⟩ op n) := afterF_ok ⟨rfl, rfl, h3d⟩ op n
  have HPM := hid (fun W b' hb' hr' => aftPost_mk (f := ⟨r, [a, b, c, e], d, [s0, s1, s2, s3, s4, s5, s6, s7], wg⟩) (op := op) (n := n) (w := w) (W := W) b' hb' hr')
  generalize afterF ⟨r, [a, b, c, e], d, [s0, s1, s2, s3, s4, s5, s6, s7], wg⟩ op n = G at *
  obtain ⟨r', lo', d', st', wg'⟩ := G
  obtain ⟨j1, j2, j3⟩ := hok3
  simp only at j1 j2
  obtain ⟨a', b', c', e', rfl⟩ := four j1
  obtain ⟨t0, t1, t2, t3, t4, t5, t6, t7, rfl⟩ := eight j2
  have c0 := RowAt.cell h3 0
  have c1 := RowAt.cell h3 1
  have c2 := RowAt.cell h3 2
  have c3 := RowAt.cell h3 3
  have c4 := RowAt.cell h3 4
  have c5 := RowAt.cell h3 5
  have c6 := RowAt.cell h3 6
  have c7 := RowAt.cell h3 7
  have c8 := RowAt.cell h3 8
  have c9 := RowAt.cell h3 9
  have c10 := RowAt.cell h3 10
  have c11 := RowAt.cell h3 11
  have c12 := RowAt.cell h3 12
  have c13 := RowAt.cell h3 13
  have c14 := RowAt.cell h3 14
  have z0 := cell_of_row w2 (w.heap.size + 1 + 1) 0 _ _ _ hres.out
  have z1 := cell_of_row w2 (w.heap.size + 1 + 1) 1 _ _ _ hres.out
  have z2 := cell_of_row w2 (w.heap.size + 1 + 1) 2 _ _ _ hres.out
  have z3 := cell_of_row w2 (w.heap.size + 1 + 1) 3 _ _ _ hres.out
  have z4 := cell_of_row w2 (w.heap.size + 1 + 1) 4 _ _ _ hres.out
  have z5 := cell_of_row w2 (w.heap.size + 1 + 1) 5 _ _ _ hres.out
  have z6 := cell_of_row w2 (w.heap.size + 1 + 1) 6 _ _ _ hres.out
  have z7 := cell_of_row w2 (w.heap.size + 1 + 1) 7 _ _ _ hres.out
  have z8 := cell_of_row w2 (w.heap.size + 1 + 1) 8 _ _ _ hres.out
  have z9 := cell_of_row w2 (w.heap.size + 1 + 1) 9 _ _ _ hres.out
  have z10 := cell_of_row w2 (w.heap.size + 1 + 1) 10 _ _ _ hres.out
  have z11 := cell_of_row w2 (w.heap.size + 1 + 1) 11 _ _ _ hres.out
  have z12 := cell_of_row w2 (w.heap.size + 1 + 1) 12 _ _ _ hres.out
  have z13 := cell_of_row w2 (w.heap.size + 1 + 1) 13 _ _ _ hres.out
  have z14 := cell_of_row w2 (w.heap.size + 1 + 1) 14 _ _ _ hres.out
  have g0 := frozen_of_row w2 (w.heap.size + 1 + 1) 0 _ _ hres.out
  have g1 := frozen_of_row w2 (w.heap.size + 1 + 1) 1 _ _ hres.out
  have g2 := frozen_of_row w2 (w.heap.size + 1 + 1) 2 _ _ hres.out
  have g3 := frozen_of_row w2 (w.heap.size + 1 + 1) 3 _ _ hres.out
  have g4 := frozen_of_row w2 (w.heap.size + 1 + 1) 4 _ _ hres.out
  have g5 := frozen_of_row w2 (w.heap.size + 1 + 1) 5 _ _ hres.out
  have g6 := frozen_of_row w2 (w.heap.size + 1 + 1) 6 _ _ hres.out
  have g7 := frozen_of_row w2 (w.heap.size + 1 + 1) 7 _ _ hres.out
  have g8 := frozen_of_row w2 (w.heap.size + 1 + 1) 8 _ _ hres.out
  have g9 := frozen_of_row w2 (w.heap.size + 1 + 1) 9 _ _ hres.out
  have g10 := frozen_of_row w2 (w.heap.size + 1 + 1) 10 _ _ hres.out
  have g11 := frozen_of_row w2 (w.heap.size + 1 + 1) 11 _ _ hres.out
  have g12 := frozen_of_row w2 (w.heap.size + 1 + 1) 12 _ _ hres.out
  have g13 := frozen_of_row w2 (w.heap.size + 1 + 1) 13 _ _ hres.out
  have g14 := frozen_of_row w2 (w.heap.size + 1 + 1) 14 _ _ hres.out
  simp only [frL, List.map_cons, List.map_nil, List.cons_append, List.nil_append, numV, List.getElem?_toArray, List.getElem?_cons_zero, List.getElem?_cons_succ] at c0 c1 c2 c3 c4 c5 c6 c7 c8 c9 c10 c11 c12 c13 c14 z0 z1 z2 z3 z4 z5 z6 z7 z8 z9 z10 z11 z12 z13 z14
  simp only [frL, List.map_cons, List.map_nil, List.cons_append, List.nil_append, numV] at HPM
  go_wp2_with fail
  go_region
  go_wp2_with fail
  have hbw : Below w.heap.size w w2 := (three_new w _ _ _).trans (h4.below (Nat.le_refl _))
  exact bodyPost_ret (aft_res (by rfl) (by rfl) (fifteen_set hres.out _ _ _ _ _ _ _ _ _ _ _ _ _ _ _).drew) rfl (HPM.out _ _ (fifteen_below hbw (by omega) _ _ _ _ _ _ _ _ _ _ _ _ _ _ _).drew rfl)
end Go.Proofs.YtdmdpindonghdaaDoor
namespace Go.Proofs.YtdmdpindonghdaaDoor
open Go.RowKit
theorem aft_any (f : Fr) (op n pl tg : Nat) (w : World) (ok : FrOk f) (hop : op < 25) (hn : op = 7 ∨ op = 8 → n < 4) (htab : FlowTab w) :
    Calls Tryd.prog 119 #[.agg (frL f).toArray, .agg #[.int .i64 pl, .int .i64 op, .int .i64 n, .int .i64 tg]] w (AftPost f op n w) := by
  by_cases e7 : op = 7
  · subst e7; exact aft_load f n pl tg w ok (hn (.inl rfl))
  by_cases e8 : op = 8
  · subst e8; exact aft_store f n pl tg w ok (hn (.inr rfl))
  by_cases e9 : op = 9
  · subst e9; exact aft_dup f n pl tg w ok
  by_cases e10 : op = 10
  · subst e10; exact aft_drop f n pl tg w ok
  by_cases e11 : op = 11
  · subst e11; exact aft_swap f n pl tg w ok
  exact aft_other f op n pl tg w ok hop ⟨e7, e8, e9, e10, e11⟩ htab
end Go.Proofs.YtdmdpindonghdaaDoor
namespace Go.Proofs.YtdmdpindonghdaaDoor
open Go.RowKit
def allL (fs : List Fr) : List Value := fs.flatMap frL
theorem frL_len {f : Fr} (h : FrOk f) : (frL f).length = 15 := by
  simp [frL, h.lo, h.stk]
def AllOk (fs : List Fr) : Prop := ∀ f ∈ fs, FrOk f
theorem allL_len {fs : List Fr} (h : AllOk fs) : (allL fs).length = fs.length * 15 := by
  induction fs with
  | nil => rfl
  | cons f r ih =>
    have h1 := frL_len (h f (by simp))
    have h2 := ih (fun g hg => h g (by simp [hg]))
    simp only [allL, List.flatMap_cons, List.length_append, List.length_cons] at *
    omega
theorem allL_at {fs : List Fr} (h : AllOk fs) {k j : Nat} {f : Fr} (hk : fs[k]? = some f) (hj : j < 15) : (allL fs)[k * 15 + j]? = (frL f)[j]? := by
  induction fs generalizing k with
  | nil => simp at hk
  | cons a r ih =>
    have h1 := frL_len (h a (by simp))
    have e : allL (a :: r) = frL a ++ allL r := rfl
    cases k with
    | zero =>
      simp only [List.getElem?_cons_zero, Option.some.injEq] at hk
      subst hk
      rw [e, List.getElem?_append_left (by omega)]
      simp
    | succ k =>
      rw [e, List.getElem?_append_right (by omega)]
      rw [show (k + 1) * 15 + j - (frL a).length = k * 15 + j by omega]
      exact ih (fun g hg => h g (by simp [hg])) (by simpa using hk)
/-- Writing v into cell j of frame k, again and again: the row of fifteen that is left. -/
def putL (l : List Value) (o : Nat) : List Value → List Value
  | [] => l
  | v :: r => putL (l.set o v) (o + 1) r
theorem putL_append (a b : List Value) (vs : List Value) (o : Nat) : putL (a ++ b) (a.length + o) vs = a ++ putL b o vs := by
  induction vs generalizing b o with
  | nil => rfl
  | cons v r ih =>
    simp only [putL]
    rw [List.set_append_right _ _ (by omega), show a.length + o - a.length = o by omega, Nat.add_assoc]
    exact ih _ _
theorem putL_head (pre b vs : List Value) (o : Nat) (ho : o = pre.length) (h : vs.length ≤ b.length) : putL (pre ++ b) o vs = pre ++ (vs ++ b.drop vs.length) := by
  induction vs generalizing pre b o with
  | nil => simp [putL]
  | cons v r ih =>
    subst ho
    cases b with
    | nil => simp at h
    | cons c b =>
      simp only [putL]
      rw [List.set_append_right _ _ (by omega)]
      simp only [Nat.sub_self, List.set_cons_zero]
      have e : pre ++ v :: b = (pre ++ [v]) ++ b := by simp
      rw [e, ih (pre ++ [v]) b (pre.length + 1) (by simp) (by simpa using h)]
      simp
theorem allL_put {fs : List Fr} (h : AllOk fs) {k : Nat} (hk : k < fs.length) {f : Fr} (hf : FrOk f) : putL (allL fs) (k * 15) (frL f) = allL (fs.set k f) := by
  induction fs generalizing k with
  | nil => simp at hk
  | cons a r ih =>
    have h1 := frL_len (h a (by simp))
    have h2 := frL_len hf
    have e : allL (a :: r) = frL a ++ allL r := rfl
    cases k with
    | zero =>
      rw [e]
      have := putL_head [] (frL a ++ allL r) (frL f) 0 rfl (by simp; omega)
      simp only [List.nil_append] at this
      rw [show 0 * 15 = 0 from rfl, this, h2, List.drop_append_of_le_length (by omega), List.drop_of_length_le (by omega)]
      rfl
    | succ k =>
      have e2 : (k + 1) * 15 = (frL a).length + k * 15 := by omega
      rw [e, e2, putL_append, ih (fun g hg => h g (by simp [hg])) (by simpa using hk)]
      rfl
theorem AllOk.set {fs : List Fr} (h : AllOk fs) {f : Fr} (hf : FrOk f) (k : Nat) : AllOk (fs.set k f) := by
  intro g hg
  rcases List.mem_or_eq_of_mem_set hg with h1 | h1
  · exact h g h1
  · rw [h1]; exact hf
/-- All frames lie in block b. -/
def AllAt (w : World) (b : Nat) (fs : List Fr) : Prop := w.heap[b]? = some (.cells (allL fs).toArray 93)
theorem AllAt.cell {w : World} {b k j : Nat} {fs : List Fr} {f : Fr} (h : AllAt w b fs) (ha : AllOk fs) (hk : fs[k]? = some f) (hj : j < 15) : w.cell? ⟨b, k * 15 + j, none⟩ = (frL f)[j]? := by
  rw [cell_of_row w b (k * 15 + j) _ _ _ h]
  simp only [List.getElem?_toArray]
  exact allL_at ha hk hj
theorem AllAt.frozen {w : World} {b : Nat} {fs : List Fr} (h : AllAt w b fs) (j : Nat) : w.frozen? ⟨b, j, none⟩ = false := frozen_of_row w b j _ _ h
theorem put15 {w : World} {b : Nat} {t : TypeId} {l : List Value} (o : Nat) (h : w.heap[b]? = some (.cells l.toArray t)) (v0 v1 v2 v3 v4 v5 v6 v7 v8 v9 v10 v11 v12 v13 v14 : Value) :
    (((((((((((((((w.setCell ⟨b, o, none⟩ v0).setCell ⟨b, o + 1, none⟩ v1).setCell ⟨b, o + 2, none⟩ v2).setCell ⟨b, o + 3, none⟩ v3).setCell ⟨b, o + 4, none⟩ v4).setCell ⟨b, o + 5, none⟩ v5).setCell ⟨b, o + 6, none⟩ v6).setCell ⟨b, o + 7, none⟩ v7).setCell ⟨b, o + 8, none⟩ v8).setCell ⟨b, o + 9, none⟩ v9).setCell ⟨b, o + 10, none⟩ v10).setCell ⟨b, o + 11, none⟩ v11).setCell ⟨b, o + 12, none⟩ v12).setCell ⟨b, o + 13, none⟩ v13).setCell ⟨b, o + 14, none⟩ v14).heap[b]? = some (.cells (putL l o [v0, v1, v2, v3, v4, v5, v6, v7, v8, v9, v10, v11, v12, v13, v14]).toArray t) := by
  have := (setCell_row (o + 14) v14 (setCell_row (o + 13) v13 (setCell_row (o + 12) v12 (setCell_row (o + 11) v11 (setCell_row (o + 10) v10 (setCell_row (o + 9) v9 (setCell_row (o + 8) v8 (setCell_row (o + 7) v7 (setCell_row (o + 6) v6 (setCell_row (o + 5) v5 (setCell_row (o + 4) v4 (setCell_row (o + 3) v3 (setCell_row (o + 2) v2 (setCell_row (o + 1) v1 (setCell_row (o) v0 h)))))))))))))))
  simpa [putL, Nat.add_assoc] using this
theorem same15 {w : World} {b c : Nat} (o : Nat) (hc : c ≠ b) (v0 v1 v2 v3 v4 v5 v6 v7 v8 v9 v10 v11 v12 v13 v14 : Value) : (((((((((((((((w.setCell ⟨b, o, none⟩ v0).setCell ⟨b, o + 1, none⟩ v1).setCell ⟨b, o + 2, none⟩ v2).setCell ⟨b, o + 3, none⟩ v3).setCell ⟨b, o + 4, none⟩ v4).setCell ⟨b, o + 5, none⟩ v5).setCell ⟨b, o + 6, none⟩ v6).setCell ⟨b, o + 7, none⟩ v7).setCell ⟨b, o + 8, none⟩ v8).setCell ⟨b, o + 9, none⟩ v9).setCell ⟨b, o + 10, none⟩ v10).setCell ⟨b, o + 11, none⟩ v11).setCell ⟨b, o + 12, none⟩ v12).setCell ⟨b, o + 13, none⟩ v13).setCell ⟨b, o + 14, none⟩ v14).heap[c]? = w.heap[c]? := by
  iterate 15 rw [Below.heap_setCell _ _ _ _ hc]
theorem size15 {w : World} {b : Nat} (o : Nat) (v0 v1 v2 v3 v4 v5 v6 v7 v8 v9 v10 v11 v12 v13 v14 : Value) : (((((((((((((((w.setCell ⟨b, o, none⟩ v0).setCell ⟨b, o + 1, none⟩ v1).setCell ⟨b, o + 2, none⟩ v2).setCell ⟨b, o + 3, none⟩ v3).setCell ⟨b, o + 4, none⟩ v4).setCell ⟨b, o + 5, none⟩ v5).setCell ⟨b, o + 6, none⟩ v6).setCell ⟨b, o + 7, none⟩ v7).setCell ⟨b, o + 8, none⟩ v8).setCell ⟨b, o + 9, none⟩ v9).setCell ⟨b, o + 10, none⟩ v10).setCell ⟨b, o + 11, none⟩ v11).setCell ⟨b, o + 12, none⟩ v12).setCell ⟨b, o + 13, none⟩ v13).setCell ⟨b, o + 14, none⟩ v14).heap.size = w.heap.size := by
  simp [World.setCell]
end Go.Proofs.YtdmdpindonghdaaDoor
