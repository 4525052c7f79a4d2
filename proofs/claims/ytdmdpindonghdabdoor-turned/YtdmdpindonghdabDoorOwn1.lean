/- What the proofs of these statements stand on, part 1: Spec, SpecB, SpecC, SpecG, SpecH, SpecI, TypA, FlowA, FlowB, FlowC, FlowD, TypB, SpecD, SpecE, SpecK, FlowI, TypE, SpecF, CodeA, CodeB, MacA, TypC, MacC, MacB, TypF, RefB, RefC, RefD, RefE, RefF, SpecJ, FlowJ, TypG, MacD, MacG, MacH, HpA, HpB, ArrEq, FlowL, HpC, HpD, HpE, HpF, HpG, HpI, HpJ, MsA, PhA, HpK, MchA, MchB. -/
import Derived.Test.YtdmdpindonghdabDoorRows
import Derived.WalkKit
import Derived.WalkSmall
import Derived.Deep.AppendLies
import Derived.Deep.DeepMust
import Derived.Deep.LoopGhost
import Derived.WalkSpells
import Derived.WalkLawsBesides
import Derived.BigRegion
import Derived.Deep.QuietTactic
import Derived.BigQuiet
import Derived.Deep.RegionHeld3
import Derived.OwnWalk
import Derived.Laws.StructEq
import Derived.Deep.RegionLaw
import Derived.Deep.DeepCutAuto
import Derived.Laws.MakeOwn
import Derived.Laws.IdiomCopy
namespace Go.Proofs.YtdmdpindonghdabDoor
open Go.RowKit
theorem hid {p : Prop} (h : p) : Hid p := h
theorem ret_int {k : IntKind} {a b : Int} (h : a = b) : Ending.returned (.int k a) = .returned (.int k b) := by rw [h]
theorem ret_bool {a b : Bool} (h : a = b) : Ending.returned (.bool a) = .returned (.bool b) := by rw [h]
theorem ret2 {k l : IntKind} {a b a' b' : Int} (h : a = a') (h' : b = b') : Ending.returned (.tuple #[.int k a, .int l b]) = .returned (.tuple #[.int k a', .int l b']) := by rw [h, h']
theorem str_eq {a b : ByteArray} (h : a = b) : (a.toList == b.toList) = true := by rw [h]; simp
theorem str_ne {a b : ByteArray} (h : a ≠ b) : (a.toList == b.toList) = false := by
  rw [beq_eq_false_iff_ne, ByteArray.toList_eq, ByteArray.toList_eq]
  intro e
  apply h
  cases a; cases b
  exact congrArg ByteArray.mk (Array.toList_inj.1 e)
/-- An instruction: what it is, its operand, its place. -/
structure Ins where
  op : Nat
  n : Nat
  place : Nat
def findP (p : Nat) : List Ins → Nat → Int
  | [], _ => -1
  | i :: r, k => if i.place = p then (k : Int) else findP p r (k + 1)
def takesB (k : Nat) : Bool := k == 1 || k == 7 || k == 8 || k == 14 || k == 15 || k == 19 || k == 20
def badN (op n locals : Nat) : Bool := (op == 7 || op == 8) && decide (locals ≤ n) || (op == 14 || op == 15) && decide (1 < n)
def byteAt (t : ByteArray) (p : Nat) : Nat := (t.data.toList.getD p 0).toNat
/-- The place behind the instruction at p and its operand; 0: there is none. -/
def behindQ (op size p n locals : Nat) : Nat × Nat :=
  if 24 < op then (0, 0) else if takesB op = false then (p + 1, 0) else if size ≤ p + 1 then (0, 0) else
  if badN op n locals = true then (0, 0) else (p + 2, n)
def behindP (t : ByteArray) (p locals : Nat) : Nat × Nat := behindQ (byteAt t p) t.size p (byteAt t (p + 1)) locals
theorem byteAt_eq (t : ByteArray) (p : Nat) (h : p < t.size) : t[p].toNat = byteAt t p := by
  have : p < t.data.size := h
  simp only [byteAt, List.getD_eq_getElem?_getD, Array.getElem?_toList]
  rw [Array.getElem?_eq_getElem this]
  rfl
theorem byteAt_lt (t : ByteArray) (p : Nat) : byteAt t p < 256 := UInt8.toNat_lt _
theorem wrapb (c : Nat) (h : c < 256) : wrap64 (c : Int) = (c : Int) := by unfold wrap64; omega
theorem behindQ_cases (op size p n locals : Nat) : behindQ op size p n locals = (0, 0) ∨ (behindQ op size p n locals = (p + 1, 0)) ∨ (p + 1 < size ∧ behindQ op size p n locals = (p + 2, n)) := by
  unfold behindQ
  by_cases h1 : 24 < op
  · left; simp [h1]
  · rw [if_neg h1]
    by_cases h2 : takesB op = false
    · right; left; simp [h2]
    · rw [if_neg h2]
      by_cases h3 : size ≤ p + 1
      · left; simp [h3]
      · rw [if_neg h3]
        by_cases h4 : badN op n locals = true
        · left; simp [h4]
        · right; right; exact ⟨by omega, by simp [h4]⟩
theorem behindP_gt (t : ByteArray) (p locals : Nat) (hp : p < t.size) (h : (behindP t p locals).1 ≠ 0) : p < (behindP t p locals).1 ∧ (behindP t p locals).1 ≤ t.size ∧ (behindP t p locals).2 < 256 := by
  unfold behindP at *
  have hb := byteAt_lt t (p + 1)
  rcases behindQ_cases (byteAt t p) t.size p (byteAt t (p + 1)) locals with e | e | ⟨e0, e⟩
  · rw [e] at h; exact absurd rfl h
  · rw [e]; exact ⟨by simp, by simp; omega, by simp⟩
  · rw [e]; exact ⟨by simp, by simp; omega, hb⟩
/-- The instructions of a text, from a place on. -/
def decGo (t : ByteArray) (locals : Nat) : Nat → Nat → Option (List Ins)
  | 0, _ => some []
  | f + 1, p => if p < t.size then (if (behindP t p locals).1 = 0 then none else (decGo t locals f (behindP t p locals).1).map (⟨byteAt t p, (behindP t p locals).2, p⟩ :: ·)) else some []
theorem decGo_fuel (t : ByteArray) (locals : Nat) : ∀ f g p, t.size ≤ p + f → t.size ≤ p + g → decGo t locals f p = decGo t locals g p := by
  intro f
  induction f with
  | zero => intro g p h1 _; cases g with
    | zero => rfl
    | succ g => simp [decGo]; omega
  | succ f ih => intro g p h1 h2; cases g with
    | zero => simp [decGo]; omega
    | succ g =>
      simp only [decGo]
      by_cases hp : p < t.size
      · rw [if_pos hp, if_pos hp]
        by_cases hq : (behindP t p locals).1 = 0
        · rw [if_pos hq, if_pos hq]
        · rw [if_neg hq, if_neg hq]
          have := behindP_gt t p locals hp hq
          rw [ih g _ (by omega) (by omega)]
      · rw [if_neg hp, if_neg hp]
def dec (t : ByteArray) (locals p : Nat) : Option (List Ins) := decGo t locals (t.size - p) p
theorem dec_end (t : ByteArray) (locals p : Nat) (h : t.size ≤ p) : dec t locals p = some [] := by
  unfold dec; rw [show t.size - p = 0 by omega]; rfl
theorem dec_none (t : ByteArray) (locals p : Nat) (h : p < t.size) (hq : (behindP t p locals).1 = 0) : dec t locals p = none := by
  unfold dec
  obtain ⟨f, hf⟩ : ∃ f, t.size - p = f + 1 := ⟨t.size - p - 1, by omega⟩
  rw [hf]; simp [decGo, h, hq]
theorem dec_some (t : ByteArray) (locals p : Nat) (h : p < t.size) (hq : (behindP t p locals).1 ≠ 0) : dec t locals p = (dec t locals (behindP t p locals).1).map (⟨byteAt t p, (behindP t p locals).2, p⟩ :: ·) := by
  have hg := behindP_gt t p locals h hq
  unfold dec
  obtain ⟨f, hf⟩ : ∃ f, t.size - p = f + 1 := ⟨t.size - p - 1, by omega⟩
  rw [hf]
  simp only [decGo, if_pos h, if_neg hq]
  rw [decGo_fuel t locals f (t.size - (behindP t p locals).1) _ (by omega) (by omega)]
def isJump (op : Nat) : Bool := op == 19 || op == 20
def jumpsOk (l : List Ins) : Bool := l.all fun i => !isJump i.op || decide (0 ≤ findP i.n l 0)
def lastOp (l : List Ins) : Nat := (l.getLast?.map Ins.op).getD 1
def endsOk (l : List Ins) : Bool := lastOp l == 0 || lastOp l == 19
def shapedP (s : ByteArray) : Bool := decide (3 ≤ s.size) && decide (s.size ≤ 122) && byteAt s 0 == 84 && decide (byteAt s 1 ≤ 4)
def textOf (s : ByteArray) : ByteArray := s.extract 2 s.size
/-- The error of an image as far as its types are not asked, its instructions, its number of locals. -/
def errOf (s : ByteArray) : Nat :=
  if shapedP s = false then 1 else match dec (textOf s) (byteAt s 1) 0 with
  | none => 2
  | some l => if jumpsOk l = false then 3 else if endsOk l = false then 4 else 0
def codeOf (s : ByteArray) : List Ins := (dec (textOf s) (byteAt s 1) 0).getD []
/-- What is known of instructions that were decoded. -/
def Good (locals size : Nat) (l : List Ins) : Prop := ∀ i ∈ l, i.op ≤ 24 ∧ i.n < 256 ∧ i.place < size ∧ badN i.op i.n locals = false
theorem decGo_good (t : ByteArray) (locals : Nat) : ∀ f p l, decGo t locals f p = some l → Good locals t.size l ∧ l.length ≤ f := by
  intro f
  induction f with
  | zero => intro p l h; simp [decGo] at h; subst h; exact ⟨fun i hi => by simp at hi, by simp⟩
  | succ f ih =>
    intro p l h
    simp only [decGo] at h
    by_cases hp : p < t.size
    · rw [if_pos hp] at h
      by_cases hq : (behindP t p locals).1 = 0
      · rw [if_pos hq] at h; cases h
      · rw [if_neg hq] at h
        cases hr : decGo t locals f (behindP t p locals).1 with
        | none => rw [hr] at h; cases h
        | some r =>
          rw [hr] at h
          simp only [Option.map_some, Option.some.injEq] at h
          subst h
          obtain ⟨g1, g2⟩ := ih _ _ hr
          refine ⟨?_, by simp; omega⟩
          intro i hi
          simp only [List.mem_cons] at hi
          rcases hi with rfl | hi
          · have hg := behindP_gt t p locals hp hq
            refine ⟨?_, hg.2.2, hp, ?_⟩
            · show byteAt t p ≤ 24
              by_cases h24 : 24 < byteAt t p
              · exfalso; apply hq; simp [behindP, behindQ, h24]
              · omega
            · show badN (byteAt t p) (behindP t p locals).2 locals = false
              by_cases h24 : 24 < byteAt t p
              · exfalso; apply hq; simp [behindP, behindQ, h24]
              by_cases htk : takesB (byteAt t p) = false
              · have hne : ∀ k, takesB k = true → byteAt t p ≠ k := fun k hk e => by rw [e, hk] at htk; cases htk
                have a1 := hne 7 rfl
                have a2 := hne 8 rfl
                have a3 := hne 14 rfl
                have a4 := hne 15 rfl
                simp [badN, a1, a2, a3, a4]
              by_cases hsz : t.size ≤ p + 1
              · exfalso; apply hq; simp [behindP, behindQ, h24, htk, hsz]
              by_cases hbd : badN (byteAt t p) (byteAt t (p + 1)) locals = true
              · exfalso; apply hq; simp [behindP, behindQ, h24, htk, hsz, hbd]
              · have : (behindP t p locals).2 = byteAt t (p + 1) := by simp [behindP, behindQ, h24, htk, hsz, hbd]
                rw [this]; simpa using hbd
          · exact g1 i hi
    · rw [if_neg hp] at h; simp at h; subst h; exact ⟨fun i hi => by simp at hi, by simp⟩
theorem dec_good {t : ByteArray} {locals p : Nat} {l : List Ins} (h : dec t locals p = some l) : Good locals t.size l ∧ l.length ≤ t.size - p := decGo_good t locals _ _ _ h
/-- The cells of a list of instructions. -/
def insCells (l : List Ins) : List Value := l.flatMap fun i => [.int .i64 i.op, .int .i64 i.n, .int .i64 i.place]
theorem insCells_len (l : List Ins) : (insCells l).length = l.length * 3 := by
  induction l with
  | nil => rfl
  | cons a r ih => simp only [insCells, List.flatMap_cons, List.length_append, List.length_cons, List.length_nil] at *; omega
theorem insCells_snoc (l : List Ins) (i : Ins) : insCells (l ++ [i]) = insCells l ++ [.int .i64 i.op, .int .i64 i.n, .int .i64 i.place] := by simp [insCells]
theorem insCells_at (l : List Ins) (k : Nat) (h : k < l.length) : (insCells l)[k * 3]? = some (.int .i64 l[k].op) ∧ (insCells l)[k * 3 + 1]? = some (.int .i64 l[k].n) ∧ (insCells l)[k * 3 + 2]? = some (.int .i64 l[k].place) := by
  induction l generalizing k with
  | nil => simp at h
  | cons a r ih =>
    cases k with
    | zero => simp [insCells]
    | succ k =>
      have := ih k (by simpa using h)
      have e0 : (k + 1) * 3 = k * 3 + 3 := by omega
      have e1 : (k + 1) * 3 + 1 = k * 3 + 1 + 3 := by omega
      have e2 : (k + 1) * 3 + 2 = k * 3 + 2 + 3 := by omega
      have hc : ∀ j, (insCells (a :: r))[j + 3]? = (insCells r)[j]? := fun j => by simp [insCells]
      rw [e2, e1, e0, hc, hc, hc]
      simpa using this
/-- The cells of a list of instructions lie at block g. -/
def InsAt (w : World) (g : Nat) (l : List Ins) : Prop :=
  ∀ (i : Nat) (h : i < l.length), w.cell? ⟨g, i * 3, none⟩ = some (.int .i64 l[i].op) ∧ w.cell? ⟨g, i * 3 + 1, none⟩ = some (.int .i64 l[i].n) ∧ w.cell? ⟨g, i * 3 + 2, none⟩ = some (.int .i64 l[i].place)
theorem InsAt.below {w w' : World} {g B : Nat} {l : List Ins} (h : InsAt w g l) (hb : Below B w w') (hg : g < B) : InsAt w' g l := by
  intro i hi
  obtain ⟨h0, h1, h2⟩ := h i hi
  exact ⟨(hb.cell (p := ⟨g, i * 3, none⟩) hg).trans h0, (hb.cell (p := ⟨g, i * 3 + 1, none⟩) hg).trans h1, (hb.cell (p := ⟨g, i * 3 + 2, none⟩) hg).trans h2⟩
theorem addr_add (g j : Nat) : (⟨g, 0, none⟩ : Addr).add j = ⟨g, j, none⟩ := by unfold Addr.add; split <;> simp_all
theorem InsAt.of_owns {w : World} {base e g n cap : Nat} {l : List Ins} (h : w.ownsRow base e 3 (.slice (some ⟨g, 0, none⟩) n cap) l.length (insCells l)) : InsAt w g l := by
  intro i hi
  have hc := h.cells (g := g) rfl
  obtain ⟨a0, a1, a2⟩ := insCells_at l i hi
  have h0 := hc _ _ a0
  have h1 := hc _ _ a1
  have h2 := hc _ _ a2
  rw [addr_add] at h0 h1 h2
  exact ⟨h0, h1, h2⟩
end Go.Proofs.YtdmdpindonghdabDoor
namespace Go.Proofs.YtdmdpindonghdabDoor
open Go.RowKit
def popsL (op : Nat) : List UInt8 :=
  if op = 0 ∨ op = 20 ∨ op = 22 then [105] else if op = 2 ∨ op = 3 ∨ op = 4 ∨ op = 5 ∨ op = 6 then [105, 105]
  else if op = 14 ∨ op = 16 ∨ op = 23 ∨ op = 24 then [114] else if op = 15 ∨ op = 18 then [114, 114] else if op = 17 then [114, 105] else []
def pushesL (op : Nat) : List UInt8 :=
  if op = 1 ∨ op = 2 ∨ op = 3 ∨ op = 4 ∨ op = 5 ∨ op = 6 ∨ op = 16 ∨ op = 18 ∨ op = 21 then [105]
  else if op = 12 ∨ op = 13 ∨ op = 14 ∨ op = 23 ∨ op = 24 then [114] else []
def popsS (op : Nat) : ByteArray := ⟨(popsL op).toArray⟩
def pushesS (op : Nat) : ByteArray := ⟨(pushesL op).toArray⟩
theorem popsL_le (op : Nat) : (popsL op).length ≤ 2 := by
  unfold popsL
  split
  · simp
  split
  · simp
  split
  · simp
  split
  · simp
  split <;> simp
theorem pushesL_le (op : Nat) : (pushesL op).length ≤ 1 := by
  unfold pushesL
  split
  · simp
  split <;> simp
theorem popsS_size (op : Nat) : (popsS op).size ≤ 2 := popsL_le op
theorem pushesS_size (op : Nat) : (pushesS op).size ≤ 1 := pushesL_le op
/-- What an instruction does to the types of locals and stack; false: it can't be done. -/
def afterV (lo st : ByteArray) (op n : Nat) : ByteArray × ByteArray × Bool :=
  if op = 7 then (lo, st ++ lo.extract n (n + 1), true)
  else if op = 8 then (if st.size < 1 then (lo, st, false) else (lo.extract 0 n ++ st.extract (st.size - 1) st.size ++ lo.extract (n + 1) lo.size, st.extract 0 (st.size - 1), true))
  else if op = 9 then (if st.size < 1 then (lo, st, false) else (lo, st ++ st.extract (st.size - 1) st.size, true))
  else if op = 10 then (if st.size < 1 then (lo, st, false) else (lo, st.extract 0 (st.size - 1), true))
  else if op = 11 then (if st.size < 2 then (lo, st, false) else (lo, st.extract 0 (st.size - 2) ++ st.extract (st.size - 1) st.size ++ st.extract (st.size - 2) (st.size - 1), true))
  else if st.size < (popsS op).size then (lo, st, false)
  else if st.extract (st.size - (popsS op).size) st.size = popsS op then (lo, st.extract 0 (st.size - (popsS op).size) ++ pushesS op, true) else (lo, st, false)
def pointV (a : Nat) (lo st : ByteArray) : Value := .agg #[.int .i64 a, .string lo, .string st]
def AfterPost (a : Nat) (lo st : ByteArray) (op n : Nat) (w : World) (e : Ending) (w' : World) : Prop :=
  Below w.heap.size w w' ∧ e = .returned (.tuple #[.agg #[.int .i64 a, .string (afterV lo st op n).1, .string (afterV lo st op n).2.1], .bool (afterV lo st op n).2.2])
theorem afterPost_mk {a op n : Nat} {lo st lo' st' : ByteArray} {b : Bool} {w w' : World} (hb : Below w.heap.size w w') (h : afterV lo st op n = (lo', st', b)) :
    AfterPost a lo st op n w (.returned (.tuple #[.agg #[.int .i64 a, .string lo', .string st'], .bool b])) w' := by
  unfold AfterPost; rw [h]; exact ⟨hb, rfl⟩
end Go.Proofs.YtdmdpindonghdabDoor
namespace Go.Proofs.YtdmdpindonghdabDoor
open Go.RowKit
/-- A point: an instruction that a way leads to, with the types there. -/
structure Pt where
  at_ : Nat
  lo : ByteArray
  st : ByteArray
def ptCells (l : List Pt) : List Value := l.flatMap fun i => [.int .i64 i.at_, .string i.lo, .string i.st]
theorem ptCells_len (l : List Pt) : (ptCells l).length = l.length * 3 := by
  induction l with
  | nil => rfl
  | cons a r ih => simp only [ptCells, List.flatMap_cons, List.length_append, List.length_cons, List.length_nil] at *; omega
theorem ptCells_snoc (l : List Pt) (i : Pt) : ptCells (l ++ [i]) = ptCells l ++ [.int .i64 i.at_, .string i.lo, .string i.st] := by simp [ptCells]
theorem ptCells_at (l : List Pt) (k : Nat) (h : k < l.length) : (ptCells l)[k * 3]? = some (.int .i64 l[k].at_) ∧ (ptCells l)[k * 3 + 1]? = some (.string l[k].lo) ∧ (ptCells l)[k * 3 + 2]? = some (.string l[k].st) := by
  induction l generalizing k with
  | nil => simp at h
  | cons a r ih =>
    cases k with
    | zero => simp [ptCells]
    | succ k =>
      have := ih k (by simpa using h)
      have e0 : (k + 1) * 3 = k * 3 + 3 := by omega
      have e1 : (k + 1) * 3 + 1 = k * 3 + 1 + 3 := by omega
      have e2 : (k + 1) * 3 + 2 = k * 3 + 2 + 3 := by omega
      have hc : ∀ j, (ptCells (a :: r))[j + 3]? = (ptCells r)[j]? := fun j => by simp [ptCells]
      rw [e2, e1, e0, hc, hc, hc]
      simpa using this
/-- The cells of a list of points lie at block g. -/
def PtAt (w : World) (g : Nat) (l : List Pt) : Prop :=
  ∀ (i : Nat) (h : i < l.length), w.cell? ⟨g, i * 3, none⟩ = some (.int .i64 l[i].at_) ∧ w.cell? ⟨g, i * 3 + 1, none⟩ = some (.string l[i].lo) ∧ w.cell? ⟨g, i * 3 + 2, none⟩ = some (.string l[i].st)
theorem PtAt.below {w w' : World} {g B : Nat} {l : List Pt} (h : PtAt w g l) (hb : Below B w w') (hg : g < B) : PtAt w' g l := by
  intro i hi
  obtain ⟨h0, h1, h2⟩ := h i hi
  exact ⟨(hb.cell (p := ⟨g, i * 3, none⟩) hg).trans h0, (hb.cell (p := ⟨g, i * 3 + 1, none⟩) hg).trans h1, (hb.cell (p := ⟨g, i * 3 + 2, none⟩) hg).trans h2⟩
theorem PtAt.of_owns {w : World} {base e g n cap : Nat} {l : List Pt} (h : w.ownsRow base e 3 (.slice (some ⟨g, 0, none⟩) n cap) l.length (ptCells l)) : PtAt w g l := by
  intro i hi
  have hc := h.cells (g := g) rfl
  obtain ⟨a0, a1, a2⟩ := ptCells_at l i hi
  have h0 := hc _ _ a0
  have h1 := hc _ _ a1
  have h2 := hc _ _ a2
  rw [addr_add] at h0 h1 h2
  exact ⟨h0, h1, h2⟩
/-- Two points that do not go together, where instruction i is. -/
def clashB (i : Ins) (p q : Pt) : Bool := q.at_ == p.at_ && (!decide (q.st = p.st) || i.op == 7 && !(byteAt q.lo i.n == byteAt p.lo i.n))
def knownB (p q : Pt) : Bool := q.at_ == p.at_ && decide (q.lo = p.lo)
/-- A point more, if it is new; false: it does not go together with those that are known. -/
def joinedP (i : Ins) (all : List Pt) (p : Pt) : List Pt × Bool :=
  if all.any (clashB i p) = true then (all, false) else if all.any (knownB p) = true then (all, true) else (all ++ [p], true)
theorem joinedP_clash {i : Ins} {all : List Pt} {p : Pt} {k : Nat} (hk : k < all.length) (h : clashB i p all[k] = true) : joinedP i all p = (all, false) := by
  unfold joinedP
  rw [if_pos]
  rw [List.any_eq_true]
  exact ⟨all[k], List.getElem_mem hk, h⟩
theorem any_take_succ {α : Type} (f : α → Bool) (l : List α) (k : Nat) (h : k < l.length) : (l.take (k + 1)).any f = ((l.take k).any f || f l[k]) := by
  rw [List.take_succ_eq_append_getElem h, List.any_append]
  simp
/-- All blocks but g are as they were. -/
def Keeps (g : Nat) (w w' : World) : Prop := ∀ b, b < w.heap.size → b ≠ g → w'.heap[b]? = w.heap[b]?
theorem Keeps.of_below {g : Nat} {w w' : World} (h : Below w.heap.size w w') : Keeps g w w' := fun b hb _ => h.block b hb
theorem Keeps.cell {g : Nat} {w w' : World} (h : Keeps g w w') {b o : Nat} (hb : b < w.heap.size) (hg : b ≠ g) : w'.cell? ⟨b, o, none⟩ = w.cell? ⟨b, o, none⟩ := World.cell?_of_block (a := ⟨b, o, none⟩) (h b hb hg)
/-- What is owned stays owned where nothing below B turns. -/
theorem owns_below {w w' : World} {B base e size n : Nat} {v : Value} {xs : List Value} (h : w.ownsRow base e size v n xs) (hb : Below B w w') (hlt : ∀ g, v.ownBlock = some g → g < B) : w'.ownsRow base e size v n xs := by
  refine ⟨h.1, ?_⟩
  rcases h.2 with h2 | ⟨g, cap, cur, hv, hg, hh, r⟩
  · exact .inl h2
  · refine .inr ⟨g, cap, cur, hv, hg, ?_, r⟩
    rw [hb.block g (hlt g (by rw [hv]; rfl))]
    exact hh
end Go.Proofs.YtdmdpindonghdabDoor
namespace Go.Proofs.YtdmdpindonghdabDoor
open Go.RowKit
theorem box_cells {w wr : World} {c : Array Value} {t : TypeId} (hb : Below (w.heap.size + 1) (w.alloc (.cells c t)) wr) :
    (∀ o, wr.cell? ⟨w.heap.size, o, none⟩ = c[o]?) ∧ (∀ b o, b < w.heap.size → wr.cell? ⟨b, o, none⟩ = w.cell? ⟨b, o, none⟩) ∧ w.heap.size + 1 ≤ wr.heap.size := by
  refine ⟨fun o => ?_, fun b o h => ?_, ?_⟩
  · rw [hb.cell (p := ⟨w.heap.size, o, none⟩) (by simp)]; simp
  · rw [hb.cell (p := ⟨b, o, none⟩) (by simp; omega), World.cell?_alloc_past _ _ _ h]
  · have := hb.size; simpa using this
theorem box_below {w wr : World} {o : Obj} {base : Nat} (hbase : base ≤ w.heap.size) (hb : Below (w.heap.size + 1) (w.alloc o) wr) : Below base w wr :=
  ((Below.refl base w).alloc hbase o).trans (hb.mono (by omega))
theorem heap_two_new (w : World) (a b : Obj) : ((w.alloc a).alloc b).heap[w.heap.size + 1]? = some b := by
  have h := heap_alloc_new (w.alloc a) b
  have e : (w.alloc a).heap.size = w.heap.size + 1 := by simp
  rw [e] at h
  exact h
theorem setCell_row {w : World} {b : Nat} {cs : Array Value} {t : TypeId} {fr : Nat × Nat} (j : Nat) (v : Value) (h : w.heap[b]? = some (.cells cs t fr)) : (w.setCell ⟨b, j, none⟩ v).heap[b]? = some (.cells (cs.setIfInBounds j v) t fr) := by
  simp [World.setCell, Array.getElem?_modify, h]
theorem owns_set {w : World} {base e size n : Nat} {v : Value} {xs : List Value} {a : Addr} (h : w.ownsRow base e size v n xs) (hne : v.ownBlock ≠ some a.block) (u : Value) : (w.setCell a u).ownsRow base e size v n xs := by
  refine ⟨h.1, ?_⟩
  rcases h.2 with h2 | ⟨g, cap, cur, hv, hg, hh, r⟩
  · exact .inl h2
  · refine .inr ⟨g, cap, cur, hv, hg, ?_, r⟩
    rw [Below.heap_setCell _ _ _ _ (fun e => hne (by rw [hv, ← e]; rfl))]
    exact hh
theorem heap_set_new (w : World) (a : Addr) (v : Value) (o : Obj) : ((w.setCell a v).alloc o).heap[w.heap.size]? = some o := by
  have h := heap_alloc_new (w.setCell a v) o
  have e : (w.setCell a v).heap.size = w.heap.size := by simp [World.setCell]
  rw [e] at h
  exact h
end Go.Proofs.YtdmdpindonghdabDoor
namespace Go.Proofs.YtdmdpindonghdabDoor
open Go.RowKit
/-- Only block b may have turned; no block is new. -/
structure Only (b : Nat) (w w' : World) : Prop where
  os : w'.os = w.os
  tape : w'.tape = w.tape
  output : w'.output = w.output
  size : w'.heap.size = w.heap.size
  block : ∀ k, k ≠ b → w'.heap[k]? = w.heap[k]?
theorem Only.refl (b : Nat) (w : World) : Only b w w := ⟨rfl, rfl, rfl, rfl, fun _ _ => rfl⟩
theorem Only.trans {b : Nat} {w1 w2 w3 : World} (h : Only b w1 w2) (k : Only b w2 w3) : Only b w1 w3 :=
  ⟨k.os.trans h.os, k.tape.trans h.tape, k.output.trans h.output, k.size.trans h.size, fun i hi => (k.block i hi).trans (h.block i hi)⟩
theorem Only.set {b : Nat} {w1 w2 : World} (h : Only b w1 w2) (o : Nat) (v : Value) : Only b w1 (w2.setCell ⟨b, o, none⟩ v) :=
  h.trans ⟨rfl, rfl, rfl, by simp [World.setCell], fun k hk => Below.heap_setCell _ _ _ _ hk⟩
theorem Only.drewN {b : Nat} {w1 w2 : World} (h : Only b w1 w2) (n : Nat) : Only b w1 (w2.drewN n) := h.trans ⟨rfl, rfl, rfl, rfl, fun _ _ => rfl⟩
theorem Only.drew {b : Nat} {w1 w2 : World} (h : Only b w1 w2) : Only b w1 w2.drew := h.trans ⟨rfl, rfl, rfl, rfl, fun _ _ => rfl⟩
theorem Only.below {b B : Nat} {w w' : World} (h : Only b w w') (hb : B ≤ b) : Below B w w' :=
  ⟨h.os, h.tape, h.output, by rw [h.size]; exact Nat.le_refl _, fun k hk => h.block k (by omega)⟩
theorem Only.cell {b : Nat} {w w' : World} (h : Only b w w') {k o : Nat} (hk : k ≠ b) : w'.cell? ⟨k, o, none⟩ = w.cell? ⟨k, o, none⟩ := World.cell?_of_block (a := ⟨k, o, none⟩) (h.block k hk)
/-- A frame's row lies at block b. -/
def RowAt (w : World) (b : Nat) (cs : Array Value) : Prop := w.heap[b]? = some (.cells cs 89)
theorem RowAt.cell {w : World} {b : Nat} {cs : Array Value} (h : RowAt w b cs) (j : Nat) : w.cell? ⟨b, j, none⟩ = cs[j]? := cell_of_row w b j cs _ _ h
theorem RowAt.frozen {w : World} {b : Nat} {cs : Array Value} (h : RowAt w b cs) (j : Nat) : w.frozen? ⟨b, j, none⟩ = false := frozen_of_row w b j cs _ h
theorem RowAt.set {w : World} {b : Nat} {cs : Array Value} (h : RowAt w b cs) (j : Nat) (v : Value) : RowAt (w.setCell ⟨b, j, none⟩ v) b (cs.setIfInBounds j v) := setCell_row j v h
theorem RowAt.drewN {w : World} {b : Nat} {cs : Array Value} (h : RowAt w b cs) (n : Nat) : RowAt (w.drewN n) b cs := h
theorem RowAt.lt {w : World} {b : Nat} {cs : Array Value} (h : RowAt w b cs) : b < w.heap.size := by
  unfold RowAt at h
  exact (Array.getElem?_eq_some_iff.1 h).1
end Go.Proofs.YtdmdpindonghdabDoor
namespace Go.Proofs.YtdmdpindonghdabDoor
open Go.RowKit
structure Fr where
  reached : Bool
  lo : List Nat
  depth : Nat
  stk : List Nat
  wrong : Bool
structure FrOk (f : Fr) : Prop where
  lo : f.lo.length = 4
  stk : f.stk.length = 8
  depth : f.depth ≤ 8
def numV (n : Nat) : Value := .int .i64 (n : Int)
def frL (f : Fr) : List Value := .bool f.reached :: (f.lo.map numV ++ (numV f.depth :: (f.stk.map numV ++ [.bool f.wrong])))
def FrAt (w : World) (b : Nat) (f : Fr) : Prop := RowAt w b (frL f).toArray
theorem four {l : List Nat} (h : l.length = 4) : ∃ a b c d, l = [a, b, c, d] := by
  match l, h with
  | [a, b, c, d], _ => exact ⟨a, b, c, d, rfl⟩
theorem eight {l : List Nat} (h : l.length = 8) : ∃ a b c d e f g i, l = [a, b, c, d, e, f, g, i] := by
  match l, h with
  | [a, b, c, d, e, f, g, i], _ => exact ⟨a, b, c, d, e, f, g, i, rfl⟩
theorem fr_get {f : Fr} (h : FrOk f) : (frL f).toArray[0]? = some (.bool f.reached) ∧ (frL f).toArray[5]? = some (numV f.depth) ∧ (frL f).toArray[14]? = some (.bool f.wrong) := by
  obtain ⟨r, lo, d, st, wr⟩ := f
  obtain ⟨h1, h2, h3⟩ := h
  simp only at h1 h2
  obtain ⟨a, b, c, e, rfl⟩ := four h1
  obtain ⟨s0, s1, s2, s3, s4, s5, s6, s7, rfl⟩ := eight h2
  exact ⟨rfl, rfl, rfl⟩
theorem fr_lo {f : Fr} (h : FrOk f) {i : Nat} (hi : i < 4) : (frL f).toArray[1 + i]? = some (numV (f.lo.getD i 0)) := by
  obtain ⟨r, lo, d, st, wr⟩ := f
  obtain ⟨h1, h2, h3⟩ := h
  simp only at h1 h2
  obtain ⟨a, b, c, e, rfl⟩ := four h1
  match i, hi with
  | 0, _ => rfl
  | 1, _ => rfl
  | 2, _ => rfl
  | 3, _ => rfl
theorem fr_stk {f : Fr} (h : FrOk f) {i : Nat} (hi : i < 8) : (frL f).toArray[6 + i]? = some (numV (f.stk.getD i 0)) := by
  obtain ⟨r, lo, d, st, wr⟩ := f
  obtain ⟨h1, h2, h3⟩ := h
  simp only at h1 h2
  obtain ⟨a, b, c, e, rfl⟩ := four h1
  obtain ⟨s0, s1, s2, s3, s4, s5, s6, s7, rfl⟩ := eight h2
  match i, hi with
  | 0, _ => rfl
  | 1, _ => rfl
  | 2, _ => rfl
  | 3, _ => rfl
  | 4, _ => rfl
  | 5, _ => rfl
  | 6, _ => rfl
  | 7, _ => rfl
theorem fr_set_depth {f : Fr} (h : FrOk f) (n : Nat) : (frL f).toArray.setIfInBounds 5 (numV n) = (frL { f with depth := n }).toArray := by
  obtain ⟨r, lo, d, st, wr⟩ := f
  obtain ⟨h1, h2, h3⟩ := h
  simp only at h1 h2
  obtain ⟨a, b, c, e, rfl⟩ := four h1
  simp [frL]
theorem fr_set_wrong {f : Fr} (h : FrOk f) (u : Bool) : (frL f).toArray.setIfInBounds 14 (.bool u) = (frL { f with wrong := u }).toArray := by
  obtain ⟨r, lo, d, st, wr⟩ := f
  obtain ⟨h1, h2, h3⟩ := h
  simp only at h1 h2
  obtain ⟨a, b, c, e, rfl⟩ := four h1
  obtain ⟨s0, s1, s2, s3, s4, s5, s6, s7, rfl⟩ := eight h2
  simp [frL]
theorem fr_set_stk {f : Fr} (h : FrOk f) {i : Nat} (hi : i < 8) (n : Nat) : (frL f).toArray.setIfInBounds (6 + i) (numV n) = (frL { f with stk := f.stk.set i n }).toArray := by
  obtain ⟨r, lo, d, st, wr⟩ := f
  obtain ⟨h1, h2, h3⟩ := h
  simp only at h1 h2
  obtain ⟨a, b, c, e, rfl⟩ := four h1
  obtain ⟨s0, s1, s2, s3, s4, s5, s6, s7, rfl⟩ := eight h2
  match i, hi with
  | 0, _ => simp [frL]
  | 1, _ => simp [frL]
  | 2, _ => simp [frL]
  | 3, _ => simp [frL]
  | 4, _ => simp [frL]
  | 5, _ => simp [frL]
  | 6, _ => simp [frL]
  | 7, _ => simp [frL]
theorem fr_set_lo {f : Fr} (h : FrOk f) {i : Nat} (hi : i < 4) (n : Nat) : (frL f).toArray.setIfInBounds (1 + i) (numV n) = (frL { f with lo := f.lo.set i n }).toArray := by
  obtain ⟨r, lo, d, st, wr⟩ := f
  obtain ⟨h1, h2, h3⟩ := h
  simp only at h1 h2
  obtain ⟨a, b, c, e, rfl⟩ := four h1
  match i, hi with
  | 0, _ => simp [frL]
  | 1, _ => simp [frL]
  | 2, _ => simp [frL]
  | 3, _ => simp [frL]
def badF (f : Fr) : Fr := { f with wrong := true }
def popF (f : Fr) : Fr × Nat := if f.depth = 0 then (badF f, 0) else ({ f with depth := f.depth - 1, stk := f.stk.set (f.depth - 1) 0 }, f.stk.getD (f.depth - 1) 0)
def pushF (f : Fr) (k : Nat) : Fr := if f.depth = 8 then badF f else { f with stk := f.stk.set f.depth k, depth := f.depth + 1 }
theorem badF_ok {f : Fr} (h : FrOk f) : FrOk (badF f) := ⟨h.lo, h.stk, h.depth⟩
theorem popF_ok {f : Fr} (h : FrOk f) : FrOk (popF f).1 := by
  unfold popF
  by_cases hd : f.depth = 0
  · rw [if_pos hd]; exact badF_ok h
  · rw [if_neg hd]; exact ⟨h.lo, by simp [h.stk], by have := h.depth; simp only; omega⟩
theorem pushF_ok {f : Fr} (h : FrOk f) (k : Nat) : FrOk (pushF f k) := by
  unfold pushF
  by_cases hd : f.depth = 8
  · rw [if_pos hd]; exact badF_ok h
  · rw [if_neg hd]; exact ⟨h.lo, by simp [h.stk], by have := h.depth; simp only; omega⟩
end Go.Proofs.YtdmdpindonghdabDoor
namespace Go.Proofs.YtdmdpindonghdabDoor
open Go.RowKit
theorem intInfo : (Tryd.prog.info? 3).map (fun i => (i.zero, i.size, i.bytes)) = some (some (.int .i64 0), 1, 8) := by kernel_rfl
theorem take_snoc {l : List Nat} {k : Nat} (h : k < l.length) : (l.take (k + 1)).map numV = (l.take k).map numV ++ [numV (l.getD k 0)] := by
  rw [List.take_succ_eq_append_getElem h, List.map_append]
  simp [List.getD_eq_getElem?_getD, List.getElem?_eq_getElem h]
theorem owns_mono {w : World} {base base' e size n : Nat} {v : Value} {xs : List Value} (h : w.ownsRow base e size v n xs) (hb : base' ≤ base) : w.ownsRow base' e size v n xs := by
  refine ⟨h.1, ?_⟩
  rcases h.2 with h2 | ⟨g, cap, cur, hv, hg, r⟩
  · exact .inl h2
  · exact .inr ⟨g, cap, cur, hv, Nat.le_trans hb hg, r⟩
def ListPost (l : List Nat) (w : World) (e : Ending) (w' : World) : Prop :=
  Below w.heap.size w w' ∧ ∃ v, e = .returned v ∧ w'.ownsRow w.heap.size 3 1 v l.length (l.map numV)
set_option maxRecDepth 100000 in
set_option maxHeartbeats 1000000 in
theorem localTypes_any (f : Fr) (L : Nat) (w : World) (hf : FrOk f) (hL : L ≤ 4) :
    Calls Tryd.prog 35 #[.agg (frL f).toArray, .int .i64 L] w (ListPost (f.lo.take L) w) := by
  obtain ⟨i0, hi0, hz0, hz1, hz2⟩ := info_parts intInfo
  have hlen := hf.lo
  have HF := hid hf
  clear hf
  generalize hF : (frL f).toArray = F
  have HFR := hid hF
  clear hF
  go_enter Tryd.func35, Tryd.ntmps35
  go_wp2_with fail
  go_loopg [5, 6] L (fun g l i w' => ∃ k : Nat, k ≤ L ∧ g = L - k ∧ i = .int .i64 k ∧ w'.ownsRow (w.heap.size + 1) 3 1 l k ((f.lo.take k).map numV) ∧ Below (w.heap.size + 1) (w.alloc (.cells F 89)) w')
  case atStart => exact ⟨0, by omega, by omega, rfl, World.ownsRow_nil _ _ _ _, Below.refl _ _⟩
  case round =>
    obtain ⟨k, hk, hg, rfl, hown, hbel⟩ := hrel
    obtain ⟨bx, bo, hz⟩ := box_cells hbel
    have HB := hid hbel
    clear hbel bo
    rcases Nat.lt_or_ge k L with hlt | hge
    · have d1 : (k : Int) < (L : Int) := by omega
      have d2 : (k : Int) < 4 := by omega
      have d0 : (0 : Int) ≤ (k : Int) := by omega
      have c0 := (bx (1 + k)).trans ((congrArg (fun x => x[1 + k]?) HFR.out.symm).trans (fr_lo HF.out (i := k) (by omega)))
      clear bx
      unfold numV at c0
      go_wp2_with (at_builtin; go_must (refine wpList_append_lies _ (by rfl) _ _ _ (by rfl) (w.heap.size + 1) 3 i0 _ 1 8 Tryd.underlying22 hi0 hz0 hz1 hz2 rfl (by omega) _ k ((f.lo.take k).map numV) (by rfl) (hown.alloc _) ⟨_, 0, none⟩ 1 1 [.int .i64 (f.lo.getD k 0 : Nat)] (by rfl) (by rfl) (World.news_of_block (cs := #[.int .i64 (f.lo.getD k 0 : Nat)]) (t := 3) (fr := (0, 0)) (heap_alloc_new _ _)) (by simp [Value.oneCell']) (by omega) (by unfold maxLen; omega) (by omega) (by simp; omega) _ rfl ?_); intro gg cap w3 hown3 hgrow hat hlt2)
      go_roundg (L - (k + 1))
      case measure => omega
      case rel => exact ⟨k + 1, by omega, rfl, by go_num, by rw [take_snoc (by omega)]; exact hown3, (HB.out.alloc (by omega) _).grown hgrow (by simp; omega) (fun k hk => (hown.lt k hk).1)⟩
    · have d1 : ¬ (k : Int) < (L : Int) := by omega
      have hkL : k = L := by omega
      clear bx
      go_wp2_with fail
      go_ret
      exact ⟨box_below (Nat.le_refl _) HB.out, _, rfl, by rw [List.length_take, Nat.min_eq_left (by omega), ← hkL]; exact owns_mono hown (by omega)⟩
set_option maxRecDepth 100000 in
set_option maxHeartbeats 1000000 in
theorem stackTypes_any (f : Fr) (w : World) (hf : FrOk f) :
    Calls Tryd.prog 37 #[.agg (frL f).toArray] w (ListPost (f.stk.take f.depth) w) := by
  obtain ⟨i0, hi0, hz0, hz1, hz2⟩ := info_parts intInfo
  have hlen := hf.stk
  have hL := hf.depth
  have HF := hid hf
  have HD := hid (fr_get hf).2.1
  clear hf
  generalize f.depth = L at *
  generalize hF : (frL f).toArray = F
  have HFR := hid hF
  clear hF
  go_enter Tryd.func37, Tryd.ntmps37
  go_wp2_with fail
  go_loopg [3, 4] L (fun g l i w' => ∃ k : Nat, k ≤ L ∧ g = L - k ∧ i = .int .i64 k ∧ w'.ownsRow (w.heap.size + 1) 3 1 l k ((f.stk.take k).map numV) ∧ Below (w.heap.size + 1) (w.alloc (.cells F 89)) w')
  case atStart => exact ⟨0, by omega, by omega, rfl, World.ownsRow_nil _ _ _ _, Below.refl _ _⟩
  case round =>
    obtain ⟨k, hk, hg, rfl, hown, hbel⟩ := hrel
    obtain ⟨bx, bo, hz⟩ := box_cells hbel
    have HB := hid hbel
    clear hbel bo
    rcases Nat.lt_or_ge k L with hlt | hge
    · have d1 : (k : Int) < (L : Int) := by omega
      have d2 : (k : Int) < 8 := by omega
      have d0 : (0 : Int) ≤ (k : Int) := by omega
      have c0 := (bx (6 + k)).trans ((congrArg (fun x => x[6 + k]?) HFR.out.symm).trans (fr_stk HF.out (i := k) (by omega)))
      have c1 := (bx 5).trans ((congrArg (fun x => x[5]?) HFR.out.symm).trans HD.out)
      clear bx
      unfold numV at c0 c1
      go_wp2_with (at_builtin; go_must (refine wpList_append_lies _ (by rfl) _ _ _ (by rfl) (w.heap.size + 1) 3 i0 _ 1 8 Tryd.underlying22 hi0 hz0 hz1 hz2 rfl (by omega) _ k ((f.stk.take k).map numV) (by rfl) (hown.alloc _) ⟨_, 0, none⟩ 1 1 [.int .i64 (f.stk.getD k 0 : Nat)] (by rfl) (by rfl) (World.news_of_block (cs := #[.int .i64 (f.stk.getD k 0 : Nat)]) (t := 3) (fr := (0, 0)) (heap_alloc_new _ _)) (by simp [Value.oneCell']) (by omega) (by unfold maxLen; omega) (by omega) (by simp; omega) _ rfl ?_); intro gg cap w3 hown3 hgrow hat hlt2)
      go_roundg (L - (k + 1))
      case measure => omega
      case rel => exact ⟨k + 1, by omega, rfl, by go_num, by rw [take_snoc (by omega)]; exact hown3, (HB.out.alloc (by omega) _).grown hgrow (by simp; omega) (fun k hk => (hown.lt k hk).1)⟩
    · have d1 : ¬ (k : Int) < (L : Int) := by omega
      have hkL : k = L := by omega
      have c1 := (bx 5).trans ((congrArg (fun x => x[5]?) HFR.out.symm).trans HD.out)
      clear bx
      unfold numV at c1
      go_wp2_with fail
      go_ret
      exact ⟨box_below (Nat.le_refl _) HB.out, _, rfl, by rw [List.length_take, Nat.min_eq_left (by omega), ← hkL]; exact owns_mono hown (by omega)⟩
end Go.Proofs.YtdmdpindonghdabDoor
namespace Go.Proofs.YtdmdpindonghdabDoor
open Go.RowKit
set_option maxRecDepth 100000 in
set_option maxHeartbeats 400000 in
theorem pop_ok (b : Nat) (cs : Array Value) (e k : Nat) (w : World) (hr : RowAt w b cs) (h5 : cs[5]? = some (.int .i64 ((e + 1 : Nat) : Int))) (he : e < 8) (hk : cs[6 + e]? = some (.int .i64 k)) :
    Calls Tryd.prog 101 #[.pointer (some ⟨b, 0, none⟩)] w fun x w' => x = .returned (.int .i64 k) ∧ RowAt w' b ((cs.setIfInBounds 5 (.int .i64 e)).setIfInBounds (6 + e) (.int .i64 0)) ∧ Only b w w' := by
  have c5 := (hr.cell 5).trans h5
  have c6 := (hr.cell (6 + e)).trans hk
  have f5 := hr.frozen 5
  have f6 := hr.frozen (6 + e)
  have hcs : 6 + e < cs.size := (Array.getElem?_eq_some_iff.1 hk).1
  have r1 := hr.set 5 (.int .i64 e)
  have d5 := r1.cell 5
  have d6 := r1.cell (6 + e)
  have g6 := r1.frozen (6 + e)
  rw [Array.getElem?_setIfInBounds_self_of_lt (by omega)] at d5
  rw [Array.getElem?_setIfInBounds_ne (by omega), hk] at d6
  have R1 := hid r1
  have i0 : (0 : Int) ≤ (e : Int) := by omega
  have i1 : (e : Int) < 8 := by omega
  have HH5 := hid h5
  have HHK := hid hk
  clear r1 h5 hk
  go_enter Tryd.func101, Tryd.ntmps101
  go_wp2
  go_quiet (fail)
  go_wp2
  go_region
  all_goals go_wp2
  go_ret
  exact ⟨rfl, (R1.out.drewN _).set _ _, (((Only.refl _ _).set _ _).drewN _).set _ _⟩
set_option maxRecDepth 100000 in
set_option maxHeartbeats 400000 in
theorem pop_bad (b : Nat) (cs : Array Value) (u : Bool) (w : World) (hr : RowAt w b cs) (h5 : cs[5]? = some (.int .i64 0)) (h14 : cs[14]? = some (.bool u)) :
    Calls Tryd.prog 101 #[.pointer (some ⟨b, 0, none⟩)] w fun x w' => x = .returned (.int .i64 0) ∧ RowAt w' b (cs.setIfInBounds 14 (.bool true)) ∧ Only b w w' := by
  have c5 := (hr.cell 5).trans h5
  have c14 := (hr.cell 14).trans h14
  have f14 := hr.frozen 14
  go_enter Tryd.func101, Tryd.ntmps101
  go_wp2
  go_ret
  exact ⟨rfl, hr.set _ _, (Only.refl _ _).set _ _⟩
set_option maxRecDepth 100000 in
set_option maxHeartbeats 400000 in
theorem push_ok (b : Nat) (cs : Array Value) (d k : Nat) (v : Value) (w : World) (hr : RowAt w b cs) (h5 : cs[5]? = some (.int .i64 (d : Nat))) (hd : d < 8) (hk : cs[6 + d]? = some v) :
    Calls Tryd.prog 102 #[.pointer (some ⟨b, 0, none⟩), .int .i64 k] w fun x w' => x = .returned (.tuple #[]) ∧ RowAt w' b ((cs.setIfInBounds (6 + d) (.int .i64 k)).setIfInBounds 5 (.int .i64 ((d : Int) + 1))) ∧ Only b w w' := by
  have c5 := (hr.cell 5).trans h5
  have c6 := (hr.cell (6 + d)).trans hk
  have f5 := hr.frozen 5
  have f6 := hr.frozen (6 + d)
  have hcs : 6 + d < cs.size := (Array.getElem?_eq_some_iff.1 hk).1
  have r1 := hr.set (6 + d) (.int .i64 k)
  have d5 := r1.cell 5
  have g5 := r1.frozen 5
  rw [Array.getElem?_setIfInBounds_ne (by omega), h5] at d5
  have R1 := hid r1
  have i0 : (0 : Int) ≤ (d : Int) := by omega
  have i1 : (d : Int) < 8 := by omega
  clear r1 h5 hk
  go_enter Tryd.func102, Tryd.ntmps102
  go_wp2
  go_region
  all_goals go_wp2
  go_end0
  exact ⟨rfl, (show RowAt _ b _ from R1.out).set _ _, ((Only.refl _ _).set _ _).drew.set _ _⟩
set_option maxRecDepth 100000 in
set_option maxHeartbeats 400000 in
theorem push_full (b : Nat) (cs : Array Value) (u : Bool) (k : Nat) (w : World) (hr : RowAt w b cs) (h5 : cs[5]? = some (.int .i64 8)) (h14 : cs[14]? = some (.bool u)) :
    Calls Tryd.prog 102 #[.pointer (some ⟨b, 0, none⟩), .int .i64 k] w fun x w' => x = .returned (.tuple #[]) ∧ RowAt w' b (cs.setIfInBounds 14 (.bool true)) ∧ Only b w w' := by
  have c5 := (hr.cell 5).trans h5
  have c14 := (hr.cell 14).trans h14
  have f14 := hr.frozen 14
  go_enter Tryd.func102, Tryd.ntmps102
  go_wp2
  exact bodyPost_ret (v := .tuple #[]) (by simp [results, Tryd.results102, go_sem]) rfl ⟨rfl, hr.set _ _, (Only.refl _ _).set _ _⟩
end Go.Proofs.YtdmdpindonghdabDoor
namespace Go.Proofs.YtdmdpindonghdabDoor
open Go.RowKit
theorem pop_any (b : Nat) (f : Fr) (w : World) (h : FrAt w b f) (ok : FrOk f) :
    Calls Tryd.prog 101 #[.pointer (some ⟨b, 0, none⟩)] w fun x w' => x = .returned (.int .i64 ((popF f).2 : Nat)) ∧ FrAt w' b (popF f).1 ∧ Only b w w' := by
  obtain ⟨g0, g5, g14⟩ := fr_get ok
  have hd := ok.depth
  by_cases h0 : f.depth = 0
  · rw [h0] at g5
    refine (pop_bad b _ f.wrong w h g5 g14).mono ?_
    rintro x w' ⟨h1, h2, h3⟩
    rw [fr_set_wrong ok] at h2
    simp only [popF, if_pos h0]
    exact ⟨h1, h2, h3⟩
  · obtain ⟨e, he⟩ : ∃ e, f.depth = e + 1 := ⟨f.depth - 1, by omega⟩
    rw [he] at g5
    have hs := fr_stk ok (i := e) (by omega)
    refine (pop_ok b _ e _ w h g5 (by omega) hs).mono ?_
    rintro x w' ⟨h1, h2, h3⟩
    rw [show (Value.int .i64 (e : Int)) = numV e from rfl, fr_set_depth ok, show (Value.int .i64 0) = numV 0 from rfl, fr_set_stk (f := { f with depth := e }) ⟨ok.lo, ok.stk, by simp only; omega⟩ (by omega)] at h2
    simp only [popF, if_neg h0]
    rw [show f.depth - 1 = e by omega]
    exact ⟨h1, h2, h3⟩
theorem push_any (b : Nat) (f : Fr) (k : Nat) (w : World) (h : FrAt w b f) (ok : FrOk f) :
    Calls Tryd.prog 102 #[.pointer (some ⟨b, 0, none⟩), .int .i64 k] w fun x w' => x = .returned (.tuple #[]) ∧ FrAt w' b (pushF f k) ∧ Only b w w' := by
  obtain ⟨g0, g5, g14⟩ := fr_get ok
  have hd := ok.depth
  by_cases h0 : f.depth = 8
  · rw [h0] at g5
    refine (push_full b _ f.wrong k w h g5 g14).mono ?_
    rintro x w' ⟨h1, h2, h3⟩
    rw [fr_set_wrong ok] at h2
    simp only [pushF, if_pos h0]
    exact ⟨h1, h2, h3⟩
  · have hs := fr_stk ok (i := f.depth) (by omega)
    refine (push_ok b _ f.depth k _ w h g5 (by omega) hs).mono ?_
    rintro x w' ⟨h1, h2, h3⟩
    rw [show (Value.int .i64 (k : Int)) = numV k from rfl, fr_set_stk ok (by omega), show (Value.int .i64 ((f.depth : Int) + 1)) = numV (f.depth + 1) from rfl, fr_set_depth (f := { f with stk := f.stk.set f.depth k }) ⟨ok.lo, by simp [ok.stk], ok.depth⟩] at h2
    simp only [pushF, if_neg h0]
    exact ⟨h1, h2, h3⟩
/-- What a Load and a Store do to a frame. -/
def loadF (f : Fr) (n : Nat) : Fr := if 4 ≤ n then badF f else pushF (if f.lo.getD n 0 = 2 then badF f else f) (f.lo.getD n 0)
def storeF (f : Fr) (n : Nat) : Fr := if 4 ≤ n then badF (popF f).1 else { (popF f).1 with lo := (popF f).1.lo.set n (popF f).2 }
theorem loadF_ok {f : Fr} (h : FrOk f) (n : Nat) : FrOk (loadF f n) := by
  unfold loadF
  by_cases hn : 4 ≤ n
  · rw [if_pos hn]; exact badF_ok h
  · rw [if_neg hn]
    apply pushF_ok
    by_cases h2 : f.lo.getD n 0 = 2
    · rw [if_pos h2]; exact badF_ok h
    · rw [if_neg h2]; exact h
theorem storeF_ok {f : Fr} (h : FrOk f) (n : Nat) : FrOk (storeF f n) := by
  unfold storeF
  have h1 := popF_ok h
  by_cases hn : 4 ≤ n
  · rw [if_pos hn]; exact badF_ok h1
  · rw [if_neg hn]; exact ⟨by simp [h1.lo], h1.stk, h1.depth⟩
set_option maxRecDepth 100000 in
set_option maxHeartbeats 400000 in
theorem load_any (b : Nat) (f : Fr) (n : Nat) (w : World) (h : FrAt w b f) (ok : FrOk f) (hn : n < 4) :
    Calls Tryd.prog 99 #[.pointer (some ⟨b, 0, none⟩), .int .i64 n] w fun x w' => x = .returned (.tuple #[]) ∧ FrAt w' b (loadF f n) ∧ Only b w w' := by
  obtain ⟨g0, g5, g14⟩ := fr_get ok
  have c := (RowAt.cell h (1 + n)).trans (fr_lo ok hn)
  have c14 := (RowAt.cell h 14).trans g14
  have f14 := RowAt.frozen h 14
  have i0 : (0 : Int) ≤ (n : Int) := by omega
  have i1 : (n : Int) < 4 := by omega
  have HR := hid h
  simp only [numV] at c
  have HL : Hid (loadF f n = pushF (if f.lo.getD n 0 = 2 then badF f else f) (f.lo.getD n 0)) := hid (by unfold loadF; rw [if_neg (by omega)])
  generalize f.lo.getD n 0 = k at *
  clear g0 g5 g14 h
  by_cases h2 : k = 2
  · have h2' : ((k : Int) == 2) = true := by simp; omega
    have hrow : FrAt (w.setCell ⟨b, 14, none⟩ (.bool true)) b (badF f) := by
      have := RowAt.set HR.out 14 (.bool true)
      rw [fr_set_wrong ok] at this
      exact this
    have hp := hid (push_any b (badF f) k _ hrow (badF_ok ok))
    rw [if_pos h2] at HL
    clear h2 hrow
    go_enter Tryd.func99, Tryd.ntmps99
    go_wp2_with fail
    refine hp.out.mono ?_
    rintro x w2 ⟨rfl, h3, h4⟩
    go_wp2_with fail
    go_end0
    exact ⟨rfl, by rw [HL.out]; exact h3, ((Only.refl _ _).set _ _).trans h4⟩
  · have h2' : ((k : Int) == 2) = false := by simp; omega
    have hp := hid (push_any b f k w HR.out ok)
    rw [if_neg h2] at HL
    clear h2
    go_enter Tryd.func99, Tryd.ntmps99
    go_wp2_with fail
    refine hp.out.mono ?_
    rintro x w2 ⟨rfl, h3, h4⟩
    go_wp2_with fail
    go_end0
    exact ⟨rfl, by rw [HL.out]; exact h3, h4⟩
set_option maxRecDepth 100000 in
set_option maxHeartbeats 400000 in
theorem store_any (b : Nat) (f : Fr) (n : Nat) (w : World) (h : FrAt w b f) (ok : FrOk f) (hn : n < 4) :
    Calls Tryd.prog 100 #[.pointer (some ⟨b, 0, none⟩), .int .i64 n] w fun x w' => x = .returned (.tuple #[]) ∧ FrAt w' b (storeF f n) ∧ Only b w w' := by
  have hp := hid (pop_any b f w h ok)
  have hok := popF_ok ok
  have i0 : (0 : Int) ≤ (n : Int) := by omega
  have i1 : (n : Int) < 4 := by omega
  have HL : Hid (storeF f n = { (popF f).1 with lo := (popF f).1.lo.set n (popF f).2 }) := hid (by unfold storeF; rw [if_neg (by omega)])
  generalize popF f = P at *
  obtain ⟨f2, k⟩ := P
  simp only at hok hp HL
  clear h
  go_enter Tryd.func100, Tryd.ntmps100
  go_wp2_with fail
  refine hp.out.mono ?_
  rintro x w2 ⟨rfl, h3, h4⟩
  have c := (RowAt.cell h3 (1 + n)).trans (fr_lo hok hn)
  have fz := RowAt.frozen h3 (1 + n)
  have H3 := hid h3
  clear h3 hp
  go_wp2_with fail
  go_end0
  refine ⟨rfl, ?_, h4.set _ _⟩
  have := RowAt.set H3.out (1 + n) (numV k)
  rw [fr_set_lo hok hn] at this
  rw [HL.out]
  exact this
end Go.Proofs.YtdmdpindonghdabDoor
namespace Go.Proofs.YtdmdpindonghdabDoor
open Go.RowKit
def kindN (c : Nat) : Nat := if c = 114 then 1 else 0
def popR (f : Fr) : List Nat → Fr
  | [] => f
  | c :: r => popR (if (popF f).2 = kindN c then (popF f).1 else badF (popF f).1) r
def pushR (f : Fr) : List Nat → Fr
  | [] => f
  | c :: r => pushR (pushF f (kindN c)) r
theorem popR_ok : ∀ (l : List Nat) (f : Fr), FrOk f → FrOk (popR f l)
  | [], _, h => h
  | c :: r, f, h => by
    simp only [popR]
    apply popR_ok r
    by_cases e : (popF f).2 = kindN c
    · rw [if_pos e]; exact popF_ok h
    · rw [if_neg e]; exact badF_ok (popF_ok h)
theorem pushR_ok : ∀ (l : List Nat) (f : Fr), FrOk f → FrOk (pushR f l)
  | [], _, h => h
  | c :: r, f, h => by
    simp only [pushR]
    exact pushR_ok r _ (pushF_ok h _)
def popsN (op : Nat) : List Nat := (popsL op).map UInt8.toNat
def pushesN (op : Nat) : List Nat := (pushesL op).map UInt8.toNat
theorem popsN_at {op j : Nat} (h : j < (popsS op).size) : ∃ h' : j < (popsN op).length, (popsN op)[j] = byteAt (popsS op) j := by
  have h1 : j < (popsL op).length := h
  refine ⟨by simp [popsN]; exact h1, ?_⟩
  simp [popsN, byteAt, popsS, h1]
theorem pushesN_at {op j : Nat} (h : j < (pushesS op).size) : ∃ h' : j < (pushesN op).length, (pushesN op)[j] = byteAt (pushesS op) j := by
  have h1 : j < (pushesL op).length := h
  refine ⟨by simp [pushesN]; exact h1, ?_⟩
  simp [pushesN, byteAt, pushesS, h1]
theorem popsN_len (op : Nat) : (popsN op).length = (popsS op).size := by simp [popsN, popsS]; rfl
theorem pushesN_len (op : Nat) : (pushesN op).length = (pushesS op).size := by simp [pushesN, pushesS]; rfl
/-- The program's two tables of types. -/
def FlowTab (w : World) : Prop := ∀ k : Nat, k < 25 → w.cell? ⟨0, k, none⟩ = some (.string (popsS k)) ∧ w.cell? ⟨1, k, none⟩ = some (.string (pushesS k))
theorem FlowTab.below {w w' : World} (h : FlowTab w) (hb : Below w.heap.size w w') : FlowTab w' := by
  intro k hk
  obtain ⟨h0, h1⟩ := h k hk
  have l0 := World.block_lt_of_cell? w _ h0
  have l1 := World.block_lt_of_cell? w _ h1
  exact ⟨(hb.cell (p := ⟨0, k, none⟩) l0).trans h0, (hb.cell (p := ⟨1, k, none⟩) l1).trans h1⟩
theorem FlowTab.only {b : Nat} {w w' : World} (h : FlowTab w) (hb : Only b w w') (h3 : b ≠ 0) (h4 : b ≠ 1) : FlowTab w' := by
  intro k hk
  obtain ⟨h0, h1⟩ := h k hk
  exact ⟨(hb.cell (Ne.symm h3)).trans h0, (hb.cell (Ne.symm h4)).trans h1⟩
set_option maxRecDepth 100000 in
set_option maxHeartbeats 400000 in
theorem typeOf_any (c : Nat) (w : World) :
    Calls Tryd.prog 105 #[.int .u8 c] w fun e w' => e = .returned (.int .i64 (kindN c : Nat)) ∧ w' = w := by
  by_cases h : c = 114
  · have h' : ((c : Int) == 114) = true := by simp; omega
    have HE : Hid (kindN c = 1) := hid (by simp [kindN, h])
    clear h
    go_enter Tryd.func105, Tryd.ntmps105
    go_wp2
    go_ret
    exact ⟨ret_int (by rw [HE.out]; rfl), rfl⟩
  · have h' : ((c : Int) == 114) = false := by simp; omega
    have HE : Hid (kindN c = 0) := hid (by simp [kindN, h])
    clear h
    go_enter Tryd.func105, Tryd.ntmps105
    go_wp2
    go_ret
    exact ⟨ret_int (by rw [HE.out]; rfl), rfl⟩
theorem take_rev {l : List Nat} {j : Nat} (h : j < l.length) : (l.take (j + 1)).reverse = l[j] :: (l.take j).reverse := by
  rw [List.take_succ_eq_append_getElem h, List.reverse_append]; rfl
set_option maxRecDepth 100000 in
set_option maxHeartbeats 1000000 in
theorem popAll_any (b : Nat) (f : Fr) (op : Nat) (w : World) (h : FrAt w b f) (ok : FrOk f) (hop : op < 25) (htab : FlowTab w) :
    Calls Tryd.prog 103 #[.pointer (some ⟨b, 0, none⟩), .int .i64 op] w fun x w' => x = .returned (.tuple #[]) ∧ FrAt w' b (popR f (popsN op).reverse) ∧ Only b w w' := by
  obtain ⟨c1, c2⟩ := htab op hop
  have hsz := popsS_size op
  have i0 : (0 : Int) ≤ (op : Int) := by omega
  have i1 : (op : Int) < 25 := by omega
  have HN := hid (fun j (h : j < (popsS op).size) => popsN_at (op := op) h)
  have HLN := hid (popsN_len op)
  generalize popsS op = P at *
  generalize popsN op = N at *
  clear htab c2
  go_enter Tryd.func103, Tryd.ntmps103
  go_wp2_with fail
  go_loopw [5] (fun i w' => ∃ (j : Nat) (f' : Fr), j ≤ P.size ∧ i = .int .i64 ((j : Int) - 1) ∧ FrAt w' b f' ∧ FrOk f' ∧ popR f N.reverse = popR f' (N.take j).reverse ∧ Only b w w') (fun i _ => (intOf i + 1).toNat)
  case atStart => exact ⟨P.size, f, Nat.le_refl _, rfl, h, ok, by rw [List.take_of_length_le (by have := HLN.out; omega)], Only.refl _ _⟩
  case round =>
    obtain ⟨j, f', hj, rfl, hf, hok, hpr, honly⟩ := hrel
    have HPR := hid hpr
    clear hpr
    cases j with
    | zero =>
      go_wp2_with fail
      go_end0
      exact ⟨rfl, by rw [HPR.out]; exact hf, honly⟩
    | succ j =>
      obtain ⟨hjn, hbyte⟩ := HN.out j (by omega)
      have e0 := byteAt_eq P j (by omega)
      have hp := hid (pop_any b f' wr hf hok)
      have hok2 := popF_ok hok
      have HS : Hid (popR f' (N.take (j + 1)).reverse = popR (if (popF f').2 = kindN (byteAt P j) then (popF f').1 else badF (popF f').1) (N.take j).reverse) := hid (by
        rw [take_rev hjn, hbyte]; rfl)
      generalize popF f' = Q at *
      obtain ⟨f2, k⟩ := Q
      simp only at hok2 hp HS
      have hty := hid (fun W => typeOf_any (byteAt P j) W)
      have hb2 := byteAt_lt P j
      have ej : (((j + 1 : Nat) : Int) - 1) = (j : Int) := by omega
      rw [ej]
      clear hf hbyte
      generalize byteAt P j = c at *
      by_cases hk : k = kindN c
      · rw [if_pos hk] at HS
        have hk' : ((k : Int) != ((kindN c : Nat) : Int)) = false := by simp; omega
        clear hk
        go_wp2_with fail
        refine hp.out.mono ?_
        rintro x w2 ⟨rfl, h3, h4⟩
        clear hp
        go_wp2_with fail
        refine (hty.out w2).mono ?_
        clear hty
        intro e w9 hh
        obtain ⟨he9, hw9⟩ := hh
        subst e
        subst w9
        go_wp2_with fail
        exact ⟨⟨j, f2, by omega, by go_num, h3, hok2, by rw [HPR.out, HS.out], honly.trans h4⟩, by simp [intOf] <;> omega⟩
      · rw [if_neg hk] at HS
        have hk' : ((k : Int) != ((kindN c : Nat) : Int)) = true := by simp; omega
        clear hk
        go_wp2_with fail
        refine hp.out.mono ?_
        rintro x w2 ⟨rfl, h3, h4⟩
        clear hp
        have c14 := (RowAt.cell h3 14).trans (fr_get hok2).2.2
        have f14 := RowAt.frozen h3 14
        have hrow : Hid (FrAt (w2.setCell ⟨b, 14, none⟩ (.bool true)) b (badF f2)) := hid (by
          have := RowAt.set h3 14 (.bool true)
          rw [fr_set_wrong hok2] at this
          exact this)
        clear h3
        go_wp2_with fail
        refine (hty.out w2).mono ?_
        clear hty
        intro e w9 hh
        obtain ⟨he9, hw9⟩ := hh
        subst e
        subst w9
        go_wp2_with fail
        exact ⟨⟨j, badF f2, by omega, by go_num, hrow.out, badF_ok hok2, by rw [HPR.out, HS.out], (honly.trans h4).set _ _⟩, by simp [intOf] <;> omega⟩
set_option maxRecDepth 100000 in
set_option maxHeartbeats 1000000 in
theorem pushAll_any (b : Nat) (f : Fr) (op : Nat) (w : World) (h : FrAt w b f) (ok : FrOk f) (hop : op < 25) (htab : FlowTab w) :
    Calls Tryd.prog 104 #[.pointer (some ⟨b, 0, none⟩), .int .i64 op] w fun x w' => x = .returned (.tuple #[]) ∧ FrAt w' b (pushR f (pushesN op)) ∧ Only b w w' := by
  obtain ⟨c1, c2⟩ := htab op hop
  have hsz := pushesS_size op
  have i0 : (0 : Int) ≤ (op : Int) := by omega
  have i1 : (op : Int) < 25 := by omega
  have HN := hid (fun j (h : j < (pushesS op).size) => pushesN_at (op := op) h)
  have HLN := hid (pushesN_len op)
  generalize pushesS op = P at *
  generalize pushesN op = N at *
  clear htab c1
  go_enter Tryd.func104, Tryd.ntmps104
  go_wp2_with fail
  go_loopw [5] (fun i w' => ∃ (j : Nat) (f' : Fr), j ≤ P.size ∧ i = .int .i64 j ∧ FrAt w' b f' ∧ FrOk f' ∧ pushR f N = pushR f' (N.drop j) ∧ Only b w w') (fun i _ => P.size - (intOf i).toNat)
  case atStart => exact ⟨0, f, Nat.zero_le _, rfl, h, ok, by simp, Only.refl _ _⟩
  case round =>
    obtain ⟨j, f', hj, rfl, hf, hok, hpr, honly⟩ := hrel
    have HPR := hid hpr
    clear hpr
    by_cases hlt : j < P.size
    · obtain ⟨hjn, hbyte⟩ := HN.out j hlt
      have e0 := byteAt_eq P j hlt
      have HS : Hid (pushR f' (N.drop j) = pushR (pushF f' (kindN (byteAt P j))) (N.drop (j + 1))) := hid (by
        rw [List.drop_eq_getElem_cons hjn, hbyte]; rfl)
      have hp := hid (push_any b f' (kindN (byteAt P j)) wr hf hok)
      have hok2 := pushF_ok hok (kindN (byteAt P j))
      have hty := hid (typeOf_any (byteAt P j) wr)
      have hb2 := byteAt_lt P j
      clear hf hbyte
      generalize byteAt P j = c at *
      go_wp2_with fail
      refine hty.out.mono ?_
      clear hty
      intro e w9 hh
      obtain ⟨he9, hw9⟩ := hh
      subst e
      subst w9
      go_wp2_with fail
      refine hp.out.mono ?_
      rintro x w2 ⟨rfl, h3, h4⟩
      clear hp
      go_wp2_with fail
      exact ⟨⟨j + 1, _, by omega, by go_num, h3, hok2, by rw [HPR.out, HS.out], honly.trans h4⟩, by simp [intOf] <;> omega⟩
    · go_wp2_with fail
      go_end0
      exact ⟨rfl, by rw [HPR.out, List.drop_of_length_le (by have := HLN.out; omega)]; exact hf, honly⟩
end Go.Proofs.YtdmdpindonghdabDoor
namespace Go.Proofs.YtdmdpindonghdabDoor
open Go.RowKit
theorem three_new (w : World) (a b c : Obj) : Below w.heap.size w (((w.alloc a).alloc b).alloc c) :=
  (((Below.refl _ _).alloc (Nat.le_refl _) _).alloc (by simp) _).alloc (by simp; omega) _
def dupF (f : Fr) : Fr := pushF (pushF (popF f).1 (popF f).2) (popF f).2
def swapF (f : Fr) : Fr := pushF (pushF (popF (popF f).1).1 (popF f).2) (popF (popF f).1).2
/-- What an instruction does to a frame. -/
def afterF (f : Fr) (op n : Nat) : Fr :=
  if op = 7 then loadF f n else if op = 8 then storeF f n else if op = 9 then dupF f else if op = 10 then (popF f).1 else if op = 11 then swapF f
  else pushR (popR f (popsN op).reverse) (pushesN op)
theorem afterF_ok {f : Fr} (h : FrOk f) (op n : Nat) : FrOk (afterF f op n) := by
  unfold afterF
  split
  · exact loadF_ok h n
  split
  · exact storeF_ok h n
  split
  · exact pushF_ok (pushF_ok (popF_ok h) _) _
  split
  · exact popF_ok h
  split
  · exact pushF_ok (pushF_ok (popF_ok (popF_ok h)) _) _
  · exact pushR_ok _ _ (popR_ok _ _ h)
theorem heap_three_first (w : World) (a b c : Obj) : (((w.alloc a).alloc b).alloc c).heap[w.heap.size]? = some a := by
  rw [Below.heap_alloc _ _ _ (by simp; omega), Below.heap_alloc _ _ _ (by simp), heap_alloc_new]
theorem cell_three_second (w : World) (a c : Obj) (cs : Array Value) (t : TypeId) (j : Nat) : (((w.alloc a).alloc (.cells cs t)).alloc c).cell? ⟨w.heap.size + 1, j, none⟩ = cs[j]? :=
  cell_of_row _ _ j cs t (0, 0) (by rw [Below.heap_alloc _ _ _ (by simp)]; exact heap_two_new w _ _)
theorem heap_three_third (w : World) (a b c : Obj) : (((w.alloc a).alloc b).alloc c).heap[w.heap.size + 1 + 1]? = some c := by
  have h := heap_alloc_new ((w.alloc a).alloc b) c
  have e : ((w.alloc a).alloc b).heap.size = w.heap.size + 1 + 1 := by simp
  rw [e] at h
  exact h
def AftPost (f : Fr) (op n : Nat) (w : World) (e : Ending) (w' : World) : Prop :=
  Below w.heap.size w w' ∧ e = .returned (.tuple #[.agg (frL (afterF f op n)).toArray, .bool (!(afterF f op n).wrong)])
theorem RowAt.drew {w : World} {b : Nat} {cs : Array Value} (h : RowAt w b cs) : RowAt w.drew b cs := h
theorem fifteen_set {w : World} {b : Nat} {z0 z1 z2 z3 z4 z5 z6 z7 z8 z9 z10 z11 z12 z13 z14 : Value} (h : RowAt w b #[z0, z1, z2, z3, z4, z5, z6, z7, z8, z9, z10, z11, z12, z13, z14]) (v0 v1 v2 v3 v4 v5 v6 v7 v8 v9 v10 v11 v12 v13 v14 : Value) :
    RowAt (((((((((((((((w.setCell ⟨b, 0, none⟩ v0).setCell ⟨b, 1, none⟩ v1).setCell ⟨b, 2, none⟩ v2).setCell ⟨b, 3, none⟩ v3).setCell ⟨b, 4, none⟩ v4).setCell ⟨b, 5, none⟩ v5).setCell ⟨b, 6, none⟩ v6).setCell ⟨b, 7, none⟩ v7).setCell ⟨b, 8, none⟩ v8).setCell ⟨b, 9, none⟩ v9).setCell ⟨b, 10, none⟩ v10).setCell ⟨b, 11, none⟩ v11).setCell ⟨b, 12, none⟩ v12).setCell ⟨b, 13, none⟩ v13).setCell ⟨b, 14, none⟩ v14) b #[v0, v1, v2, v3, v4, v5, v6, v7, v8, v9, v10, v11, v12, v13, v14] := by
  simpa using (((((((((((((((h.set 0 v0).set 1 v1).set 2 v2).set 3 v3).set 4 v4).set 5 v5).set 6 v6).set 7 v7).set 8 v8).set 9 v9).set 10 v10).set 11 v11).set 12 v12).set 13 v13).set 14 v14)
theorem fifteen_below {B : Nat} {w0 w : World} {b : Nat} (h : Below B w0 w) (hb : B ≤ b) (v0 v1 v2 v3 v4 v5 v6 v7 v8 v9 v10 v11 v12 v13 v14 : Value) :
    Below B w0 (((((((((((((((w.setCell ⟨b, 0, none⟩ v0).setCell ⟨b, 1, none⟩ v1).setCell ⟨b, 2, none⟩ v2).setCell ⟨b, 3, none⟩ v3).setCell ⟨b, 4, none⟩ v4).setCell ⟨b, 5, none⟩ v5).setCell ⟨b, 6, none⟩ v6).setCell ⟨b, 7, none⟩ v7).setCell ⟨b, 8, none⟩ v8).setCell ⟨b, 9, none⟩ v9).setCell ⟨b, 10, none⟩ v10).setCell ⟨b, 11, none⟩ v11).setCell ⟨b, 12, none⟩ v12).setCell ⟨b, 13, none⟩ v13).setCell ⟨b, 14, none⟩ v14) :=
  (((((((((((((((h.setCell (p := ⟨b, 0, none⟩) hb v0).setCell (p := ⟨b, 1, none⟩) hb v1).setCell (p := ⟨b, 2, none⟩) hb v2).setCell (p := ⟨b, 3, none⟩) hb v3).setCell (p := ⟨b, 4, none⟩) hb v4).setCell (p := ⟨b, 5, none⟩) hb v5).setCell (p := ⟨b, 6, none⟩) hb v6).setCell (p := ⟨b, 7, none⟩) hb v7).setCell (p := ⟨b, 8, none⟩) hb v8).setCell (p := ⟨b, 9, none⟩) hb v9).setCell (p := ⟨b, 10, none⟩) hb v10).setCell (p := ⟨b, 11, none⟩) hb v11).setCell (p := ⟨b, 12, none⟩) hb v12).setCell (p := ⟨b, 13, none⟩) hb v13).setCell (p := ⟨b, 14, none⟩) hb v14)
set_option maxRecDepth 100000 in
set_option maxHeartbeats 1000000 in
theorem aft_res {tmps : Array Value} {W : World} {B : Nat} {r wg u : Bool} {a b c e d t0 t1 t2 t3 t4 t5 t6 t7 : Nat} (h4 : tmps[4]? = some (.pointer (some ⟨B, 0, none⟩))) (h5 : tmps[5]? = some (.bool u))
    (hrow : RowAt W B #[.bool r, .int .i64 a, .int .i64 b, .int .i64 c, .int .i64 e, .int .i64 d, .int .i64 t0, .int .i64 t1, .int .i64 t2, .int .i64 t3, .int .i64 t4, .int .i64 t5, .int .i64 t6, .int .i64 t7, .bool wg]) :
    (results Tryd.f98 tmps).run Tryd.prog W = .ok (.tuple #[.agg #[.bool r, .int .i64 a, .int .i64 b, .int .i64 c, .int .i64 e, .int .i64 d, .int .i64 t0, .int .i64 t1, .int .i64 t2, .int .i64 t3, .int .i64 t4, .int .i64 t5, .int .i64 t6, .int .i64 t7, .bool wg], .bool u]) W := by
  have y0 := RowAt.cell hrow 0
  have y1 := RowAt.cell hrow 1
  have y2 := RowAt.cell hrow 2
  have y3 := RowAt.cell hrow 3
  have y4 := RowAt.cell hrow 4
  have y5 := RowAt.cell hrow 5
  have y6 := RowAt.cell hrow 6
  have y7 := RowAt.cell hrow 7
  have y8 := RowAt.cell hrow 8
  have y9 := RowAt.cell hrow 9
  have y10 := RowAt.cell hrow 10
  have y11 := RowAt.cell hrow 11
  have y12 := RowAt.cell hrow 12
  have y13 := RowAt.cell hrow 13
  have y14 := RowAt.cell hrow 14
  simp only [List.getElem?_toArray, List.getElem?_cons_zero, List.getElem?_cons_succ] at y0 y1 y2 y3 y4 y5 y6 y7 y8 y9 y10 y11 y12 y13 y14
  simp [results, Tryd.results98, go_sem, *]
theorem aftPost_mk {f : Fr} {op n : Nat} {w W : World} (b : Bool) (hb : Below w.heap.size w W) (h : b = !(afterF f op n).wrong) : AftPost f op n w (.returned (.tuple #[.agg (frL (afterF f op n)).toArray, .bool b])) W := by
  subst h; exact ⟨hb, rfl⟩
end Go.Proofs.YtdmdpindonghdabDoor
namespace Go.Proofs.YtdmdpindonghdabDoor
open Go.RowKit
/-- What is told of an instruction. -/
structure MP where
  place : Nat
  reached : Bool
  lo : List Nat
  st : List Nat
/-- v is a list of these numbers, in a block of which P holds. -/
def IntsAt (w : World) (P : Nat → Prop) (v : Value) (l : List Nat) : Prop :=
  (v = .slice none 0 0 ∧ l = []) ∨ ∃ g cap, v = .slice (some ⟨g, 0, none⟩) l.length cap ∧ P g ∧ ∀ (j n : Nat), l[j]? = some n → w.cell? ⟨g, j, none⟩ = some (numV n)
theorem IntsAt.nil (w : World) (P : Nat → Prop) : IntsAt w P (.slice none 0 0) [] := .inl ⟨rfl, rfl⟩
theorem IntsAt.slice {w : World} {P : Nat → Prop} {v : Value} {l : List Nat} (h : IntsAt w P v l) : ∃ p cap, v = .slice p l.length cap := by
  rcases h with ⟨h1, h2⟩ | ⟨g, cap, hv, _⟩
  · exact ⟨none, 0, by rw [h1, h2]; rfl⟩
  · exact ⟨_, cap, hv⟩
theorem IntsAt.keep {w w' : World} {P P' : Nat → Prop} {v : Value} {l : List Nat} (h : IntsAt w P v l) (hP : ∀ g, P g → P' g ∧ w'.heap[g]? = w.heap[g]?) : IntsAt w' P' v l := by
  rcases h with h | ⟨g, cap, hv, hg, hc⟩
  · exact .inl h
  · exact .inr ⟨g, cap, hv, (hP g hg).1, fun j n hj => (World.cell?_of_block (a := ⟨g, j, none⟩) (hP g hg).2).trans (hc j n hj)⟩
theorem IntsAt.of_owns {w : World} {base : Nat} {v : Value} {l : List Nat} (h : w.ownsRow base 3 1 v l.length (l.map numV)) : IntsAt w (fun g => base ≤ g ∧ g < w.heap.size) v l := by
  have hh := h
  rcases h.2 with ⟨h1, h2⟩ | ⟨g, cap, cur, hv, hg, r⟩
  · exact .inl ⟨h1, List.length_eq_zero_iff.1 h2⟩
  · subst hv
    refine .inr ⟨g, cap, rfl, ⟨hg, (Array.getElem?_eq_some_iff.1 r.1).1⟩, fun j n hj => ?_⟩
    have := hh.cells (g := g) rfl j (numV n) (by rw [List.getElem?_map, hj]; rfl)
    rw [addr_add] at this
    simpa using this
theorem heap_two_first (w : World) (a b : Obj) : ((w.alloc a).alloc b).heap[w.heap.size]? = some a := by
  rw [Below.heap_alloc _ _ _ (by simp), heap_alloc_new]
theorem owns_slice {w : World} {base e size n : Nat} {v : Value} {xs : List Value} (h : w.ownsRow base e size v n xs) : ∃ p cap, v = .slice p n cap := by
  rcases h.2 with ⟨h1, h2⟩ | ⟨g, cap, cur, hv, _⟩
  · exact ⟨none, 0, by rw [h1, h2]⟩
  · exact ⟨_, cap, hv⟩
def ptF (place : Nat) (f : Fr) (L : Nat) : MP := if f.reached = true then ⟨place, true, f.lo.take L, f.stk.take f.depth⟩ else ⟨place, false, [], []⟩
def PointPost (m : MP) (w : World) (e : Ending) (w' : World) : Prop :=
  Below w.heap.size w w' ∧ ∃ v1 v2, e = .returned (.agg #[.int .i64 m.place, .bool m.reached, v1, v2]) ∧ IntsAt w' (fun g => w.heap.size ≤ g ∧ g < w'.heap.size) v1 m.lo ∧ IntsAt w' (fun g => w.heap.size ≤ g ∧ g < w'.heap.size) v2 m.st
end Go.Proofs.YtdmdpindonghdabDoor
namespace Go.Proofs.YtdmdpindonghdabDoor
open Go.RowKit
def letters (b : ByteArray) : Prop := ∀ c ∈ b.data.toList, c = 105 ∨ c = 114
theorem letters_append {a b : ByteArray} (ha : letters a) (hb : letters b) : letters (a ++ b) := by
  intro c hc
  rw [ByteArray.data_append, Array.toList_append, List.mem_append] at hc
  rcases hc with h | h
  · exact ha c h
  · exact hb c h
theorem letters_extract {a : ByteArray} (ha : letters a) (i j : Nat) : letters (a.extract i j) := by
  intro c hc
  rw [ByteArray.data_extract, Array.toList_extract] at hc
  exact ha c (List.mem_of_mem_drop (List.mem_of_mem_take hc))
theorem letters_pushes (op : Nat) : letters (pushesS op) := by
  intro c hc
  simp only [pushesS, pushesL] at hc
  split at hc
  · simp at hc; exact .inl hc
  · split at hc
    · simp at hc; exact .inr hc
    · simp at hc
/-- What is known of an image's instructions. -/
structure Wf (l : List Ins) (L : Nat) : Prop where
  pos : 0 < l.length
  len : l.length ≤ 120
  loc : L ≤ 4
  op : ∀ i ∈ l, i.op < 25
  num : ∀ i ∈ l, i.n < 256
  arg : ∀ i ∈ l, i.op = 7 ∨ i.op = 8 → i.n < L
  jump : ∀ i ∈ l, isJump i.op = true → 0 ≤ findP i.n l 0
  last : endsOk l = true
structure Okp (l : List Ins) (L : Nat) (p : Pt) : Prop where
  at_ : p.at_ < l.length
  lo : p.lo.size = L
  llo : letters p.lo
  lst : letters p.st
  st : p.st.size ≤ 8
def stepP (l : List Ins) (p : Pt) : Option (List Pt) :=
  match l[p.at_]? with
  | none => none
  | some i => if (afterV p.lo p.st i.op i.n).2.2 = false ∨ 8 < (afterV p.lo p.st i.op i.n).2.1.size then none else
    some ((if isJump i.op = true then [⟨(findP i.n l 0).toNat, (afterV p.lo p.st i.op i.n).1, (afterV p.lo p.st i.op i.n).2.1⟩] else []) ++
      (if i.op ≠ 0 ∧ i.op ≠ 19 then [⟨p.at_ + 1, (afterV p.lo p.st i.op i.n).1, (afterV p.lo p.st i.op i.n).2.1⟩] else []))
def initP (L : Nat) : Pt := ⟨0, (⟨#[105, 105, 105, 105]⟩ : ByteArray).extract 0 L, ⟨#[]⟩⟩
def ReachN (l : List Ins) (L : Nat) : Nat → Pt → Prop
  | 0, p => p = initP L
  | n + 1, p => ∃ q ss, ReachN l L n q ∧ stepP l q = some ss ∧ p ∈ ss
def Reach (l : List Ins) (L : Nat) (p : Pt) : Prop := ∃ n, ReachN l L n p
theorem Reach.init (l : List Ins) (L : Nat) : Reach l L (initP L) := ⟨0, rfl⟩
theorem Reach.step {l : List Ins} {L : Nat} {p q : Pt} {ss : List Pt} (h : Reach l L q) (hs : stepP l q = some ss) (hp : p ∈ ss) : Reach l L p := by
  obtain ⟨n, hn⟩ := h
  exact ⟨n + 1, q, ss, hn, hs, hp⟩
/-- Well typed code. -/
def WT (l : List Ins) (L : Nat) : Prop := (∀ p, Reach l L p → stepP l p ≠ none) ∧ (∀ p q i, Reach l L p → Reach l L q → p.at_ = q.at_ → l[p.at_]? = some i → clashB i p q = false)
theorem findP_lt (p : Nat) : ∀ (l : List Ins) (k : Nat), 0 ≤ findP p l k → findP p l k < (k : Int) + l.length ∧ (k : Int) ≤ findP p l k := by
  intro l
  induction l with
  | nil => intro k h; simp [findP] at h
  | cons a r ih =>
    intro k h
    simp only [findP] at *
    by_cases hp : a.place = p
    · rw [if_pos hp] at *; simp; omega
    · rw [if_neg hp] at *
      have := ih (k + 1) h
      simp only [List.length_cons]; omega
theorem after_ok {lo st : ByteArray} {op n L : Nat} (hlo : lo.size = L) (h1 : letters lo) (h2 : letters st) (hn : op = 7 ∨ op = 8 → n < L) (hs : (afterV lo st op n).2.2 = true) :
    (afterV lo st op n).1.size = L ∧ letters (afterV lo st op n).1 ∧ letters (afterV lo st op n).2.1 := by
  unfold afterV at *
  by_cases e7 : op = 7
  · simp only [if_pos e7]
    exact ⟨hlo, h1, letters_append h2 (letters_extract h1 _ _)⟩
  simp only [if_neg e7] at *
  by_cases e8 : op = 8
  · have hn' := hn (.inr e8)
    simp only [if_pos e8] at *
    by_cases hk : st.size < 1
    · simp only [if_pos hk] at hs; cases hs
    simp only [if_neg hk] at *
    refine ⟨?_, letters_append (letters_append (letters_extract h1 _ _) (letters_extract h2 _ _)) (letters_extract h1 _ _), letters_extract h2 _ _⟩
    simp only [ByteArray.size_append, ByteArray.size_extract]
    omega
  simp only [if_neg e8] at *
  by_cases e9 : op = 9
  · simp only [if_pos e9] at *
    by_cases hk : st.size < 1
    · simp only [if_pos hk] at hs; cases hs
    simp only [if_neg hk] at *
    exact ⟨hlo, h1, letters_append h2 (letters_extract h2 _ _)⟩
  simp only [if_neg e9] at *
  by_cases e10 : op = 10
  · simp only [if_pos e10] at *
    by_cases hk : st.size < 1
    · simp only [if_pos hk] at hs; cases hs
    simp only [if_neg hk] at *
    exact ⟨hlo, h1, letters_extract h2 _ _⟩
  simp only [if_neg e10] at *
  by_cases e11 : op = 11
  · simp only [if_pos e11] at *
    by_cases hk : st.size < 2
    · simp only [if_pos hk] at hs; cases hs
    simp only [if_neg hk] at *
    exact ⟨hlo, h1, letters_append (letters_append (letters_extract h2 _ _) (letters_extract h2 _ _)) (letters_extract h2 _ _)⟩
  simp only [if_neg e11] at *
  by_cases hk : st.size < (popsS op).size
  · simp only [if_pos hk] at hs; cases hs
  simp only [if_neg hk] at *
  by_cases hx : st.extract (st.size - (popsS op).size) st.size = popsS op
  · simp only [if_pos hx] at *
    exact ⟨hlo, h1, letters_append (letters_extract h2 _ _) (letters_pushes op)⟩
  · simp only [if_neg hx] at hs; cases hs
theorem stepP_eq {l : List Ins} {p : Pt} {i : Ins} (hi : l[p.at_]? = some i) : stepP l p = (if (afterV p.lo p.st i.op i.n).2.2 = false ∨ 8 < (afterV p.lo p.st i.op i.n).2.1.size then none else
    some ((if isJump i.op = true then [⟨(findP i.n l 0).toNat, (afterV p.lo p.st i.op i.n).1, (afterV p.lo p.st i.op i.n).2.1⟩] else []) ++
      (if i.op ≠ 0 ∧ i.op ≠ 19 then [⟨p.at_ + 1, (afterV p.lo p.st i.op i.n).1, (afterV p.lo p.st i.op i.n).2.1⟩] else []))) := by
  unfold stepP; rw [hi]
theorem step_ok {l : List Ins} {L : Nat} (hw : Wf l L) {p s : Pt} {ss : List Pt} (hp : Okp l L p) (h : stepP l p = some ss) (hs : s ∈ ss) : Okp l L s := by
  have hi : l[p.at_]? = some (l[p.at_]'hp.at_) := List.getElem?_eq_getElem hp.at_
  have hm : l[p.at_]'hp.at_ ∈ l := List.getElem_mem hp.at_
  rw [stepP_eq hi] at h
  by_cases hb : (afterV p.lo p.st (l[p.at_]'hp.at_).op (l[p.at_]'hp.at_).n).2.2 = false ∨ 8 < (afterV p.lo p.st (l[p.at_]'hp.at_).op (l[p.at_]'hp.at_).n).2.1.size
  · rw [if_pos hb] at h; cases h
  rw [if_neg hb] at h
  simp only [not_or, Bool.not_eq_false, Nat.not_lt] at hb
  obtain ⟨a1, a2, a3⟩ := after_ok hp.lo hp.llo hp.lst (hw.arg _ hm) hb.1
  simp only [Option.some.injEq] at h
  subst h
  rw [List.mem_append] at hs
  rcases hs with hs | hs
  · by_cases hj : isJump (l[p.at_]'hp.at_).op = true
    · rw [if_pos hj] at hs
      simp only [List.mem_singleton] at hs
      subst hs
      have h0 := hw.jump _ hm hj
      have h1 := findP_lt _ l 0 h0
      exact ⟨by simp only; omega, a1, a2, a3, hb.2⟩
    · rw [if_neg hj] at hs; simp at hs
  · by_cases hj : (l[p.at_]'hp.at_).op ≠ 0 ∧ (l[p.at_]'hp.at_).op ≠ 19
    · rw [if_pos hj] at hs
      simp only [List.mem_singleton] at hs
      subst hs
      refine ⟨?_, a1, a2, a3, hb.2⟩
      simp only
      rcases Nat.lt_or_ge (p.at_ + 1) l.length with h | h
      · exact h
      · exfalso
        have hlast := hw.last
        have e : p.at_ = l.length - 1 := by have := hp.at_; omega
        have h1 : lastOp l = (l[p.at_]'hp.at_).op := by
          unfold lastOp
          rw [List.getLast?_eq_getElem?, ← e, hi]
          rfl
        simp [endsOk, h1] at hlast
        omega
    · rw [if_neg hj] at hs; simp at hs
theorem init_ok {l : List Ins} {L : Nat} (hw : Wf l L) : Okp l L (initP L) := by
  have := hw.loc
  refine ⟨hw.pos, ?_, ?_, fun c hc => by simp [initP] at hc, by show 0 ≤ 8; omega⟩
  · show ((⟨#[105, 105, 105, 105]⟩ : ByteArray).extract 0 L).size = L
    rw [ByteArray.size_extract]
    show min L 4 - 0 = L
    omega
  · apply letters_extract
    intro c hc
    simp at hc
    exact .inl hc
theorem nodup_lt : ∀ (n : Nat) (l : List Nat), l.Nodup → (∀ x ∈ l, x < n) → l.length ≤ n := by
  intro n
  induction n with
  | zero => intro l _ h; cases l with
    | nil => simp
    | cons a r => exact absurd (h a (by simp)) (by omega)
  | succ n ih =>
    intro l hd h
    have h1 := ih (l.erase n) (hd.erase n) (fun x hx => by
      rw [hd.mem_erase_iff] at hx
      have := h x hx.2
      omega)
    have h2 : l.length ≤ (l.erase n).length + 1 := by
      by_cases hm : n ∈ l
      · rw [List.length_erase_of_mem hm]; omega
      · rw [List.erase_of_not_mem hm]; omega
    omega
def bits : List UInt8 → Nat
  | [] => 0
  | c :: r => (if c = 114 then 1 else 0) + 2 * bits r
theorem bits_lt : ∀ l : List UInt8, bits l < 2 ^ l.length
  | [] => by simp [bits]
  | c :: r => by
    have := bits_lt r
    simp only [bits, List.length_cons, Nat.pow_succ]
    split <;> omega
theorem bits_inj : ∀ a b : List UInt8, a.length = b.length → (∀ c ∈ a, c = 105 ∨ c = 114) → (∀ c ∈ b, c = 105 ∨ c = 114) → bits a = bits b → a = b
  | [], [], _, _, _, _ => rfl
  | [], _ :: _, h, _, _, _ => by simp at h
  | _ :: _, [], h, _, _, _ => by simp at h
  | c :: r, d :: s, h, ha, hb, e => by
    simp only [bits] at e
    have hc := ha c (by simp)
    have hd := hb d (by simp)
    have h1 := bits_inj r s (by simpa using h) (fun x hx => ha x (by simp [hx])) (fun x hx => hb x (by simp [hx]))
    have h105 : ¬ ((105 : UInt8) = 114) := by decide
    rcases hc with rfl | rfl <;> rcases hd with rfl | rfl
    · simp only [if_neg h105] at e
      rw [h1 (by omega)]
    · simp only [if_neg h105, if_true] at e; omega
    · simp only [if_neg h105, if_true] at e; omega
    · simp only [if_true] at e
      rw [h1 (by omega)]
def keyN (p : Pt) : Nat := p.at_ * 16 + bits p.lo.data.toList
theorem bits_small {l : List Ins} {L : Nat} (hw : Wf l L) {p : Pt} (hp : Okp l L p) : bits p.lo.data.toList < 16 := by
  have h := bits_lt p.lo.data.toList
  have e : p.lo.data.toList.length = L := hp.lo
  have := hw.loc
  rw [e] at h
  have : 2 ^ L ≤ 2 ^ 4 := Nat.pow_le_pow_right (by omega) this
  omega
theorem keyN_lt {l : List Ins} {L : Nat} (hw : Wf l L) {p : Pt} (hp : Okp l L p) : keyN p < 16 * l.length := by
  have := bits_small hw hp
  have := hp.at_
  unfold keyN; omega
theorem bytes_ext {a b : ByteArray} (h : a.data.toList = b.data.toList) : a = b := by
  cases a; cases b
  exact congrArg ByteArray.mk (Array.toList_inj.1 h)
theorem keyN_inj {l : List Ins} {L : Nat} (hw : Wf l L) {p q : Pt} (hp : Okp l L p) (hq : Okp l L q) (h : keyN p = keyN q) : p.at_ = q.at_ ∧ p.lo = q.lo := by
  have h1 := bits_small hw hp
  have h2 := bits_small hw hq
  unfold keyN at h
  refine ⟨by omega, bytes_ext (bits_inj _ _ ?_ hp.llo hq.llo (by omega))⟩
  have e1 : p.lo.data.toList.length = L := hp.lo
  have e2 : q.lo.data.toList.length = L := hq.lo
  omega
structure Base (l : List Ins) (L : Nat) (all : List Pt) : Prop where
  first : all[0]? = some (initP L)
  reach : ∀ p ∈ all, Reach l L p
  ok : ∀ p ∈ all, Okp l L p
  calm : ∀ p ∈ all, ∀ q ∈ all, p.at_ = q.at_ → ∀ i, l[p.at_]? = some i → clashB i p q = false
  nodup : (all.map keyN).Nodup
theorem Base.len {l : List Ins} {L : Nat} {all : List Pt} (hw : Wf l L) (h : Base l L all) : all.length ≤ 16 * l.length := by
  have := nodup_lt (16 * l.length) (all.map keyN) h.nodup (fun x hx => by
    obtain ⟨p, hp, rfl⟩ := List.mem_map.1 hx
    exact keyN_lt hw (h.ok p hp))
  simpa using this
theorem Base.init {l : List Ins} {L : Nat} (hw : Wf l L) : Base l L [initP L] := by
  refine ⟨rfl, fun p hp => ?_, fun p hp => ?_, fun p hp q hq _ i _ => ?_, by simp⟩
  · rw [List.mem_singleton] at hp; subst hp; exact Reach.init l L
  · rw [List.mem_singleton] at hp; subst hp; exact init_ok hw
  · rw [List.mem_singleton] at hp hq; subst hp; subst hq; simp [clashB]
theorem clash_comm (i : Ins) (p q : Pt) : clashB i p q = clashB i q p := by
  unfold clashB
  rw [Bool.eq_iff_iff]
  simp only [Bool.and_eq_true, beq_iff_eq, Bool.or_eq_true, Bool.not_eq_true', decide_eq_false_iff_not, beq_eq_false_iff_ne]
  constructor
  · rintro ⟨h1, h2⟩; exact ⟨h1.symm, h2.imp (fun h e => h e.symm) (fun h => ⟨h.1, fun e => h.2 e.symm⟩)⟩
  · rintro ⟨h1, h2⟩; exact ⟨h1.symm, h2.imp (fun h e => h e.symm) (fun h => ⟨h.1, fun e => h.2 e.symm⟩)⟩
theorem joined_no {l : List Ins} {L : Nat} {all : List Pt} {s : Pt} {i : Ins} (hb : Base l L all) (hs : Reach l L s) (hi : l[s.at_]? = some i) (h : (joinedP i all s).2 = false) : ¬ WT l L := by
  intro hwt
  unfold joinedP at h
  by_cases hc : all.any (clashB i s) = true
  · rw [List.any_eq_true] at hc
    obtain ⟨q, hq, hcl⟩ := hc
    have hat : s.at_ = q.at_ := by
      simp only [clashB, Bool.and_eq_true, beq_iff_eq] at hcl
      exact hcl.1.symm
    have := hwt.2 s q i hs (hb.reach q hq) hat hi
    rw [this] at hcl; cases hcl
  · rw [if_neg hc] at h
    by_cases hk : all.any (knownB s) = true
    · rw [if_pos hk] at h; cases h
    · rw [if_neg hk] at h; cases h
theorem joined_yes {l : List Ins} {L : Nat} (hw : Wf l L) {all : List Pt} {s : Pt} {i : Ins} (hb : Base l L all) (hs : Reach l L s) (ho : Okp l L s) (hi : l[s.at_]? = some i) (h : (joinedP i all s).2 = true) :
    Base l L (joinedP i all s).1 ∧ (∃ ext, (joinedP i all s).1 = all ++ ext) ∧ s ∈ (joinedP i all s).1 := by
  unfold joinedP at *
  by_cases hc : all.any (clashB i s) = true
  · rw [if_pos hc] at h; cases h
  rw [if_neg hc] at *
  have hcalm : ∀ q ∈ all, clashB i s q = false := by
    intro q hq
    cases e : clashB i s q
    · rfl
    · exact absurd (List.any_eq_true.2 ⟨q, hq, e⟩) hc
  by_cases hk : all.any (knownB s) = true
  · rw [if_pos hk]
    refine ⟨hb, ⟨[], by simp⟩, ?_⟩
    rw [List.any_eq_true] at hk
    obtain ⟨q, hq, hkn⟩ := hk
    simp only [knownB, Bool.and_eq_true, beq_iff_eq, decide_eq_true_eq] at hkn
    have h1 := hcalm q hq
    have h2 : q.st = s.st := by
      by_cases e : q.st = s.st
      · exact e
      · exfalso; simp [clashB, hkn.1, e] at h1
    have : q = s := by
      cases q; cases s
      simp only at hkn h2
      rw [hkn.1, hkn.2, h2]
    exact this ▸ hq
  · rw [if_neg hk]
    refine ⟨⟨?_, ?_, ?_, ?_, ?_⟩, ⟨[s], rfl⟩, by simp⟩
    · have := hb.first
      cases all with
      | nil => simp at this
      | cons a r => simpa using this
    · intro p hp
      rw [List.mem_append, List.mem_singleton] at hp
      rcases hp with hp | rfl
      · exact hb.reach p hp
      · exact hs
    · intro p hp
      rw [List.mem_append, List.mem_singleton] at hp
      rcases hp with hp | rfl
      · exact hb.ok p hp
      · exact ho
    · intro p hp q hq he j hj
      rw [List.mem_append, List.mem_singleton] at hp hq
      rcases hp with hp | rfl
      · rcases hq with hq | rfl
        · exact hb.calm p hp q hq he j hj
        · rw [he, hi] at hj
          cases hj
          rw [clash_comm]
          exact hcalm p hp
      · rw [hi] at hj
        cases hj
        rcases hq with hq | rfl
        · exact hcalm q hq
        · simp [clashB]
    · rw [List.map_append, List.nodup_append]
      refine ⟨hb.nodup, by simp, ?_⟩
      intro a ha b hb2 e
      simp only [List.map_cons, List.map_nil, List.mem_singleton] at hb2
      obtain ⟨q, hq, rfl⟩ := List.mem_map.1 ha
      subst hb2
      obtain ⟨e1, e2⟩ := keyN_inj hw (hb.ok q hq) ho e
      apply hk
      rw [List.any_eq_true]
      exact ⟨q, hq, by simp [knownB, e1, e2]⟩
/-- The points below k have been followed. -/
def Done (l : List Ins) (all : List Pt) (k : Nat) : Prop := ∀ j p, j < k → all[j]? = some p → ∃ ss, stepP l p = some ss ∧ ∀ s ∈ ss, s ∈ all
theorem Done.ext {l : List Ins} {all ext : List Pt} {k : Nat} (h : Done l all k) (hk : k ≤ all.length) : Done l (all ++ ext) k := by
  intro j p hj hp
  rw [List.getElem?_append_left (by omega)] at hp
  obtain ⟨ss, h1, h2⟩ := h j p hj hp
  exact ⟨ss, h1, fun s hs => List.mem_append_left _ (h2 s hs)⟩
theorem ways_end {l : List Ins} {L : Nat} {all : List Pt} (hb : Base l L all) (hd : Done l all all.length) : WT l L ∧ ∀ p, Reach l L p ↔ p ∈ all := by
  have hmem : ∀ n p, ReachN l L n p → p ∈ all := by
    intro n
    induction n with
    | zero => intro p hp; rw [show p = initP L from hp]; exact List.mem_of_getElem? hb.first
    | succ n ih =>
      rintro p ⟨q, ss, h1, h2, h3⟩
      obtain ⟨j, hj, rfl⟩ := List.getElem_of_mem (ih q h1)
      obtain ⟨ss', e1, e2⟩ := hd j _ hj (List.getElem?_eq_getElem hj)
      rw [h2] at e1
      cases e1
      exact e2 p h3
  have hiff : ∀ p, Reach l L p ↔ p ∈ all := fun p => ⟨fun ⟨n, hn⟩ => hmem n p hn, hb.reach p⟩
  refine ⟨⟨fun p hp => ?_, fun p q i hp hq he hi => ?_⟩, hiff⟩
  · obtain ⟨j, hj, rfl⟩ := List.getElem_of_mem ((hiff p).1 hp)
    obtain ⟨ss', e1, _⟩ := hd j _ hj (List.getElem?_eq_getElem hj)
    rw [e1]; simp
  · exact hb.calm p ((hiff p).1 hp) q ((hiff q).1 hq) he i hi
end Go.Proofs.YtdmdpindonghdabDoor
namespace Go.Proofs.YtdmdpindonghdabDoor
open Go.RowKit
theorem errOf_zero {s : ByteArray} (h : errOf s = 0) : shapedP s = true ∧ dec (textOf s) (byteAt s 1) 0 = some (codeOf s) ∧ jumpsOk (codeOf s) = true ∧ endsOk (codeOf s) = true := by
  unfold errOf at h
  cases hs : shapedP s
  · rw [hs] at h; simp at h
  · rw [hs] at h
    simp only [Bool.true_eq_false, if_false] at h
    cases hd : dec (textOf s) (byteAt s 1) 0 with
    | none => rw [hd] at h; simp at h
    | some l =>
      rw [hd] at h
      simp only at h
      have hc : codeOf s = l := by unfold codeOf; rw [hd]; rfl
      rw [hc]
      cases hj : jumpsOk l
      · rw [hj] at h; simp at h
      · cases he : endsOk l
        · rw [hj, he] at h; simp at h
        · exact ⟨rfl, rfl, rfl, rfl⟩
theorem wf_of {s : ByteArray} (h : errOf s = 0) : Wf (codeOf s) (byteAt s 1) := by
  obtain ⟨hs, hd, hj, he⟩ := errOf_zero h
  obtain ⟨⟨⟨h3, h4⟩, _⟩, h1⟩ : ((3 ≤ s.size ∧ s.size ≤ 122) ∧ byteAt s 0 = 84) ∧ byteAt s 1 ≤ 4 := by simpa [shapedP] using hs
  have hsz : (textOf s).size = s.size - 2 := by simp [textOf]
  obtain ⟨hg, hl⟩ := dec_good hd
  refine ⟨?_, by omega, h1, fun i hi => ?_, fun i hi => (hg i hi).2.1, fun i hi h => ?_, fun i hi h => ?_, he⟩
  · rcases Nat.eq_zero_or_pos (codeOf s).length with h | h
    · exfalso
      rw [List.length_eq_zero_iff.1 h] at he
      simp [endsOk, lastOp] at he
    · exact h
  · have := (hg i hi).1; omega
  · have := (hg i hi).2.2.2
    simp only [badN, Bool.or_eq_false_iff, Bool.and_eq_false_iff, decide_eq_false_iff_not, beq_eq_false_iff_ne] at this
    rcases this.1 with ⟨a, b⟩ | a
    · rcases h with h | h
      · exact absurd h a
      · exact absurd h b
    · omega
  · unfold jumpsOk at hj
    rw [List.all_eq_true] at hj
    have := hj i hi
    simp only [h, Bool.not_true, Bool.false_or, decide_eq_true_eq] at this
    exact this
/-- r is the error of the image. -/
def IsErr (s : ByteArray) (r : Nat) : Prop := (errOf s ≠ 0 ∧ r = errOf s) ∨ (errOf s = 0 ∧ WT (codeOf s) (byteAt s 1) ∧ r = 0) ∨ (errOf s = 0 ∧ ¬ WT (codeOf s) (byteAt s 1) ∧ r = 5)
theorem IsErr.unique {s : ByteArray} {r r' : Nat} (h : IsErr s r) (h' : IsErr s r') : r = r' := by
  rcases h with ⟨a, b⟩ | ⟨a, b, c⟩ | ⟨a, b, c⟩ <;> rcases h' with ⟨a', b'⟩ | ⟨a', b', c'⟩ | ⟨a', b', c'⟩
  · omega
  · exact absurd a' a
  · exact absurd a' a
  · exact absurd a a'
  · omega
  · exact absurd b b'
  · exact absurd a a'
  · exact absurd b' b
  · omega
end Go.Proofs.YtdmdpindonghdabDoor
namespace Go.Proofs.YtdmdpindonghdabDoor
open Go.RowKit
def code8 (c : UInt8) : Nat := kindN c.toNat
def letter (c : UInt8) : Prop := c = 105 ∨ c = 114
theorem code8_inj {c d : UInt8} (hc : letter c) (hd : letter d) (h : code8 c = code8 d) : c = d := by
  rcases hc with rfl | rfl <;> rcases hd with rfl | rfl
  · rfl
  · exact absurd h (by decide)
  · exact absurd h (by decide)
  · rfl
theorem code8_le (c : UInt8) : code8 c ≤ 1 := by unfold code8 kindN; split <;> omega
theorem nil_or_snoc {α : Type} (s : List α) : s = [] ∨ ∃ s0 d, s = s0 ++ [d] := by
  rcases List.eq_nil_or_concat s with h | ⟨a, b, h⟩
  · exact .inl h
  · exact .inr ⟨a, b, by rw [h, List.concat_eq_append]⟩
/-- The frame's stack holds s. -/
structure Stk (f : Fr) (s : List UInt8) : Prop where
  le : s.length ≤ 8
  depth : f.depth = s.length
  stk : f.stk = s.map code8 ++ List.replicate (8 - s.length) 0
theorem pop_nil {f : Fr} (h : Stk f []) : (popF f).1.wrong = true := by
  unfold popF; rw [if_pos (show f.depth = 0 from h.depth)]; rfl
theorem pop_snoc {f : Fr} {s : List UInt8} {c : UInt8} (h : Stk f (s ++ [c])) :
    Stk (popF f).1 s ∧ (popF f).2 = code8 c ∧ (popF f).1.lo = f.lo ∧ (popF f).1.wrong = f.wrong := by
  have hd : f.depth = s.length + 1 := by simpa using h.depth
  have hle : s.length + 1 ≤ 8 := by simpa using h.le
  unfold popF
  rw [if_neg (by omega), hd, h.stk]
  simp only [Nat.add_sub_cancel, List.map_append, List.map_cons, List.map_nil, List.length_append, List.length_cons, List.length_nil]
  refine ⟨⟨by omega, rfl, ?_⟩, ?_, trivial, trivial⟩
  · simp only
    rw [List.append_assoc, List.set_append_right _ _ (by simp), show 8 - s.length = (8 - (s.length + 1)) + 1 by omega, List.replicate_succ]
    simp
  · simp [List.getD_eq_getElem?_getD]
theorem stk_full {f : Fr} {s : List UInt8} (h : Stk f s) (h8 : s.length = 8) (k : Nat) : (pushF f k).wrong = true := by
  unfold pushF; rw [if_pos (by rw [h.depth, h8])]; rfl
theorem stk_room {f : Fr} {s : List UInt8} (h : Stk f s) (h8 : s.length < 8) (c : UInt8) :
    Stk (pushF f (code8 c)) (s ++ [c]) ∧ (pushF f (code8 c)).lo = f.lo ∧ (pushF f (code8 c)).wrong = f.wrong := by
  unfold pushF
  rw [if_neg (by rw [h.depth]; omega), h.depth, h.stk]
  refine ⟨⟨by simp; omega, by simp, ?_⟩, rfl, rfl⟩
  simp only [List.map_append, List.map_cons, List.map_nil, List.length_append, List.length_cons, List.length_nil]
  rw [List.set_append_right _ _ (by simp), show 8 - s.length = (8 - (s.length + 1)) + 1 by omega, List.replicate_succ]
  simp
theorem popF_wrong {f : Fr} (h : f.wrong = true) : (popF f).1.wrong = true := by
  unfold popF
  by_cases hd : f.depth = 0
  · rw [if_pos hd]; rfl
  · rw [if_neg hd]; exact h
theorem pushF_wrong {f : Fr} (h : f.wrong = true) (k : Nat) : (pushF f k).wrong = true := by
  unfold pushF
  by_cases hd : f.depth = 8
  · rw [if_pos hd]; rfl
  · rw [if_neg hd]; exact h
theorem popR_wrong : ∀ (r : List Nat) {f : Fr}, f.wrong = true → (popR f r).wrong = true
  | [], _, h => h
  | c :: r, f, h => by
    simp only [popR]
    apply popR_wrong r
    by_cases hk : (popF f).2 = kindN c
    · rw [if_pos hk]; exact popF_wrong h
    · rw [if_neg hk]; rfl
theorem pushR_wrong : ∀ (r : List Nat) {f : Fr}, f.wrong = true → (pushR f r).wrong = true
  | [], _, h => h
  | c :: r, f, h => by
    simp only [pushR]
    exact pushR_wrong r (pushF_wrong h _)
theorem popR_both : ∀ (r : List UInt8) (f : Fr) (s : List UInt8), (∀ c ∈ r, letter c) → Stk f s → f.wrong = false → (∀ c ∈ s, letter c) →
    (∃ s', s = s' ++ r.reverse ∧ Stk (popR f (r.map UInt8.toNat)) s' ∧ (popR f (r.map UInt8.toNat)).wrong = false ∧ (popR f (r.map UInt8.toNat)).lo = f.lo) ∨
    ((¬ ∃ s', s = s' ++ r.reverse) ∧ (popR f (r.map UInt8.toNat)).wrong = true)
  | [], f, s, _, hs, hw, _ => .inl ⟨s, by simp, hs, hw, rfl⟩
  | c :: r, f, s, hr, hs, hw, hl => by
    simp only [List.map_cons, popR, List.reverse_cons]
    rcases nil_or_snoc s with rfl | ⟨s0, d, rfl⟩
    · refine .inr ⟨?_, popR_wrong _ ?_⟩
      · rintro ⟨s', h⟩
        have := congrArg List.length h
        simp at this
      · split
        · exact pop_nil hs
        · rfl
    · obtain ⟨h1, h2, h3, h4⟩ := pop_snoc hs
      by_cases hk : (popF f).2 = kindN c.toNat
      · rw [if_pos hk]
        have hdc : d = c := code8_inj (hl d (by simp)) (hr c (by simp)) (by rw [← h2, hk]; rfl)
        subst hdc
        rcases popR_both r (popF f).1 s0 (fun x hx => hr x (by simp [hx])) h1 (h4.trans hw) (fun x hx => hl x (by simp [hx])) with ⟨s', e, a, b, l⟩ | ⟨e, a⟩
        · exact .inl ⟨s', by rw [e]; simp, a, b, l.trans h3⟩
        · refine .inr ⟨?_, a⟩
          rintro ⟨s', h⟩
          apply e
          rw [← List.append_assoc] at h
          exact ⟨s', (List.append_inj' h rfl).1⟩
      · rw [if_neg hk]
        refine .inr ⟨?_, popR_wrong _ rfl⟩
        rintro ⟨s', h⟩
        rw [← List.append_assoc] at h
        have := (List.append_inj' h rfl).2
        simp only [List.cons.injEq, and_true] at this
        apply hk
        rw [h2, this]; rfl
theorem pushR_both : ∀ (r : List UInt8) (f : Fr) (s : List UInt8), Stk f s →
    (s.length + r.length ≤ 8 ∧ Stk (pushR f (r.map UInt8.toNat)) (s ++ r) ∧ (pushR f (r.map UInt8.toNat)).wrong = f.wrong ∧ (pushR f (r.map UInt8.toNat)).lo = f.lo) ∨
    (8 < s.length + r.length ∧ (pushR f (r.map UInt8.toNat)).wrong = true)
  | [], f, s, hs => .inl ⟨by simpa using hs.le, by simpa [pushR] using hs, rfl, rfl⟩
  | c :: r, f, s, hs => by
    simp only [List.map_cons, pushR, List.length_cons]
    by_cases h8 : s.length = 8
    · exact .inr ⟨by omega, pushR_wrong _ (stk_full hs h8 _)⟩
    · obtain ⟨h1, h2, h3⟩ := stk_room hs (by have := hs.le; omega) c
      rcases pushR_both r _ _ h1 with ⟨a, b, d, e⟩ | ⟨a, b⟩
      · refine .inl ⟨by simp at a; omega, ?_, d.trans h3, e.trans h2⟩
        rw [List.append_assoc] at b
        exact b
      · exact .inr ⟨by simp at a; omega, b⟩
def tl (b : ByteArray) : List UInt8 := b.data.toList
theorem tl_len (b : ByteArray) : (tl b).length = b.size := rfl
theorem tl_append (a b : ByteArray) : tl (a ++ b) = tl a ++ tl b := by unfold tl; rw [ByteArray.data_append, Array.toList_append]
theorem tl_extract (a : ByteArray) (i j : Nat) : tl (a.extract i j) = ((tl a).drop i).take (j - i) := by
  unfold tl; rw [ByteArray.data_extract, Array.toList_extract]
theorem tl_inj {a b : ByteArray} (h : tl a = tl b) : a = b := bytes_ext h
theorem tl_get {b : ByteArray} {n : Nat} (h : n < b.size) : ∃ c, (tl b)[n]? = some c ∧ byteAt b n = c.toNat ∧ tl (b.extract n (n + 1)) = [c] := by
  have h' : n < (tl b).length := h
  refine ⟨(tl b)[n], List.getElem?_eq_getElem h', ?_, ?_⟩
  · unfold byteAt; show ((tl b).getD n 0).toNat = _
    rw [List.getD_eq_getElem?_getD, List.getElem?_eq_getElem h']; rfl
  · rw [tl_extract, List.drop_eq_getElem_cons h', show n + 1 - n = 1 by omega]; rfl
theorem tl_last {b : ByteArray} {s : List UInt8} {c : UInt8} (h : tl b = s ++ [c]) : b.size = s.length + 1 ∧ tl (b.extract (b.size - 1) b.size) = [c] ∧ tl (b.extract 0 (b.size - 1)) = s ∧ byteAt b (b.size - 1) = c.toNat := by
  have hz : b.size = s.length + 1 := by rw [← tl_len, h]; simp
  refine ⟨hz, ?_, ?_, ?_⟩
  · rw [tl_extract, h, hz, show s.length + 1 - 1 = s.length by omega, List.drop_left, show s.length + 1 - s.length = 1 by omega]; rfl
  · rw [tl_extract, h, hz, show s.length + 1 - 1 - 0 = s.length by omega]; simp
  · unfold byteAt; show ((tl b).getD _ 0).toNat = _
    rw [h, hz]; simp [List.getD_eq_getElem?_getD]
/-- The types of the locals behind an instruction, as a frame has them. -/
def loAft (lo : List Nat) (st : ByteArray) (op n : Nat) : List Nat := if op = 8 then lo.set n (kindN (byteAt st (st.size - 1))) else lo
structure Ago (f : Fr) (lo st : ByteArray) (op n : Nat) : Prop where
  ok : (afterV lo st op n).2.2 = true
  sm : (afterV lo st op n).2.1.size ≤ 8
  wr : (afterF f op n).wrong = false
  sk : Stk (afterF f op n) (tl (afterV lo st op n).2.1)
  fl : (afterF f op n).lo = loAft f.lo st op n
  lv : (afterV lo st op n).1 = (if op = 8 then lo.extract 0 n ++ st.extract (st.size - 1) st.size ++ lo.extract (n + 1) lo.size else lo)
  pos : op = 8 → 1 ≤ st.size
def Abad (f : Fr) (lo st : ByteArray) (op n : Nat) : Prop := ((afterV lo st op n).2.2 = false ∨ 8 < (afterV lo st op n).2.1.size) ∧ (afterF f op n).wrong = true
theorem letters_pops (op : Nat) : ∀ c ∈ popsL op, letter c := by
  intro c hc
  unfold popsL at hc
  unfold letter
  split at hc
  · simp at hc; exact .inl hc
  split at hc
  · simp at hc; exact .inl hc
  split at hc
  · simp at hc; exact .inr hc
  split at hc
  · simp at hc; exact .inr hc
  split at hc
  · simp at hc; exact hc.symm
  · simp at hc
theorem aft_both {f : Fr} {lo st : ByteArray} {op n : Nat} (hs : Stk f (tl st)) (hw : f.wrong = false) (hl : letters st) (hn : op = 7 ∨ op = 8 → n < lo.size) (h4 : lo.size ≤ 4)
    (h7 : op = 7 → f.lo.getD n 0 = kindN (byteAt lo n)) : Ago f lo st op n ∨ Abad f lo st op n := by
  by_cases e7 : op = 7
  · subst e7
    have hn' := hn (.inl rfl)
    obtain ⟨c, _, hc2, hc3⟩ := tl_get hn'
    have hv : afterV lo st 7 n = (lo, st ++ lo.extract n (n + 1), true) := by simp [afterV]
    have hk : f.lo.getD n 0 = code8 c := by rw [h7 rfl, hc2]; rfl
    have hf : afterF f 7 n = pushF f (code8 c) := by
      have : afterF f 7 n = loadF f n := by simp [afterF]
      rw [this]
      unfold loadF
      have := code8_le c
      rw [if_neg (by omega), hk, if_neg (by omega)]
    have ht : tl (afterV lo st 7 n).2.1 = tl st ++ [c] := by rw [hv]; show tl (st ++ _) = _; rw [tl_append, hc3]
    have hz : (afterV lo st 7 n).2.1.size = (tl st).length + 1 := by rw [← tl_len, ht]; simp
    by_cases h8 : (tl st).length = 8
    · exact .inr ⟨.inr (by omega), by rw [hf]; exact stk_full hs h8 _⟩
    · obtain ⟨a, b, d⟩ := stk_room hs (by have := hs.le; omega) c
      exact .inl ⟨by rw [hv], by have := hs.le; omega, by rw [hf, d, hw], by rw [hf, ht]; exact a, by rw [hf, b]; rfl, by rw [hv]; rfl, fun h => absurd h (by decide)⟩
  by_cases e8 : op = 8
  · subst e8
    have hn' := hn (.inr rfl)
    have hf : afterF f 8 n = { (popF f).1 with lo := (popF f).1.lo.set n (popF f).2 } := by
      have : afterF f 8 n = storeF f n := by simp [afterF]
      rw [this]; unfold storeF; rw [if_neg (by omega)]
    rcases nil_or_snoc (tl st) with e | ⟨s0, d, e⟩
    · have hz : st.size = 0 := by rw [← tl_len, e]; rfl
      refine .inr ⟨.inl (by simp [afterV, hz]), ?_⟩
      rw [hf]; rw [e] at hs; exact pop_nil hs
    · obtain ⟨z, z1, z2, z3⟩ := tl_last e
      have hv : afterV lo st 8 n = (lo.extract 0 n ++ st.extract (st.size - 1) st.size ++ lo.extract (n + 1) lo.size, st.extract 0 (st.size - 1), true) := by
        have : ¬ st.size < 1 := by omega
        simp [afterV, this]
      rw [e] at hs
      obtain ⟨a, b, c, g⟩ := pop_snoc hs
      refine .inl ⟨by rw [hv], ?_, by rw [hf]; exact g.trans hw, ?_, ?_, by rw [hv]; rfl, fun _ => by omega⟩
      · rw [hv]; show (st.extract 0 (st.size - 1)).size ≤ 8
        rw [← tl_len, z2]; exact a.le
      · rw [hf, hv]; show Stk _ (tl (st.extract 0 (st.size - 1)))
        rw [z2]; exact ⟨a.le, a.depth, a.stk⟩
      · rw [hf]; unfold loAft; rw [if_pos rfl, z3, ← show code8 d = kindN d.toNat from rfl, ← b, ← c]
  have hlo : ∀ x, loAft x st op n = x := fun x => by unfold loAft; rw [if_neg e8]
  by_cases e9 : op = 9
  · subst e9
    have hf : afterF f 9 n = dupF f := by simp [afterF]
    rcases nil_or_snoc (tl st) with e | ⟨s0, d, e⟩
    · have hz : st.size = 0 := by rw [← tl_len, e]; rfl
      refine .inr ⟨.inl (by simp [afterV, hz]), ?_⟩
      rw [hf]; rw [e] at hs; exact pushF_wrong (pushF_wrong (pop_nil hs) _) _
    · obtain ⟨z, z1, z2, z3⟩ := tl_last e
      have hv : afterV lo st 9 n = (lo, st ++ st.extract (st.size - 1) st.size, true) := by
        have : ¬ st.size < 1 := by omega
        simp [afterV, this]
      have ht : tl (afterV lo st 9 n).2.1 = tl st ++ [d] := by rw [hv]; show tl (st ++ _) = _; rw [tl_append, z1]
      have hzz : (afterV lo st 9 n).2.1.size = (tl st).length + 1 := by rw [← tl_len, ht]; simp
      have hs' := hs
      rw [e] at hs
      obtain ⟨a, b, c, g⟩ := pop_snoc hs
      obtain ⟨a1, b1, c1⟩ := stk_room a (by have := hs.le; simp at this; omega) d
      rw [← e] at a1
      have hd2 : afterF f 9 n = pushF (pushF (popF f).1 (code8 d)) (code8 d) := by rw [hf]; unfold dupF; rw [b]
      by_cases h8 : (tl st).length = 8
      · exact .inr ⟨.inr (by omega), by rw [hd2]; exact stk_full a1 h8 _⟩
      · obtain ⟨a2, b2, c2⟩ := stk_room a1 (by have := hs'.le; omega) d
        exact .inl ⟨by rw [hv], by have := hs'.le; omega, by rw [hd2, c2, c1, g, hw], by rw [hd2, ht]; exact a2, by rw [hd2, b2, b1, c, hlo], by rw [hv]; rfl, fun h => absurd h (by decide)⟩
  by_cases e10 : op = 10
  · subst e10
    have hf : afterF f 10 n = (popF f).1 := by simp [afterF]
    rcases nil_or_snoc (tl st) with e | ⟨s0, d, e⟩
    · have hz : st.size = 0 := by rw [← tl_len, e]; rfl
      refine .inr ⟨.inl (by simp [afterV, hz]), ?_⟩
      rw [hf]; rw [e] at hs; exact pop_nil hs
    · obtain ⟨z, z1, z2, z3⟩ := tl_last e
      have hv : afterV lo st 10 n = (lo, st.extract 0 (st.size - 1), true) := by
        have : ¬ st.size < 1 := by omega
        simp [afterV, this]
      rw [e] at hs
      obtain ⟨a, b, c, g⟩ := pop_snoc hs
      refine .inl ⟨by rw [hv], ?_, by rw [hf, g, hw], ?_, by rw [hf, c, hlo], by rw [hv]; rfl, fun h => absurd h (by decide)⟩
      · rw [hv]; show (st.extract 0 (st.size - 1)).size ≤ 8
        rw [← tl_len, z2]; exact a.le
      · rw [hf, hv]; show Stk _ (tl (st.extract 0 (st.size - 1)))
        rw [z2]; exact a
  by_cases e11 : op = 11
  · subst e11
    have hf : afterF f 11 n = pushF (pushF (popF (popF f).1).1 (popF f).2) (popF (popF f).1).2 := by simp [afterF, swapF]
    rcases nil_or_snoc (tl st) with e | ⟨s0, d, e⟩
    · have hz : st.size = 0 := by rw [← tl_len, e]; rfl
      refine .inr ⟨.inl (by simp [afterV, hz]), ?_⟩
      rw [hf]; rw [e] at hs; exact pushF_wrong (pushF_wrong (popF_wrong (pop_nil hs)) _) _
    · obtain ⟨z, z1, z2, z3⟩ := tl_last e
      have hs' := hs
      rw [e] at hs
      obtain ⟨a, b, c, g⟩ := pop_snoc hs
      rcases nil_or_snoc s0 with e0 | ⟨s1, d1, e0⟩
      · have hz : st.size = 1 := by rw [z, e0]; rfl
        refine .inr ⟨.inl (by simp [afterV, hz]), ?_⟩
        rw [hf]; rw [e0] at a; exact pushF_wrong (pushF_wrong (pop_nil a) _) _
      · subst e0
        obtain ⟨a', b', c', g'⟩ := pop_snoc a
        have z' : st.size = s1.length + 2 := by rw [z]; simp
        have hv : afterV lo st 11 n = (lo, st.extract 0 (st.size - 2) ++ st.extract (st.size - 1) st.size ++ st.extract (st.size - 2) (st.size - 1), true) := by
          have : ¬ st.size < 2 := by omega
          simp [afterV, this]
        have y0 : tl (st.extract 0 (st.size - 2)) = s1 := by
          rw [tl_extract, e, z', show s1.length + 2 - 2 - 0 = s1.length by omega]; simp
        have y1 : tl (st.extract (st.size - 2) (st.size - 1)) = [d1] := by
          rw [tl_extract, e, z', show s1.length + 2 - 2 = s1.length by omega, show s1.length + 2 - 1 - s1.length = 1 by omega]; simp
        have ht : tl (afterV lo st 11 n).2.1 = s1 ++ [d] ++ [d1] := by rw [hv]; show tl (_ ++ _ ++ _) = _; rw [tl_append, tl_append, y0, z1, y1]
        have hzz : (afterV lo st 11 n).2.1.size = s1.length + 2 := by rw [← tl_len, ht]; simp
        have hl8 := hs'.le
        rw [tl_len] at hl8
        obtain ⟨a1, b1, c1⟩ := stk_room a' (by omega) d
        obtain ⟨a2, b2, c2⟩ := stk_room a1 (by simp; omega) d1
        have hd2 : afterF f 11 n = pushF (pushF (popF (popF f).1).1 (code8 d)) (code8 d1) := by rw [hf, b, b']
        exact .inl ⟨by rw [hv], by omega, by rw [hd2, c2, c1, g', g, hw], by rw [hd2, ht]; exact a2, by rw [hd2, b2, b1, c', c, hlo], by rw [hv]; rfl, fun h => absurd h (by decide)⟩
  have hf : afterF f op n = pushR (popR f (popsN op).reverse) (pushesN op) := by simp [afterF, e7, e8, e9, e10, e11]
  have hpr : (popsN op).reverse = (popsL op).reverse.map UInt8.toNat := by unfold popsN; rw [List.map_reverse]
  have hv0 : afterV lo st op n = (if st.size < (popsS op).size then (lo, st, false)
      else if st.extract (st.size - (popsS op).size) st.size = popsS op then (lo, st.extract 0 (st.size - (popsS op).size) ++ pushesS op, true) else (lo, st, false)) := by
    simp only [afterV, if_neg e7, if_neg e8, if_neg e9, if_neg e10, if_neg e11]
  have hps : tl (popsS op) = popsL op := by simp [tl, popsS]
  have hpz : (popsS op).size = (popsL op).length := by rw [← tl_len, hps]
  have hqs : tl (pushesS op) = pushesL op := by simp [tl, pushesS]
  rcases popR_both (popsL op).reverse f (tl st) (fun c hc => letters_pops op c (by simpa using hc)) hs hw hl with ⟨s', e, a, b, c⟩ | ⟨e, a⟩
  · rw [List.reverse_reverse] at e
    have hz : st.size = s'.length + (popsL op).length := by rw [← tl_len, e]; simp
    have hx : st.extract (st.size - (popsS op).size) st.size = popsS op := by
      apply tl_inj
      rw [tl_extract, e, hps, hz, hpz, show s'.length + (popsL op).length - (popsL op).length = s'.length by omega, List.drop_left, show s'.length + (popsL op).length - s'.length = (popsL op).length by omega, List.take_length]
    have hv : afterV lo st op n = (lo, st.extract 0 (st.size - (popsS op).size) ++ pushesS op, true) := by
      rw [hv0, if_neg (by omega), if_pos hx]
    have ht : tl (afterV lo st op n).2.1 = s' ++ pushesL op := by
      rw [hv]; show tl (_ ++ _) = _
      rw [tl_append, hqs, tl_extract, e, hz, hpz, show s'.length + (popsL op).length - (popsL op).length - 0 = s'.length by omega]; simp
    have hzz : (afterV lo st op n).2.1.size = s'.length + (pushesL op).length := by rw [← tl_len, ht]; simp
    have hfq : afterF f op n = pushR (popR f ((popsL op).reverse.map UInt8.toNat)) ((pushesL op).map UInt8.toNat) := by rw [hf, hpr]; rfl
    rcases pushR_both (pushesL op) _ _ a with ⟨a1, b1, c1, d1⟩ | ⟨a1, b1⟩
    · exact .inl ⟨by rw [hv], by omega, by rw [hfq, c1, b], by rw [hfq, ht]; exact b1, by rw [hfq, d1, c, hlo], by rw [hv]; simp [e8], fun h => absurd h e8⟩
    · exact .inr ⟨.inr (by omega), by rw [hfq]; exact b1⟩
  · refine .inr ⟨.inl ?_, ?_⟩
    · rw [hv0]
      by_cases hlt : st.size < (popsS op).size
      · rw [if_pos hlt]
      · rw [if_neg hlt]
        by_cases hx : st.extract (st.size - (popsS op).size) st.size = popsS op
        · exfalso
          apply e
          rw [List.reverse_reverse]
          have := congrArg tl hx
          rw [tl_extract, hps, show st.size - (st.size - (popsS op).size) = (popsS op).size by omega] at this
          rw [List.take_of_length_le (by rw [List.length_drop, tl_len]; omega)] at this
          refine ⟨(tl st).take (st.size - (popsS op).size), ?_⟩
          rw [← this, List.take_append_drop]
        · rw [if_neg hx]
    · rw [hf, hpr]; exact pushR_wrong _ a
theorem load_mixed {f : Fr} {n : Nat} (h : f.lo.getD n 0 = 2) : (afterF f 7 n).wrong = true := by
  have : afterF f 7 n = loadF f n := by simp [afterF]
  rw [this]; unfold loadF
  by_cases h4 : 4 ≤ n
  · rw [if_pos h4]; rfl
  · rw [if_neg h4, if_pos h]; exact pushF_wrong rfl _
end Go.Proofs.YtdmdpindonghdabDoor
namespace Go.Proofs.YtdmdpindonghdabDoor
open Go.RowKit
def joinN (a b : Nat) : Nat := if a = b then a else 2
theorem joinN_eq {a b : Nat} (h : a = b) : joinN a b = a := if_pos h
theorem joinN_ne {a b : Nat} (h : ¬ a = b) : joinN a b = 2 := if_neg h
set_option maxRecDepth 100000 in
set_option maxHeartbeats 1000000 in
theorem flowJoined_any (a0 a1 a2 a3 b0 b1 b2 b3 : Nat) (w : World) :
    Calls Tryd.prog 95 #[.agg #[.int .i64 a0, .int .i64 a1, .int .i64 a2, .int .i64 a3], .agg #[.int .i64 b0, .int .i64 b1, .int .i64 b2, .int .i64 b3]] w fun e w' =>
      e = .returned (.agg #[.int .i64 (joinN a0 b0 : Nat), .int .i64 (joinN a1 b1 : Nat), .int .i64 (joinN a2 b2 : Nat), .int .i64 (joinN a3 b3 : Nat)]) ∧ Below w.heap.size w w' := by
  go_enter Tryd.func95, Tryd.ntmps95
  go_wp2_with fail
  go_loopw [6] (fun i w' => ∃ (k x0 x1 x2 x3 : Nat), i = .int .i64 k ∧ k ≤ 4 ∧ w'.heap[w.heap.size]? = some (.cells #[.int .i64 x0, .int .i64 x1, .int .i64 x2, .int .i64 x3] 77) ∧
    Only w.heap.size (((w.alloc (.cells #[.int .i64 a0, .int .i64 a1, .int .i64 a2, .int .i64 a3] 77)).alloc (.cells #[.int .i64 b0, .int .i64 b1, .int .i64 b2, .int .i64 b3] 77)).alloc (.cells #[.int .i64 0, .int .i64 0, .int .i64 0, .int .i64 0] 77)) w' ∧
    x0 = (if 0 < k then joinN a0 b0 else a0) ∧ x1 = (if 1 < k then joinN a1 b1 else a1) ∧ x2 = (if 2 < k then joinN a2 b2 else a2) ∧ x3 = (if 3 < k then joinN a3 b3 else a3)) (fun i _ => 4 - (intOf i).toNat)
  case atStart => exact ⟨0, a0, a1, a2, a3, rfl, by omega, heap_three_first w _ _ _, Only.refl _ _, by simp, by simp, by simp, by simp⟩
  case round =>
    obtain ⟨k, x0, x1, x2, x3, rfl, hk, hrow, honly, v0, v1, v2, v3⟩ := hrel
    have hz := honly.size
    simp at hz
    have y0 := cell_of_row wr w.heap.size 0 _ _ _ hrow
    have y1 := cell_of_row wr w.heap.size 1 _ _ _ hrow
    have y2 := cell_of_row wr w.heap.size 2 _ _ _ hrow
    have y3 := cell_of_row wr w.heap.size 3 _ _ _ hrow
    have f0 := frozen_of_row wr w.heap.size 0 _ _ hrow
    have f1 := frozen_of_row wr w.heap.size 1 _ _ hrow
    have f2 := frozen_of_row wr w.heap.size 2 _ _ hrow
    have f3 := frozen_of_row wr w.heap.size 3 _ _ hrow
    have u0 := (honly.cell (k := w.heap.size + 1) (o := 0) (by omega)).trans (cell_three_second w _ _ _ _ 0)
    have u1 := (honly.cell (k := w.heap.size + 1) (o := 1) (by omega)).trans (cell_three_second w _ _ _ _ 1)
    have u2 := (honly.cell (k := w.heap.size + 1) (o := 2) (by omega)).trans (cell_three_second w _ _ _ _ 2)
    have u3 := (honly.cell (k := w.heap.size + 1) (o := 3) (by omega)).trans (cell_three_second w _ _ _ _ 3)
    simp only [List.getElem?_toArray, List.getElem?_cons_zero, List.getElem?_cons_succ] at y0 y1 y2 y3 u0 u1 u2 u3
    match k, hk with
    | 0, _ =>
      simp only [Nat.lt_irrefl, Nat.not_lt_zero, if_false] at v0 v1 v2 v3
      by_cases hq : a0 = b0
      · have hx := hid (joinN_eq hq)
        have hq' : ((x0 : Int) != (b0 : Int)) = false := by rw [v0]; simp; omega
        have V0 := hid v0
        have V1 := hid v1
        have V2 := hid v2
        have V3 := hid v3
        clear v0 v1 v2 v3 hq
        go_wp2_with fail
        go_quiet (fail)
        go_wp2_with fail
        exact ⟨⟨1, x0, x1, x2, x3, rfl, by omega, hrow, honly.drewN _, by rw [V0.out]; simp [hx.out], by rw [V1.out]; simp, by rw [V2.out]; simp, by rw [V3.out]; simp⟩, by simp [intOf]⟩
      · have hx := hid (joinN_ne hq)
        have hq' : ((x0 : Int) != (b0 : Int)) = true := by rw [v0]; simp; omega
        have V0 := hid v0
        have V1 := hid v1
        have V2 := hid v2
        have V3 := hid v3
        clear v0 v1 v2 v3 hq
        go_wp2_with fail
        go_quiet (fail)
        go_wp2_with fail
        exact ⟨⟨1, 2, x1, x2, x3, rfl, by omega, by have := setCell_row (w := wr.drewN nq) 0 (.int .i64 2) hrow; simpa using this, (honly.drewN _).set _ _, by simp [hx.out], by rw [V1.out]; simp, by rw [V2.out]; simp, by rw [V3.out]; simp⟩, by simp [intOf]⟩
    | 1, _ =>
      simp only [Nat.reduceLT, Nat.lt_irrefl, if_true, if_false] at v0 v1 v2 v3
      by_cases hq : a1 = b1
      · have hx := hid (joinN_eq hq)
        have hq' : ((x1 : Int) != (b1 : Int)) = false := by rw [v1]; simp; omega
        have V0 := hid v0
        have V1 := hid v1
        have V2 := hid v2
        have V3 := hid v3
        clear v0 v1 v2 v3 hq
        go_wp2_with fail
        go_quiet (fail)
        go_wp2_with fail
        exact ⟨⟨2, x0, x1, x2, x3, rfl, by omega, hrow, honly.drewN _, by rw [V0.out]; simp, by rw [V1.out]; simp [hx.out], by rw [V2.out]; simp, by rw [V3.out]; simp⟩, by simp [intOf]⟩
      · have hx := hid (joinN_ne hq)
        have hq' : ((x1 : Int) != (b1 : Int)) = true := by rw [v1]; simp; omega
        have V0 := hid v0
        have V1 := hid v1
        have V2 := hid v2
        have V3 := hid v3
        clear v0 v1 v2 v3 hq
        go_wp2_with fail
        go_quiet (fail)
        go_wp2_with fail
        exact ⟨⟨2, x0, 2, x2, x3, rfl, by omega, by have := setCell_row (w := wr.drewN nq) 1 (.int .i64 2) hrow; simpa using this, (honly.drewN _).set _ _, by rw [V0.out]; simp, by simp [hx.out], by rw [V2.out]; simp, by rw [V3.out]; simp⟩, by simp [intOf]⟩
    | 2, _ =>
      simp only [Nat.reduceLT, Nat.lt_irrefl, if_true, if_false] at v0 v1 v2 v3
      by_cases hq : a2 = b2
      · have hx := hid (joinN_eq hq)
        have hq' : ((x2 : Int) != (b2 : Int)) = false := by rw [v2]; simp; omega
        have V0 := hid v0
        have V1 := hid v1
        have V2 := hid v2
        have V3 := hid v3
        clear v0 v1 v2 v3 hq
        go_wp2_with fail
        go_quiet (fail)
        go_wp2_with fail
        exact ⟨⟨3, x0, x1, x2, x3, rfl, by omega, hrow, honly.drewN _, by rw [V0.out]; simp, by rw [V1.out]; simp, by rw [V2.out]; simp [hx.out], by rw [V3.out]; simp⟩, by simp [intOf]⟩
      · have hx := hid (joinN_ne hq)
        have hq' : ((x2 : Int) != (b2 : Int)) = true := by rw [v2]; simp; omega
        have V0 := hid v0
        have V1 := hid v1
        have V2 := hid v2
        have V3 := hid v3
        clear v0 v1 v2 v3 hq
        go_wp2_with fail
        go_quiet (fail)
        go_wp2_with fail
        exact ⟨⟨3, x0, x1, 2, x3, rfl, by omega, by have := setCell_row (w := wr.drewN nq) 2 (.int .i64 2) hrow; simpa using this, (honly.drewN _).set _ _, by rw [V0.out]; simp, by rw [V1.out]; simp, by simp [hx.out], by rw [V3.out]; simp⟩, by simp [intOf]⟩
    | 3, _ =>
      simp only [Nat.reduceLT, Nat.lt_irrefl, if_true, if_false] at v0 v1 v2 v3
      by_cases hq : a3 = b3
      · have hx := hid (joinN_eq hq)
        have hq' : ((x3 : Int) != (b3 : Int)) = false := by rw [v3]; simp; omega
        have V0 := hid v0
        have V1 := hid v1
        have V2 := hid v2
        have V3 := hid v3
        clear v0 v1 v2 v3 hq
        go_wp2_with fail
        go_quiet (fail)
        go_wp2_with fail
        exact ⟨⟨4, x0, x1, x2, x3, rfl, by omega, hrow, honly.drewN _, by rw [V0.out]; simp, by rw [V1.out]; simp, by rw [V2.out]; simp, by rw [V3.out]; simp [hx.out]⟩, by simp [intOf]⟩
      · have hx := hid (joinN_ne hq)
        have hq' : ((x3 : Int) != (b3 : Int)) = true := by rw [v3]; simp; omega
        have V0 := hid v0
        have V1 := hid v1
        have V2 := hid v2
        have V3 := hid v3
        clear v0 v1 v2 v3 hq
        go_wp2_with fail
        go_quiet (fail)
        go_wp2_with fail
        exact ⟨⟨4, x0, x1, x2, 2, rfl, by omega, by have := setCell_row (w := wr.drewN nq) 3 (.int .i64 2) hrow; simpa using this, (honly.drewN _).set _ _, by rw [V0.out]; simp, by rw [V1.out]; simp, by rw [V2.out]; simp, by simp [hx.out]⟩, by simp [intOf]⟩
    | 4, _ =>
      have hres := hid ((honly.block (w.heap.size + 1 + 1) (by omega)).trans (heap_three_third w _ _ _))
      have z0 := cell_of_row wr (w.heap.size + 1 + 1) 0 _ _ _ hres.out
      have z1 := cell_of_row wr (w.heap.size + 1 + 1) 1 _ _ _ hres.out
      have z2 := cell_of_row wr (w.heap.size + 1 + 1) 2 _ _ _ hres.out
      have z3 := cell_of_row wr (w.heap.size + 1 + 1) 3 _ _ _ hres.out
      have g0 := frozen_of_row wr (w.heap.size + 1 + 1) 0 _ _ hres.out
      have g1 := frozen_of_row wr (w.heap.size + 1 + 1) 1 _ _ hres.out
      have g2 := frozen_of_row wr (w.heap.size + 1 + 1) 2 _ _ hres.out
      have g3 := frozen_of_row wr (w.heap.size + 1 + 1) 3 _ _ hres.out
      simp only [List.getElem?_toArray, List.getElem?_cons_zero, List.getElem?_cons_succ] at z0 z1 z2 z3
      simp only [Nat.reduceLT, if_true] at v0 v1 v2 v3
      have V0 := hid v0
      have V1 := hid v1
      have V2 := hid v2
      have V3 := hid v3
      have hbw : Below w.heap.size w wr := (three_new w _ _ _).trans (honly.below (Nat.le_refl _))
      clear v0 v1 v2 v3
      go_wp2_with fail
      refine bodyPost_ret (v := .agg #[.int .i64 x0, .int .i64 x1, .int .i64 x2, .int .i64 x3]) (by simp [results, Tryd.results95, go_sem, *]) rfl ⟨by rw [V0.out, V1.out, V2.out, V3.out], ?_⟩
      exact (((hbw.setCell (by simp; omega) _).setCell (by simp; omega) _).setCell (by simp; omega) _).setCell (by simp; omega) _
end Go.Proofs.YtdmdpindonghdabDoor
namespace Go.Proofs.YtdmdpindonghdabDoor
open Go.RowKit
def codes (b : ByteArray) : List Nat := (tl b).map code8
theorem codes_len (b : ByteArray) : (codes b).length = b.size := by simp [codes, tl_len]
theorem codes_get {b : ByteArray} {n : Nat} (h : n < b.size) : (codes b).getD n 0 = kindN (byteAt b n) := by
  obtain ⟨c, c1, c2, _⟩ := tl_get h
  unfold codes
  rw [List.getD_eq_getElem?_getD, List.getElem?_map, c1, c2]
  rfl
/-- What is told so far: reached, locals, stack. -/
structure Ac where
  r : Bool
  lo : List Nat
  st : List Nat
def baseA (a : Ac) (p : Pt) : List Nat × List Nat := if a.r = true then (a.lo, a.st) else (codes p.lo, codes p.st)
def toldS (i : Nat) (a : Ac) (p : Pt) : Ac := if p.at_ = i then ⟨true, List.zipWith joinN (baseA a p).1 (codes p.lo), (baseA a p).2⟩ else a
def toldF (i : Nat) (all : List Pt) : Ac := all.foldl (toldS i) ⟨false, [], []⟩
theorem toldF_snoc (i : Nat) (all : List Pt) (k : Nat) (h : k < all.length) : toldF i (all.take (k + 1)) = toldS i (toldF i (all.take k)) all[k] := by
  unfold toldF
  rw [List.take_succ_eq_append_getElem h, List.foldl_append]; rfl
theorem toldF_len {L : Nat} (i : Nat) (all : List Pt) (h : ∀ p ∈ all, p.lo.size = L) : (toldF i all).r = true → (toldF i all).lo.length = L := by
  suffices hs : ∀ (all : List Pt) (a : Ac), (∀ p ∈ all, p.lo.size = L) → (a.r = true → a.lo.length = L) → (all.foldl (toldS i) a).r = true → (all.foldl (toldS i) a).lo.length = L from hs all _ h (by simp)
  intro all
  induction all with
  | nil => intro a _ ha; exact ha
  | cons p r ih =>
    intro a hp ha
    simp only [List.foldl_cons]
    refine ih _ (fun q hq => hp q (by simp [hq])) ?_
    have hpL := hp p (by simp)
    unfold toldS
    by_cases e : p.at_ = i
    · rw [if_pos e]
      intro _
      simp only [List.length_zipWith, codes_len, hpL]
      unfold baseA
      by_cases hr : a.r = true
      · rw [if_pos hr, ha hr]; simp
      · rw [if_neg hr]; simp [codes_len, hpL]
    · rw [if_neg e]; exact ha
theorem owns_keep {w w' : World} {base e size n : Nat} {v : Value} {xs : List Value} (h : w.ownsRow base e size v n xs) (hk : ∀ g, v.ownBlock = some g → w'.heap[g]? = w.heap[g]?) : w'.ownsRow base e size v n xs := by
  refine ⟨h.1, ?_⟩
  rcases h.2 with h2 | ⟨g, cap, cur, hv, hg, hh, r⟩
  · exact .inl h2
  · exact .inr ⟨g, cap, cur, hv, hg, by rw [hk g (by rw [hv]; rfl)]; exact hh, r⟩
theorem owns_put {w : World} {base N n c : Nat} {g cap : Nat} {x : List Nat} (h : w.ownsRow base 3 1 (.slice (some ⟨g, 0, none⟩) N cap) N (x.map numV)) : (w.setCell ⟨g, n, none⟩ (numV c)).ownsRow base 3 1 (.slice (some ⟨g, 0, none⟩) N cap) N ((x.set n c).map numV) := by
  have h1 := h.1
  refine ⟨by simpa using h1, ?_⟩
  rcases h.2 with ⟨h2, _⟩ | ⟨g', cap', cur, hv, hg, hh, r1, r2, r3, r4⟩
  · cases h2
  · cases hv
    refine .inr ⟨g, cap, cur.setIfInBounds n (numV c), rfl, hg, setCell_row n _ hh, r1, r2, by simpa using r3, ?_⟩
    rw [Array.toList_setIfInBounds, List.take_set, r4, List.map_set]
end Go.Proofs.YtdmdpindonghdabDoor
namespace Go.Proofs.YtdmdpindonghdabDoor
open Go.RowKit
structure CI where
  ins : Ins
  tg : Nat
def ciCells (l : List CI) : List Value := l.flatMap fun i => [.int .i64 i.ins.place, .int .i64 i.ins.op, .int .i64 i.ins.n, .int .i64 i.tg]
theorem ciCells_len (l : List CI) : (ciCells l).length = l.length * 4 := by
  induction l with
  | nil => rfl
  | cons a r ih => simp only [ciCells, List.flatMap_cons, List.length_append, List.length_cons, List.length_nil] at *; omega
theorem ciCells_snoc (l : List CI) (i : CI) : ciCells (l ++ [i]) = ciCells l ++ [.int .i64 i.ins.place, .int .i64 i.ins.op, .int .i64 i.ins.n, .int .i64 i.tg] := by simp [ciCells]
theorem ciCells_at (l : List CI) (k : Nat) (h : k < l.length) : (ciCells l)[k * 4]? = some (.int .i64 l[k].ins.place) ∧ (ciCells l)[k * 4 + 1]? = some (.int .i64 l[k].ins.op) ∧ (ciCells l)[k * 4 + 2]? = some (.int .i64 l[k].ins.n) ∧ (ciCells l)[k * 4 + 3]? = some (.int .i64 l[k].tg) := by
  induction l generalizing k with
  | nil => simp at h
  | cons a r ih =>
    cases k with
    | zero => simp [ciCells]
    | succ k =>
      have := ih k (by simpa using h)
      have e0 : (k + 1) * 4 = k * 4 + 4 := by omega
      have e1 : (k + 1) * 4 + 1 = k * 4 + 1 + 4 := by omega
      have e2 : (k + 1) * 4 + 2 = k * 4 + 2 + 4 := by omega
      have e3 : (k + 1) * 4 + 3 = k * 4 + 3 + 4 := by omega
      have hc : ∀ j, (ciCells (a :: r))[j + 4]? = (ciCells r)[j]? := fun j => by simp [ciCells]
      rw [e3, e2, e1, e0, hc, hc, hc, hc]
      simpa using this
def CiAt (w : World) (g : Nat) (l : List CI) : Prop :=
  ∀ (i : Nat) (c : CI), l[i]? = some c → w.cell? ⟨g, i * 4, none⟩ = some (.int .i64 c.ins.place) ∧ w.cell? ⟨g, i * 4 + 1, none⟩ = some (.int .i64 c.ins.op) ∧ w.cell? ⟨g, i * 4 + 2, none⟩ = some (.int .i64 c.ins.n) ∧ w.cell? ⟨g, i * 4 + 3, none⟩ = some (.int .i64 c.tg)
theorem CiAt.below {w w' : World} {g B : Nat} {l : List CI} (h : CiAt w g l) (hb : Below B w w') (hg : g < B) : CiAt w' g l := by
  intro i c hi
  obtain ⟨h0, h1, h2, h3⟩ := h i c hi
  exact ⟨(hb.cell (p := ⟨g, i * 4, none⟩) hg).trans h0, (hb.cell (p := ⟨g, i * 4 + 1, none⟩) hg).trans h1, (hb.cell (p := ⟨g, i * 4 + 2, none⟩) hg).trans h2, (hb.cell (p := ⟨g, i * 4 + 3, none⟩) hg).trans h3⟩
theorem CiAt.of_owns {w : World} {base e g n cap : Nat} {l : List CI} (h : w.ownsRow base e 4 (.slice (some ⟨g, 0, none⟩) n cap) l.length (ciCells l)) : CiAt w g l := by
  intro i c hi
  obtain ⟨hl, rfl⟩ := List.getElem?_eq_some_iff.1 hi
  have hc := h.cells (g := g) rfl
  obtain ⟨a0, a1, a2, a3⟩ := ciCells_at l i hl
  have h0 := hc _ _ a0
  have h1 := hc _ _ a1
  have h2 := hc _ _ a2
  have h3 := hc _ _ a3
  rw [addr_add] at h0 h1 h2 h3
  exact ⟨h0, h1, h2, h3⟩
theorem CiAt.same {w w' : World} {g : Nat} {l : List CI} (h : CiAt w g l) (hb : w'.heap[g]? = w.heap[g]?) : CiAt w' g l := by
  have hc : ∀ o, w'.cell? ⟨g, o, none⟩ = w.cell? ⟨g, o, none⟩ := fun o => World.cell?_of_block (a := ⟨g, o, none⟩) hb
  intro i c hi
  obtain ⟨h0, h1, h2, h3⟩ := h i c hi
  exact ⟨(hc _).trans h0, (hc _).trans h1, (hc _).trans h2, (hc _).trans h3⟩
def plain (i : Ins) : CI := ⟨i, 0⟩
def plains (l : List Ins) : List CI := l.map plain
theorem plains_len (l : List Ins) : (plains l).length = l.length := by simp [plains]
theorem plains_snoc (l : List Ins) (i : Ins) : plains (l ++ [i]) = plains l ++ [⟨i, 0⟩] := by simp [plains, plain]
/-- The index that a jump aims at. -/
def aimOf (l : List Ins) (i : Ins) : Nat := if isJump i.op = true then (findP i.n l 0).toNat else 0
def aims (l : List Ins) : List CI := l.map fun i => ⟨i, aimOf l i⟩
theorem aims_len (l : List Ins) : (aims l).length = l.length := by simp [aims]
end Go.Proofs.YtdmdpindonghdabDoor
namespace Go.Proofs.YtdmdpindonghdabDoor
open Go.RowKit
set_option maxRecDepth 100000 in
set_option maxHeartbeats 400000 in
theorem shaped_any (s : ByteArray) (w : World) (hs : s.size ≤ maxLen) :
    Calls Tryd.prog 82 #[.string s] w fun e w' => e = .returned (.bool (shapedP s)) ∧ w' = w := by
  unfold maxLen at hs
  generalize hS : shapedP s = S
  have HS := hid hS
  clear hS
  have b0 := byteAt_lt s 0
  have b1 := byteAt_lt s 1
  by_cases h3 : s.size < 3
  · have HF : Hid (S = false) := hid (by rw [← HS.out]; simp [shapedP]; omega)
    go_enter Tryd.func82, Tryd.ntmps82
    go_wp2
    go_ret
    exact ⟨ret_bool HF.out.symm, rfl⟩
  by_cases h4 : 122 < s.size
  · have HF : Hid (S = false) := hid (by rw [← HS.out]; simp [shapedP]; omega)
    go_enter Tryd.func82, Tryd.ntmps82
    go_wp2
    go_ret
    exact ⟨ret_bool HF.out.symm, rfl⟩
  have e0 := byteAt_eq s 0 (by omega)
  have e1 := byteAt_eq s 1 (by omega)
  have d1 : decide ((s.size : Int) ≤ 2) = false := by simp; omega
  have d2 : decide (122 < (s.size : Int)) = false := by simp; omega
  by_cases h5 : byteAt s 0 = 84
  · have h5' : (((byteAt s 0 : Nat) : Int) == 84) = true := by simp; omega
    have HF : Hid (S = decide ((byteAt s 1 : Int) ≤ 4)) := hid (by
      rw [← HS.out, Bool.eq_iff_iff]; simp [shapedP, h5]; omega)
    clear h5
    go_enter Tryd.func82, Tryd.ntmps82
    go_wp2
    go_ret
    exact ⟨ret_bool HF.out.symm, rfl⟩
  · have h5' : (((byteAt s 0 : Nat) : Int) == 84) = false := by simp; omega
    have HF : Hid (S = false) := hid (by rw [← HS.out]; simp [shapedP, h5])
    clear h5
    go_enter Tryd.func82, Tryd.ntmps82
    go_wp2
    go_ret
    exact ⟨ret_bool HF.out.symm, rfl⟩
set_option maxRecDepth 100000 in
set_option maxHeartbeats 400000 in
theorem hasOperand_any (k : Nat) (w : World) :
    Calls Tryd.prog 92 #[.int .i64 k] w fun e w' => e = .returned (.bool (takesB k)) ∧ w' = w := by
  generalize hS : takesB k = S
  have HS := hid hS
  clear hS
  go_enter Tryd.func92, Tryd.ntmps92
  go_wp2
  all_goals go_ret
  all_goals simp only [beq_iff_eq, beq_eq_false_iff_ne, ne_eq] at *
  all_goals exact ⟨ret_bool (by rw [← HS.out]; simp [takesB]; omega), by first | rfl | trivial⟩
set_option maxRecDepth 100000 in
set_option maxHeartbeats 400000 in
theorem operandFits_any (pl tg x : Int) (op n locals : Nat) (w : World) (hx : x = (n : Int)) :
    Calls Tryd.prog 93 #[.agg #[.int .i64 pl, .int .i64 op, .int .i64 x, .int .i64 tg], .int .i64 locals] w fun e w' => e = .returned (.bool (!badN op n locals)) ∧ Below w.heap.size w w' := by
  subst hx
  generalize hS : badN op n locals = S
  have HS := hid hS
  clear hS
  by_cases h1 : op = 7 ∨ op = 8
  · have HF : Hid ((!S) = decide (n < locals)) := hid (by
      rw [← HS.out, Bool.eq_iff_iff]; simp [badN]; omega)
    go_enter Tryd.func93, Tryd.ntmps93
    go_wp2
    all_goals go_ret
    all_goals exact ⟨ret_bool (by rw [HF.out]), (Below.refl _ _).alloc (Nat.le_refl _) _⟩
  by_cases h2 : op = 14 ∨ op = 15
  · have HF : Hid ((!S) = decide ((n : Int) ≤ 1)) := hid (by
      rw [← HS.out, Bool.eq_iff_iff]; simp [badN]; omega)
    go_enter Tryd.func93, Tryd.ntmps93
    go_wp2
    all_goals go_ret
    all_goals exact ⟨ret_bool (by rw [HF.out]), (Below.refl _ _).alloc (Nat.le_refl _) _⟩
  · have HF : Hid ((!S) = true) := hid (by rw [← HS.out]; simp [badN]; omega)
    go_enter Tryd.func93, Tryd.ntmps93
    go_wp2
    all_goals go_ret
    all_goals exact ⟨ret_bool (by rw [HF.out]), (Below.refl _ _).alloc (Nat.le_refl _) _⟩
end Go.Proofs.YtdmdpindonghdabDoor
namespace Go.Proofs.YtdmdpindonghdabDoor
open Go.RowKit
theorem Tryd.infoCI : (Tryd.prog.info? 87).map (fun i => (i.zero, i.size, i.bytes)) = some (some (.agg #[.int .i64 0, .int .i64 0, .int .i64 0, .int .i64 0]), 4, 32) := by kernel_rfl
theorem instr_below {wr w2 : World} {o : Obj} (hb : Below (wr.alloc o).heap.size (wr.alloc o) w2) : Below (wr.heap.size + 1) (wr.alloc o) w2 := hb.mono (by simp)
def InstrPost (t : ByteArray) (L : Nat) (w : World) (e : Ending) (w' : World) : Prop :=
  Below w.heap.size w w' ∧ ((dec t L 0 = none ∧ e = .returned (.tuple #[.slice none 0 0, .bool false])) ∨
    (∃ ls g cap, dec t L 0 = some ls ∧ 0 < ls.length ∧ ls.length ≤ t.size ∧ e = .returned (.tuple #[.slice (some ⟨g, 0, none⟩) ls.length cap, .bool true]) ∧ w.heap.size ≤ g ∧ g < w'.heap.size ∧ CiAt w' g (plains ls)))
set_option maxRecDepth 100000 in
set_option maxHeartbeats 1000000 in
theorem instructions_any (t : ByteArray) (L : Nat) (w : World) (ht1 : 1 ≤ t.size) (ht2 : t.size ≤ 120) :
    Calls Tryd.prog 83 #[.string t, .int .i64 L] w (InstrPost t L w) := by
  obtain ⟨i0, hi0, hz0, hz1, hz2⟩ := info_parts Tryd.infoCI
  go_enter Tryd.func83, Tryd.ntmps83
  go_wp2_with fail
  go_loopw [6, 7] (fun l p w' => ∃ (pn : Nat) (ls : List Ins), pn ≤ t.size ∧ p = .int .i64 pn ∧ w'.ownsRow w.heap.size 87 4 l ls.length (ciCells (plains ls)) ∧ Below w.heap.size w w' ∧ dec t L 0 = (dec t L pn).map (ls ++ ·) ∧ ls.length ≤ pn) (fun _ p _ => t.size - (intOf p).toNat)
  case atStart => exact ⟨0, [], by omega, rfl, World.ownsRow_nil _ _ _ _, Below.refl _ _, by simp, by simp⟩
  case round =>
    obtain ⟨pn, ls, hpn, rfl, hown, hbel, hdec, hlen⟩ := hrel
    have HDEC := hid hdec
    clear hdec
    have hsize := hbel.size
    by_cases hlt : pn < t.size
    · have c0 := byteAt_eq t pn hlt
      have c1 := byteAt_lt t pn
      have HBQ : Hid (behindP t pn L = behindQ (byteAt t pn) t.size pn (byteAt t (pn + 1)) L) := hid rfl
      have d1 := byteAt_lt t (pn + 1)
      have d0 := byteAt_eq t (pn + 1)
      have HNO := hid (dec_none t L pn hlt)
      have HYES := hid (dec_some t L pn hlt)
      generalize byteAt t pn = c at *
      generalize byteAt t (pn + 1) = n at *
      generalize behindP t pn L = Q at *
      by_cases h24 : 24 < c
      · have HF : Hid (dec t L pn = none) := hid (HNO.out (by rw [HBQ.out]; simp [behindQ, h24]))
        clear d0
        go_wp2_with fail
        go_ret2
        exact ⟨hbel, .inl ⟨by rw [HDEC.out, HF.out]; rfl, rfl⟩⟩
      cases htk : takesB c
      · have HF : Hid (dec t L pn = (dec t L (pn + 1)).map (⟨c, 0, pn⟩ :: ·)) := hid (by
          have e : Q = (pn + 1, 0) := by rw [HBQ.out]; simp [behindQ, h24, htk]
          have := HYES.out (by rw [e]; simp)
          rw [e] at this
          exact this)
        have hbad : badN c 0 L = false := by
          have hne : ∀ k, takesB k = true → c ≠ k := fun k hk e => by rw [e, hk] at htk; cases htk
          have a1 := hne 7 rfl
          have a2 := hne 8 rfl
          have a3 := hne 14 rfl
          have a4 := hne 15 rfl
          simp [badN, a1, a2]
        have HBAD := hid hbad
        have HTK := hid htk
        clear hbad htk d0
        go_wp2_with fail
        refine (hasOperand_any c _).mono ?_
        intro e w9 hh
        obtain ⟨he9, hw9⟩ := hh
        rw [HTK.out] at he9
        subst e
        subst w9
        go_wp2_with fail
        refine (operandFits_any _ _ _ c 0 L _ rfl).mono ?_
        intro e w2 hh
        obtain ⟨he2, hb2⟩ := hh
        rw [HBAD.out] at he2
        subst e
        have hb3 := instr_below hb2
        obtain ⟨bx, bo, hz⟩ := box_cells hb3
        have x0 := bx 0
        have x1 := bx 1
        have x2 := bx 2
        have x3 := bx 3
        simp only [List.getElem?_toArray, List.getElem?_cons_zero, List.getElem?_cons_succ] at x0 x1 x2 x3
        have hb4 : Below wr.heap.size wr w2 := box_below (Nat.le_refl _) hb3
        have hown2 := owns_below hown hb4 (fun g' hg' => (hown.lt g' hg').2)
        have hbel2 : Below w.heap.size w w2 := hbel.trans (hb4.mono hsize)
        clear bx bo hb2
        go_wp2_with (at_builtin; go_must (refine wpList_append_lies _ (by rfl) _ _ _ (by rfl) w.heap.size 87 i0 _ 4 32 Tryd.underlying73 hi0 hz0 hz1 hz2 rfl (by omega) _ ls.length (ciCells (plains ls)) (by rfl) (hown2.alloc _) ⟨_, 0, none⟩ 1 1 [.int .i64 pn, .int .i64 c, .int .i64 0, .int .i64 0] (by rfl) (by rfl) (World.news_of_block (cs := #[.int .i64 pn, .int .i64 c, .int .i64 0, .int .i64 0]) (t := 87) (fr := (0, 0)) (heap_alloc_new _ _)) (by simp [Value.oneCell']) (by omega) (by unfold maxLen; omega) (by omega) (by simp; omega) _ rfl ?_); intro gg cap w3 hown3 hgrow hat hlt2)
        refine ⟨⟨pn + 1, ls ++ [⟨c, 0, pn⟩], by omega, by go_num, by rw [plains_snoc, ciCells_snoc, List.length_append]; exact hown3, (hbel2.alloc (by omega) _).grown hgrow (by simp; omega) (fun k hk => (hown.lt k hk).1), ?_, by simp; omega⟩, by simp [intOf]; omega⟩
        rw [HDEC.out, HF.out]
        cases dec t L (pn + 1) <;> simp
      by_cases hsz : t.size ≤ pn + 1
      · have HF : Hid (dec t L pn = none) := hid (HNO.out (by rw [HBQ.out]; simp [behindQ, h24, htk, hsz]))
        have HTK := hid htk
        clear htk d0
        go_wp2_with fail
        refine (hasOperand_any c _).mono ?_
        intro e w9 hh
        obtain ⟨he9, hw9⟩ := hh
        rw [HTK.out] at he9
        subst e
        subst w9
        go_wp2_with fail
        go_ret2
        exact ⟨hbel.alloc hsize _, .inl ⟨by rw [HDEC.out, HF.out]; rfl, rfl⟩⟩
      have d2 := d0 (by omega)
      clear d0
      cases hbd : badN c n L
      · have HF : Hid (dec t L pn = (dec t L (pn + 2)).map (⟨c, n, pn⟩ :: ·)) := hid (by
          have e : Q = (pn + 2, n) := by rw [HBQ.out]; simp [behindQ, h24, htk, hsz, hbd]
          have := HYES.out (by rw [e]; simp)
          rw [e] at this
          exact this)
        have HBAD := hid hbd
        have HTK := hid htk
        clear hbd htk
        go_wp2_with fail
        refine (hasOperand_any c _).mono ?_
        intro e w9 hh
        obtain ⟨he9, hw9⟩ := hh
        rw [HTK.out] at he9
        subst e
        subst w9
        go_wp2_with fail
        refine (operandFits_any _ _ _ c n L _ rfl).mono ?_
        intro e w2 hh
        obtain ⟨he2, hb2⟩ := hh
        rw [HBAD.out] at he2
        subst e
        have hb3 := instr_below hb2
        obtain ⟨bx, bo, hz⟩ := box_cells hb3
        have x0 := bx 0
        have x1 := bx 1
        have x2 := bx 2
        have x3 := bx 3
        simp only [List.getElem?_toArray, List.getElem?_cons_zero, List.getElem?_cons_succ] at x0 x1 x2 x3
        have hb4 : Below wr.heap.size wr w2 := box_below (Nat.le_refl _) hb3
        have hown2 := owns_below hown hb4 (fun g' hg' => (hown.lt g' hg').2)
        have hbel2 : Below w.heap.size w w2 := hbel.trans (hb4.mono hsize)
        clear bx bo hb2
        go_wp2_with (at_builtin; go_must (refine wpList_append_lies _ (by rfl) _ _ _ (by rfl) w.heap.size 87 i0 _ 4 32 Tryd.underlying73 hi0 hz0 hz1 hz2 rfl (by omega) _ ls.length (ciCells (plains ls)) (by rfl) (hown2.alloc _) ⟨_, 0, none⟩ 1 1 [.int .i64 pn, .int .i64 c, .int .i64 n, .int .i64 0] (by rfl) (by rfl) (World.news_of_block (cs := #[.int .i64 pn, .int .i64 c, .int .i64 n, .int .i64 0]) (t := 87) (fr := (0, 0)) (heap_alloc_new _ _)) (by simp [Value.oneCell']) (by omega) (by unfold maxLen; omega) (by omega) (by simp; omega) _ rfl ?_); intro gg cap w3 hown3 hgrow hat hlt2)
        refine ⟨⟨pn + 2, ls ++ [⟨c, n, pn⟩], by omega, by go_num, by rw [plains_snoc, ciCells_snoc, List.length_append]; exact hown3, (hbel2.alloc (by omega) _).grown hgrow (by simp; omega) (fun k hk => (hown.lt k hk).1), ?_, by simp; omega⟩, by simp [intOf]; omega⟩
        rw [HDEC.out, HF.out]
        cases dec t L (pn + 2) <;> simp
      · have HF : Hid (dec t L pn = none) := hid (HNO.out (by rw [HBQ.out]; simp [behindQ, h24, htk, hsz, hbd]))
        have HBAD := hid hbd
        have HTK := hid htk
        clear hbd htk
        go_wp2_with fail
        refine (hasOperand_any c _).mono ?_
        intro e w9 hh
        obtain ⟨he9, hw9⟩ := hh
        rw [HTK.out] at he9
        subst e
        subst w9
        go_wp2_with fail
        refine (operandFits_any _ _ _ c n L _ rfl).mono ?_
        intro e w2 hh
        obtain ⟨he2, hb2⟩ := hh
        rw [HBAD.out] at he2
        subst e
        have hb4 : Below wr.heap.size wr w2 := box_below (Nat.le_refl _) (instr_below hb2)
        have hbel2 : Below w.heap.size w w2 := hbel.trans (hb4.mono hsize)
        go_wp2_with fail
        go_ret2
        exact ⟨hbel2, .inl ⟨by rw [HDEC.out, HF.out]; rfl, rfl⟩⟩
    · have HD := hid (dec_end t L pn (by omega))
      have hne : 0 < ls.length := by
        rcases Nat.eq_zero_or_pos ls.length with h | h
        · exfalso
          have h' := HDEC.out
          rw [HD.out, List.length_eq_zero_iff.1 h] at h'
          by_cases hq : (behindP t 0 L).1 = 0
          · rw [dec_none t L 0 (by omega) hq] at h'; cases h'
          · rw [dec_some t L 0 (by omega) hq] at h'
            cases hx : dec t L (behindP t 0 L).1 with
            | none => rw [hx] at h'; cases h'
            | some r => rw [hx] at h'; cases h'
        · exact h
      have HDEC2 : Hid (dec t L 0 = some ls) := hid (by rw [HDEC.out, HD.out]; simp)
      clear HDEC HD
      obtain ⟨g, cap, rfl, hg1, hg2⟩ := hown.form hne
      have hat := CiAt.of_owns (l := plains ls) (by rw [plains_len]; exact hown)
      go_wp2_with fail
      go_ret2
      exact ⟨hbel, .inr ⟨ls, g, cap, HDEC2.out, hne, by omega, rfl, hg1, hg2, hat⟩⟩
end Go.Proofs.YtdmdpindonghdabDoor
namespace Go.Proofs.YtdmdpindonghdabDoor
open Go.RowKit
/-- v is a list of n elements with these cells, in a block of which P holds. -/
def LsAt (w : World) (P : Nat → Prop) (v : Value) (n : Nat) (cs : List Value) : Prop :=
  (v = .slice none 0 0 ∧ n = 0) ∨ ∃ g cap, v = .slice (some ⟨g, 0, none⟩) n cap ∧ P g ∧ ∀ (j : Nat) (u : Value), cs[j]? = some u → w.cell? ⟨g, j, none⟩ = some u
theorem LsAt.slice {w : World} {P : Nat → Prop} {v : Value} {n : Nat} {cs : List Value} (h : LsAt w P v n cs) : ∃ p cap, v = .slice p n cap := by
  rcases h with ⟨h1, h2⟩ | ⟨g, cap, hv, _⟩
  · exact ⟨none, 0, by rw [h1, h2]⟩
  · exact ⟨_, cap, hv⟩
theorem LsAt.some {w : World} {P : Nat → Prop} {v : Value} {n : Nat} {cs : List Value} (h : LsAt w P v n cs) (hn : 0 < n) : ∃ g cap, v = .slice (some ⟨g, 0, none⟩) n cap ∧ P g ∧ ∀ (j : Nat) (u : Value), cs[j]? = some u → w.cell? ⟨g, j, none⟩ = some u := by
  rcases h with ⟨_, h2⟩ | h
  · omega
  · exact h
theorem LsAt.keep {w w' : World} {P P' : Nat → Prop} {v : Value} {n : Nat} {cs : List Value} (h : LsAt w P v n cs) (hP : ∀ g, P g → P' g ∧ w'.heap[g]? = w.heap[g]?) : LsAt w' P' v n cs := by
  rcases h with h | ⟨g, cap, hv, hg, hc⟩
  · exact .inl h
  · exact .inr ⟨g, cap, hv, (hP g hg).1, fun j u hj => (World.cell?_of_block (a := ⟨g, j, none⟩) (hP g hg).2).trans (hc j u hj)⟩
theorem LsAt.of_owns {w : World} {base e size n : Nat} {v : Value} {cs : List Value} (h : w.ownsRow base e size v n cs) : LsAt w (fun g => base ≤ g ∧ g < w.heap.size) v n cs := by
  have hh := h
  rcases h.2 with h1 | ⟨g, cap, cur, hv, hg, r⟩
  · exact .inl h1
  · subst hv
    refine .inr ⟨g, cap, rfl, ⟨hg, (Array.getElem?_eq_some_iff.1 r.1).1⟩, fun j u hj => ?_⟩
    have := hh.cells (g := g) rfl j u hj
    rw [addr_add] at this
    exact this
/-- A cell of the reference's heap. -/
structure RC where
  used : Bool
  reached : Bool
  looked : Bool
  weak : Bool
  a : Int
  b : Int
  num : Int
/-- A cell, as it is told. -/
structure Cl where
  col : Nat
  weak : Bool
  a : Int
  b : Int
  num : Int
def rcCells (c : RC) : List Value := [.bool c.used, .bool c.reached, .bool c.looked, .bool c.weak, .int .i64 c.a, .int .i64 c.b, .int .i64 c.num]
def clCells (c : Cl) : List Value := [.int .i64 c.col, .bool c.weak, .int .i64 c.a, .int .i64 c.b, .int .i64 c.num]
def colR (c : RC) : Nat := if c.used = false then 0 else if c.looked = true then 3 else if c.reached = true then 2 else 1
def toldC (c : RC) : Cl := ⟨colR c, c.weak, c.a, c.b, c.num⟩
theorem flat_at {α : Type} (f : α → List Value) (m : Nat) (hf : ∀ x, (f x).length = m) : ∀ (l : List α) (k j : Nat) (h : k < l.length), j < m → (l.flatMap f)[k * m + j]? = (f l[k])[j]? := by
  intro l
  induction l with
  | nil => intro k j h; simp at h
  | cons a r ih =>
    intro k j h hj
    have h1 := hf a
    rw [List.flatMap_cons]
    cases k with
    | zero => rw [Nat.zero_mul, Nat.zero_add, List.getElem?_append_left (by omega)]; rfl
    | succ k =>
      rw [List.getElem?_append_right (by rw [h1, Nat.add_mul]; omega), h1, show (k + 1) * m + j - m = k * m + j by rw [Nat.add_mul]; omega]
      exact ih k j (by simpa using h) hj
theorem cellInfo : (Tryd.prog.info? 42).map (fun i => (i.zero, i.size, i.bytes)) = some (some (.agg #[.int .i64 0, .bool false, .int .i64 0, .int .i64 0, .int .i64 0]), 5, 40) := by kernel_rfl
end Go.Proofs.YtdmdpindonghdabDoor
namespace Go.Proofs.YtdmdpindonghdabDoor
open Go.RowKit
/-- The cells of a list of points, their own lists in blocks of which P holds. -/
def PtsIn (w : World) (P : Nat → Prop) : List Value → List MP → Prop
  | [], [] => True
  | a :: b :: c :: d :: r, m :: ms => a = .int .i64 m.place ∧ b = .bool m.reached ∧ IntsAt w P c m.lo ∧ IntsAt w P d m.st ∧ PtsIn w P r ms
  | _, _ => False
theorem PtsIn.keep {w w' : World} {P P' : Nat → Prop} (hP : ∀ g, P g → P' g ∧ w'.heap[g]? = w.heap[g]?) : ∀ (cs : List Value) (ms : List MP), PtsIn w P cs ms → PtsIn w' P' cs ms
  | [], [], _ => trivial
  | _ :: _ :: _ :: _ :: r, _ :: ms, ⟨h1, h2, h3, h4, h5⟩ => ⟨h1, h2, h3.keep hP, h4.keep hP, PtsIn.keep hP r ms h5⟩
  | [], _ :: _, h => h.elim
  | [_], [], h => h.elim
  | [_], _ :: _, h => h.elim
  | [_, _], [], h => h.elim
  | [_, _], _ :: _, h => h.elim
  | [_, _, _], [], h => h.elim
  | [_, _, _], _ :: _, h => h.elim
  | _ :: _ :: _ :: _ :: _, [], h => h.elim
theorem PtsIn.snoc {w : World} {P : Nat → Prop} {m : MP} {v1 v2 : Value} (h1 : IntsAt w P v1 m.lo) (h2 : IntsAt w P v2 m.st) : ∀ (cs : List Value) (ms : List MP), PtsIn w P cs ms → PtsIn w P (cs ++ [.int .i64 m.place, .bool m.reached, v1, v2]) (ms ++ [m])
  | [], [], _ => ⟨rfl, rfl, h1, h2, trivial⟩
  | _ :: _ :: _ :: _ :: r, _ :: ms, ⟨a1, a2, a3, a4, a5⟩ => ⟨a1, a2, a3, a4, PtsIn.snoc h1 h2 r ms a5⟩
  | [], _ :: _, h => h.elim
  | [_], [], h => h.elim
  | [_], _ :: _, h => h.elim
  | [_, _], [], h => h.elim
  | [_, _], _ :: _, h => h.elim
  | [_, _, _], [], h => h.elim
  | [_, _, _], _ :: _, h => h.elim
  | _ :: _ :: _ :: _ :: _, [], h => h.elim
theorem PtsIn.at {w : World} {P : Nat → Prop} : ∀ (cs : List Value) (ms : List MP), PtsIn w P cs ms → ∀ (k : Nat) (m : MP), ms[k]? = some m →
    cs[k * 4]? = some (.int .i64 m.place) ∧ cs[k * 4 + 1]? = some (.bool m.reached) ∧ ∃ v1 v2, cs[k * 4 + 2]? = some v1 ∧ cs[k * 4 + 3]? = some v2 ∧ IntsAt w P v1 m.lo ∧ IntsAt w P v2 m.st
  | [], [], _, k, m, h => by simp at h
  | a :: b :: c :: d :: r, m0 :: ms, ⟨a1, a2, a3, a4, a5⟩, k, m, h => by
    cases k with
    | zero =>
      simp only [List.getElem?_cons_zero, Option.some.injEq] at h
      subst h
      exact ⟨by rw [a1]; rfl, by rw [a2]; rfl, c, d, rfl, rfl, a3, a4⟩
    | succ k =>
      have := PtsIn.at r ms a5 k m (by simpa using h)
      have hc : ∀ j, (a :: b :: c :: d :: r)[j + 4]? = r[j]? := fun j => by simp
      rw [show (k + 1) * 4 = k * 4 + 4 by omega, show k * 4 + 4 + 1 = k * 4 + 1 + 4 by omega, show k * 4 + 4 + 2 = k * 4 + 2 + 4 by omega, show k * 4 + 4 + 3 = k * 4 + 3 + 4 by omega, hc, hc, hc, hc]
      exact this
  | [], _ :: _, h, _, _, _ => h.elim
  | [_], [], h, _, _, _ => h.elim
  | [_], _ :: _, h, _, _, _ => h.elim
  | [_, _], [], h, _, _, _ => h.elim
  | [_, _], _ :: _, h, _, _, _ => h.elim
  | [_, _, _], [], h, _, _, _ => h.elim
  | [_, _, _], _ :: _, h, _, _, _ => h.elim
  | _ :: _ :: _ :: _ :: _, [], h, _, _, _ => h.elim
end Go.Proofs.YtdmdpindonghdabDoor
namespace Go.Proofs.YtdmdpindonghdabDoor
open Go.RowKit
/-- A slot, as it is told: its type, what it holds. -/
def slCells (x : Nat × Int) : List Value := [.int .i64 x.1, .int .i64 x.2]
end Go.Proofs.YtdmdpindonghdabDoor
namespace Go.Proofs.YtdmdpindonghdabDoor
open Go.RowKit
/-- What State tells of a word of type t. -/
def slotV (t : Nat) (x : Int) : Int := if t = 2 then 0 else x
/-- A word: is it a reference; what it holds. -/
def wdCells (x : Bool × Int) : List Value := [.bool x.1, .int .i64 x.2]
theorem slotInfo : (Tryd.prog.info? 108).map (fun i => (i.zero, i.size, i.bytes)) = some (some (.agg #[.int .i64 0, .int .i64 0]), 2, 16) := by kernel_rfl
theorem cell6b {wr w6 : World} {o : Obj} {b : Nat} {row : Option Nat} (hgrow : (wr.alloc o).grownBy w6 row) (hz : b < wr.heap.size) (hne : some b ≠ row) (j : Nat) : w6.cell? ⟨b, j, none⟩ = wr.cell? ⟨b, j, none⟩ ∧ w6.frozen? ⟨b, j, none⟩ = wr.frozen? ⟨b, j, none⟩ := by
  have h : w6.heap[b]? = wr.heap[b]? := (hgrow.block b (by simp; omega) hne).trans (Below.heap_alloc wr o b hz)
  exact ⟨World.cell?_of_block (a := ⟨b, j, none⟩) h, World.frozen?_of_block (a := ⟨b, j, none⟩) h⟩
theorem two_below (w : World) (a b : Obj) : Below w.heap.size w ((w.alloc a).alloc b).drew :=
  have h : Below w.heap.size w ((w.alloc a).alloc b) := ((Below.refl _ _).alloc (Nat.le_refl _) _).alloc (by simp) _
  ⟨h.os, h.tape, h.output, h.size, h.block⟩
end Go.Proofs.YtdmdpindonghdabDoor
namespace Go.Proofs.YtdmdpindonghdabDoor
open Go.RowKit
theorem toldF_none (i : Nat) (all : List Pt) : (toldF i all).r = false → (toldF i all).lo = [] ∧ (toldF i all).st = [] := by
  suffices hs : ∀ (all : List Pt) (a : Ac), (a.r = false → a.lo = [] ∧ a.st = []) → (all.foldl (toldS i) a).r = false → (all.foldl (toldS i) a).lo = [] ∧ (all.foldl (toldS i) a).st = [] from hs all _ (fun _ => ⟨rfl, rfl⟩)
  intro all
  induction all with
  | nil => intro a ha; exact ha
  | cons p r ih =>
    intro a ha
    simp only [List.foldl_cons]
    refine ih _ ?_
    unfold toldS
    by_cases e : p.at_ = i
    · rw [if_pos e]; intro h; cases h
    · rw [if_neg e]; exact ha
theorem cell6 {wr w6 : World} {o : Obj} {b : Nat} {row : Option Nat} (hgrow : (wr.alloc o).drew.grownBy w6 row) (hz : b < wr.heap.size) (hne : some b ≠ row) (j : Nat) : w6.cell? ⟨b, j, none⟩ = wr.cell? ⟨b, j, none⟩ ∧ w6.frozen? ⟨b, j, none⟩ = wr.frozen? ⟨b, j, none⟩ := by
  have h : w6.heap[b]? = wr.heap[b]? := (hgrow.block b (by simp [World.drew]; omega) hne).trans (Below.heap_alloc wr o b hz)
  exact ⟨World.cell?_of_block (a := ⟨b, j, none⟩) h, World.frozen?_of_block (a := ⟨b, j, none⟩) h⟩
def mixL (X C : List Nat) (n : Nat) : List Nat := (List.zipWith joinN X C).take n ++ X.drop n
theorem mix_zero (X C : List Nat) : mixL X C 0 = X := by simp [mixL]
theorem mix_end {X C : List Nat} {n : Nat} (hX : X.length = n) (hC : C.length = n) : mixL X C n = List.zipWith joinN X C := by
  unfold mixL
  rw [List.take_of_length_le (by simp; omega), List.drop_of_length_le (by omega), List.append_nil]
theorem mix_len {X C : List Nat} {n N : Nat} (hX : X.length = N) (hC : C.length = N) (h : n ≤ N) : (mixL X C n).length = N := by
  simp [mixL, hX, hC]; omega
theorem mix_get {X C : List Nat} {n N : Nat} (hX : X.length = N) (hC : C.length = N) (h : n < N) : (mixL X C n)[n]? = some (X.getD n 0) := by
  unfold mixL
  rw [List.getElem?_append_right (by simp; omega), List.length_take, List.length_zipWith, hX, hC, Nat.min_self, Nat.min_eq_left (by omega), Nat.sub_self, List.getElem?_drop, Nat.add_zero, List.getD_eq_getElem?_getD, List.getElem?_eq_getElem (by omega)]
  rfl
theorem mix_next {X C : List Nat} {n N : Nat} (hX : X.length = N) (hC : C.length = N) (h : n < N) : mixL X C (n + 1) = (mixL X C n).set n (joinN (X.getD n 0) (C.getD n 0)) := by
  have h1 : n < (List.zipWith joinN X C).length := by simp; omega
  have h2 : n < X.length := by omega
  have h3 : n < C.length := by omega
  unfold mixL
  rw [List.take_succ_eq_append_getElem h1, List.drop_eq_getElem_cons h2, List.set_append_right _ _ (by simp; omega), List.append_assoc]
  simp only [List.length_take, List.length_zipWith, hX, hC, Nat.min_self, Nat.min_eq_left (Nat.le_of_lt h), Nat.sub_self, List.set_cons_zero, List.getElem_zipWith]
  simp [List.getD_eq_getElem?_getD, List.getElem?_eq_getElem h2, List.getElem?_eq_getElem h3]
theorem mix_eq {X C : List Nat} {n N : Nat} (hX : X.length = N) (hC : C.length = N) (h : n < N) (e : X.getD n 0 = C.getD n 0) : mixL X C (n + 1) = mixL X C n := by
  rw [mix_next hX hC h, joinN_eq e]
  have := mix_get hX hC h
  obtain ⟨h1, h2⟩ := List.getElem?_eq_some_iff.1 this
  rw [← h2, List.set_getElem_self]
theorem mix_ne {X C : List Nat} {n N : Nat} (hX : X.length = N) (hC : C.length = N) (h : n < N) (e : ¬ X.getD n 0 = C.getD n 0) : mixL X C (n + 1) = (mixL X C n).set n 2 := by
  rw [mix_next hX hC h, joinN_ne e]
theorem owns_some {w : World} {base e n : Nat} {v : Value} {xs : List Value} (h : w.ownsRow base e 1 v n xs) (hn : 0 < n) : ∃ g cap, v = .slice (some ⟨g, 0, none⟩) n cap := by
  rcases h.2 with ⟨_, h2⟩ | ⟨g, cap, cur, hv, _⟩
  · omega
  · exact ⟨g, cap, hv⟩
end Go.Proofs.YtdmdpindonghdabDoor
namespace Go.Proofs.YtdmdpindonghdabDoor
open Go.RowKit
theorem jumpsOk_false {ls : List Ins} {k : Nat} (h : k < ls.length) (hj : ls[k].op = 19 ∨ ls[k].op = 20) (hf : findP ls[k].n ls 0 < 0) : jumpsOk ls = false := by
  unfold jumpsOk
  rw [List.all_eq_false]
  refine ⟨ls[k], List.getElem_mem h, ?_⟩
  simp [isJump]
  exact ⟨fun h => hj.resolve_left h, hf⟩
theorem jumpsOk_true {ls : List Ins} (h : ∀ j (h : j < ls.length), isJump ls[j].op = false ∨ 0 ≤ findP ls[j].n ls 0) : jumpsOk ls = true := by
  unfold jumpsOk
  rw [List.all_eq_true]
  intro i hi
  obtain ⟨j, hj, rfl⟩ := List.getElem_of_mem hi
  rcases h j hj with h | h
  · simp [h]
  · simp [h]
theorem lastOp_eq {ls : List Ins} (h : 0 < ls.length) : lastOp ls = (ls[ls.length - 1]'(by omega)).op := by
  unfold lastOp
  rw [List.getLast?_eq_getElem?, List.getElem?_eq_getElem (by omega)]
  rfl
def CodePost (s : ByteArray) (w : World) (e : Ending) (w' : World) : Prop :=
  Below w.heap.size w w' ∧ ((errOf s ≠ 0 ∧ e = .returned (.tuple #[.slice none 0 0, .int .i64 0, .int .i64 (errOf s : Nat)])) ∨
    (errOf s = 0 ∧ ∃ g cap, e = .returned (.tuple #[.slice (some ⟨g, 0, none⟩) (codeOf s).length cap, .int .i64 (byteAt s 1 : Nat), .int .i64 0]) ∧ w.heap.size ≤ g ∧ g < w'.heap.size ∧ InsAt w' g (codeOf s)))
theorem codePost_err {s : ByteArray} {w w' : World} {k : Nat} (hb : Below w.heap.size w w') (he : errOf s = k) (hk : k ≠ 0) {z : Int} (hz : z = (k : Int)) : CodePost s w (.returned (.tuple #[.slice none 0 0, .int .i64 0, .int .i64 z])) w' := by
  subst he; subst hz; exact ⟨hb, .inl ⟨hk, rfl⟩⟩
theorem codePost_ok {s : ByteArray} {w w' : World} {L g cap n : Nat} {ls : List Ins} (hb : Below w.heap.size w w') (he : errOf s = 0) (hL : byteAt s 1 = L) (hc : codeOf s = ls) (hn : ls.length = n) (h1 : w.heap.size ≤ g) (h2 : g < w'.heap.size) (h3 : InsAt w' g ls) :
    CodePost s w (.returned (.tuple #[.slice (some ⟨g, 0, none⟩) n cap, .int .i64 (L : Nat), .int .i64 0])) w' := by
  subst hL; subst hc; subst hn; exact ⟨hb, .inr ⟨he, g, cap, rfl, h1, h2, h3⟩⟩
end Go.Proofs.YtdmdpindonghdabDoor
namespace Go.Proofs.YtdmdpindonghdabDoor
open Go.RowKit
theorem three_new_r (w : World) (a b c : Obj) : Below w.heap.size w (((w.alloc a).alloc b).alloc c) :=
  (((Below.refl _ _).alloc (Nat.le_refl _) _).alloc (by simp) _).alloc (by simp; omega) _
theorem three_new_r_drew (w : World) (a b c : Obj) : Below w.heap.size w ((((w.alloc a).alloc b).alloc c).drew) := (three_new_r w a b c).drew
theorem after_eqs (op : Nat) (hne : op ≠ 7 ∧ op ≠ 8 ∧ op ≠ 9 ∧ op ≠ 10 ∧ op ≠ 11) : ((op : Int) == 7) = false ∧ ((op : Int) == 8) = false ∧ ((op : Int) == 9) = false ∧ ((op : Int) == 10) = false ∧ ((op : Int) == 11) = false := by
  simp only [beq_eq_false_iff_ne]; omega
end Go.Proofs.YtdmdpindonghdabDoor
namespace Go.Proofs.YtdmdpindonghdabDoor
open Go.RowKit
theorem keeps_grown {g : Nat} {w wr w1 : World} {o : Obj} {n cap : Nat} (hb : Below w.heap.size w wr) (hg : (wr.alloc o).grownBy w1 (Value.ownBlock (.slice (some ⟨g, 0, none⟩) n cap))) : Keeps g w w1 := by
  intro b hlt hne
  have h1 := hb.size
  rw [hg.block b (by simp; omega) (by simp [Value.ownBlock]; exact hne), Below.heap_alloc _ _ _ (by omega), hb.block b hlt]
theorem joined_lies {w wr : World} {o : Obj} {g gg n cap n2 cap2 : Nat} (hz : w.heap.size + 1 ≤ wr.heap.size) (h : Value.ownBlock (.slice (some ⟨g, 0, none⟩) n cap) = some gg ∨ gg = (wr.alloc o).heap.size) :
    ∀ g', Value.ownBlock (.slice (some ⟨gg, 0, none⟩) n2 cap2) = some g' → g' = g ∨ w.heap.size ≤ g' := by
  intro g' hg'
  cases hg'
  rcases h with h | h
  · cases h; exact .inl rfl
  · right; rw [h]; simp; omega
theorem joined_known {x y kb d : Bool} {z : Bool} (h : x = (kb || y)) (hy : y = z) (hk : kb = true ∧ d = true ∨ ¬ kb = true ∧ d = z) : x = d := by
  rcases hk with ⟨h1, h2⟩ | ⟨h1, h2⟩
  · rw [h, h1, h2]; rfl
  · have : kb = false := by simpa using h1
    rw [h, this, hy, h2]; rfl
end Go.Proofs.YtdmdpindonghdabDoor
namespace Go.Proofs.YtdmdpindonghdabDoor
open Go.RowKit
theorem InsAt.get {w : World} {g : Nat} {l : List Ins} (h : InsAt w g l) {a : Nat} {i : Ins} (hi : l[a]? = some i) :
    w.cell? ⟨g, a * 3, none⟩ = some (.int .i64 i.op) ∧ w.cell? ⟨g, a * 3 + 1, none⟩ = some (.int .i64 i.n) ∧ w.cell? ⟨g, a * 3 + 2, none⟩ = some (.int .i64 i.place) := by
  obtain ⟨h1, rfl⟩ := List.getElem?_eq_some_iff.1 hi
  exact h a h1
theorem PtAt.get {w : World} {g : Nat} {l : List Pt} (h : PtAt w g l) {a : Nat} {i : Pt} (hi : l[a]? = some i) :
    w.cell? ⟨g, a * 3, none⟩ = some (.int .i64 i.at_) ∧ w.cell? ⟨g, a * 3 + 1, none⟩ = some (.string i.lo) ∧ w.cell? ⟨g, a * 3 + 2, none⟩ = some (.string i.st) := by
  obtain ⟨h1, rfl⟩ := List.getElem?_eq_some_iff.1 hi
  exact h a h1
theorem bcell_r {W w1 : World} (hb : Below W.heap.size W w1) : (∀ b o, b < W.heap.size → w1.cell? ⟨b, o, none⟩ = W.cell? ⟨b, o, none⟩) ∧ (∀ b o, b < W.heap.size → w1.frozen? ⟨b, o, none⟩ = W.frozen? ⟨b, o, none⟩) :=
  ⟨fun b o h => hb.cell (p := ⟨b, o, none⟩) h, fun b o h => hb.frozen (p := ⟨b, o, none⟩) h⟩
theorem cut_i {wr w2 : World} {nb : Obj} (c : Obj) (hb : Below (wr.alloc nb).drew.heap.size (wr.alloc nb).drew w2) : wr.heap.size + 1 ≤ w2.heap.size ∧ (w2.alloc c).heap[w2.heap.size]? = some c ∧ Below (wr.heap.size + 1) (wr.alloc nb) (w2.alloc c) := by
  have e : (wr.alloc nb).drew.heap.size = wr.heap.size + 1 := by simp
  have hs := hb.size
  rw [e] at hb hs
  exact ⟨hs, heap_alloc_new _ _, ((Below.refl _ _).drew.trans hb).alloc hs _⟩
theorem cut_ii {wr w2 : World} {nb : Obj} {z0 z1 z2 : Value} {t : TypeId} (v0 v1 v2 : Value) (hb : Below ((wr.alloc nb).alloc (.cells #[z0, z1, z2] t)).drew.heap.size ((wr.alloc nb).alloc (.cells #[z0, z1, z2] t)).drew w2) :
    (((w2.setCell ⟨wr.heap.size + 1, 0, none⟩ v0).setCell ⟨wr.heap.size + 1, 1, none⟩ v1).setCell ⟨wr.heap.size + 1, 2, none⟩ v2).heap[wr.heap.size + 1]? = some (.cells #[v0, v1, v2] t) ∧
    Below (wr.heap.size + 1) (wr.alloc nb) (((w2.setCell ⟨wr.heap.size + 1, 0, none⟩ v0).setCell ⟨wr.heap.size + 1, 1, none⟩ v1).setCell ⟨wr.heap.size + 1, 2, none⟩ v2) := by
  have e : ((wr.alloc nb).alloc (.cells #[z0, z1, z2] t)).drew.heap.size = wr.heap.size + 1 + 1 := by simp
  rw [e] at hb
  have h0 : w2.heap[wr.heap.size + 1]? = some (.cells #[z0, z1, z2] t) := (hb.block _ (by omega)).trans (heap_two_new wr _ _)
  have h1 := setCell_row 0 v0 h0
  have h2 := setCell_row 1 v1 h1
  have h3 := setCell_row 2 v2 h2
  refine ⟨by simpa using h3, ?_⟩
  have hb1 : Below (wr.heap.size + 1) (wr.alloc nb) w2 := (((Below.refl _ _).alloc (by simp) _).drew).trans (hb.mono (by omega))
  exact ((hb1.setCell (by simp) _).setCell (by simp) _).setCell (by simp) _
theorem ways_world {w wr W : World} {nb : Obj} {l : List Ins} {gi g n cap e : Nat} {xs : List Value} (hbel : Below w.heap.size w wr) (hb : Below (wr.heap.size + 1) (wr.alloc nb) W) (hat : InsAt w gi l) (hgi : gi < w.heap.size)
    (hown : wr.ownsRow w.heap.size e 3 (.slice (some ⟨g, 0, none⟩) n cap) n xs) (hg : g < wr.heap.size) :
    Below w.heap.size w W ∧ InsAt W gi l ∧ gi < W.heap.size ∧ W.ownsRow w.heap.size e 3 (.slice (some ⟨g, 0, none⟩) n cap) n xs ∧ w.heap.size ≤ W.heap.size := by
  have h1 : Below wr.heap.size wr W := box_below (Nat.le_refl _) hb
  have hs := hbel.size
  have h2 : Below w.heap.size w W := hbel.trans (h1.mono hs)
  have h3 := h2.size
  exact ⟨h2, hat.below h2 hgi, by omega, owns_below hown h1 (fun g' hg' => by cases hg'; exact hg), h3⟩
theorem done_step {l : List Ins} {all ext ss : List Pt} {k : Nat} {p : Pt} (hd : Done l all k) (hk : k ≤ all.length) (hp : all[k]? = some p) (hs : stepP l p = some ss) (hm : ∀ s ∈ ss, s ∈ all ++ ext) : Done l (all ++ ext) (k + 1) := by
  intro j q hj hq
  by_cases h : j < k
  · exact hd.ext hk j q h hq
  · have : j = k := by omega
    subst this
    obtain ⟨h1, _⟩ := List.getElem?_eq_some_iff.1 hp
    rw [List.getElem?_append_left h1, hp] at hq
    cases hq
    exact ⟨ss, hs, hm⟩
def WaysPost (l : List Ins) (L : Nat) (w : World) (e : Ending) (w' : World) : Prop :=
  Below w.heap.size w w' ∧ ((WT l L ∧ ∃ g cap all, e = .returned (.tuple #[.slice (some ⟨g, 0, none⟩) all.length cap, .bool true]) ∧ w.heap.size ≤ g ∧ g < w'.heap.size ∧ PtAt w' g all ∧ Base l L all ∧ ∀ p, Reach l L p ↔ p ∈ all) ∨
    (¬ WT l L ∧ e = .returned (.tuple #[.slice none 0 0, .bool false])))
end Go.Proofs.YtdmdpindonghdabDoor
namespace Go.Proofs.YtdmdpindonghdabDoor
open Go.RowKit
def CheckPost (s : ByteArray) (w : World) (e : Ending) (w' : World) : Prop := Below w.heap.size w w' ∧ ∃ r : Nat, e = .returned (.int .i64 r) ∧ IsErr s r
theorem checkPost_mk {s : ByteArray} {w w' : World} {r : Nat} {x : Int} (hb : Below w.heap.size w w') (hx : x = (r : Int)) (h : IsErr s r) : CheckPost s w (.returned (.int .i64 x)) w' := by
  subst hx; exact ⟨hb, r, rfl, h⟩
end Go.Proofs.YtdmdpindonghdabDoor
namespace Go.Proofs.YtdmdpindonghdabDoor
open Go.RowKit
def allL (fs : List Fr) : List Value := fs.flatMap frL
theorem frL_len {f : Fr} (h : FrOk f) : (frL f).length = 15 := by
  simp [frL, h.lo, h.stk]
def AllOk (fs : List Fr) : Prop := ∀ f ∈ fs, FrOk f
theorem allL_len {fs : List Fr} (h : AllOk fs) : (allL fs).length = fs.length * 15 := by
  induction fs with
  | nil => rfl
  | cons f r ih =>
    have h1 := frL_len (h f (by simp))
    have h2 := ih (fun g hg => h g (by simp [hg]))
    simp only [allL, List.flatMap_cons, List.length_append, List.length_cons] at *
    omega
theorem allL_at {fs : List Fr} (h : AllOk fs) {k j : Nat} {f : Fr} (hk : fs[k]? = some f) (hj : j < 15) : (allL fs)[k * 15 + j]? = (frL f)[j]? := by
  induction fs generalizing k with
  | nil => simp at hk
  | cons a r ih =>
    have h1 := frL_len (h a (by simp))
    have e : allL (a :: r) = frL a ++ allL r := rfl
    cases k with
    | zero =>
      simp only [List.getElem?_cons_zero, Option.some.injEq] at hk
      subst hk
      rw [e, List.getElem?_append_left (by omega)]
      simp
    | succ k =>
      rw [e, List.getElem?_append_right (by omega)]
      rw [show (k + 1) * 15 + j - (frL a).length = k * 15 + j by omega]
      exact ih (fun g hg => h g (by simp [hg])) (by simpa using hk)
/-- Writing v into cell j of frame k, again and again: the row of fifteen that is left. -/
def putL (l : List Value) (o : Nat) : List Value → List Value
  | [] => l
  | v :: r => putL (l.set o v) (o + 1) r
theorem putL_append (a b : List Value) (vs : List Value) (o : Nat) : putL (a ++ b) (a.length + o) vs = a ++ putL b o vs := by
  induction vs generalizing b o with
  | nil => rfl
  | cons v r ih =>
    simp only [putL]
    rw [List.set_append_right _ _ (by omega), show a.length + o - a.length = o by omega, Nat.add_assoc]
    exact ih _ _
theorem putL_head (pre b vs : List Value) (o : Nat) (ho : o = pre.length) (h : vs.length ≤ b.length) : putL (pre ++ b) o vs = pre ++ (vs ++ b.drop vs.length) := by
  induction vs generalizing pre b o with
  | nil => simp [putL]
  | cons v r ih =>
    subst ho
    cases b with
    | nil => simp at h
    | cons c b =>
      simp only [putL]
      rw [List.set_append_right _ _ (by omega)]
      simp only [Nat.sub_self, List.set_cons_zero]
      have e : pre ++ v :: b = (pre ++ [v]) ++ b := by simp
      rw [e, ih (pre ++ [v]) b (pre.length + 1) (by simp) (by simpa using h)]
      simp
theorem allL_put {fs : List Fr} (h : AllOk fs) {k : Nat} (hk : k < fs.length) {f : Fr} (hf : FrOk f) : putL (allL fs) (k * 15) (frL f) = allL (fs.set k f) := by
  induction fs generalizing k with
  | nil => simp at hk
  | cons a r ih =>
    have h1 := frL_len (h a (by simp))
    have h2 := frL_len hf
    have e : allL (a :: r) = frL a ++ allL r := rfl
    cases k with
    | zero =>
      rw [e]
      have := putL_head [] (frL a ++ allL r) (frL f) 0 rfl (by simp; omega)
      simp only [List.nil_append] at this
      rw [show 0 * 15 = 0 from rfl, this, h2, List.drop_append_of_le_length (by omega), List.drop_of_length_le (by omega)]
      rfl
    | succ k =>
      have e2 : (k + 1) * 15 = (frL a).length + k * 15 := by omega
      rw [e, e2, putL_append, ih (fun g hg => h g (by simp [hg])) (by simpa using hk)]
      rfl
theorem AllOk.set {fs : List Fr} (h : AllOk fs) {f : Fr} (hf : FrOk f) (k : Nat) : AllOk (fs.set k f) := by
  intro g hg
  rcases List.mem_or_eq_of_mem_set hg with h1 | h1
  · exact h g h1
  · rw [h1]; exact hf
/-- All frames lie in block b. -/
def AllAt (w : World) (b : Nat) (fs : List Fr) : Prop := w.heap[b]? = some (.cells (allL fs).toArray 89)
theorem AllAt.cell {w : World} {b k j : Nat} {fs : List Fr} {f : Fr} (h : AllAt w b fs) (ha : AllOk fs) (hk : fs[k]? = some f) (hj : j < 15) : w.cell? ⟨b, k * 15 + j, none⟩ = (frL f)[j]? := by
  rw [cell_of_row w b (k * 15 + j) _ _ _ h]
  simp only [List.getElem?_toArray]
  exact allL_at ha hk hj
theorem AllAt.frozen {w : World} {b : Nat} {fs : List Fr} (h : AllAt w b fs) (j : Nat) : w.frozen? ⟨b, j, none⟩ = false := frozen_of_row w b j _ _ h
theorem put15 {w : World} {b : Nat} {t : TypeId} {l : List Value} (o : Nat) (h : w.heap[b]? = some (.cells l.toArray t)) (v0 v1 v2 v3 v4 v5 v6 v7 v8 v9 v10 v11 v12 v13 v14 : Value) :
    (((((((((((((((w.setCell ⟨b, o, none⟩ v0).setCell ⟨b, o + 1, none⟩ v1).setCell ⟨b, o + 2, none⟩ v2).setCell ⟨b, o + 3, none⟩ v3).setCell ⟨b, o + 4, none⟩ v4).setCell ⟨b, o + 5, none⟩ v5).setCell ⟨b, o + 6, none⟩ v6).setCell ⟨b, o + 7, none⟩ v7).setCell ⟨b, o + 8, none⟩ v8).setCell ⟨b, o + 9, none⟩ v9).setCell ⟨b, o + 10, none⟩ v10).setCell ⟨b, o + 11, none⟩ v11).setCell ⟨b, o + 12, none⟩ v12).setCell ⟨b, o + 13, none⟩ v13).setCell ⟨b, o + 14, none⟩ v14).heap[b]? = some (.cells (putL l o [v0, v1, v2, v3, v4, v5, v6, v7, v8, v9, v10, v11, v12, v13, v14]).toArray t) := by
  have := (setCell_row (o + 14) v14 (setCell_row (o + 13) v13 (setCell_row (o + 12) v12 (setCell_row (o + 11) v11 (setCell_row (o + 10) v10 (setCell_row (o + 9) v9 (setCell_row (o + 8) v8 (setCell_row (o + 7) v7 (setCell_row (o + 6) v6 (setCell_row (o + 5) v5 (setCell_row (o + 4) v4 (setCell_row (o + 3) v3 (setCell_row (o + 2) v2 (setCell_row (o + 1) v1 (setCell_row (o) v0 h)))))))))))))))
  simpa [putL, Nat.add_assoc] using this
theorem same15 {w : World} {b c : Nat} (o : Nat) (hc : c ≠ b) (v0 v1 v2 v3 v4 v5 v6 v7 v8 v9 v10 v11 v12 v13 v14 : Value) : (((((((((((((((w.setCell ⟨b, o, none⟩ v0).setCell ⟨b, o + 1, none⟩ v1).setCell ⟨b, o + 2, none⟩ v2).setCell ⟨b, o + 3, none⟩ v3).setCell ⟨b, o + 4, none⟩ v4).setCell ⟨b, o + 5, none⟩ v5).setCell ⟨b, o + 6, none⟩ v6).setCell ⟨b, o + 7, none⟩ v7).setCell ⟨b, o + 8, none⟩ v8).setCell ⟨b, o + 9, none⟩ v9).setCell ⟨b, o + 10, none⟩ v10).setCell ⟨b, o + 11, none⟩ v11).setCell ⟨b, o + 12, none⟩ v12).setCell ⟨b, o + 13, none⟩ v13).setCell ⟨b, o + 14, none⟩ v14).heap[c]? = w.heap[c]? := by
  iterate 15 rw [Below.heap_setCell _ _ _ _ hc]
theorem size15 {w : World} {b : Nat} (o : Nat) (v0 v1 v2 v3 v4 v5 v6 v7 v8 v9 v10 v11 v12 v13 v14 : Value) : (((((((((((((((w.setCell ⟨b, o, none⟩ v0).setCell ⟨b, o + 1, none⟩ v1).setCell ⟨b, o + 2, none⟩ v2).setCell ⟨b, o + 3, none⟩ v3).setCell ⟨b, o + 4, none⟩ v4).setCell ⟨b, o + 5, none⟩ v5).setCell ⟨b, o + 6, none⟩ v6).setCell ⟨b, o + 7, none⟩ v7).setCell ⟨b, o + 8, none⟩ v8).setCell ⟨b, o + 9, none⟩ v9).setCell ⟨b, o + 10, none⟩ v10).setCell ⟨b, o + 11, none⟩ v11).setCell ⟨b, o + 12, none⟩ v12).setCell ⟨b, o + 13, none⟩ v13).setCell ⟨b, o + 14, none⟩ v14).heap.size = w.heap.size := by
  simp [World.setCell]
end Go.Proofs.YtdmdpindonghdabDoor
namespace Go.Proofs.YtdmdpindonghdabDoor
open Go.RowKit
def WalkAt (w : World) (bw : Nat) (lv : Value) (bf n cap : Nat) (ch : Bool) : Prop := w.heap[bw]? = some (.cells #[lv, .slice (some ⟨bf, 0, none⟩) n cap, .bool ch] 135)
/-- Of what was there only the blocks a and b may have turned. -/
structure Two (a b : Nat) (w w' : World) : Prop where
  os : w'.os = w.os
  tape : w'.tape = w.tape
  output : w'.output = w.output
  size : w.heap.size ≤ w'.heap.size
  block : ∀ k, k < w.heap.size → k ≠ a → k ≠ b → w'.heap[k]? = w.heap[k]?
theorem Two.refl (a b : Nat) (w : World) : Two a b w w := ⟨rfl, rfl, rfl, Nat.le_refl _, fun _ _ _ _ => rfl⟩
theorem Two.alloc {a b : Nat} {w w' : World} (h : Two a b w w') (o : Obj) : Two a b w (w'.alloc o) :=
  ⟨h.os, h.tape, h.output, by have := h.size; simp; omega, fun k hk h1 h2 => by rw [Below.heap_alloc _ _ _ (Nat.lt_of_lt_of_le hk h.size)]; exact h.block k hk h1 h2⟩
theorem Two.setB {a b : Nat} {w w' : World} (h : Two a b w w') (o : Nat) (v : Value) : Two a b w (w'.setCell ⟨b, o, none⟩ v) :=
  ⟨h.os, h.tape, h.output, by simpa [World.setCell] using h.size, fun k hk h1 h2 => by rw [Below.heap_setCell _ _ _ _ h2]; exact h.block k hk h1 h2⟩
theorem Two.drew {a b : Nat} {w w' : World} (h : Two a b w w') : Two a b w w'.drew := ⟨h.os, h.tape, h.output, h.size, h.block⟩
theorem alloc_size (w : World) (o : Obj) : (w.alloc o).heap.size = w.heap.size + 1 := by simp
theorem drew_heap (w : World) : w.drew.heap = w.heap := rfl
theorem reach_put {w : World} {bw bf cap k n d : Nat} {fs : List Fr} {lv : Value} {ch : Bool} (r u : Bool) (a b c e t0 t1 t2 t3 t4 t5 t6 t7 : Nat) (x y : Obj) (hall : AllAt w bf fs) (hok : AllOk fs) (hk : k < fs.length)
    (hwalk : WalkAt w bw lv bf n cap ch) (hne : bw ≠ bf) (hd : d ≤ 8) (hbf : bf < w.heap.size) (hbw : bw < w.heap.size) :
    AllAt (((((((((((((((((w.setCell ⟨bf, k * 15, none⟩ (.bool r)).setCell ⟨bf, k * 15 + 1, none⟩ (.int .i64 a)).setCell ⟨bf, k * 15 + 2, none⟩ (.int .i64 b)).setCell ⟨bf, k * 15 + 3, none⟩ (.int .i64 c)).setCell ⟨bf, k * 15 + 4, none⟩ (.int .i64 e)).setCell ⟨bf, k * 15 + 5, none⟩ (.int .i64 d)).setCell ⟨bf, k * 15 + 6, none⟩ (.int .i64 t0)).setCell ⟨bf, k * 15 + 7, none⟩ (.int .i64 t1)).setCell ⟨bf, k * 15 + 8, none⟩ (.int .i64 t2)).setCell ⟨bf, k * 15 + 9, none⟩ (.int .i64 t3)).setCell ⟨bf, k * 15 + 10, none⟩ (.int .i64 t4)).setCell ⟨bf, k * 15 + 11, none⟩ (.int .i64 t5)).setCell ⟨bf, k * 15 + 12, none⟩ (.int .i64 t6)).setCell ⟨bf, k * 15 + 13, none⟩ (.int .i64 t7)).setCell ⟨bf, k * 15 + 14, none⟩ (.bool u)).alloc x).alloc y).drew bf (fs.set k ⟨r, [a, b, c, e], d, [t0, t1, t2, t3, t4, t5, t6, t7], u⟩) ∧
    WalkAt (((((((((((((((((w.setCell ⟨bf, k * 15, none⟩ (.bool r)).setCell ⟨bf, k * 15 + 1, none⟩ (.int .i64 a)).setCell ⟨bf, k * 15 + 2, none⟩ (.int .i64 b)).setCell ⟨bf, k * 15 + 3, none⟩ (.int .i64 c)).setCell ⟨bf, k * 15 + 4, none⟩ (.int .i64 e)).setCell ⟨bf, k * 15 + 5, none⟩ (.int .i64 d)).setCell ⟨bf, k * 15 + 6, none⟩ (.int .i64 t0)).setCell ⟨bf, k * 15 + 7, none⟩ (.int .i64 t1)).setCell ⟨bf, k * 15 + 8, none⟩ (.int .i64 t2)).setCell ⟨bf, k * 15 + 9, none⟩ (.int .i64 t3)).setCell ⟨bf, k * 15 + 10, none⟩ (.int .i64 t4)).setCell ⟨bf, k * 15 + 11, none⟩ (.int .i64 t5)).setCell ⟨bf, k * 15 + 12, none⟩ (.int .i64 t6)).setCell ⟨bf, k * 15 + 13, none⟩ (.int .i64 t7)).setCell ⟨bf, k * 15 + 14, none⟩ (.bool u)).alloc x).alloc y).drew bw lv bf n cap ch ∧
    Two bw bf w (((((((((((((((((w.setCell ⟨bf, k * 15, none⟩ (.bool r)).setCell ⟨bf, k * 15 + 1, none⟩ (.int .i64 a)).setCell ⟨bf, k * 15 + 2, none⟩ (.int .i64 b)).setCell ⟨bf, k * 15 + 3, none⟩ (.int .i64 c)).setCell ⟨bf, k * 15 + 4, none⟩ (.int .i64 e)).setCell ⟨bf, k * 15 + 5, none⟩ (.int .i64 d)).setCell ⟨bf, k * 15 + 6, none⟩ (.int .i64 t0)).setCell ⟨bf, k * 15 + 7, none⟩ (.int .i64 t1)).setCell ⟨bf, k * 15 + 8, none⟩ (.int .i64 t2)).setCell ⟨bf, k * 15 + 9, none⟩ (.int .i64 t3)).setCell ⟨bf, k * 15 + 10, none⟩ (.int .i64 t4)).setCell ⟨bf, k * 15 + 11, none⟩ (.int .i64 t5)).setCell ⟨bf, k * 15 + 12, none⟩ (.int .i64 t6)).setCell ⟨bf, k * 15 + 13, none⟩ (.int .i64 t7)).setCell ⟨bf, k * 15 + 14, none⟩ (.bool u)).alloc x).alloc y).drew := by
  have hs := size15 (w := w) (b := bf) (k * 15) (.bool r) (.int .i64 a) (.int .i64 b) (.int .i64 c) (.int .i64 e) (.int .i64 d) (.int .i64 t0) (.int .i64 t1) (.int .i64 t2) (.int .i64 t3) (.int .i64 t4) (.int .i64 t5) (.int .i64 t6) (.int .i64 t7) (.bool u)
  refine ⟨?_, ?_, ((((((((((((((((((Two.refl bw bf w).setB (k * 15) (.bool r)).setB (k * 15 + 1) (.int .i64 a)).setB (k * 15 + 2) (.int .i64 b)).setB (k * 15 + 3) (.int .i64 c)).setB (k * 15 + 4) (.int .i64 e)).setB (k * 15 + 5) (.int .i64 d)).setB (k * 15 + 6) (.int .i64 t0)).setB (k * 15 + 7) (.int .i64 t1)).setB (k * 15 + 8) (.int .i64 t2)).setB (k * 15 + 9) (.int .i64 t3)).setB (k * 15 + 10) (.int .i64 t4)).setB (k * 15 + 11) (.int .i64 t5)).setB (k * 15 + 12) (.int .i64 t6)).setB (k * 15 + 13) (.int .i64 t7)).setB (k * 15 + 14) (.bool u)).alloc x).alloc y).drew⟩
  · unfold AllAt
    rw [drew_heap, Below.heap_alloc _ _ _ (by rw [alloc_size, hs]; omega), Below.heap_alloc _ _ _ (by rw [hs]; exact hbf), ← allL_put hok hk (f := ⟨r, [a, b, c, e], d, [t0, t1, t2, t3, t4, t5, t6, t7], u⟩) ⟨rfl, rfl, hd⟩]
    exact put15 (k * 15) hall (.bool r) (.int .i64 a) (.int .i64 b) (.int .i64 c) (.int .i64 e) (.int .i64 d) (.int .i64 t0) (.int .i64 t1) (.int .i64 t2) (.int .i64 t3) (.int .i64 t4) (.int .i64 t5) (.int .i64 t6) (.int .i64 t7) (.bool u)
  · unfold WalkAt
    rw [drew_heap, Below.heap_alloc _ _ _ (by rw [alloc_size, hs]; omega), Below.heap_alloc _ _ _ (by rw [hs]; exact hbw), same15 (k * 15) hne (.bool r) (.int .i64 a) (.int .i64 b) (.int .i64 c) (.int .i64 e) (.int .i64 d) (.int .i64 t0) (.int .i64 t1) (.int .i64 t2) (.int .i64 t3) (.int .i64 t4) (.int .i64 t5) (.int .i64 t6) (.int .i64 t7) (.bool u)]
    exact hwalk
theorem Two.set {a b : Nat} {w w' : World} (h : Two a b w w') {o : Nat} {v : Value} : Two a b w (w'.setCell ⟨a, o, none⟩ v) :=
  ⟨h.os, h.tape, h.output, by simpa [World.setCell] using h.size, fun k hk h1 h2 => by rw [Below.heap_setCell _ _ _ _ h1]; exact h.block k hk h1 h2⟩
set_option maxRecDepth 100000 in
set_option maxHeartbeats 1000000 in
theorem reach_new (bw bf cap k : Nat) (fs : List Fr) (way known : Fr) (ch : Bool) (lv : Value) (w : World) (hall : AllAt w bf fs) (hok : AllOk fs) (hk : fs[k]? = some known) (hway : FrOk way)
    (hwalk : WalkAt w bw lv bf fs.length cap ch) (hne : bw ≠ bf) (hr : known.reached = false) :
    Calls Tryd.prog 86 #[.pointer (some ⟨bw, 0, none⟩), .int .i64 k, .agg (frL way).toArray] w fun e w' =>
      e = .returned (.bool true) ∧ AllAt w' bf (fs.set k { way with reached := true }) ∧ WalkAt w' bw lv bf fs.length cap true ∧ Two bw bf w w' := by
  have hkl : k < fs.length := (List.getElem?_eq_some_iff.1 hk).1
  have hkn : FrOk known := hok known (List.mem_of_getElem? hk)
  have HAL := hid hall
  have HWK := hid hwalk
  have w0 := cell_of_row w bw 0 _ _ _ hwalk
  have w1 := cell_of_row w bw 1 _ _ _ hwalk
  have w2 := cell_of_row w bw 2 _ _ _ hwalk
  simp only [List.getElem?_toArray, List.getElem?_cons_zero, List.getElem?_cons_succ] at w0 w1 w2
  have hbw := World.block_lt_of_cell? w _ w0
  have fw2 := frozen_of_row w bw 2 _ _ hwalk
  have c0 := hall.cell hok hk (j := 0) (by omega)
  have c1 := hall.cell hok hk (j := 1) (by omega)
  have c2 := hall.cell hok hk (j := 2) (by omega)
  have c3 := hall.cell hok hk (j := 3) (by omega)
  have c4 := hall.cell hok hk (j := 4) (by omega)
  have c5 := hall.cell hok hk (j := 5) (by omega)
  have c6 := hall.cell hok hk (j := 6) (by omega)
  have c7 := hall.cell hok hk (j := 7) (by omega)
  have c8 := hall.cell hok hk (j := 8) (by omega)
  have c9 := hall.cell hok hk (j := 9) (by omega)
  have c10 := hall.cell hok hk (j := 10) (by omega)
  have c11 := hall.cell hok hk (j := 11) (by omega)
  have c12 := hall.cell hok hk (j := 12) (by omega)
  have c13 := hall.cell hok hk (j := 13) (by omega)
  have c14 := hall.cell hok hk (j := 14) (by omega)
  have f0 := hall.frozen (k * 15)
  have f1 := hall.frozen (k * 15 + 1)
  have f2 := hall.frozen (k * 15 + 2)
  have f3 := hall.frozen (k * 15 + 3)
  have f4 := hall.frozen (k * 15 + 4)
  have f5 := hall.frozen (k * 15 + 5)
  have f6 := hall.frozen (k * 15 + 6)
  have f7 := hall.frozen (k * 15 + 7)
  have f8 := hall.frozen (k * 15 + 8)
  have f9 := hall.frozen (k * 15 + 9)
  have f10 := hall.frozen (k * 15 + 10)
  have f11 := hall.frozen (k * 15 + 11)
  have f12 := hall.frozen (k * 15 + 12)
  have f13 := hall.frozen (k * 15 + 13)
  have f14 := hall.frozen (k * 15 + 14)
  have hbf := World.block_lt_of_cell? w _ (c0.trans (by rfl : (frL known)[0]? = some (.bool known.reached)))
  simp only at hbw hbf
  obtain ⟨kr, klo, kd, kst, kw⟩ := known
  obtain ⟨h1, h2, h3⟩ := hkn
  simp only at h1 h2 hr
  subst hr
  obtain ⟨a, b, c, e, rfl⟩ := four h1
  obtain ⟨s0, s1, s2, s3, s4, s5, s6, s7, rfl⟩ := eight h2
  simp only [frL, List.map_cons, List.map_nil, List.cons_append, List.nil_append, numV, List.getElem?_cons_zero, List.getElem?_cons_succ] at c0 c1 c2 c3 c4 c5 c6 c7 c8 c9 c10 c11 c12 c13 c14
  rw [Nat.add_zero] at c0
  have HWAY := hid hway
  obtain ⟨yr, ylo, yd, yst, yw⟩ := way
  obtain ⟨g1, g2, g3⟩ := hway
  simp only at g1 g2
  obtain ⟨a', b', c', e', rfl⟩ := four g1
  obtain ⟨t0, t1, t2, t3, t4, t5, t6, t7, rfl⟩ := eight g2
  simp only [frL, List.map_cons, List.map_nil, List.cons_append, List.nil_append, numV]
  have i0 : (0 : Int) ≤ (k : Int) := by omega
  have i1 : (k : Int) < (fs.length : Int) := by omega
  have hbw2 : bw ≤ w.heap.size := by omega
  have hbf2 : bf ≤ w.heap.size := by omega
  have d1 : decide ((k : Int) < 0) = false := by simp
  clear hall hwalk
  go_enter Tryd.func86, Tryd.ntmps86
  go_wp2_with fail
  go_cut [6] (fun x6 wc => x6 = .bool false ∧ AllAt wc bf (fs.set k ⟨true, [a', b', c', e'], yd, [t0, t1, t2, t3, t4, t5, t6, t7], yw⟩) ∧ WalkAt wc bw lv bf fs.length cap ch ∧ Two bw bf w wc)
  case first =>
    go_region
    go_wp2_with fail
    go_meet
    exact ⟨rfl, reach_put true yw a' b' c' e' t0 t1 t2 t3 t4 t5 t6 t7 _ _ HAL.out hok hkl HWK.out hne g3 hbf hbw⟩
  case rest =>
    obtain ⟨rfl, hA, hW, hT⟩ := hcut
    have v2 := cell_of_row wc bw 2 _ _ _ hW
    simp only [List.getElem?_toArray, List.getElem?_cons_zero, List.getElem?_cons_succ] at v2
    have u2 := frozen_of_row wc bw 2 _ _ hW
    have HA := hid hA
    have HW := hid hW
    clear hA hW c0 c1 c2 c3 c4 c5 c6 c7 c8 c9 c10 c11 c12 c13 c14 f0 f1 f2 f3 f4 f5 f6 f7 f8 f9 f10 f11 f12 f13 f14
    go_wp2_with fail
    go_ret
    refine ⟨rfl, ?_, by have := setCell_row 2 (.bool true) HW.out; simpa [WalkAt] using this, hT.set⟩
    unfold AllAt
    rw [Below.heap_setCell _ _ _ _ (Ne.symm hne)]
    exact HA.out
end Go.Proofs.YtdmdpindonghdabDoor
namespace Go.Proofs.YtdmdpindonghdabDoor
open Go.RowKit
def toldM (l : List Ins) (all : List Pt) (i : Nat) : MP := ⟨(l.getD i ⟨0, 0, 0⟩).place, (toldF i all).r, (toldF i all).lo, (toldF i all).st⟩
def toldAll (l : List Ins) (all : List Pt) : List MP := (List.range l.length).map (toldM l all)
end Go.Proofs.YtdmdpindonghdabDoor
namespace Go.Proofs.YtdmdpindonghdabDoor
open Go.RowKit
theorem made_flat {α : Type} (f : α → List Value) (m : Nat) (hf : ∀ x, (f x).length = m) (hm : 0 < m) (x : α) (n : Nat) : madeCells (f x).toArray (n * m) = ((List.replicate n x).flatMap f).toArray := by
  apply Array.toList_inj.1
  apply List.ext_getElem?
  intro i
  have hl : ((List.replicate n x).flatMap f).length = n * m := by
    induction n with
    | zero => simp
    | succ n ih => rw [List.replicate_succ, List.flatMap_cons, List.length_append, ih, hf, Nat.succ_mul, Nat.add_comm]
  by_cases hi : i < n * m
  · have h1 : i / m < n := Nat.div_lt_of_lt_mul (by rw [Nat.mul_comm]; exact hi)
    have h2 : i % m < m := Nat.mod_lt _ hm
    have e : i / m * m + i % m = i := by rw [Nat.mul_comm]; exact Nat.div_add_mod i m
    have h3 := flat_at f m hf (List.replicate n x) (i / m) (i % m) (by simpa using h1) h2
    rw [e] at h3
    simp only [List.getElem_replicate] at h3
    simp only [madeCells, Array.toList_map, Array.toList_range, List.getElem?_map, List.getElem?_range hi, Option.map_some]
    rw [h3]
    have h4 : i % m < (f x).length := by rw [hf]; exact h2
    rw [List.getElem?_eq_getElem h4]
    simp [hf, List.getElem?_eq_getElem h4]
  · rw [List.getElem?_eq_none (by simp [size_madeCells]; omega), List.getElem?_eq_none (by simp only; omega)]
/-- A list of numbers that was handed in. -/
def ArgInts (w : World) (v : Value) (zs : List Int) : Prop :=
  (v = .slice none 0 0 ∧ zs = []) ∨ ∃ a cap, v = .slice (some a) zs.length cap ∧ (∀ (j : Nat) (x : Int), zs[j]? = some x → w.cell? (a.add j) = some (.int .i64 x)) ∧ (0 < zs.length → a.block < w.heap.size)
theorem ArgInts.slice {w : World} {v : Value} {zs : List Int} (h : ArgInts w v zs) : ∃ p cap, v = .slice p zs.length cap := by
  rcases h with ⟨h1, h2⟩ | ⟨a, cap, hv, _⟩
  · exact ⟨none, 0, by rw [h1, h2]; rfl⟩
  · exact ⟨_, cap, hv⟩
/-- The error of New. -/
def NewErr (s : ByteArray) (n : Nat) (cells : Int) (r : Nat) : Prop :=
  (r ≠ 0 ∧ IsErr s r) ∨ (IsErr s 0 ∧ (cells < 1 ∨ 32 < cells) ∧ r = 6) ∨ (IsErr s 0 ∧ 1 ≤ cells ∧ cells ≤ 32 ∧ 64 < n ∧ r = 7) ∨ (IsErr s 0 ∧ 1 ≤ cells ∧ cells ≤ 32 ∧ n ≤ 64 ∧ r = 0)
end Go.Proofs.YtdmdpindonghdabDoor
namespace Go.Proofs.YtdmdpindonghdabDoor
open Go.RowKit
theorem setCells_row {t : TypeId} (b : Nat) : ∀ (vs : List Value) (o : Nat) (w : World) (l : List Value), w.heap[b]? = some (.cells l.toArray t) → (w.setCells b o vs).heap[b]? = some (.cells (putL l o vs).toArray t)
  | [], _, _, _, h => h
  | v :: r, o, w, l, h => by
    have := setCell_row o v h
    rw [List.setIfInBounds_toArray] at this
    exact setCells_row b r (o + 1) _ _ this
theorem setCells_far (b : Nat) : ∀ (vs : List Value) (o : Nat) (w : World) (k : Nat), k ≠ b → (w.setCells b o vs).heap[k]? = w.heap[k]?
  | [], _, _, _, _ => rfl
  | _ :: r, o, _, k, h => (setCells_far b r (o + 1) _ k h).trans (Below.heap_setCell _ _ _ _ h)
theorem setCells_below {B : Nat} (b : Nat) (hb : B ≤ b) : ∀ (vs : List Value) (o : Nat) (w0 w : World), Below B w0 w → Below B w0 (w.setCells b o vs)
  | [], _, _, _, h => h
  | _ :: r, o, w0, _, h => setCells_below b hb r (o + 1) w0 _ (h.setCell hb _)
theorem make_ints (n : Nat) (h : n ≤ 17592186044416) (w : World) : Sem.run Tryd.prog (Instr.makeSlice 22 (.int .i64 ((n : Int) + 2)) (.int .i64 ((n : Int) + 2))) w = .ok (.slice (some ⟨w.heap.size, 0, none⟩) (n + 2) (n + 2)) (w.alloc (.cells (Array.replicate (n + 2) (Value.int .i64 0)) 3)) := by
  obtain ⟨i0, hi, hz0, hz1, hz2⟩ := info_parts intInfo
  have := run_make (P := Tryd.prog) w 22 3 i0 _ Tryd.underlying22 hi hz0 .i64 .i64 ((n : Int) + 2) ((n : Int) + 2) (by omega) (by omega) (by rw [hz2]; omega) (by omega)
  rw [this, hz1, show Value.cells (.int .i64 0) = #[.int .i64 0] from rfl, show ((n : Int) + 2).toNat = n + 2 by omega, Nat.mul_one]
  rw [show madeCells #[Value.int .i64 0] (n + 2) = Array.replicate (n + 2) (Value.int .i64 0) from Array.toList_inj.1 (by rw [toList_madeCells_one]; simp)]
theorem intSize : (Tryd.prog.info? 3).map (·.size) = some 1 := by kernel_rfl
theorem copy_arg {w W : World} {v : Value} {zs : List Int} {g n : Nat} (hv : ArgInts w v zs) (hn : zs.length = n) (hb : Below w.heap.size w W) (hrow : W.heap[g]? = some (.cells (Array.replicate (n + 2) (Value.int .i64 0)) 3)) (ty : TypeId) :
    (Builtin.copy_ #[22, 22] ty #[.slice (some ⟨g, 0, none⟩) (n + 2) (n + 2), v]).run Tryd.prog W = .ok (goInt n) (W.setCells g 0 (zs.map (Value.int .i64))) := by
  subst hn
  by_cases h0 : zs.length = 0
  · have hz : zs = [] := List.length_eq_zero_iff.1 h0
    obtain ⟨p, cap, e⟩ := hv.slice
    subst e
    rw [run_copy_none W _ _ ty 3 _ _ _ _ _ _ Tryd.underlying22 intSize (by rw [h0]; simp), hz]
    rfl
  · rcases hv with ⟨_, h⟩ | ⟨a, cap, rfl, hc, hab⟩
    · rw [h] at h0; exact absurd rfl h0
    have := run_copy_cells (P := Tryd.prog) W 22 22 ty 3 g 0 (zs.length + 2) (zs.length + 2) a zs.length cap (zs.map (Value.int .i64)) Tryd.underlying22 intSize (by simp) (fun j u hu => by
      rw [List.getElem?_map] at hu
      cases hj : zs[j]? with
      | none => rw [hj] at hu; cases hu
      | some x =>
        rw [hj] at hu
        simp only [Option.map_some, Option.some.injEq] at hu
        subst hu
        have hbl : (a.add j).block = a.block := by unfold Addr.add; split <;> rfl
        rw [hb.cell (by rw [hbl]; exact hab (by omega))]
        exact hc j x hj) (fun j hj => by
          rw [cell_of_row W g _ _ _ _ hrow]
          simp at hj ⊢
          omega) (fun j _ => frozen_of_row W g _ _ _ hrow) (by simp [Value.oneCell'])
    rw [this]
    simp
theorem spare_put (zs : List Value) : putL (List.replicate (zs.length + 2) (Value.int .i64 0)) 0 zs = zs ++ [Value.int .i64 0, Value.int .i64 0] := by
  have h := putL_head [] (List.replicate (zs.length + 2) (Value.int .i64 0)) zs 0 rfl (by simp)
  simp only [List.nil_append] at h
  rw [h, List.drop_replicate]
  simp [show zs.length + 2 - zs.length = 2 by omega, List.replicate_succ]
end Go.Proofs.YtdmdpindonghdabDoor
namespace Go.Proofs.YtdmdpindonghdabDoor
open Go.RowKit
def ZsAt (w : World) (v : Value) (zs : List Int) : Prop :=
  (v = .slice none 0 0 ∧ zs = []) ∨ ∃ a cap, v = .slice (some a) zs.length cap ∧ ∀ (j : Nat) (x : Int), zs[j]? = some x → w.cell? (a.add j) = some (.int .i64 x)
theorem ArgInts.zs {w w' : World} {v : Value} {zs : List Int} (h : ArgInts w v zs) (hb : Below w.heap.size w w') : ZsAt w' v zs := by
  rcases h with h | ⟨a, cap, hv, hc, hab⟩
  · exact .inl h
  · refine .inr ⟨a, cap, hv, fun j x hj => ?_⟩
    have hbl : (a.add j).block = a.block := by unfold Addr.add; split <;> rfl
    have hl := (List.getElem?_eq_some_iff.1 hj).1
    rw [hb.cell (by rw [hbl]; exact hab (by omega))]
    exact hc j x hj
theorem ZsAt.slice {w : World} {v : Value} {zs : List Int} (h : ZsAt w v zs) : ∃ p cap, v = .slice p zs.length cap := by
  rcases h with ⟨h1, h2⟩ | ⟨a, cap, hv, _⟩
  · exact ⟨none, 0, by rw [h1, h2]; rfl⟩
  · exact ⟨_, cap, hv⟩
theorem ZsAt.of_row {w : World} {g cap : Nat} {zs : List Int} {r : List Value} {t : TypeId} (h : w.heap[g]? = some (.cells (zs.map (Value.int .i64) ++ r).toArray t)) : ZsAt w (.slice (some ⟨g, 0, none⟩) zs.length cap) zs := by
  refine .inr ⟨⟨g, 0, none⟩, cap, rfl, fun j x hj => ?_⟩
  have hl := (List.getElem?_eq_some_iff.1 hj).1
  rw [addr_add, cell_of_row w g j _ _ _ h, List.getElem?_toArray, List.getElem?_append_left (by simpa using hl), List.getElem?_map, hj]
  rfl
end Go.Proofs.YtdmdpindonghdabDoor
namespace Go.Proofs.YtdmdpindonghdabDoor
open Go.RowKit
theorem flat_set {α : Type} (f : α → List Value) (m : Nat) (hf : ∀ x, (f x).length = m) : ∀ (l : List α) (k j : Nat) (c : α) (v : Value) (h : k < l.length), j < m → f c = (f l[k]).set j v → (l.flatMap f).set (k * m + j) v = (l.set k c).flatMap f := by
  intro l
  induction l with
  | nil => intro k j c v h; simp at h
  | cons a r ih =>
    intro k j c v h hj e
    have h1 := hf a
    cases k with
    | zero =>
      simp only [List.getElem_cons_zero] at e
      rw [Nat.zero_mul, Nat.zero_add, List.flatMap_cons, List.set_append_left _ _ (by omega), List.set_cons_zero, List.flatMap_cons, e]
    | succ k =>
      simp only [List.getElem_cons_succ] at e
      rw [List.flatMap_cons, List.set_append_right _ _ (by rw [h1, Nat.add_mul]; omega), h1, show (k + 1) * m + j - m = k * m + j by rw [Nat.add_mul]; omega, List.set_cons_succ, List.flatMap_cons, ih k j c v (by simpa using h) hj e]
theorem owns_cell {w : World} {base e size N n : Nat} {g cap : Nat} {xs : List Value} (h : w.ownsRow base e size (.slice (some ⟨g, 0, none⟩) N cap) N xs) (v : Value) : (w.setCell ⟨g, n, none⟩ v).ownsRow base e size (.slice (some ⟨g, 0, none⟩) N cap) N (xs.set n v) := by
  have h1 := h.1
  refine ⟨by simpa using h1, ?_⟩
  rcases h.2 with ⟨h2, _⟩ | ⟨g', cap', cur, hv, hg, hh, r1, r2, r3, r4⟩
  · cases h2
  · cases hv
    refine .inr ⟨g, cap, cur.setIfInBounds n v, rfl, hg, setCell_row n _ hh, r1, r2, by simpa using r3, ?_⟩
    rw [Array.toList_setIfInBounds, List.take_set, r4]
/-- The room of a list; a row of a block, its type. -/
structure CK where
  cap : Nat
  row : Array Value
  ty : TypeId
def firstP (p : RC → Bool) : List RC → Nat → Int
  | [], _ => -1
  | c :: r, k => if p c = true then (k : Int) else firstP p r (k + 1)
theorem firstP_hit {p : RC → Bool} {cs : List RC} {k : Nat} (h : k < cs.length) (hp : p cs[k] = true) : firstP p (cs.drop k) k = k := by
  rw [List.drop_eq_getElem_cons h]; simp [firstP, hp]
theorem firstP_miss {p : RC → Bool} {cs : List RC} {k : Nat} (h : k < cs.length) (hp : p cs[k] = false) : firstP p (cs.drop k) k = firstP p (cs.drop (k + 1)) (k + 1) := by
  rw [List.drop_eq_getElem_cons h]; simp [firstP, hp]
end Go.Proofs.YtdmdpindonghdabDoor
namespace Go.Proofs.YtdmdpindonghdabDoor
open Go.RowKit
def markC (c : RC) : RC := { c with reached := true }
/-- The cells to which these refer are reached. -/
def reachC (cs : List RC) : List Int → List RC
  | [] => cs
  | r :: rs => reachC (if 0 ≤ r then cs.modify r.toNat markC else cs) rs
theorem reachC_snoc (rs : List Int) : ∀ (cs : List RC) (r : Int), reachC cs (rs ++ [r]) = (if 0 ≤ r then (reachC cs rs).modify r.toNat markC else reachC cs rs) := by
  induction rs with
  | nil => intro cs r; rfl
  | cons x xs ih => intro cs r; exact ih _ r
theorem reachC_len (rs : List Int) : ∀ (cs : List RC), (reachC cs rs).length = cs.length := by
  induction rs with
  | nil => intro cs; rfl
  | cons x xs ih =>
    intro cs
    simp only [reachC]
    rw [ih]
    split
    · simp
    · rfl
theorem modify_set {cs : List RC} {k : Nat} (h : k < cs.length) (f : RC → RC) : cs.modify k f = cs.set k (f cs[k]) := by
  induction cs generalizing k with
  | nil => simp at h
  | cons a r ih =>
    cases k with
    | zero => rfl
    | succ k =>
      have := ih (k := k) (by simpa using h)
      simp only [List.modify_succ_cons, List.set_cons_succ, List.getElem_cons_succ]
      rw [this]
end Go.Proofs.YtdmdpindonghdabDoor
namespace Go.Proofs.YtdmdpindonghdabDoor
open Go.RowKit
set_option maxRecDepth 100000 in
set_option maxHeartbeats 1000000 in
theorem eq4 (a0 a1 a2 a3 b0 b1 b2 b3 : Int) (w : World) :
    (Op.equalIn 10000 77 (.agg #[.int .i64 a0, .int .i64 a1, .int .i64 a2, .int .i64 a3]) (.agg #[.int .i64 b0, .int .i64 b1, .int .i64 b2, .int .i64 b3])).run Tryd.prog w = .ok (a0 == b0 && (a1 == b1 && (a2 == b2 && (a3 == b3)))) w := by
  rw [show (10000 : Nat) = 9998 + 1 + 1 from rfl, Op.equalIn]
  simp only [Sem.run_bind, run_underlying Tryd.underlying77, Result.andThen_ok, Std.Legacy.Range.forIn_eq_forIn_range']
  simp [go_sem, Std.Legacy.Range.size, List.range'_succ]
  by_cases h0 : a0 = b0
  case neg => simp [h0]
  by_cases h1 : a1 = b1
  case neg => simp [h0, h1]
  by_cases h2 : a2 = b2
  case neg => simp [h0, h1, h2]
  by_cases h3 : a3 = b3
  case neg => simp [h0, h1, h2, h3]
  simp [h0, h1, h2, h3]
set_option maxRecDepth 100000 in
set_option maxHeartbeats 1000000 in
theorem eq8 (a0 a1 a2 a3 a4 a5 a6 a7 b0 b1 b2 b3 b4 b5 b6 b7 : Int) (w : World) :
    (Op.equalIn 10000 78 (.agg #[.int .i64 a0, .int .i64 a1, .int .i64 a2, .int .i64 a3, .int .i64 a4, .int .i64 a5, .int .i64 a6, .int .i64 a7]) (.agg #[.int .i64 b0, .int .i64 b1, .int .i64 b2, .int .i64 b3, .int .i64 b4, .int .i64 b5, .int .i64 b6, .int .i64 b7])).run Tryd.prog w = .ok (a0 == b0 && (a1 == b1 && (a2 == b2 && (a3 == b3 && (a4 == b4 && (a5 == b5 && (a6 == b6 && (a7 == b7)))))))) w := by
  rw [show (10000 : Nat) = 9998 + 1 + 1 from rfl, Op.equalIn]
  simp only [Sem.run_bind, run_underlying Tryd.underlying78, Result.andThen_ok, Std.Legacy.Range.forIn_eq_forIn_range']
  simp [go_sem, Std.Legacy.Range.size, List.range'_succ]
  by_cases h0 : a0 = b0
  case neg => simp [h0]
  by_cases h1 : a1 = b1
  case neg => simp [h0, h1]
  by_cases h2 : a2 = b2
  case neg => simp [h0, h1, h2]
  by_cases h3 : a3 = b3
  case neg => simp [h0, h1, h2, h3]
  by_cases h4 : a4 = b4
  case neg => simp [h0, h1, h2, h3, h4]
  by_cases h5 : a5 = b5
  case neg => simp [h0, h1, h2, h3, h4, h5]
  by_cases h6 : a6 = b6
  case neg => simp [h0, h1, h2, h3, h4, h5, h6]
  by_cases h7 : a7 = b7
  case neg => simp [h0, h1, h2, h3, h4, h5, h6, h7]
  simp [h0, h1, h2, h3, h4, h5, h6, h7]
end Go.Proofs.YtdmdpindonghdabDoor
namespace Go.Proofs.YtdmdpindonghdabDoor
open Go.RowKit
attribute [local go_sem] eq4 eq8
theorem bcell {W w1 : World} (hb : Below W.heap.size W w1) : (∀ b o, b < W.heap.size → w1.cell? ⟨b, o, none⟩ = W.cell? ⟨b, o, none⟩) ∧ (∀ b o, b < W.heap.size → w1.frozen? ⟨b, o, none⟩ = W.frozen? ⟨b, o, none⟩) :=
  ⟨fun b o h => hb.cell (p := ⟨b, o, none⟩) h, fun b o h => hb.frozen (p := ⟨b, o, none⟩) h⟩
theorem reach_put2 {w : World} {bw bf cap k n d : Nat} {fs : List Fr} {lv : Value} {ch : Bool} (r u : Bool) (a b c e t0 t1 t2 t3 t4 t5 t6 t7 : Nat) (hall : AllAt w bf fs) (hok : AllOk fs) (hk : k < fs.length)
    (hwalk : WalkAt w bw lv bf n cap ch) (hne : bw ≠ bf) (hd : d ≤ 8) :
    AllAt (((((((((((((((w.setCell ⟨bf, k * 15, none⟩ (.bool r)).setCell ⟨bf, k * 15 + 1, none⟩ (.int .i64 a)).setCell ⟨bf, k * 15 + 2, none⟩ (.int .i64 b)).setCell ⟨bf, k * 15 + 3, none⟩ (.int .i64 c)).setCell ⟨bf, k * 15 + 4, none⟩ (.int .i64 e)).setCell ⟨bf, k * 15 + 5, none⟩ (.int .i64 d)).setCell ⟨bf, k * 15 + 6, none⟩ (.int .i64 t0)).setCell ⟨bf, k * 15 + 7, none⟩ (.int .i64 t1)).setCell ⟨bf, k * 15 + 8, none⟩ (.int .i64 t2)).setCell ⟨bf, k * 15 + 9, none⟩ (.int .i64 t3)).setCell ⟨bf, k * 15 + 10, none⟩ (.int .i64 t4)).setCell ⟨bf, k * 15 + 11, none⟩ (.int .i64 t5)).setCell ⟨bf, k * 15 + 12, none⟩ (.int .i64 t6)).setCell ⟨bf, k * 15 + 13, none⟩ (.int .i64 t7)).setCell ⟨bf, k * 15 + 14, none⟩ (.bool u)).drew bf (fs.set k ⟨r, [a, b, c, e], d, [t0, t1, t2, t3, t4, t5, t6, t7], u⟩) ∧ WalkAt (((((((((((((((w.setCell ⟨bf, k * 15, none⟩ (.bool r)).setCell ⟨bf, k * 15 + 1, none⟩ (.int .i64 a)).setCell ⟨bf, k * 15 + 2, none⟩ (.int .i64 b)).setCell ⟨bf, k * 15 + 3, none⟩ (.int .i64 c)).setCell ⟨bf, k * 15 + 4, none⟩ (.int .i64 e)).setCell ⟨bf, k * 15 + 5, none⟩ (.int .i64 d)).setCell ⟨bf, k * 15 + 6, none⟩ (.int .i64 t0)).setCell ⟨bf, k * 15 + 7, none⟩ (.int .i64 t1)).setCell ⟨bf, k * 15 + 8, none⟩ (.int .i64 t2)).setCell ⟨bf, k * 15 + 9, none⟩ (.int .i64 t3)).setCell ⟨bf, k * 15 + 10, none⟩ (.int .i64 t4)).setCell ⟨bf, k * 15 + 11, none⟩ (.int .i64 t5)).setCell ⟨bf, k * 15 + 12, none⟩ (.int .i64 t6)).setCell ⟨bf, k * 15 + 13, none⟩ (.int .i64 t7)).setCell ⟨bf, k * 15 + 14, none⟩ (.bool u)).drew bw lv bf n cap ch ∧ Two bw bf w (((((((((((((((w.setCell ⟨bf, k * 15, none⟩ (.bool r)).setCell ⟨bf, k * 15 + 1, none⟩ (.int .i64 a)).setCell ⟨bf, k * 15 + 2, none⟩ (.int .i64 b)).setCell ⟨bf, k * 15 + 3, none⟩ (.int .i64 c)).setCell ⟨bf, k * 15 + 4, none⟩ (.int .i64 e)).setCell ⟨bf, k * 15 + 5, none⟩ (.int .i64 d)).setCell ⟨bf, k * 15 + 6, none⟩ (.int .i64 t0)).setCell ⟨bf, k * 15 + 7, none⟩ (.int .i64 t1)).setCell ⟨bf, k * 15 + 8, none⟩ (.int .i64 t2)).setCell ⟨bf, k * 15 + 9, none⟩ (.int .i64 t3)).setCell ⟨bf, k * 15 + 10, none⟩ (.int .i64 t4)).setCell ⟨bf, k * 15 + 11, none⟩ (.int .i64 t5)).setCell ⟨bf, k * 15 + 12, none⟩ (.int .i64 t6)).setCell ⟨bf, k * 15 + 13, none⟩ (.int .i64 t7)).setCell ⟨bf, k * 15 + 14, none⟩ (.bool u)).drew := by
  refine ⟨?_, ?_, ((((((((((((((((Two.refl bw bf w).setB (k * 15) (.bool r)).setB (k * 15 + 1) (.int .i64 a)).setB (k * 15 + 2) (.int .i64 b)).setB (k * 15 + 3) (.int .i64 c)).setB (k * 15 + 4) (.int .i64 e)).setB (k * 15 + 5) (.int .i64 d)).setB (k * 15 + 6) (.int .i64 t0)).setB (k * 15 + 7) (.int .i64 t1)).setB (k * 15 + 8) (.int .i64 t2)).setB (k * 15 + 9) (.int .i64 t3)).setB (k * 15 + 10) (.int .i64 t4)).setB (k * 15 + 11) (.int .i64 t5)).setB (k * 15 + 12) (.int .i64 t6)).setB (k * 15 + 13) (.int .i64 t7)).setB (k * 15 + 14) (.bool u)).drew⟩
  · unfold AllAt
    rw [drew_heap, ← allL_put hok hk (f := ⟨r, [a, b, c, e], d, [t0, t1, t2, t3, t4, t5, t6, t7], u⟩) ⟨rfl, rfl, hd⟩]
    exact put15 (k * 15) hall (.bool r) (.int .i64 a) (.int .i64 b) (.int .i64 c) (.int .i64 e) (.int .i64 d) (.int .i64 t0) (.int .i64 t1) (.int .i64 t2) (.int .i64 t3) (.int .i64 t4) (.int .i64 t5) (.int .i64 t6) (.int .i64 t7) (.bool u)
  · unfold WalkAt
    rw [drew_heap, same15 (k * 15) hne (.bool r) (.int .i64 a) (.int .i64 b) (.int .i64 c) (.int .i64 e) (.int .i64 d) (.int .i64 t0) (.int .i64 t1) (.int .i64 t2) (.int .i64 t3) (.int .i64 t4) (.int .i64 t5) (.int .i64 t6) (.int .i64 t7) (.bool u)]
    exact hwalk
theorem Two.of_below {a b : Nat} {w w' : World} (h : Below w.heap.size w w') : Two a b w w' := ⟨h.os, h.tape, h.output, h.size, fun k hk _ _ => h.block k hk⟩
theorem Two.trans {a b : Nat} {w1 w2 w3 : World} (h : Two a b w1 w2) (g : Two a b w2 w3) : Two a b w1 w3 :=
  ⟨g.os.trans h.os, g.tape.trans h.tape, g.output.trans h.output, Nat.le_trans h.size g.size, fun k hk h1 h2 => (g.block k (Nat.lt_of_lt_of_le hk h.size) h1 h2).trans (h.block k hk h1 h2)⟩
theorem four_set {w w5 : World} {x y : Array Value} {t s : TypeId} {r yw : Bool} {a b c e d : Nat} {t0 t1 t2 t3 t4 t5 t6 t7 : Nat} (j0 j1 j2 j3 : Nat) (hx : x = #[.bool r, .int .i64 a, .int .i64 b, .int .i64 c, .int .i64 e, .int .i64 d, .int .i64 t0, .int .i64 t1, .int .i64 t2, .int .i64 t3, .int .i64 t4, .int .i64 t5, .int .i64 t6, .int .i64 t7, .bool yw])
    (hb : Below ((w.alloc (.cells x t)).alloc (.cells y s)).heap.size ((w.alloc (.cells x t)).alloc (.cells y s)) w5) :
    ((((w5.setCell ⟨w.heap.size, 1, none⟩ (.int .i64 j0)).setCell ⟨w.heap.size, 2, none⟩ (.int .i64 j1)).setCell ⟨w.heap.size, 3, none⟩ (.int .i64 j2)).setCell ⟨w.heap.size, 4, none⟩ (.int .i64 j3)).heap[w.heap.size]? =
      some (.cells #[.bool r, .int .i64 j0, .int .i64 j1, .int .i64 j2, .int .i64 j3, .int .i64 d, .int .i64 t0, .int .i64 t1, .int .i64 t2, .int .i64 t3, .int .i64 t4, .int .i64 t5, .int .i64 t6, .int .i64 t7, .bool yw] t) ∧
    ((((w5.setCell ⟨w.heap.size, 1, none⟩ (.int .i64 j0)).setCell ⟨w.heap.size, 2, none⟩ (.int .i64 j1)).setCell ⟨w.heap.size, 3, none⟩ (.int .i64 j2)).setCell ⟨w.heap.size, 4, none⟩ (.int .i64 j3)).heap[w.heap.size + 1]? = some (.cells y s) ∧
    Below w.heap.size w ((((w5.setCell ⟨w.heap.size, 1, none⟩ (.int .i64 j0)).setCell ⟨w.heap.size, 2, none⟩ (.int .i64 j1)).setCell ⟨w.heap.size, 3, none⟩ (.int .i64 j2)).setCell ⟨w.heap.size, 4, none⟩ (.int .i64 j3)) := by
  subst hx
  rw [alloc_size, alloc_size] at hb
  have h0 := (hb.block w.heap.size (by omega)).trans ((Below.heap_alloc _ _ _ (by rw [alloc_size]; omega)).trans (heap_alloc_new w _))
  have h1 := (hb.block (w.heap.size + 1) (by omega)).trans (heap_two_new w _ _)
  refine ⟨?_, ?_, ?_⟩
  · have := setCell_row 4 (.int .i64 j3) (setCell_row 3 (.int .i64 j2) (setCell_row 2 (.int .i64 j1) (setCell_row 1 (.int .i64 j0) h0)))
    simpa using this
  · iterate 4 rw [Below.heap_setCell _ _ _ _ (by simp)]
    exact h1
  · have hbw : Below w.heap.size w w5 := (((Below.refl _ _).alloc (Nat.le_refl _) _).alloc (by simp) _).trans (hb.mono (by omega))
    exact (((hbw.setCell (by simp) _).setCell (by simp) _).setCell (by simp) _).setCell (by simp) _
def ReachPost (bw bf cap k : Nat) (fs : List Fr) (way known : Fr) (ch : Bool) (lv : Value) (w : World) (e : Ending) (w' : World) : Prop :=
  e = .returned (.bool true) ∧ Two bw bf w w' ∧ ((known.lo = List.zipWith joinN known.lo way.lo ∧ AllAt w' bf fs ∧ WalkAt w' bw lv bf fs.length cap ch) ∨
    (known.lo ≠ List.zipWith joinN known.lo way.lo ∧ AllAt w' bf (fs.set k { way with reached := true, lo := List.zipWith joinN known.lo way.lo }) ∧ WalkAt w' bw lv bf fs.length cap true))
set_option maxRecDepth 100000 in
set_option maxHeartbeats 1000000 in
theorem reach_join (bw bf cap k : Nat) (fs : List Fr) (way known : Fr) (ch : Bool) (lv : Value) (w : World) (hall : AllAt w bf fs) (hok : AllOk fs) (hk : fs[k]? = some known) (hway : FrOk way)
    (hwalk : WalkAt w bw lv bf fs.length cap ch) (hr : known.reached = true) (hne : bw ≠ bf) (hd : known.depth = way.depth) (hst : known.stk = way.stk) :
    Calls Tryd.prog 86 #[.pointer (some ⟨bw, 0, none⟩), .int .i64 k, .agg (frL way).toArray] w (ReachPost bw bf cap k fs way known ch lv w) := by
  have hkl : k < fs.length := (List.getElem?_eq_some_iff.1 hk).1
  have hkn : FrOk known := hok known (List.mem_of_getElem? hk)
  have HAL := hid hall
  have HWK := hid hwalk
  have w0 := cell_of_row w bw 0 _ _ _ hwalk
  have w1 := cell_of_row w bw 1 _ _ _ hwalk
  have w2 := cell_of_row w bw 2 _ _ _ hwalk
  simp only [List.getElem?_toArray, List.getElem?_cons_zero, List.getElem?_cons_succ] at w0 w1 w2
  have hbw := World.block_lt_of_cell? w _ w0
  have fw2 := frozen_of_row w bw 2 _ _ hwalk
  have c0 := hall.cell hok hk (j := 0) (by omega)
  have c1 := hall.cell hok hk (j := 1) (by omega)
  have c2 := hall.cell hok hk (j := 2) (by omega)
  have c3 := hall.cell hok hk (j := 3) (by omega)
  have c4 := hall.cell hok hk (j := 4) (by omega)
  have c5 := hall.cell hok hk (j := 5) (by omega)
  have c6 := hall.cell hok hk (j := 6) (by omega)
  have c7 := hall.cell hok hk (j := 7) (by omega)
  have c8 := hall.cell hok hk (j := 8) (by omega)
  have c9 := hall.cell hok hk (j := 9) (by omega)
  have c10 := hall.cell hok hk (j := 10) (by omega)
  have c11 := hall.cell hok hk (j := 11) (by omega)
  have c12 := hall.cell hok hk (j := 12) (by omega)
  have c13 := hall.cell hok hk (j := 13) (by omega)
  have c14 := hall.cell hok hk (j := 14) (by omega)
  have f0 := hall.frozen (k * 15)
  have f1 := hall.frozen (k * 15 + 1)
  have f2 := hall.frozen (k * 15 + 2)
  have f3 := hall.frozen (k * 15 + 3)
  have f4 := hall.frozen (k * 15 + 4)
  have f5 := hall.frozen (k * 15 + 5)
  have f6 := hall.frozen (k * 15 + 6)
  have f7 := hall.frozen (k * 15 + 7)
  have f8 := hall.frozen (k * 15 + 8)
  have f9 := hall.frozen (k * 15 + 9)
  have f10 := hall.frozen (k * 15 + 10)
  have f11 := hall.frozen (k * 15 + 11)
  have f12 := hall.frozen (k * 15 + 12)
  have f13 := hall.frozen (k * 15 + 13)
  have f14 := hall.frozen (k * 15 + 14)
  have hbf := World.block_lt_of_cell? w _ (c0.trans (by rfl : (frL known)[0]? = some (.bool known.reached)))
  simp only at hbw hbf
  obtain ⟨kr, klo, kd, kst, kw⟩ := known
  obtain ⟨h1, h2, h3⟩ := hkn
  simp only at h1 h2 hr
  subst hr
  obtain ⟨a, b, c, e, rfl⟩ := four h1
  obtain ⟨s0, s1, s2, s3, s4, s5, s6, s7, rfl⟩ := eight h2
  simp only [frL, List.map_cons, List.map_nil, List.cons_append, List.nil_append, numV, List.getElem?_cons_zero, List.getElem?_cons_succ] at c0 c1 c2 c3 c4 c5 c6 c7 c8 c9 c10 c11 c12 c13 c14
  rw [Nat.add_zero] at c0
  have HWAY := hid hway
  obtain ⟨yr, ylo, yd, yst, yw⟩ := way
  obtain ⟨g1, g2, g3⟩ := hway
  simp only at g1 g2 hd hst
  obtain ⟨a', b', c', e', rfl⟩ := four g1
  obtain ⟨t0, t1, t2, t3, t4, t5, t6, t7, rfl⟩ := eight g2
  simp only [frL, List.map_cons, List.map_nil, List.cons_append, List.nil_append, numV]
  have i0 : (0 : Int) ≤ (k : Int) := by omega
  have i1 : (k : Int) < (fs.length : Int) := by omega
  have hbw2 : bw ≤ w.heap.size := by omega
  have hbf2 : bf ≤ w.heap.size := by omega
  have d1 : decide ((k : Int) < 0) = false := by simp
  clear hall hwalk
  subst hd
  simp only [List.cons.injEq, and_true] at hst
  obtain ⟨rfl, rfl, rfl, rfl, rfl, rfl, rfl, rfl⟩ := hst
  have hjn := hid (fun W => flowJoined_any a b c e a' b' c' e' W)
  have HPS : Hid (∀ w', Two bw bf w w' → ([a, b, c, e] = [joinN a a', joinN b b', joinN c c', joinN e e'] ∧ AllAt w' bf fs ∧ WalkAt w' bw lv bf fs.length cap ch ∨
      [a, b, c, e] ≠ [joinN a a', joinN b b', joinN c c', joinN e e'] ∧ AllAt w' bf (fs.set k ⟨true, [joinN a a', joinN b b', joinN c c', joinN e e'], kd, [s0, s1, s2, s3, s4, s5, s6, s7], yw⟩) ∧ WalkAt w' bw lv bf fs.length cap true) →
      ReachPost bw bf cap k fs ⟨yr, [a', b', c', e'], kd, [s0, s1, s2, s3, s4, s5, s6, s7], yw⟩ ⟨true, [a, b, c, e], kd, [s0, s1, s2, s3, s4, s5, s6, s7], kw⟩ ch lv w (.returned (.bool true)) w') := hid (fun w' h1 h2 => ⟨rfl, h1, h2⟩)
  generalize joinN a a' = j0 at *
  generalize joinN b b' = j1 at *
  generalize joinN c c' = j2 at *
  generalize joinN e e' = j3 at *
  go_enter Tryd.func86, Tryd.ntmps86

  go_upto_region 8 with fail
  go_cut [6] (fun x6 wc => x6 = .bool false ∧ wc.heap[w.heap.size]? = some (.cells #[.bool true, .int .i64 j0, .int .i64 j1, .int .i64 j2, .int .i64 j3, .int .i64 kd, .int .i64 s0, .int .i64 s1, .int .i64 s2, .int .i64 s3, .int .i64 s4, .int .i64 s5, .int .i64 s6, .int .i64 s7, .bool yw] 89) ∧ wc.heap[w.heap.size + 1]? = some (.cells #[.bool true, .int .i64 a, .int .i64 b, .int .i64 c, .int .i64 e, .int .i64 kd, .int .i64 s0, .int .i64 s1, .int .i64 s2, .int .i64 s3, .int .i64 s4, .int .i64 s5, .int .i64 s6, .int .i64 s7, .bool kw] 89) ∧ Below w.heap.size w wc)
  case first =>
    go_wp2_with fail
    refine (hjn.out _).mono ?_
    clear hjn
    intro x w5 hh
    obtain ⟨hx5, hb5⟩ := hh
    subst x
    have hr5 := hid (four_set j0 j1 j2 j3 rfl hb5)
    obtain ⟨hc5, hf5⟩ := bcell hb5
    have hz5 := hb5.size
    simp at hc5 hf5 hz5
    go_wp2_with fail
    go_meet
    exact ⟨rfl, hr5.out.1, hr5.out.2.1, hr5.out.2.2⟩
  case rest =>
    obtain ⟨rfl, hR1, hR2, hB⟩ := hcut
    have hA : AllAt wc bf fs := (hB.block bf hbf).trans HAL.out
    have hW : WalkAt wc bw lv bf fs.length cap ch := (hB.block bw hbw).trans HWK.out
    clear hjn c0 c1 c2 c3 c4 c5 c6 c7 c8 c9 c10 c11 c12 c13 c14 f0 f1 f2 f3 f4 f5 f6 f7 f8 f9 f10 f11 f12 f13 f14 w0 w1 w2 fw2
    have m0 := cell_of_row wc w.heap.size 0 _ _ _ hR1
    have m1 := cell_of_row wc w.heap.size 1 _ _ _ hR1
    have m2 := cell_of_row wc w.heap.size 2 _ _ _ hR1
    have m3 := cell_of_row wc w.heap.size 3 _ _ _ hR1
    have m4 := cell_of_row wc w.heap.size 4 _ _ _ hR1
    have m5 := cell_of_row wc w.heap.size 5 _ _ _ hR1
    have m6 := cell_of_row wc w.heap.size 6 _ _ _ hR1
    have m7 := cell_of_row wc w.heap.size 7 _ _ _ hR1
    have m8 := cell_of_row wc w.heap.size 8 _ _ _ hR1
    have m9 := cell_of_row wc w.heap.size 9 _ _ _ hR1
    have m10 := cell_of_row wc w.heap.size 10 _ _ _ hR1
    have m11 := cell_of_row wc w.heap.size 11 _ _ _ hR1
    have m12 := cell_of_row wc w.heap.size 12 _ _ _ hR1
    have m13 := cell_of_row wc w.heap.size 13 _ _ _ hR1
    have m14 := cell_of_row wc w.heap.size 14 _ _ _ hR1
    have p0 := cell_of_row wc (w.heap.size + 1) 0 _ _ _ hR2
    have p1 := cell_of_row wc (w.heap.size + 1) 1 _ _ _ hR2
    have p2 := cell_of_row wc (w.heap.size + 1) 2 _ _ _ hR2
    have p3 := cell_of_row wc (w.heap.size + 1) 3 _ _ _ hR2
    have p4 := cell_of_row wc (w.heap.size + 1) 4 _ _ _ hR2
    have c0 := hA.cell hok hk (j := 0) (by omega)
    have c1 := hA.cell hok hk (j := 1) (by omega)
    have c2 := hA.cell hok hk (j := 2) (by omega)
    have c3 := hA.cell hok hk (j := 3) (by omega)
    have c4 := hA.cell hok hk (j := 4) (by omega)
    have c5 := hA.cell hok hk (j := 5) (by omega)
    have c6 := hA.cell hok hk (j := 6) (by omega)
    have c7 := hA.cell hok hk (j := 7) (by omega)
    have c8 := hA.cell hok hk (j := 8) (by omega)
    have c9 := hA.cell hok hk (j := 9) (by omega)
    have c10 := hA.cell hok hk (j := 10) (by omega)
    have c11 := hA.cell hok hk (j := 11) (by omega)
    have c12 := hA.cell hok hk (j := 12) (by omega)
    have c13 := hA.cell hok hk (j := 13) (by omega)
    have c14 := hA.cell hok hk (j := 14) (by omega)
    have f0 := hA.frozen (k * 15)
    have f1 := hA.frozen (k * 15 + 1)
    have f2 := hA.frozen (k * 15 + 2)
    have f3 := hA.frozen (k * 15 + 3)
    have f4 := hA.frozen (k * 15 + 4)
    have f5 := hA.frozen (k * 15 + 5)
    have f6 := hA.frozen (k * 15 + 6)
    have f7 := hA.frozen (k * 15 + 7)
    have f8 := hA.frozen (k * 15 + 8)
    have f9 := hA.frozen (k * 15 + 9)
    have f10 := hA.frozen (k * 15 + 10)
    have f11 := hA.frozen (k * 15 + 11)
    have f12 := hA.frozen (k * 15 + 12)
    have f13 := hA.frozen (k * 15 + 13)
    have f14 := hA.frozen (k * 15 + 14)
    rw [Nat.add_zero] at c0
    have v1 := cell_of_row wc bw 1 _ _ _ hW
    simp only [frL, List.map_cons, List.map_nil, List.cons_append, List.nil_append, numV, List.getElem?_toArray, List.getElem?_cons_zero, List.getElem?_cons_succ] at v1 m0 m1 m2 m3 m4 m5 m6 m7 m8 m9 m10 m11 m12 m13 m14 p0 p1 p2 p3 p4 c0 c1 c2 c3 c4 c5 c6 c7 c8 c9 c10 c11 c12 c13 c14
    have HA := hid hA
    have HW := hid hW
    clear hA hW hR1 hR2
    by_cases hsame : a = j0 ∧ b = j1 ∧ c = j2 ∧ e = j3
    · obtain ⟨q0, q1, q2, q3⟩ := hsame
      have y0 : ((a : Int) == (j0 : Int)) = true := by simp; omega
      have y1 : ((b : Int) == (j1 : Int)) = true := by simp; omega
      have y2 : ((c : Int) == (j2 : Int)) = true := by simp; omega
      have y3 : ((e : Int) == (j3 : Int)) = true := by simp; omega
      have HQ : Hid ([a, b, c, e] = [j0, j1, j2, j3]) := hid (by rw [q0, q1, q2, q3])
      clear q0 q1 q2 q3
      go_wp2_with fail
      go_ret
      exact HPS.out _ (.of_below hB) (.inl ⟨HQ.out, HA.out, HW.out⟩)
    · have HQ : Hid ([a, b, c, e] ≠ [j0, j1, j2, j3]) := hid (by
        intro h
        simp only [List.cons.injEq, and_true] at h
        exact hsame h)
      clear hsame
      go_wp2_with fail
      · go_cut [6] (fun x6 wd => x6 = .bool false ∧ AllAt wd bf (fs.set k ⟨true, [j0, j1, j2, j3], kd, [s0, s1, s2, s3, s4, s5, s6, s7], yw⟩) ∧ WalkAt wd bw lv bf fs.length cap ch ∧ Two bw bf wc wd)
        case first =>
          go_region
          go_wp2_with fail
          go_meet
          exact ⟨rfl, reach_put2 true yw j0 j1 j2 j3 s0 s1 s2 s3 s4 s5 s6 s7 HA.out hok hkl HW.out hne h3⟩
        case rest =>
          obtain ⟨rfl, hA2, hW2, hT2⟩ := hcut
          have z2 := cell_of_row wc bw 2 _ _ _ hW2
          simp only [List.getElem?_toArray, List.getElem?_cons_zero, List.getElem?_cons_succ] at z2
          have u2 := frozen_of_row wc bw 2 _ _ hW2
          have HA2 := hid hA2
          have HW2 := hid hW2
          have HT2 := hid ((Two.of_below (a := bw) (b := bf) hB).trans hT2)
          clear hA2 hW2 hT2
          go_wp2_with fail
          go_ret
          refine HPS.out _ HT2.out.set (.inr ⟨HQ.out, ?_, by have := setCell_row 2 (.bool true) HW2.out; simpa [WalkAt] using this⟩)
          unfold AllAt
          rw [Below.heap_setCell _ _ _ _ (Ne.symm hne)]
          exact HA2.out
      · have hsm := ‹(!((a : Int) == (j0 : Int))) = false ∧ _›
        exfalso
        apply HQ.out
        simp only [Bool.not_eq_false', beq_iff_eq] at hsm
        obtain ⟨q0, q1, q2, q3⟩ := hsm
        rw [show a = j0 by omega, show b = j1 by omega, show c = j2 by omega, show e = j3 by omega]
end Go.Proofs.YtdmdpindonghdabDoor
namespace Go.Proofs.YtdmdpindonghdabDoor
open Go.RowKit
def doneB (ph hd i : Nat) : Bool := ph == 1 || (ph == 2 && decide (hd ≤ i))
def freshC (d : Bool) : RC := ⟨true, d, d, false, -1, -1, 0⟩
def setAB (n : Nat) (s : Int) (c : RC) : RC := if n = 0 then { c with a := s } else { c with b := s }
def storeC (cs : List RC) (ph r n : Nat) (s : Int) : List RC := if ph = 1 then reachC (cs.modify r (setAB n s)) [s] else cs.modify r (setAB n s)
theorem Two.of_only {g : Nat} {w w' : World} (h : Only g w w') : Two g g w w' := ⟨h.os, h.tape, h.output, by rw [h.size]; exact Nat.le_refl _, fun k _ h1 _ => h.block k h1⟩
end Go.Proofs.YtdmdpindonghdabDoor
namespace Go.Proofs.YtdmdpindonghdabDoor
open Go.RowKit
/-- A weak cell looks no longer at what was not reached. -/
def fgB (cs : List RC) (c : RC) : Bool := c.used && (c.weak && (decide (0 ≤ c.a) && (colR (cs.getD c.a.toNat ⟨false, false, false, false, 0, 0, 0⟩) == 1)))
def fgC (cs : List RC) (c : RC) : RC := if fgB cs c = true then { c with a := -1 } else c
def forgetC (cs : List RC) : List RC := cs.map (fgC cs)
def midC (cs : List RC) (k : Nat) : List RC := (cs.take k).map (fgC cs) ++ cs.drop k
theorem midC_len (cs : List RC) (k : Nat) : (midC cs k).length = cs.length := by simp [midC]; omega
theorem midC_get {cs : List RC} {k : Nat} (h : k < cs.length) : (midC cs k)[k]'(by rw [midC_len]; exact h) = cs[k] := by
  unfold midC
  rw [List.getElem_append_right (by simp; omega)]
  simp [Nat.min_eq_left (Nat.le_of_lt h)]
theorem midC_next {cs : List RC} {k : Nat} (h : k < cs.length) : midC cs (k + 1) = (midC cs k).set k (fgC cs cs[k]) := by
  unfold midC
  rw [List.take_succ_eq_append_getElem h, List.map_append, List.drop_eq_getElem_cons h, List.set_append_right _ _ (by simp; omega), show k - ((cs.take k).map (fgC cs)).length = 0 by simp; omega, List.set_cons_zero, List.append_assoc]
  rfl
theorem fgC_col (cs : List RC) (c : RC) : colR (fgC cs c) = colR c := by
  unfold fgC
  split
  · rfl
  · rfl
theorem midC_col {cs : List RC} {k j : Nat} (h : j < cs.length) : colR ((midC cs k)[j]'(by rw [midC_len]; exact h)) = colR cs[j] := by
  unfold midC
  by_cases hj : j < (cs.take k).length
  · rw [List.getElem_append_left (by simpa using hj), List.getElem_map, fgC_col]
    simp
  · rw [List.getElem_append_right (by simpa using hj)]
    simp only [List.length_map]
    rw [List.getElem_drop]
    simp only [List.length_take] at hj ⊢
    congr 2
    omega
end Go.Proofs.YtdmdpindonghdabDoor
namespace Go.Proofs.YtdmdpindonghdabDoor
open Go.RowKit
/-- A list of references that is handed on, apart from the cells. -/
def RefsAt (w : World) (gC : Nat) (v : Value) (rs : List Int) : Prop :=
  (v = .slice none 0 0 ∧ rs = []) ∨ ∃ a ca, v = .slice (some a) rs.length ca ∧ a.block ≠ gC ∧ a.block < w.heap.size ∧ ∀ (j : Nat) (x : Int), rs[j]? = some x → w.cell? (a.add j) = some (.int .i64 x)
theorem RefsAt.slice {w : World} {gC : Nat} {v : Value} {rs : List Int} (h : RefsAt w gC v rs) : ∃ p cap, v = .slice p rs.length cap := by
  rcases h with ⟨h1, h2⟩ | ⟨a, cap, hv, _⟩
  · exact ⟨none, 0, by rw [h1, h2]; rfl⟩
  · exact ⟨_, cap, hv⟩
theorem row_11 (r : Array Value) (a b c : Value) : ((r.setIfInBounds 11 a).setIfInBounds 12 b).setIfInBounds 11 c = (r.setIfInBounds 11 c).setIfInBounds 12 b := by
  apply Array.toList_inj.1
  simp only [Array.toList_setIfInBounds]
  rw [List.set_comm _ _ (by decide), List.set_set]
theorem row_12 (r : Array Value) (a b c : Value) : ((r.setIfInBounds 11 a).setIfInBounds 12 b).setIfInBounds 12 c = (r.setIfInBounds 11 a).setIfInBounds 12 c := by
  apply Array.toList_inj.1
  simp only [Array.toList_setIfInBounds]
  rw [List.set_set]
theorem Two.swap {a b : Nat} {w w' : World} (h : Two a b w w') : Two b a w w' := ⟨h.os, h.tape, h.output, h.size, fun k hk h1 h2 => h.block k hk h2 h1⟩
theorem Two.widen {a c : Nat} {w w' : World} (h : Two a a w w') : Two c a w w' := ⟨h.os, h.tape, h.output, h.size, fun k hk _ h2 => h.block k hk h2 h2⟩
/-- A unit of the collector's. -/
def wipeC (c : RC) : RC := { c with reached := false, looked := false }
def sweepC (cs : List RC) (hd : Nat) : List RC := if colR (cs.getD hd ⟨false, false, false, false, 0, 0, 0⟩) = 1 then cs.set hd ⟨false, false, false, false, -1, -1, 0⟩ else cs.modify hd wipeC
def greyC (cs : List RC) : Int := firstP (fun c => colR c == 2) cs 0
def lookC (c : RC) : RC := { c with looked := true }
def markStep (cs : List RC) (g : Nat) : List RC :=
  if (cs.getD g ⟨false, false, false, false, 0, 0, 0⟩).weak = true then cs.modify g lookC
  else reachC (cs.modify g lookC) [(cs.getD g ⟨false, false, false, false, 0, 0, 0⟩).a, (cs.getD g ⟨false, false, false, false, 0, 0, 0⟩).b]
def unitC (cs : List RC) (ph hd : Nat) (rs : List Int) : List RC × Nat × Nat :=
  if ph = 0 then (reachC cs rs, 1, hd)
  else if ph = 2 then (if hd + 1 = cs.length then (sweepC cs hd, 0, 0) else (sweepC cs hd, 2, hd + 1))
  else if 0 ≤ greyC cs then (markStep cs (greyC cs).toNat, ph, hd)
  else if greyC (reachC cs rs) < 0 then (forgetC (reachC cs rs), 2, hd) else (reachC cs rs, ph, hd)
end Go.Proofs.YtdmdpindonghdabDoor
namespace Go.Proofs.YtdmdpindonghdabDoor
open Go.RowKit
theorem firstP_lt (p : RC → Bool) : ∀ (cs : List RC) (k : Nat), (firstP p cs k = -1) ∨ ((k : Int) ≤ firstP p cs k ∧ firstP p cs k < (k : Int) + cs.length) := by
  intro cs
  induction cs with
  | nil => intro k; exact .inl rfl
  | cons c r ih =>
    intro k
    simp only [firstP]
    split
    · exact .inr ⟨Int.le_refl _, by simp; omega⟩
    · rcases ih (k + 1) with h | h
      · exact .inl h
      · exact .inr ⟨by omega, by simp; omega⟩
theorem greyC_lt {cs : List RC} (h : 0 ≤ greyC cs) : (greyC cs).toNat < cs.length := by
  rcases firstP_lt (fun c => colR c == 2) cs 0 with e | e
  · unfold greyC at h; omega
  · unfold greyC at *; omega
end Go.Proofs.YtdmdpindonghdabDoor
namespace Go.Proofs.YtdmdpindonghdabDoor
open Go.RowKit
theorem reachC_a {P : RC → Prop} (hP : ∀ c, P c → P (markC c)) : ∀ (rs : List Int) (cs : List RC), (∀ c ∈ cs, P c) → ∀ c ∈ reachC cs rs, P c := by
  intro rs
  induction rs with
  | nil => intro cs h; exact h
  | cons r rs ih =>
    intro cs h
    refine ih _ ?_
    split
    · intro c hc
      by_cases hl : r.toNat < cs.length
      · rw [modify_set hl] at hc
        rcases List.mem_or_eq_of_mem_set hc with h1 | h1
        · exact h c h1
        · rw [h1]; exact hP _ (h _ (List.getElem_mem hl))
      · rw [List.modify_eq_self (by omega)] at hc
        exact h c hc
    · exact h
end Go.Proofs.YtdmdpindonghdabDoor
namespace Go.Proofs.YtdmdpindonghdabDoor
open Go.RowKit
/-- A heap in order: its references refer to cells or to none. -/
structure HpOk (cs : List RC) (ph hd : Nat) : Prop where
  pos : 0 < cs.length
  len : cs.length ≤ 32
  refs : ∀ c ∈ cs, c.a < (cs.length : Int) ∧ c.b < (cs.length : Int)
  phz : ph ≤ 2
  hand : ph = 2 → hd < cs.length
  nohand : ph ≠ 2 → hd = 0
theorem modify_mem {P : RC → Prop} {f : RC → RC} (hf : ∀ c, P c → P (f c)) {cs : List RC} {k : Nat} (h : ∀ c ∈ cs, P c) : ∀ c ∈ cs.modify k f, P c := by
  intro c hc
  by_cases hl : k < cs.length
  · rw [modify_set hl] at hc
    rcases List.mem_or_eq_of_mem_set hc with h1 | h1
    · exact h c h1
    · rw [h1]; exact hf _ (h _ (List.getElem_mem hl))
  · rw [List.modify_eq_self (by omega)] at hc
    exact h c hc
theorem unitC_len (cs : List RC) (ph hd : Nat) (rs : List Int) : (unitC cs ph hd rs).1.length = cs.length := by
  unfold unitC
  split
  · exact reachC_len _ _
  split
  · have : (sweepC cs hd).length = cs.length := by unfold sweepC; split <;> simp
    split <;> exact this
  split
  · show (markStep cs _).length = _
    unfold markStep
    split
    · simp
    · rw [reachC_len]; simp
  split
  · show (forgetC _).length = _
    simp [forgetC, reachC_len]
  · exact reachC_len _ _
theorem unitC_refs {n : Int} (hn : 0 < n) (cs : List RC) (ph hd : Nat) (rs : List Int) (h : ∀ c ∈ cs, c.a < n ∧ c.b < n) : ∀ c ∈ (unitC cs ph hd rs).1, c.a < n ∧ c.b < n := by
  have hr : ∀ (l : List RC) (rs : List Int), (∀ c ∈ l, c.a < n ∧ c.b < n) → ∀ c ∈ reachC l rs, c.a < n ∧ c.b < n := fun l rs hl => reachC_a (P := fun c => c.a < n ∧ c.b < n) (fun _ h => h) rs l hl
  unfold unitC
  split
  · exact hr _ _ h
  split
  · have hs : ∀ c ∈ sweepC cs hd, c.a < n ∧ c.b < n := by
      unfold sweepC
      split
      · intro c hc
        rcases List.mem_or_eq_of_mem_set hc with h1 | h1
        · exact h c h1
        · rw [h1]; exact ⟨by simp only; omega, by simp only; omega⟩
      · exact modify_mem (P := fun c => c.a < n ∧ c.b < n) (f := wipeC) (fun _ h => h) h
    split <;> exact hs
  split
  · show ∀ c ∈ markStep cs _, _
    unfold markStep
    have hm : ∀ g, ∀ c ∈ cs.modify g lookC, c.a < n ∧ c.b < n := fun g => modify_mem (P := fun c => c.a < n ∧ c.b < n) (f := lookC) (fun _ h => h) h
    split
    · exact hm _
    · exact hr _ _ (hm _)
  split
  · show ∀ c ∈ forgetC _, _
    intro c hc
    unfold forgetC at hc
    obtain ⟨d, hd', rfl⟩ := List.mem_map.1 hc
    have := hr _ _ h d hd'
    unfold fgC
    split
    · exact ⟨by simp only; omega, this.2⟩
    · exact this
  · exact hr _ _ h
theorem HpOk.unit {cs : List RC} {ph hd : Nat} (h : HpOk cs ph hd) (rs : List Int) : HpOk (unitC cs ph hd rs).1 (unitC cs ph hd rs).2.1 (unitC cs ph hd rs).2.2 := by
  have hl := unitC_len cs ph hd rs
  have hp := h.pos
  refine ⟨by omega, by have := h.len; omega, ?_, ?_, ?_, ?_⟩
  · rw [hl]
    exact unitC_refs (by omega) cs ph hd rs h.refs
  · unfold unitC
    split
    · simp only; omega
    split
    · split <;> simp
    split
    · exact h.phz
    split
    · simp
    · exact h.phz
  · intro e
    rw [hl]
    unfold unitC at e ⊢
    split at e
    · simp at e
    rename_i h0
    rw [if_neg h0]
    split at e
    · rename_i h2
      rw [if_pos h2]
      split at e
      · simp at e
      · rename_i h3
        rw [if_neg h3]
        have := h.hand h2
        simp only; omega
    · rename_i h2
      rw [if_neg h2]
      have hz := h.nohand h2
      split
      · simp only; omega
      · split <;> (simp only; omega)
  · intro e
    unfold unitC at e ⊢
    split at e
    · rename_i h0
      rw [if_pos h0]
      exact h.nohand (by omega)
    rename_i h0
    rw [if_neg h0]
    split at e
    · rename_i h2
      rw [if_pos h2]
      split at e
      · rename_i h3; rw [if_pos h3]
      · simp at e
    · rename_i h2
      rw [if_neg h2]
      have hz := h.nohand h2
      split
      · exact hz
      · split <;> exact hz
end Go.Proofs.YtdmdpindonghdabDoor
namespace Go.Proofs.YtdmdpindonghdabDoor
open Go.RowKit
abbrev HSt := List RC × Nat × Nat
def unl (cs : List RC) : Nat := cs.countP (fun c => !c.looked)
theorem unl_modify {cs : List RC} {k : Nat} {f : RC → RC} (hf : ∀ c, (f c).looked = c.looked) : unl (cs.modify k f) = unl cs := by
  induction cs generalizing k with
  | nil => simp [unl]
  | cons a r ih =>
    cases k with
    | zero => simp [unl, List.countP_cons, hf]
    | succ k =>
      have := ih (k := k)
      simp only [unl, List.modify_succ_cons, List.countP_cons] at *
      omega
theorem unl_look {cs : List RC} {k : Nat} (h : k < cs.length) (hl : cs[k].looked = false) : unl (cs.modify k lookC) + 1 = unl cs := by
  induction cs generalizing k with
  | nil => simp at h
  | cons a r ih =>
    cases k with
    | zero =>
      simp only [List.getElem_cons_zero] at hl
      simp [unl, lookC, hl]
    | succ k =>
      have := ih (k := k) (by simpa using h) (by simpa using hl)
      simp only [unl, List.modify_succ_cons, List.countP_cons] at *
      omega
theorem unl_reach (rs : List Int) : ∀ cs : List RC, unl (reachC cs rs) = unl cs := by
  induction rs with
  | nil => intro cs; rfl
  | cons r rs ih =>
    intro cs
    simp only [reachC]
    rw [ih]
    split
    · exact unl_modify (fun _ => rfl)
    · rfl
theorem firstP_spec (p : RC → Bool) : ∀ (cs : List RC) (k : Nat), firstP p cs k = -1 ∨ ∃ (j : Nat) (h : j < cs.length), firstP p cs k = ((k + j : Nat) : Int) ∧ p cs[j] = true := by
  intro cs
  induction cs with
  | nil => intro k; exact .inl rfl
  | cons c r ih =>
    intro k
    simp only [firstP]
    by_cases hp : p c = true
    · rw [if_pos hp]
      exact .inr ⟨0, by simp, by simp, by simpa using hp⟩
    · rw [if_neg hp]
      rcases ih (k + 1) with h | ⟨j, hj, e, hq⟩
      · exact .inl h
      · exact .inr ⟨j + 1, by simp; omega, by rw [e]; omega, by simpa using hq⟩
def muC (s : HSt) : Nat := if s.2.1 = 0 then 0 else if s.2.1 = 2 then s.1.length - s.2.2 else 2 * unl s.1 + (if 0 ≤ greyC s.1 then 0 else 1) + (s.1.length + 1)
def stepC (rs : List Int) (s : HSt) : HSt := unitC s.1 s.2.1 s.2.2 rs
def OkS (s : HSt) : Prop := HpOk s.1 s.2.1 s.2.2
theorem OkS.step {s : HSt} (h : OkS s) (rs : List Int) : OkS (stepC rs s) := HpOk.unit h rs
theorem mu_dec {s : HSt} (h : OkS s) (h0 : s.2.1 ≠ 0) (rs : List Int) : muC (stepC rs s) < muC s := by
  obtain ⟨cs, ph, hd⟩ := s
  have hp := h.phz
  have hpos := h.pos
  simp only at h0 hp hpos
  unfold stepC muC
  simp only
  rw [if_neg h0]
  unfold unitC
  rw [if_neg h0]
  by_cases h2 : ph = 2
  · have hh := h.hand h2
    simp only at hh
    rw [if_pos h2, if_pos h2]
    by_cases he : hd + 1 = cs.length
    · rw [if_pos he]
      simp only [if_true]
      omega
    · rw [if_neg he]
      have hl : (sweepC cs hd).length = cs.length := by unfold sweepC; split <;> simp
      simp only
      rw [if_neg (by decide), if_pos trivial, hl]
      omega
  · rw [if_neg h2, if_neg h2]
    have h1 : ph = 1 := by omega
    subst h1
    by_cases hg : 0 ≤ greyC cs
    · rw [if_pos hg, if_pos hg]
      simp only
      rw [if_neg (by decide), if_neg (by decide)]
      obtain ⟨j, hj, e, hq⟩ : ∃ (j : Nat) (h : j < cs.length), greyC cs = (j : Int) ∧ (colR cs[j] == 2) = true := by
        rcases firstP_spec (fun c => colR c == 2) cs 0 with e | ⟨j, hj, e, hq⟩
        · unfold greyC at hg; omega
        · exact ⟨j, hj, by unfold greyC; rw [e]; simp, hq⟩
      have hlk : cs[j].looked = false := by
        simp only [beq_iff_eq] at hq
        unfold colR at hq
        cases hx : cs[j].looked
        · rfl
        · rw [hx] at hq
          simp only [if_true] at hq
          split at hq <;> omega
      have hu : unl (markStep cs (greyC cs).toNat) + 1 = unl cs := by
        rw [e, Int.toNat_natCast]
        unfold markStep
        split
        · exact unl_look hj hlk
        · rw [unl_reach]; exact unl_look hj hlk
      have hl : (markStep cs (greyC cs).toNat).length = cs.length := by
        unfold markStep
        split
        · simp
        · rw [reachC_len]; simp
      rw [hl]
      split <;> omega
    · rw [if_neg hg, if_neg hg]
      by_cases hg2 : greyC (reachC cs rs) < 0
      · rw [if_pos hg2]
        have hz : hd = 0 := h.nohand (show (1 : Nat) ≠ 2 by decide)
        have hl : (forgetC (reachC cs rs)).length = cs.length := by simp [forgetC, reachC_len]
        simp only
        rw [if_neg (by decide), if_pos trivial, hl]
        omega
      · rw [if_neg hg2]
        simp only
        rw [if_neg (by decide), if_neg (by decide), if_pos (by omega), unl_reach, reachC_len]
        omega
def toIdle (rs : List Int) : Nat → HSt → HSt
  | 0, s => s
  | n + 1, s => if s.2.1 = 0 then s else toIdle rs n (stepC rs s)
theorem toIdle_fuel (rs : List Int) : ∀ (n m : Nat) (s : HSt), OkS s → muC s ≤ n → muC s ≤ m → toIdle rs n s = toIdle rs m s := by
  intro n
  induction n with
  | zero =>
    intro m s h hn hm
    have h0 : s.2.1 = 0 := by
      by_cases e : s.2.1 = 0
      · exact e
      · have := mu_dec h e rs; omega
    cases m with
    | zero => rfl
    | succ m => simp [toIdle, h0]
  | succ n ih =>
    intro m s h hn hm
    by_cases e : s.2.1 = 0
    · cases m with
      | zero => simp [toIdle, e]
      | succ m => simp [toIdle, e]
    · have hd := mu_dec h e rs
      cases m with
      | zero => omega
      | succ m =>
        simp only [toIdle, if_neg e]
        exact ih m _ (h.step rs) (by omega) (by omega)
/-- The heap when the phase is Idle again. -/
def idleC (rs : List Int) (s : HSt) : HSt := toIdle rs (muC s) s
theorem idleC_zero {rs : List Int} {s : HSt} (h : s.2.1 = 0) : idleC rs s = s := by
  unfold idleC
  cases muC s with
  | zero => rfl
  | succ n => simp [toIdle, h]
theorem idleC_step {rs : List Int} {s : HSt} (ho : OkS s) (h : s.2.1 ≠ 0) : idleC rs s = idleC rs (stepC rs s) := by
  have hd := mu_dec ho h rs
  unfold idleC
  obtain ⟨n, hn⟩ : ∃ n, muC s = n + 1 := ⟨muC s - 1, by omega⟩
  rw [hn]
  simp only [toIdle, if_neg h]
  exact toIdle_fuel rs n _ _ (ho.step rs) (by omega) (Nat.le_refl _)
def lowC (s : HSt) : Int := firstP (fun c => !c.used) s.1 0
def beginC (s : HSt) : Int × HSt := (lowC s, (s.1.set (lowC s).toNat (freshC (doneB s.2.1 s.2.2 (lowC s).toNat)), s.2.1, s.2.2))
/-- The cell that is taken, or -1; the heap behind it. -/
def takeC (rs : List Int) (s : HSt) : Int × HSt :=
  if 0 ≤ lowC s then beginC s
  else if 0 ≤ lowC (idleC rs s) then beginC (idleC rs s)
  else if 0 ≤ lowC (idleC rs (stepC rs (idleC rs s))) then beginC (idleC rs (stepC rs (idleC rs s)))
  else (-1, idleC rs (stepC rs (idleC rs s)))
end Go.Proofs.YtdmdpindonghdabDoor
namespace Go.Proofs.YtdmdpindonghdabDoor
open Go.RowKit
/-- A machine's state. -/
structure MS where
  at_ : Nat
  lo : List (Bool × Int)
  st : List (Bool × Int)
  rd : Nat
  out : List Int
  oc : Nat
  va : Int
  hs : HSt
/-- The machine at its beginning. -/
def startS (L : Nat) (n : Nat) : MS := ⟨0, List.replicate L (false, 0), [], 0, [], 0, 0, (List.replicate n ⟨false, false, false, false, -1, -1, 0⟩, 0, 0)⟩
end Go.Proofs.YtdmdpindonghdabDoor
namespace Go.Proofs.YtdmdpindonghdabDoor
open Go.RowKit
def colL (cs : List Cl) (k : Nat) : Nat := ((cs[k]?).map Cl.col).getD 9
def hasL (cs : List Cl) (r : Int) (k : Nat) : Bool := decide (0 ≤ r) && (decide (r < (cs.length : Int)) && colL cs r.toNat == k)
def paintL (k : Nat) (c : Cl) : Cl := { c with col := k }
def shadeL (cs : List Cl) (r : Int) : List Cl := if hasL cs r 1 = true then cs.modify r.toNat (paintL 2) else cs
def shadesL (cs : List Cl) : List Int → List Cl
  | [] => cs
  | r :: rs => shadesL (shadeL cs r) rs
def firstL (p : Cl → Bool) : List Cl → Nat → Int
  | [], _ => -1
  | c :: r, k => if p c = true then (k : Int) else firstL p r (k + 1)
def greyL (cs : List Cl) : Int := firstL (fun c => c.col == 2) cs 0
def zeroL : Cl := ⟨0, false, 0, 0, 0⟩
def blackL (cs : List Cl) (g : Nat) : List Cl := (if (cs.getD g zeroL).weak = true then cs else shadeL (shadeL cs (cs.getD g zeroL).a) (cs.getD g zeroL).b).modify g (paintL 3)
def fgL (cs : List Cl) (c : Cl) : Cl := if (c.weak && hasL cs c.a 1) = true then { c with a := -1 } else c
def forgetL (cs : List Cl) : List Cl := cs.map (fgL cs)
def blankL : Cl := ⟨0, false, -1, -1, 0⟩
def sweepL (cs : List Cl) (hd : Nat) : List Cl := if hasL cs hd 1 = true then cs.set hd blankL else if hasL cs hd 3 = true then cs.modify hd (paintL 1) else cs
def unitL (cs : List Cl) (ph hd : Nat) (rs : List Int) : List Cl × Nat × Nat :=
  if ph = 0 then (shadesL cs rs, 1, hd)
  else if ph = 2 then (if cs.length ≤ hd + 1 then (sweepL cs hd, 0, 0) else (sweepL cs hd, 2, hd + 1))
  else if 0 ≤ greyL cs then (blackL cs (greyL cs).toNat, ph, hd)
  else if greyL (shadesL cs rs) < 0 then (forgetL (shadesL cs rs), 2, 0) else (shadesL cs rs, ph, hd)
theorem shadeL_len (cs : List Cl) (r : Int) : (shadeL cs r).length = cs.length := by unfold shadeL; split <;> simp
theorem shadesL_len : ∀ (rs : List Int) (cs : List Cl), (shadesL cs rs).length = cs.length
  | [], _ => rfl
  | r :: rs, cs => by simp only [shadesL]; rw [shadesL_len rs, shadeL_len]
theorem shadesL_snoc : ∀ (rs : List Int) (cs : List Cl) (r : Int), shadesL cs (rs ++ [r]) = shadeL (shadesL cs rs) r
  | [], _, _ => rfl
  | x :: xs, cs, r => shadesL_snoc xs (shadeL cs x) r
theorem sweepL_len (cs : List Cl) (hd : Nat) : (sweepL cs hd).length = cs.length := by unfold sweepL; split; · simp
                                                                                       · split <;> simp
theorem blackL_len (cs : List Cl) (g : Nat) : (blackL cs g).length = cs.length := by
  unfold blackL
  rw [List.length_modify]
  split
  · rfl
  · rw [shadeL_len, shadeL_len]
theorem forgetL_len (cs : List Cl) : (forgetL cs).length = cs.length := by simp [forgetL]
theorem colL_get {cs : List Cl} {k : Nat} (h : k < cs.length) : colL cs k = cs[k].col := by simp [colL, List.getElem?_eq_getElem h]
theorem modify_setL {cs : List Cl} {k : Nat} (h : k < cs.length) (f : Cl → Cl) : cs.modify k f = cs.set k (f cs[k]) := by
  induction cs generalizing k with
  | nil => simp at h
  | cons a r ih =>
    cases k with
    | zero => rfl
    | succ k =>
      have := ih (k := k) (by simpa using h)
      simp only [List.modify_succ_cons, List.set_cons_succ, List.getElem_cons_succ]
      rw [this]
theorem colL_told {cs : List RC} {k : Nat} (h : k < cs.length) : colL (cs.map toldC) k = colR cs[k] := by
  rw [colL_get (by simpa using h), List.getElem_map]; rfl
theorem hasL_in {cs : List RC} {r k : Nat} (h : r < cs.length) : hasL (cs.map toldC) r k = (colR cs[r] == k) := by
  unfold hasL
  rw [List.length_map, Int.toNat_natCast, colL_told h, decide_eq_true (by omega), decide_eq_true (by omega)]
  simp
theorem hasL_neg {cs : List Cl} {r : Int} {k : Nat} (h : r < 0) : hasL cs r k = false := by
  unfold hasL; rw [decide_eq_false (by omega)]; simp
theorem hasL_out {cs : List Cl} {r : Int} {k : Nat} (h : (cs.length : Int) ≤ r) : hasL cs r k = false := by
  unfold hasL; rw [decide_eq_false (p := r < (cs.length : Int)) (by omega)]; simp
theorem set_self {α : Type} {cs : List α} {k : Nat} (h : k < cs.length) : cs.set k cs[k] = cs := by
  apply List.ext_getElem?
  intro j
  rw [List.getElem?_set]
  split
  · rename_i e; subst e; simp [h]
  · rfl
theorem told_mark (c : RC) : toldC (markC c) = if colR c = 1 then paintL 2 (toldC c) else toldC c := by
  obtain ⟨u, r, k, wk, a, b, n⟩ := c
  cases u <;> cases r <;> cases k <;> simp [toldC, markC, colR, paintL]
theorem told_shade (cs : List RC) (r : Int) : shadeL (cs.map toldC) r = (if 0 ≤ r then cs.modify r.toNat markC else cs).map toldC := by
  by_cases h0 : 0 ≤ r
  · rw [if_pos h0]
    obtain ⟨q, rfl⟩ : ∃ q : Nat, r = (q : Int) := ⟨r.toNat, by omega⟩
    rw [Int.toNat_natCast]
    by_cases hq : q < cs.length
    · have hq' : q < (cs.map toldC).length := by simpa using hq
      rw [modify_set hq, List.map_set, told_mark]
      unfold shadeL
      rw [hasL_in hq, Int.toNat_natCast]
      by_cases h1 : colR cs[q] = 1
      · rw [if_pos (by simpa using h1), if_pos h1, modify_setL hq', List.getElem_map]
      · rw [if_neg (by simpa using h1), if_neg h1]
        have := set_self hq'
        rw [List.getElem_map] at this
        exact this.symm
    · rw [List.modify_eq_self (by omega)]
      unfold shadeL
      rw [hasL_out (by simp; omega), if_neg (by simp)]
  · rw [if_neg h0]
    unfold shadeL
    rw [hasL_neg (by omega), if_neg (by simp)]
theorem told_shades : ∀ (rs : List Int) (cs : List RC), shadesL (cs.map toldC) rs = (reachC cs rs).map toldC
  | [], _ => rfl
  | r :: rs, cs => by
    simp only [shadesL, reachC]
    rw [told_shade, told_shades rs]
theorem told_first (p : Cl → Bool) : ∀ (cs : List RC) (k : Nat), firstL p (cs.map toldC) k = firstP (fun c => p (toldC c)) cs k
  | [], _ => rfl
  | c :: r, k => by
    simp only [List.map_cons, firstL, firstP]
    rw [told_first p r (k + 1)]
theorem told_grey (cs : List RC) : greyL (cs.map toldC) = greyC cs := told_first _ cs 0
theorem shade_comm {T : List Cl} {g : Nat} {r : Int} (hg : g < T.length) (h1 : T[g].col ≠ 1) : shadeL (T.modify g (paintL 3)) r = (shadeL T r).modify g (paintL 3) := by
  by_cases h0 : 0 ≤ r
  · obtain ⟨q, rfl⟩ : ∃ q : Nat, r = (q : Int) := ⟨r.toNat, by omega⟩
    by_cases hq : q < T.length
    · by_cases e : q = g
      · subst e
        have a1 : hasL T (q : Int) 1 = false := by
          unfold hasL; rw [Int.toNat_natCast, colL_get hq]; simp [h1]
        have a2 : hasL (T.modify q (paintL 3)) (q : Int) 1 = false := by
          unfold hasL; rw [Int.toNat_natCast, colL_get (by simpa using hq)]; simp [paintL]
        unfold shadeL
        rw [a1, a2]; simp
      · have a1 : hasL (T.modify g (paintL 3)) (q : Int) 1 = hasL T (q : Int) 1 := by
          unfold hasL
          rw [Int.toNat_natCast, colL_get hq, colL_get (by simpa using hq)]
          simp [Ne.symm e]
        unfold shadeL
        rw [a1]
        split
        · rw [Int.toNat_natCast]
          apply List.ext_getElem?
          intro j
          simp only [List.getElem?_modify]
          by_cases j1 : g = j
          · subst j1; simp [e]
          · simp [j1]
        · rfl
    · unfold shadeL
      rw [hasL_out (by simp; omega), hasL_out (by omega)]; simp
  · unfold shadeL
    rw [hasL_neg (by omega), hasL_neg (by omega)]; simp
theorem shade_col {T : List Cl} {g : Nat} {r : Int} (hg : g < T.length) (h1 : T[g].col ≠ 1) : (shadeL T r)[g]'(by rw [shadeL_len]; exact hg) = T[g] := by
  unfold shadeL
  split
  · rename_i h
    by_cases e : r.toNat = g
    · exfalso
      subst e
      unfold hasL at h
      rw [colL_get hg] at h
      simp [h1] at h
    · simp [e]
  · rfl
theorem told_look (c : RC) (h : colR c = 2) : toldC (lookC c) = paintL 3 (toldC c) := by
  obtain ⟨u, r, k, wk, a, b, n⟩ := c
  revert h
  cases u <;> cases r <;> cases k <;> simp [toldC, lookC, colR, paintL]
theorem told_black {cs : List RC} {g : Nat} (hg : g < cs.length) (h2 : colR cs[g] = 2) : blackL (cs.map toldC) g = (markStep cs g).map toldC := by
  have hT : g < (cs.map toldC).length := by simpa using hg
  have e1 : (cs.map toldC).getD g zeroL = toldC cs[g] := by
    rw [List.getD_eq_getElem?_getD, List.getElem?_eq_getElem hT, List.getElem_map]; rfl
  have e2 : cs.getD g ⟨false, false, false, false, 0, 0, 0⟩ = cs[g] := by
    rw [List.getD_eq_getElem?_getD, List.getElem?_eq_getElem hg]; rfl
  have e3 : (cs.modify g lookC).map toldC = (cs.map toldC).modify g (paintL 3) := by
    rw [modify_set hg, List.map_set, told_look _ h2, modify_setL hT, List.getElem_map]
  have hc : (cs.map toldC)[g].col ≠ 1 := by rw [List.getElem_map]; show colR cs[g] ≠ 1; omega
  unfold blackL markStep
  rw [e1, e2]
  show (if cs[g].weak = true then _ else shadeL (shadeL _ cs[g].a) cs[g].b).modify g _ = _
  by_cases hw : cs[g].weak = true
  · rw [if_pos hw, if_pos hw, e3]
  · rw [if_neg hw, if_neg hw, ← told_shades, e3]
    simp only [shadesL]
    rw [shade_comm hT hc, shade_comm (by rw [shadeL_len]; exact hT) (by rw [shade_col hT hc]; exact hc)]
/-- What holds of each cell, besides; no cell is grey in the phase Sweep. -/
structure CellOk (c : RC) : Prop where
  free : c.used = false → c.weak = false
  lowA : -1 ≤ c.a
  lowB : -1 ≤ c.b
  weak : c.weak = true → c.b = -1 ∧ c.num = 0
structure HpX (cs : List RC) (ph : Nat) : Prop where
  cell : ∀ c ∈ cs, CellOk c
  nogrey : ph = 2 → ∀ c ∈ cs, colR c ≠ 2
theorem CellOk.mark {c : RC} (h : CellOk c) : CellOk (markC c) := ⟨h.free, h.lowA, h.lowB, h.weak⟩
theorem CellOk.look {c : RC} (h : CellOk c) : CellOk (lookC c) := ⟨h.free, h.lowA, h.lowB, h.weak⟩
theorem CellOk.wipe {c : RC} (h : CellOk c) : CellOk (wipeC c) := ⟨h.free, h.lowA, h.lowB, h.weak⟩
theorem CellOk.blank : CellOk ⟨false, false, false, false, -1, -1, 0⟩ := ⟨fun _ => rfl, by simp, by simp, fun h => by (cases h)⟩
theorem CellOk.fg {cs : List RC} {c : RC} (h : CellOk c) : CellOk (fgC cs c) := by
  unfold fgC
  split
  · exact ⟨h.free, by simp, h.lowB, h.weak⟩
  · exact h
theorem told_fg {cs : List RC} {c : RC} (h : CellOk c) (ha : c.a < (cs.length : Int)) : fgL (cs.map toldC) (toldC c) = toldC (fgC cs c) := by
  have e : (c.weak && hasL (cs.map toldC) c.a 1) = fgB cs c := by
    unfold fgB
    cases hw : c.weak
    · simp
    · have hu : c.used = true := by
        cases hx : c.used
        · exact absurd hw (by rw [h.free hx]; simp)
        · rfl
      by_cases h0 : 0 ≤ c.a
      · obtain ⟨q, hq⟩ : ∃ q : Nat, c.a = (q : Int) := ⟨c.a.toNat, by omega⟩
        rw [hq] at ha ⊢
        have hql : q < cs.length := by omega
        rw [hasL_in hql]
        simp [hu, hql]
      · rw [hasL_neg (by omega)]
        simp [hu, h0]
  unfold fgL fgC
  show (if (c.weak && hasL (cs.map toldC) c.a 1) = true then _ else _) = _
  rw [e]
  split
  · rfl
  · rfl
theorem told_forget {cs : List RC} (h : ∀ c ∈ cs, CellOk c) (ha : ∀ c ∈ cs, c.a < (cs.length : Int)) : forgetL (cs.map toldC) = (forgetC cs).map toldC := by
  unfold forgetL forgetC
  rw [List.map_map, List.map_map]
  apply List.map_congr_left
  intro c hc
  exact told_fg (h c hc) (ha c hc)
theorem told_sweep {cs : List RC} {hd : Nat} (hh : hd < cs.length) (h2 : colR cs[hd] ≠ 2) : sweepL (cs.map toldC) hd = (sweepC cs hd).map toldC := by
  have hT : hd < (cs.map toldC).length := by simpa using hh
  have e2 : cs.getD hd ⟨false, false, false, false, 0, 0, 0⟩ = cs[hd] := by
    rw [List.getD_eq_getElem?_getD, List.getElem?_eq_getElem hh]; rfl
  unfold sweepL sweepC
  rw [hasL_in hh, hasL_in hh, e2]
  by_cases h1 : colR cs[hd] = 1
  · rw [if_pos (by simpa using h1), if_pos h1, List.map_set]; rfl
  · rw [if_neg (by simpa using h1), if_neg h1, modify_set hh, List.map_set, modify_setL hT, List.getElem_map]
    have hw : toldC (wipeC cs[hd]) = if colR cs[hd] = 3 then paintL 1 (toldC cs[hd]) else toldC cs[hd] := by
      generalize cs[hd] = c at *
      obtain ⟨u, r, k, wk, a, b, n⟩ := c
      revert h1 h2
      cases u <;> cases r <;> cases k <;> simp [toldC, wipeC, colR, paintL]
    rw [hw]
    by_cases h3 : colR cs[hd] = 3
    · rw [if_pos (by simpa using h3), if_pos h3]
    · rw [if_neg (by simpa using h3), if_neg h3]
      have := set_self hT
      rw [List.getElem_map] at this
      exact this.symm
theorem greyC_at {cs : List RC} (h : 0 ≤ greyC cs) : ∃ hg : (greyC cs).toNat < cs.length, colR cs[(greyC cs).toNat] = 2 := by
  rcases firstP_spec (fun c => colR c == 2) cs 0 with e | ⟨j, hj, e, hq⟩
  · unfold greyC at h; omega
  · have e' : greyC cs = (j : Int) := by unfold greyC; rw [e]; simp
    have : (greyC cs).toNat = j := by omega
    refine ⟨by omega, ?_⟩
    simp only [this]
    simpa using hq
theorem told_unit {cs : List RC} {ph hd : Nat} (ho : HpOk cs ph hd) (hx : HpX cs ph) (rs : List Int) : unitL (cs.map toldC) ph hd rs = ((unitC cs ph hd rs).1.map toldC, (unitC cs ph hd rs).2.1, (unitC cs ph hd rs).2.2) := by
  unfold unitL unitC
  by_cases h0 : ph = 0
  · rw [if_pos h0, if_pos h0, told_shades]
  rw [if_neg h0, if_neg h0]
  by_cases h2 : ph = 2
  · have hh := ho.hand h2
    rw [if_pos h2, if_pos h2, told_sweep hh (hx.nogrey h2 _ (List.getElem_mem hh)), List.length_map]
    by_cases he : hd + 1 = cs.length
    · rw [if_pos he, if_pos (by omega)]
    · rw [if_neg he, if_neg (by omega)]
  rw [if_neg h2, if_neg h2, told_grey, told_shades, told_grey]
  by_cases hg : 0 ≤ greyC cs
  · obtain ⟨hgl, hg2⟩ := greyC_at hg
    rw [if_pos hg, if_pos hg, told_black hgl hg2]
  rw [if_neg hg, if_neg hg]
  split
  · rw [told_forget]
    · rw [ho.nohand h2]
    · exact reachC_a (P := CellOk) (fun _ h => h.mark) rs cs hx.cell
    · rw [reachC_len]
      exact reachC_a (P := fun c => c.a < (cs.length : Int)) (fun _ h => h) rs cs (fun c hc => (ho.refs c hc).1)
  · rfl
theorem firstP_none {p : RC → Bool} : ∀ (cs : List RC) (k : Nat), firstP p cs k < 0 → ∀ c ∈ cs, p c = false
  | [], _, _, c, hc => by simp at hc
  | a :: r, k, h, c, hc => by
    simp only [firstP] at h
    by_cases hp : p a = true
    · rw [if_pos hp] at h; omega
    · rw [if_neg hp] at h
      rcases List.mem_cons.1 hc with rfl | hc
      · simpa using hp
      · exact firstP_none r (k + 1) h c hc
theorem unitC_cell {cs : List RC} (ph hd : Nat) (rs : List Int) (h : ∀ c ∈ cs, CellOk c) : ∀ c ∈ (unitC cs ph hd rs).1, CellOk c := by
  have hr : ∀ (l : List RC) (rs : List Int), (∀ c ∈ l, CellOk c) → ∀ c ∈ reachC l rs, CellOk c := fun l rs hl => reachC_a (P := CellOk) (fun _ h => h.mark) rs l hl
  unfold unitC
  split
  · exact hr _ _ h
  split
  · have hs : ∀ c ∈ sweepC cs hd, CellOk c := by
      unfold sweepC
      split
      · intro c hc
        rcases List.mem_or_eq_of_mem_set hc with h1 | h1
        · exact h c h1
        · rw [h1]; exact .blank
      · exact modify_mem (P := CellOk) (f := wipeC) (fun _ h => h.wipe) h
    split <;> exact hs
  split
  · show ∀ c ∈ markStep cs _, _
    unfold markStep
    have hm : ∀ g, ∀ c ∈ cs.modify g lookC, CellOk c := fun g => modify_mem (P := CellOk) (f := lookC) (fun _ h => h.look) h
    split
    · exact hm _
    · exact hr _ _ (hm _)
  split
  · show ∀ c ∈ forgetC _, _
    intro c hc
    unfold forgetC at hc
    obtain ⟨d, hd', rfl⟩ := List.mem_map.1 hc
    exact (hr _ _ h d hd').fg
  · exact hr _ _ h
theorem wipe_col (c : RC) : colR (wipeC c) ≠ 2 := by
  obtain ⟨u, r, k, wk, a, b, n⟩ := c
  cases u <;> simp [wipeC, colR]
theorem HpX.unit {cs : List RC} {ph hd : Nat} (hx : HpX cs ph) (rs : List Int) : HpX (unitC cs ph hd rs).1 (unitC cs ph hd rs).2.1 := by
  refine ⟨unitC_cell ph hd rs hx.cell, ?_⟩
  intro e
  unfold unitC at e ⊢
  by_cases h0 : ph = 0
  · rw [if_pos h0] at e; simp at e
  rw [if_neg h0] at e ⊢
  by_cases h2 : ph = 2
  · rw [if_pos h2] at e ⊢
    have hn := hx.nogrey h2
    have hs : ∀ c ∈ sweepC cs hd, colR c ≠ 2 := by
      unfold sweepC
      split
      · intro c hc
        rcases List.mem_or_eq_of_mem_set hc with h1 | h1
        · exact hn c h1
        · rw [h1]; simp [colR]
      · intro c hc
        by_cases hl : hd < cs.length
        · rw [modify_set hl] at hc
          rcases List.mem_or_eq_of_mem_set hc with h1 | h1
          · exact hn c h1
          · rw [h1]; exact wipe_col _
        · rw [List.modify_eq_self (by omega)] at hc
          exact hn c hc
    split <;> exact hs
  rw [if_neg h2] at e ⊢
  by_cases hg : 0 ≤ greyC cs
  · rw [if_pos hg] at e; simp at e; omega
  rw [if_neg hg] at e ⊢
  by_cases hg2 : greyC (reachC cs rs) < 0
  · rw [if_pos hg2]
    intro c hc
    obtain ⟨d, hd', rfl⟩ := List.mem_map.1 (show c ∈ (reachC cs rs).map (fgC (reachC cs rs)) from hc)
    rw [fgC_col]
    have := firstP_none (p := fun c => colR c == 2) _ 0 hg2 d hd'
    simpa using this
  · rw [if_neg hg2] at e; simp at e; omega
end Go.Proofs.YtdmdpindonghdabDoor
namespace Go.Proofs.YtdmdpindonghdabDoor
open Go.RowKit
theorem RefsAt.two {w w' : World} {b gC : Nat} {v : Value} {rs : List Int} (h : RefsAt w gC v rs) (hb : ∀ a n c, v = .slice (some a) n c → a.block ≠ b) (ht : Two b gC w w') : RefsAt w' gC v rs := by
  rcases h with h | ⟨a, ca, e1, e2, e3, e4⟩
  · exact .inl h
  · refine .inr ⟨a, ca, e1, e2, Nat.lt_of_lt_of_le e3 ht.size, fun j x hj => ?_⟩
    have hbl : (a.add j).block = a.block := by unfold Addr.add; split <;> rfl
    exact (World.cell?_of_block (a := a.add j) (ht.block _ (by rw [hbl]; exact e3) (by rw [hbl]; exact hb a _ _ e1) (by rw [hbl]; exact e2))).trans (e4 j x hj)
theorem stepC_len (rs : List Int) (s : HSt) : (stepC rs s).1.length = s.1.length := unitC_len _ _ _ _
theorem toIdle_len (rs : List Int) : ∀ (n : Nat) (s : HSt), (toIdle rs n s).1.length = s.1.length := by
  intro n
  induction n with
  | zero => intro s; rfl
  | succ n ih =>
    intro s
    simp only [toIdle]
    split
    · rfl
    · rw [ih, stepC_len]
theorem toIdle_ok (rs : List Int) : ∀ (n : Nat) (s : HSt), OkS s → OkS (toIdle rs n s) := by
  intro n
  induction n with
  | zero => intro s h; exact h
  | succ n ih =>
    intro s h
    simp only [toIdle]
    split
    · exact h
    · exact ih _ (h.step rs)
theorem idleC_len (rs : List Int) (s : HSt) : (idleC rs s).1.length = s.1.length := toIdle_len rs _ _
theorem idleC_ok {rs : List Int} {s : HSt} (h : OkS s) : OkS (idleC rs s) := toIdle_ok rs _ _ h
theorem lowC_lt {s : HSt} (h : 0 ≤ lowC s) : (lowC s).toNat < s.1.length := by
  rcases firstP_lt (fun c => !c.used) s.1 0 with e | e
  · unfold lowC at h; omega
  · unfold lowC at *; omega
/-- Where round k stands: the heap s at the beginning of round k, none free in the rounds ahead of it. -/
def Rnd (rs : List Int) (s0 s : HSt) (k : Nat) : Prop := (k = 0 ∧ s = s0) ∨ (k = 1 ∧ s = idleC rs s0 ∧ lowC s0 < 0) ∨ (k = 2 ∧ s = idleC rs (stepC rs (idleC rs s0)) ∧ lowC s0 < 0 ∧ lowC (idleC rs s0) < 0)
theorem Rnd.take {rs : List Int} {s0 s : HSt} {k : Nat} (h : Rnd rs s0 s k) (hl : 0 ≤ lowC s) : takeC rs s0 = beginC s := by
  unfold takeC
  rcases h with ⟨_, rfl⟩ | ⟨_, rfl, h1⟩ | ⟨_, rfl, h1, h2⟩
  · rw [if_pos hl]
  · rw [if_neg (by omega), if_pos hl]
  · rw [if_neg (by omega), if_neg (by omega), if_pos hl]
theorem Rnd.full {rs : List Int} {s0 s : HSt} (h : Rnd rs s0 s 2) (hl : lowC s < 0) : takeC rs s0 = (-1, s) := by
  unfold takeC
  rcases h with ⟨e, _⟩ | ⟨e, _⟩ | ⟨_, rfl, h1, h2⟩
  · cases e
  · cases e
  · rw [if_neg (by omega), if_neg (by omega), if_neg (by omega)]
end Go.Proofs.YtdmdpindonghdabDoor
namespace Go.Proofs.YtdmdpindonghdabDoor
open Go.RowKit
/-- What an instruction makes of two words. -/
def sumC (op x y : Int) : Int :=
  if op = 2 then wrap64 (x + y) else if op = 3 then wrap64 (x - y) else if op = 4 then wrap64 (x * y) else if op = 5 then wrap64 (x.tdiv y)
  else if (if op = 6 then decide (x < y) else decide (x = y)) then 1 else 0
end Go.Proofs.YtdmdpindonghdabDoor
namespace Go.Proofs.YtdmdpindonghdabDoor
open Go.RowKit
/-- How the machine stands if the cell r must be a weak one, or a plain one. -/
def wantsC (cs : List RC) (r : Int) (weak : Bool) : Int :=
  if r < 0 then 2 else if (cs[r.toNat]?.map (·.weak)) = some weak then 0 else 4
/-- The word k below the top of the stack. -/
def LastPost (x : Bool × Int) (w : World) (e : Ending) (w' : World) : Prop := Below w.heap.size w w' ∧ e = .returned (.agg #[.bool x.1, .int .i64 x.2])
end Go.Proofs.YtdmdpindonghdabDoor
