/- What the proofs of these statements stand on, part 1: Spec, SpecB, SpecC, SpecG, SpecH, SpecI, TypA, FlowA, FlowB, FlowC, FlowD, TypB, SpecD, SpecE, SpecK, FlowI, TypE, SpecF, CodeA, CodeB, MacA, TypC, MacC, MacB, TypF, RefA, RefB, RefC. -/
import Derived.Test.YtdmdpindonghdaaGreatDoorRows
import Derived.WalkKit
import Derived.WalkSmall
import Derived.Deep.AppendLies
import Derived.Deep.DeepMust
import Derived.Deep.LoopGhost
import Derived.WalkSpells
import Derived.WalkLawsBesides
import Derived.BigRegion
import Derived.Deep.QuietTactic
import Derived.BigQuiet
import Derived.Deep.RegionHeld3
import Derived.OwnWalk
import Derived.Laws.StructEq
import Derived.Deep.RegionLaw
import Derived.Deep.DeepCutAuto
set_option maxHeartbeats 1000000
set_option maxRecDepth 100000
namespace Go.Proofs.YtdmdpindonghdaaGreatDoor
open Go.RowKit
theorem hid {p : Prop} (h : p) : Hid p := h
theorem ret_int {k : IntKind} {a b : Int} (h : a = b) : Ending.returned (.int k a) = .returned (.int k b) := by rw [h]
theorem ret_bool {a b : Bool} (h : a = b) : Ending.returned (.bool a) = .returned (.bool b) := by rw [h]
theorem ret2 {k l : IntKind} {a b a' b' : Int} (h : a = a') (h' : b = b') : Ending.returned (.tuple #[.int k a, .int l b]) = .returned (.tuple #[.int k a', .int l b']) := by rw [h, h']
theorem str_eq {a b : ByteArray} (h : a = b) : (a.toList == b.toList) = true := by rw [h]; simp
theorem str_ne {a b : ByteArray} (h : a ≠ b) : (a.toList == b.toList) = false := by
  rw [beq_eq_false_iff_ne, ByteArray.toList_eq, ByteArray.toList_eq]
  intro e
  apply h
  cases a; cases b
  exact congrArg ByteArray.mk (Array.toList_inj.1 e)
/-- An instruction: what it is, its operand, its place. -/
structure Ins where
  op : Nat
  n : Nat
  place : Nat
def findP (p : Nat) : List Ins → Nat → Int
  | [], _ => -1
  | i :: r, k => if i.place = p then (k : Int) else findP p r (k + 1)
def takesB (k : Nat) : Bool := k == 1 || k == 7 || k == 8 || k == 14 || k == 15 || k == 19 || k == 20
def badN (op n locals : Nat) : Bool := (op == 7 || op == 8) && decide (locals ≤ n) || (op == 14 || op == 15) && decide (1 < n)
def byteAt (t : ByteArray) (p : Nat) : Nat := (t.data.toList.getD p 0).toNat
/-- The place behind the instruction at p and its operand; 0: there is none. -/
def behindQ (op size p n locals : Nat) : Nat × Nat :=
  if 24 < op then (0, 0) else if takesB op = false then (p + 1, 0) else if size ≤ p + 1 then (0, 0) else
  if badN op n locals = true then (0, 0) else (p + 2, n)
def behindP (t : ByteArray) (p locals : Nat) : Nat × Nat := behindQ (byteAt t p) t.size p (byteAt t (p + 1)) locals
theorem byteAt_eq (t : ByteArray) (p : Nat) (h : p < t.size) : t[p].toNat = byteAt t p := by
  have : p < t.data.size := h
  simp only [byteAt, List.getD_eq_getElem?_getD, Array.getElem?_toList]
  rw [Array.getElem?_eq_getElem this]
  rfl
theorem byteAt_lt (t : ByteArray) (p : Nat) : byteAt t p < 256 := UInt8.toNat_lt _
theorem wrapb (c : Nat) (h : c < 256) : wrap64 (c : Int) = (c : Int) := by unfold wrap64; omega
theorem behindQ_cases (op size p n locals : Nat) : behindQ op size p n locals = (0, 0) ∨ (behindQ op size p n locals = (p + 1, 0)) ∨ (p + 1 < size ∧ behindQ op size p n locals = (p + 2, n)) := by
  unfold behindQ
  by_cases h1 : 24 < op
  · left; simp [h1]
  · rw [if_neg h1]
    by_cases h2 : takesB op = false
    · right; left; simp [h2]
    · rw [if_neg h2]
      by_cases h3 : size ≤ p + 1
      · left; simp [h3]
      · rw [if_neg h3]
        by_cases h4 : badN op n locals = true
        · left; simp [h4]
        · right; right; exact ⟨by omega, by simp [h4]⟩
theorem behindP_gt (t : ByteArray) (p locals : Nat) (hp : p < t.size) (h : (behindP t p locals).1 ≠ 0) : p < (behindP t p locals).1 ∧ (behindP t p locals).1 ≤ t.size ∧ (behindP t p locals).2 < 256 := by
  unfold behindP at *
  have hb := byteAt_lt t (p + 1)
  rcases behindQ_cases (byteAt t p) t.size p (byteAt t (p + 1)) locals with e | e | ⟨e0, e⟩
  · rw [e] at h; exact absurd rfl h
  · rw [e]; exact ⟨by simp, by simp; omega, by simp⟩
  · rw [e]; exact ⟨by simp, by simp; omega, hb⟩
/-- The instructions of a text, from a place on. -/
def decGo (t : ByteArray) (locals : Nat) : Nat → Nat → Option (List Ins)
  | 0, _ => some []
  | f + 1, p => if p < t.size then (if (behindP t p locals).1 = 0 then none else (decGo t locals f (behindP t p locals).1).map (⟨byteAt t p, (behindP t p locals).2, p⟩ :: ·)) else some []
theorem decGo_fuel (t : ByteArray) (locals : Nat) : ∀ f g p, t.size ≤ p + f → t.size ≤ p + g → decGo t locals f p = decGo t locals g p := by
  intro f
  induction f with
  | zero => intro g p h1 _; cases g with
    | zero => rfl
    | succ g => simp [decGo]; omega
  | succ f ih => intro g p h1 h2; cases g with
    | zero => simp [decGo]; omega
    | succ g =>
      simp only [decGo]
      by_cases hp : p < t.size
      · rw [if_pos hp, if_pos hp]
        by_cases hq : (behindP t p locals).1 = 0
        · rw [if_pos hq, if_pos hq]
        · rw [if_neg hq, if_neg hq]
          have := behindP_gt t p locals hp hq
          rw [ih g _ (by omega) (by omega)]
      · rw [if_neg hp, if_neg hp]
def dec (t : ByteArray) (locals p : Nat) : Option (List Ins) := decGo t locals (t.size - p) p
theorem dec_end (t : ByteArray) (locals p : Nat) (h : t.size ≤ p) : dec t locals p = some [] := by
  unfold dec; rw [show t.size - p = 0 by omega]; rfl
theorem dec_none (t : ByteArray) (locals p : Nat) (h : p < t.size) (hq : (behindP t p locals).1 = 0) : dec t locals p = none := by
  unfold dec
  obtain ⟨f, hf⟩ : ∃ f, t.size - p = f + 1 := ⟨t.size - p - 1, by omega⟩
  rw [hf]; simp [decGo, h, hq]
theorem dec_some (t : ByteArray) (locals p : Nat) (h : p < t.size) (hq : (behindP t p locals).1 ≠ 0) : dec t locals p = (dec t locals (behindP t p locals).1).map (⟨byteAt t p, (behindP t p locals).2, p⟩ :: ·) := by
  have hg := behindP_gt t p locals h hq
  unfold dec
  obtain ⟨f, hf⟩ : ∃ f, t.size - p = f + 1 := ⟨t.size - p - 1, by omega⟩
  rw [hf]
  simp only [decGo, if_pos h, if_neg hq]
  rw [decGo_fuel t locals f (t.size - (behindP t p locals).1) _ (by omega) (by omega)]
def isJump (op : Nat) : Bool := op == 19 || op == 20
def jumpsOk (l : List Ins) : Bool := l.all fun i => !isJump i.op || decide (0 ≤ findP i.n l 0)
def lastOp (l : List Ins) : Nat := (l.getLast?.map Ins.op).getD 1
def endsOk (l : List Ins) : Bool := lastOp l == 0 || lastOp l == 19
def shapedP (s : ByteArray) : Bool := decide (3 ≤ s.size) && decide (s.size ≤ 122) && byteAt s 0 == 84 && decide (byteAt s 1 ≤ 4)
def textOf (s : ByteArray) : ByteArray := s.extract 2 s.size
/-- The error of an image as far as its types are not asked, its instructions, its number of locals. -/
def errOf (s : ByteArray) : Nat :=
  if shapedP s = false then 1 else match dec (textOf s) (byteAt s 1) 0 with
  | none => 2
  | some l => if jumpsOk l = false then 3 else if endsOk l = false then 4 else 0
def codeOf (s : ByteArray) : List Ins := (dec (textOf s) (byteAt s 1) 0).getD []
/-- What is known of instructions that were decoded. -/
def Good (locals size : Nat) (l : List Ins) : Prop := ∀ i ∈ l, i.op ≤ 24 ∧ i.n < 256 ∧ i.place < size ∧ badN i.op i.n locals = false
theorem decGo_good (t : ByteArray) (locals : Nat) : ∀ f p l, decGo t locals f p = some l → Good locals t.size l ∧ l.length ≤ f := by
  intro f
  induction f with
  | zero => intro p l h; simp [decGo] at h; subst h; exact ⟨fun i hi => by simp at hi, by simp⟩
  | succ f ih =>
    intro p l h
    simp only [decGo] at h
    by_cases hp : p < t.size
    · rw [if_pos hp] at h
      by_cases hq : (behindP t p locals).1 = 0
      · rw [if_pos hq] at h; cases h
      · rw [if_neg hq] at h
        cases hr : decGo t locals f (behindP t p locals).1 with
        | none => rw [hr] at h; cases h
        | some r =>
          rw [hr] at h
          simp only [Option.map_some, Option.some.injEq] at h
          subst h
          obtain ⟨g1, g2⟩ := ih _ _ hr
          refine ⟨?_, by simp; omega⟩
          intro i hi
          simp only [List.mem_cons] at hi
          rcases hi with rfl | hi
          · have hg := behindP_gt t p locals hp hq
            refine ⟨?_, hg.2.2, hp, ?_⟩
            · show byteAt t p ≤ 24
              by_cases h24 : 24 < byteAt t p
              · exfalso; apply hq; simp [behindP, behindQ, h24]
              · omega
            · show badN (byteAt t p) (behindP t p locals).2 locals = false
              by_cases h24 : 24 < byteAt t p
              · exfalso; apply hq; simp [behindP, behindQ, h24]
              by_cases htk : takesB (byteAt t p) = false
              · have hne : ∀ k, takesB k = true → byteAt t p ≠ k := fun k hk e => by rw [e, hk] at htk; cases htk
                have a1 := hne 7 rfl
                have a2 := hne 8 rfl
                have a3 := hne 14 rfl
                have a4 := hne 15 rfl
                simp [badN, a1, a2, a3, a4]
              by_cases hsz : t.size ≤ p + 1
              · exfalso; apply hq; simp [behindP, behindQ, h24, htk, hsz]
              by_cases hbd : badN (byteAt t p) (byteAt t (p + 1)) locals = true
              · exfalso; apply hq; simp [behindP, behindQ, h24, htk, hsz, hbd]
              · have : (behindP t p locals).2 = byteAt t (p + 1) := by simp [behindP, behindQ, h24, htk, hsz, hbd]
                rw [this]; simpa using hbd
          · exact g1 i hi
    · rw [if_neg hp] at h; simp at h; subst h; exact ⟨fun i hi => by simp at hi, by simp⟩
theorem dec_good {t : ByteArray} {locals p : Nat} {l : List Ins} (h : dec t locals p = some l) : Good locals t.size l ∧ l.length ≤ t.size - p := decGo_good t locals _ _ _ h
/-- The cells of a list of instructions. -/
def insCells (l : List Ins) : List Value := l.flatMap fun i => [.int .i64 i.op, .int .i64 i.n, .int .i64 i.place]
theorem insCells_snoc (l : List Ins) (i : Ins) : insCells (l ++ [i]) = insCells l ++ [.int .i64 i.op, .int .i64 i.n, .int .i64 i.place] := by simp [insCells]
theorem insCells_at (l : List Ins) (k : Nat) (h : k < l.length) : (insCells l)[k * 3]? = some (.int .i64 l[k].op) ∧ (insCells l)[k * 3 + 1]? = some (.int .i64 l[k].n) ∧ (insCells l)[k * 3 + 2]? = some (.int .i64 l[k].place) := by
  induction l generalizing k with
  | nil => simp at h
  | cons a r ih =>
    cases k with
    | zero => simp [insCells]
    | succ k =>
      have := ih k (by simpa using h)
      have e0 : (k + 1) * 3 = k * 3 + 3 := by omega
      have e1 : (k + 1) * 3 + 1 = k * 3 + 1 + 3 := by omega
      have e2 : (k + 1) * 3 + 2 = k * 3 + 2 + 3 := by omega
      have hc : ∀ j, (insCells (a :: r))[j + 3]? = (insCells r)[j]? := fun j => by simp [insCells]
      rw [e2, e1, e0, hc, hc, hc]
      simpa using this
/-- The cells of a list of instructions lie at block g. -/
def InsAt (w : World) (g : Nat) (l : List Ins) : Prop :=
  ∀ (i : Nat) (h : i < l.length), w.cell? ⟨g, i * 3, none⟩ = some (.int .i64 l[i].op) ∧ w.cell? ⟨g, i * 3 + 1, none⟩ = some (.int .i64 l[i].n) ∧ w.cell? ⟨g, i * 3 + 2, none⟩ = some (.int .i64 l[i].place)
theorem InsAt.below {w w' : World} {g B : Nat} {l : List Ins} (h : InsAt w g l) (hb : Below B w w') (hg : g < B) : InsAt w' g l := by
  intro i hi
  obtain ⟨h0, h1, h2⟩ := h i hi
  exact ⟨(hb.cell (p := ⟨g, i * 3, none⟩) hg).trans h0, (hb.cell (p := ⟨g, i * 3 + 1, none⟩) hg).trans h1, (hb.cell (p := ⟨g, i * 3 + 2, none⟩) hg).trans h2⟩
theorem addr_add (g j : Nat) : (⟨g, 0, none⟩ : Addr).add j = ⟨g, j, none⟩ := by unfold Addr.add; split <;> simp_all
theorem InsAt.of_owns {w : World} {base e g n cap : Nat} {l : List Ins} (h : w.ownsRow base e 3 (.slice (some ⟨g, 0, none⟩) n cap) l.length (insCells l)) : InsAt w g l := by
  intro i hi
  have hc := h.cells (g := g) rfl
  obtain ⟨a0, a1, a2⟩ := insCells_at l i hi
  have h0 := hc _ _ a0
  have h1 := hc _ _ a1
  have h2 := hc _ _ a2
  rw [addr_add] at h0 h1 h2
  exact ⟨h0, h1, h2⟩
/-- The table of those instructions that have an operand. -/
def TakesTab (w : World) : Prop := ∀ k : Nat, k < 25 → w.cell? ⟨0, k, none⟩ = some (.bool (takesB k))
theorem TakesTab.below {w w' : World} (h : TakesTab w) (hb : Below w.heap.size w w') : TakesTab w' := by
  intro k hk
  have h0 := h k hk
  have := World.block_lt_of_cell? w _ h0
  exact (hb.cell (p := ⟨0, k, none⟩) this).trans h0
def popsL (op : Nat) : List UInt8 :=
  if op = 0 ∨ op = 20 ∨ op = 22 then [105] else if op = 2 ∨ op = 3 ∨ op = 4 ∨ op = 5 ∨ op = 6 then [105, 105]
  else if op = 14 ∨ op = 16 ∨ op = 23 ∨ op = 24 then [114] else if op = 15 ∨ op = 18 then [114, 114] else if op = 17 then [114, 105] else []
def pushesL (op : Nat) : List UInt8 :=
  if op = 1 ∨ op = 2 ∨ op = 3 ∨ op = 4 ∨ op = 5 ∨ op = 6 ∨ op = 16 ∨ op = 18 ∨ op = 21 then [105]
  else if op = 12 ∨ op = 13 ∨ op = 14 ∨ op = 23 ∨ op = 24 then [114] else []
def popsS (op : Nat) : ByteArray := ⟨(popsL op).toArray⟩
def pushesS (op : Nat) : ByteArray := ⟨(pushesL op).toArray⟩
theorem popsL_le (op : Nat) : (popsL op).length ≤ 2 := by
  unfold popsL
  split
  · simp
  split
  · simp
  split
  · simp
  split
  · simp
  split <;> simp
theorem pushesL_le (op : Nat) : (pushesL op).length ≤ 1 := by
  unfold pushesL
  split
  · simp
  split <;> simp
theorem popsS_size (op : Nat) : (popsS op).size ≤ 2 := popsL_le op
theorem pushesS_size (op : Nat) : (pushesS op).size ≤ 1 := pushesL_le op
/-- What an instruction does to the types of locals and stack; false: it can't be done. -/
def afterV (lo st : ByteArray) (op n : Nat) : ByteArray × ByteArray × Bool :=
  if op = 7 then (lo, st ++ lo.extract n (n + 1), true)
  else if op = 8 then (if st.size < 1 then (lo, st, false) else (lo.extract 0 n ++ st.extract (st.size - 1) st.size ++ lo.extract (n + 1) lo.size, st.extract 0 (st.size - 1), true))
  else if op = 9 then (if st.size < 1 then (lo, st, false) else (lo, st ++ st.extract (st.size - 1) st.size, true))
  else if op = 10 then (if st.size < 1 then (lo, st, false) else (lo, st.extract 0 (st.size - 1), true))
  else if op = 11 then (if st.size < 2 then (lo, st, false) else (lo, st.extract 0 (st.size - 2) ++ st.extract (st.size - 1) st.size ++ st.extract (st.size - 2) (st.size - 1), true))
  else if st.size < (popsS op).size then (lo, st, false)
  else if st.extract (st.size - (popsS op).size) st.size = popsS op then (lo, st.extract 0 (st.size - (popsS op).size) ++ pushesS op, true) else (lo, st, false)
/-- The reference's two tables of types. -/
def TypeTab (w : World) : Prop := ∀ k : Nat, k < 25 → w.cell? ⟨1, k, none⟩ = some (.string (popsS k)) ∧ w.cell? ⟨2, k, none⟩ = some (.string (pushesS k))
theorem TypeTab.below {w w' : World} (h : TypeTab w) (hb : Below w.heap.size w w') : TypeTab w' := by
  intro k hk
  obtain ⟨h0, h1⟩ := h k hk
  have l0 := World.block_lt_of_cell? w _ h0
  have l1 := World.block_lt_of_cell? w _ h1
  exact ⟨(hb.cell (p := ⟨1, k, none⟩) l0).trans h0, (hb.cell (p := ⟨2, k, none⟩) l1).trans h1⟩
def AfterPost (a : Nat) (lo st : ByteArray) (op n : Nat) (w : World) (e : Ending) (w' : World) : Prop :=
  Below w.heap.size w w' ∧ e = .returned (.tuple #[.agg #[.int .i64 a, .string (afterV lo st op n).1, .string (afterV lo st op n).2.1], .bool (afterV lo st op n).2.2])
theorem afterPost_mk {a op n : Nat} {lo st lo' st' : ByteArray} {b : Bool} {w w' : World} (hb : Below w.heap.size w w') (h : afterV lo st op n = (lo', st', b)) :
    AfterPost a lo st op n w (.returned (.tuple #[.agg #[.int .i64 a, .string lo', .string st'], .bool b])) w' := by
  unfold AfterPost; rw [h]; exact ⟨hb, rfl⟩
/-- A point: an instruction that a way leads to, with the types there. -/
structure Pt where
  at_ : Nat
  lo : ByteArray
  st : ByteArray
def ptCells (l : List Pt) : List Value := l.flatMap fun i => [.int .i64 i.at_, .string i.lo, .string i.st]
theorem ptCells_snoc (l : List Pt) (i : Pt) : ptCells (l ++ [i]) = ptCells l ++ [.int .i64 i.at_, .string i.lo, .string i.st] := by simp [ptCells]
theorem ptCells_at (l : List Pt) (k : Nat) (h : k < l.length) : (ptCells l)[k * 3]? = some (.int .i64 l[k].at_) ∧ (ptCells l)[k * 3 + 1]? = some (.string l[k].lo) ∧ (ptCells l)[k * 3 + 2]? = some (.string l[k].st) := by
  induction l generalizing k with
  | nil => simp at h
  | cons a r ih =>
    cases k with
    | zero => simp [ptCells]
    | succ k =>
      have := ih k (by simpa using h)
      have e0 : (k + 1) * 3 = k * 3 + 3 := by omega
      have e1 : (k + 1) * 3 + 1 = k * 3 + 1 + 3 := by omega
      have e2 : (k + 1) * 3 + 2 = k * 3 + 2 + 3 := by omega
      have hc : ∀ j, (ptCells (a :: r))[j + 3]? = (ptCells r)[j]? := fun j => by simp [ptCells]
      rw [e2, e1, e0, hc, hc, hc]
      simpa using this
/-- The cells of a list of points lie at block g. -/
def PtAt (w : World) (g : Nat) (l : List Pt) : Prop :=
  ∀ (i : Nat) (h : i < l.length), w.cell? ⟨g, i * 3, none⟩ = some (.int .i64 l[i].at_) ∧ w.cell? ⟨g, i * 3 + 1, none⟩ = some (.string l[i].lo) ∧ w.cell? ⟨g, i * 3 + 2, none⟩ = some (.string l[i].st)
theorem PtAt.below {w w' : World} {g B : Nat} {l : List Pt} (h : PtAt w g l) (hb : Below B w w') (hg : g < B) : PtAt w' g l := by
  intro i hi
  obtain ⟨h0, h1, h2⟩ := h i hi
  exact ⟨(hb.cell (p := ⟨g, i * 3, none⟩) hg).trans h0, (hb.cell (p := ⟨g, i * 3 + 1, none⟩) hg).trans h1, (hb.cell (p := ⟨g, i * 3 + 2, none⟩) hg).trans h2⟩
theorem PtAt.of_owns {w : World} {base e g n cap : Nat} {l : List Pt} (h : w.ownsRow base e 3 (.slice (some ⟨g, 0, none⟩) n cap) l.length (ptCells l)) : PtAt w g l := by
  intro i hi
  have hc := h.cells (g := g) rfl
  obtain ⟨a0, a1, a2⟩ := ptCells_at l i hi
  have h0 := hc _ _ a0
  have h1 := hc _ _ a1
  have h2 := hc _ _ a2
  rw [addr_add] at h0 h1 h2
  exact ⟨h0, h1, h2⟩
/-- Two points that do not go together, where instruction i is. -/
def clashB (i : Ins) (p q : Pt) : Bool := q.at_ == p.at_ && (!decide (q.st = p.st) || i.op == 7 && !(byteAt q.lo i.n == byteAt p.lo i.n))
def knownB (p q : Pt) : Bool := q.at_ == p.at_ && decide (q.lo = p.lo)
/-- A point more, if it is new; false: it does not go together with those that are known. -/
def joinedP (i : Ins) (all : List Pt) (p : Pt) : List Pt × Bool :=
  if all.any (clashB i p) = true then (all, false) else if all.any (knownB p) = true then (all, true) else (all ++ [p], true)
theorem joinedP_clash {i : Ins} {all : List Pt} {p : Pt} {k : Nat} (hk : k < all.length) (h : clashB i p all[k] = true) : joinedP i all p = (all, false) := by
  unfold joinedP
  rw [if_pos]
  rw [List.any_eq_true]
  exact ⟨all[k], List.getElem_mem hk, h⟩
theorem any_take_succ {α : Type} (f : α → Bool) (l : List α) (k : Nat) (h : k < l.length) : (l.take (k + 1)).any f = ((l.take k).any f || f l[k]) := by
  rw [List.take_succ_eq_append_getElem h, List.any_append]
  simp
/-- All blocks but g are as they were. -/
def Keeps (g : Nat) (w w' : World) : Prop := ∀ b, b < w.heap.size → b ≠ g → w'.heap[b]? = w.heap[b]?
theorem Keeps.of_below {g : Nat} {w w' : World} (h : Below w.heap.size w w') : Keeps g w w' := fun b hb _ => h.block b hb
theorem Keeps.cell {g : Nat} {w w' : World} (h : Keeps g w w') {b o : Nat} (hb : b < w.heap.size) (hg : b ≠ g) : w'.cell? ⟨b, o, none⟩ = w.cell? ⟨b, o, none⟩ := World.cell?_of_block (a := ⟨b, o, none⟩) (h b hb hg)
def JoinPost (i : Ins) (all : List Pt) (p : Pt) (base g : Nat) (w : World) (e : Ending) (w' : World) : Prop :=
  Below base w w' ∧ Keeps g w w' ∧ ∃ v, e = .returned (.tuple #[v, .bool (joinedP i all p).2]) ∧ (∀ g', v.ownBlock = some g' → g' = g ∨ w.heap.size ≤ g') ∧ w'.ownsRow base 155 3 v (joinedP i all p).1.length (ptCells (joinedP i all p).1)
theorem joinPost_mk {i : Ins} {all all' : List Pt} {p : Pt} {b : Bool} {base g : Nat} {w w' : World} {v : Value} (hb : Below base w w') (hk : Keeps g w w') (hv : ∀ g', v.ownBlock = some g' → g' = g ∨ w.heap.size ≤ g') (h : joinedP i all p = (all', b)) {n : Nat} {xs : List Value} (hn : n = all'.length) (hx : xs = ptCells all') (ho : w'.ownsRow base 155 3 v n xs) :
    JoinPost i all p base g w (.returned (.tuple #[v, .bool b])) w' := by
  subst hn; subst hx
  unfold JoinPost; rw [h]; exact ⟨hb, hk, v, rfl, hv, ho⟩
/-- What is owned stays owned where nothing below B turns. -/
theorem owns_below {w w' : World} {B base e size n : Nat} {v : Value} {xs : List Value} (h : w.ownsRow base e size v n xs) (hb : Below B w w') (hlt : ∀ g, v.ownBlock = some g → g < B) : w'.ownsRow base e size v n xs := by
  refine ⟨h.1, ?_⟩
  rcases h.2 with h2 | ⟨g, cap, cur, hv, hg, hh, r⟩
  · exact .inl h2
  · refine .inr ⟨g, cap, cur, hv, hg, ?_, r⟩
    rw [hb.block g (hlt g (by rw [hv]; rfl))]
    exact hh
theorem box_cells {w wr : World} {c : Array Value} {t : TypeId} (hb : Below (w.heap.size + 1) (w.alloc (.cells c t)) wr) :
    (∀ o, wr.cell? ⟨w.heap.size, o, none⟩ = c[o]?) ∧ (∀ b o, b < w.heap.size → wr.cell? ⟨b, o, none⟩ = w.cell? ⟨b, o, none⟩) ∧ w.heap.size + 1 ≤ wr.heap.size := by
  refine ⟨fun o => ?_, fun b o h => ?_, ?_⟩
  · rw [hb.cell (p := ⟨w.heap.size, o, none⟩) (by simp)]; simp
  · rw [hb.cell (p := ⟨b, o, none⟩) (by simp; omega), World.cell?_alloc_past _ _ _ h]
  · have := hb.size; simpa using this
theorem box_below {w wr : World} {o : Obj} {base : Nat} (hbase : base ≤ w.heap.size) (hb : Below (w.heap.size + 1) (w.alloc o) wr) : Below base w wr :=
  ((Below.refl base w).alloc hbase o).trans (hb.mono (by omega))
theorem heap_two_new (w : World) (a b : Obj) : ((w.alloc a).alloc b).heap[w.heap.size + 1]? = some b := by
  have h := heap_alloc_new (w.alloc a) b
  have e : (w.alloc a).heap.size = w.heap.size + 1 := by simp
  rw [e] at h
  exact h
theorem setCell_row {w : World} {b : Nat} {cs : Array Value} {t : TypeId} {fr : Nat × Nat} (j : Nat) (v : Value) (h : w.heap[b]? = some (.cells cs t fr)) : (w.setCell ⟨b, j, none⟩ v).heap[b]? = some (.cells (cs.setIfInBounds j v) t fr) := by
  simp [World.setCell, Array.getElem?_modify, h]
theorem owns_set {w : World} {base e size n : Nat} {v : Value} {xs : List Value} {a : Addr} (h : w.ownsRow base e size v n xs) (hne : v.ownBlock ≠ some a.block) (u : Value) : (w.setCell a u).ownsRow base e size v n xs := by
  refine ⟨h.1, ?_⟩
  rcases h.2 with h2 | ⟨g, cap, cur, hv, hg, hh, r⟩
  · exact .inl h2
  · refine .inr ⟨g, cap, cur, hv, hg, ?_, r⟩
    rw [Below.heap_setCell _ _ _ _ (fun e => hne (by rw [hv, ← e]; rfl))]
    exact hh
theorem heap_set_new (w : World) (a : Addr) (v : Value) (o : Obj) : ((w.setCell a v).alloc o).heap[w.heap.size]? = some o := by
  have h := heap_alloc_new (w.setCell a v) o
  have e : (w.setCell a v).heap.size = w.heap.size := by simp [World.setCell]
  rw [e] at h
  exact h
/-- Only block b may have turned; no block is new. -/
structure Only (b : Nat) (w w' : World) : Prop where
  os : w'.os = w.os
  tape : w'.tape = w.tape
  output : w'.output = w.output
  size : w'.heap.size = w.heap.size
  block : ∀ k, k ≠ b → w'.heap[k]? = w.heap[k]?
theorem Only.refl (b : Nat) (w : World) : Only b w w := ⟨rfl, rfl, rfl, rfl, fun _ _ => rfl⟩
theorem Only.trans {b : Nat} {w1 w2 w3 : World} (h : Only b w1 w2) (k : Only b w2 w3) : Only b w1 w3 :=
  ⟨k.os.trans h.os, k.tape.trans h.tape, k.output.trans h.output, k.size.trans h.size, fun i hi => (k.block i hi).trans (h.block i hi)⟩
theorem Only.set {b : Nat} {w1 w2 : World} (h : Only b w1 w2) (o : Nat) (v : Value) : Only b w1 (w2.setCell ⟨b, o, none⟩ v) :=
  h.trans ⟨rfl, rfl, rfl, by simp [World.setCell], fun k hk => Below.heap_setCell _ _ _ _ hk⟩
theorem Only.drewN {b : Nat} {w1 w2 : World} (h : Only b w1 w2) (n : Nat) : Only b w1 (w2.drewN n) := h.trans ⟨rfl, rfl, rfl, rfl, fun _ _ => rfl⟩
theorem Only.drew {b : Nat} {w1 w2 : World} (h : Only b w1 w2) : Only b w1 w2.drew := h.trans ⟨rfl, rfl, rfl, rfl, fun _ _ => rfl⟩
theorem Only.below {b B : Nat} {w w' : World} (h : Only b w w') (hb : B ≤ b) : Below B w w' :=
  ⟨h.os, h.tape, h.output, by rw [h.size]; exact Nat.le_refl _, fun k hk => h.block k (by omega)⟩
theorem Only.cell {b : Nat} {w w' : World} (h : Only b w w') {k o : Nat} (hk : k ≠ b) : w'.cell? ⟨k, o, none⟩ = w.cell? ⟨k, o, none⟩ := World.cell?_of_block (a := ⟨k, o, none⟩) (h.block k hk)
/-- A frame's row lies at block b. -/
def RowAt (w : World) (b : Nat) (cs : Array Value) : Prop := w.heap[b]? = some (.cells cs 125)
theorem RowAt.cell {w : World} {b : Nat} {cs : Array Value} (h : RowAt w b cs) (j : Nat) : w.cell? ⟨b, j, none⟩ = cs[j]? := cell_of_row w b j cs _ _ h
theorem RowAt.frozen {w : World} {b : Nat} {cs : Array Value} (h : RowAt w b cs) (j : Nat) : w.frozen? ⟨b, j, none⟩ = false := frozen_of_row w b j cs _ h
theorem RowAt.set {w : World} {b : Nat} {cs : Array Value} (h : RowAt w b cs) (j : Nat) (v : Value) : RowAt (w.setCell ⟨b, j, none⟩ v) b (cs.setIfInBounds j v) := setCell_row j v h
theorem RowAt.drewN {w : World} {b : Nat} {cs : Array Value} (h : RowAt w b cs) (n : Nat) : RowAt (w.drewN n) b cs := h
structure Fr where
  reached : Bool
  lo : List Nat
  depth : Nat
  stk : List Nat
  wrong : Bool
structure FrOk (f : Fr) : Prop where
  lo : f.lo.length = 4
  stk : f.stk.length = 8
  depth : f.depth ≤ 8
def numV (n : Nat) : Value := .int .i64 (n : Int)
def frL (f : Fr) : List Value := .bool f.reached :: (f.lo.map numV ++ (numV f.depth :: (f.stk.map numV ++ [.bool f.wrong])))
def FrAt (w : World) (b : Nat) (f : Fr) : Prop := RowAt w b (frL f).toArray
theorem four {l : List Nat} (h : l.length = 4) : ∃ a b c d, l = [a, b, c, d] := by
  match l, h with
  | [a, b, c, d], _ => exact ⟨a, b, c, d, rfl⟩
theorem eight {l : List Nat} (h : l.length = 8) : ∃ a b c d e f g i, l = [a, b, c, d, e, f, g, i] := by
  match l, h with
  | [a, b, c, d, e, f, g, i], _ => exact ⟨a, b, c, d, e, f, g, i, rfl⟩
theorem fr_get {f : Fr} (h : FrOk f) : (frL f).toArray[0]? = some (.bool f.reached) ∧ (frL f).toArray[5]? = some (numV f.depth) ∧ (frL f).toArray[14]? = some (.bool f.wrong) := by
  obtain ⟨r, lo, d, st, wr⟩ := f
  obtain ⟨h1, h2, h3⟩ := h
  simp only at h1 h2
  obtain ⟨a, b, c, e, rfl⟩ := four h1
  obtain ⟨s0, s1, s2, s3, s4, s5, s6, s7, rfl⟩ := eight h2
  exact ⟨rfl, rfl, rfl⟩
theorem fr_lo {f : Fr} (h : FrOk f) {i : Nat} (hi : i < 4) : (frL f).toArray[1 + i]? = some (numV (f.lo.getD i 0)) := by
  obtain ⟨r, lo, d, st, wr⟩ := f
  obtain ⟨h1, h2, h3⟩ := h
  simp only at h1 h2
  obtain ⟨a, b, c, e, rfl⟩ := four h1
  match i, hi with
  | 0, _ => rfl
  | 1, _ => rfl
  | 2, _ => rfl
  | 3, _ => rfl
theorem fr_stk {f : Fr} (h : FrOk f) {i : Nat} (hi : i < 8) : (frL f).toArray[6 + i]? = some (numV (f.stk.getD i 0)) := by
  obtain ⟨r, lo, d, st, wr⟩ := f
  obtain ⟨h1, h2, h3⟩ := h
  simp only at h1 h2
  obtain ⟨a, b, c, e, rfl⟩ := four h1
  obtain ⟨s0, s1, s2, s3, s4, s5, s6, s7, rfl⟩ := eight h2
  match i, hi with
  | 0, _ => rfl
  | 1, _ => rfl
  | 2, _ => rfl
  | 3, _ => rfl
  | 4, _ => rfl
  | 5, _ => rfl
  | 6, _ => rfl
  | 7, _ => rfl
theorem fr_set_depth {f : Fr} (h : FrOk f) (n : Nat) : (frL f).toArray.setIfInBounds 5 (numV n) = (frL { f with depth := n }).toArray := by
  obtain ⟨r, lo, d, st, wr⟩ := f
  obtain ⟨h1, h2, h3⟩ := h
  simp only at h1 h2
  obtain ⟨a, b, c, e, rfl⟩ := four h1
  simp [frL]
theorem fr_set_wrong {f : Fr} (h : FrOk f) (u : Bool) : (frL f).toArray.setIfInBounds 14 (.bool u) = (frL { f with wrong := u }).toArray := by
  obtain ⟨r, lo, d, st, wr⟩ := f
  obtain ⟨h1, h2, h3⟩ := h
  simp only at h1 h2
  obtain ⟨a, b, c, e, rfl⟩ := four h1
  obtain ⟨s0, s1, s2, s3, s4, s5, s6, s7, rfl⟩ := eight h2
  simp [frL]
theorem fr_set_stk {f : Fr} (h : FrOk f) {i : Nat} (hi : i < 8) (n : Nat) : (frL f).toArray.setIfInBounds (6 + i) (numV n) = (frL { f with stk := f.stk.set i n }).toArray := by
  obtain ⟨r, lo, d, st, wr⟩ := f
  obtain ⟨h1, h2, h3⟩ := h
  simp only at h1 h2
  obtain ⟨a, b, c, e, rfl⟩ := four h1
  obtain ⟨s0, s1, s2, s3, s4, s5, s6, s7, rfl⟩ := eight h2
  match i, hi with
  | 0, _ => simp [frL]
  | 1, _ => simp [frL]
  | 2, _ => simp [frL]
  | 3, _ => simp [frL]
  | 4, _ => simp [frL]
  | 5, _ => simp [frL]
  | 6, _ => simp [frL]
  | 7, _ => simp [frL]
theorem fr_set_lo {f : Fr} (h : FrOk f) {i : Nat} (hi : i < 4) (n : Nat) : (frL f).toArray.setIfInBounds (1 + i) (numV n) = (frL { f with lo := f.lo.set i n }).toArray := by
  obtain ⟨r, lo, d, st, wr⟩ := f
  obtain ⟨h1, h2, h3⟩ := h
  simp only at h1 h2
  obtain ⟨a, b, c, e, rfl⟩ := four h1
  match i, hi with
  | 0, _ => simp [frL]
  | 1, _ => simp [frL]
  | 2, _ => simp [frL]
  | 3, _ => simp [frL]
def badF (f : Fr) : Fr := { f with wrong := true }
def popF (f : Fr) : Fr × Nat := if f.depth = 0 then (badF f, 0) else ({ f with depth := f.depth - 1, stk := f.stk.set (f.depth - 1) 0 }, f.stk.getD (f.depth - 1) 0)
def pushF (f : Fr) (k : Nat) : Fr := if f.depth = 8 then badF f else { f with stk := f.stk.set f.depth k, depth := f.depth + 1 }
theorem badF_ok {f : Fr} (h : FrOk f) : FrOk (badF f) := ⟨h.lo, h.stk, h.depth⟩
theorem popF_ok {f : Fr} (h : FrOk f) : FrOk (popF f).1 := by
  unfold popF
  by_cases hd : f.depth = 0
  · rw [if_pos hd]; exact badF_ok h
  · rw [if_neg hd]; exact ⟨h.lo, by simp [h.stk], by have := h.depth; simp only; omega⟩
theorem pushF_ok {f : Fr} (h : FrOk f) (k : Nat) : FrOk (pushF f k) := by
  unfold pushF
  by_cases hd : f.depth = 8
  · rw [if_pos hd]; exact badF_ok h
  · rw [if_neg hd]; exact ⟨h.lo, by simp [h.stk], by have := h.depth; simp only; omega⟩
theorem intInfo : (Tryz.prog.info? 3).map (fun i => (i.zero, i.size, i.bytes)) = some (some (.int .i64 0), 1, 8) := by kernel_rfl
theorem take_snoc {l : List Nat} {k : Nat} (h : k < l.length) : (l.take (k + 1)).map numV = (l.take k).map numV ++ [numV (l.getD k 0)] := by
  rw [List.take_succ_eq_append_getElem h, List.map_append]
  simp [List.getD_eq_getElem?_getD, List.getElem?_eq_getElem h]
theorem owns_mono {w : World} {base base' e size n : Nat} {v : Value} {xs : List Value} (h : w.ownsRow base e size v n xs) (hb : base' ≤ base) : w.ownsRow base' e size v n xs := by
  refine ⟨h.1, ?_⟩
  rcases h.2 with h2 | ⟨g, cap, cur, hv, hg, r⟩
  · exact .inl h2
  · exact .inr ⟨g, cap, cur, hv, Nat.le_trans hb hg, r⟩
def ListPost (l : List Nat) (w : World) (e : Ending) (w' : World) : Prop :=
  Below w.heap.size w w' ∧ ∃ v, e = .returned v ∧ w'.ownsRow w.heap.size 3 1 v l.length (l.map numV)
theorem localTypes_any (f : Fr) (L : Nat) (w : World) (hf : FrOk f) (hL : L ≤ 4) :
    Calls Tryz.prog 88 #[.agg (frL f).toArray, .int .i64 L] w (ListPost (f.lo.take L) w) := by
  obtain ⟨i0, hi0, hz0, hz1, hz2⟩ := info_parts intInfo
  have hlen := hf.lo
  have HF := hid hf
  clear hf
  generalize hF : (frL f).toArray = F
  have HFR := hid hF
  clear hF
  go_enter Tryz.func88, Tryz.ntmps88
  go_wp2_with fail
  go_loopg [5, 6] L (fun g l i w' => ∃ k : Nat, k ≤ L ∧ g = L - k ∧ i = .int .i64 k ∧ w'.ownsRow (w.heap.size + 1) 3 1 l k ((f.lo.take k).map numV) ∧ Below (w.heap.size + 1) (w.alloc (.cells F 125)) w')
  case atStart => exact ⟨0, by omega, by omega, rfl, World.ownsRow_nil _ _ _ _, Below.refl _ _⟩
  case round =>
    obtain ⟨k, hk, hg, rfl, hown, hbel⟩ := hrel
    obtain ⟨bx, bo, hz⟩ := box_cells hbel
    have HB := hid hbel
    clear hbel bo
    rcases Nat.lt_or_ge k L with hlt | hge
    · have d1 : (k : Int) < (L : Int) := by omega
      have d2 : (k : Int) < 4 := by omega
      have d0 : (0 : Int) ≤ (k : Int) := by omega
      have c0 := (bx (1 + k)).trans ((congrArg (fun x => x[1 + k]?) HFR.out.symm).trans (fr_lo HF.out (i := k) (by omega)))
      clear bx
      unfold numV at c0
      go_wp2_with (at_builtin; go_must (refine wpList_append_lies _ (by rfl) _ _ _ (by rfl) (w.heap.size + 1) 3 i0 _ 1 8 Tryz.underlying22 hi0 hz0 hz1 hz2 rfl (by omega) _ k ((f.lo.take k).map numV) (by rfl) (hown.alloc _) ⟨_, 0, none⟩ 1 1 [.int .i64 (f.lo.getD k 0 : Nat)] (by rfl) (by rfl) (World.news_of_block (cs := #[.int .i64 (f.lo.getD k 0 : Nat)]) (t := 3) (fr := (0, 0)) (heap_alloc_new _ _)) (by simp [Value.oneCell']) (by omega) (by unfold maxLen; omega) (by omega) (by simp; omega) _ rfl ?_); intro gg cap w3 hown3 hgrow hat hlt2)
      go_roundg (L - (k + 1))
      case measure => omega
      case rel => exact ⟨k + 1, by omega, rfl, by go_num, by rw [take_snoc (by omega)]; exact hown3, (HB.out.alloc (by omega) _).grown hgrow (by simp; omega) (fun k hk => (hown.lt k hk).1)⟩
    · have d1 : ¬ (k : Int) < (L : Int) := by omega
      have hkL : k = L := by omega
      clear bx
      go_wp2_with fail
      go_ret
      exact ⟨box_below (Nat.le_refl _) HB.out, _, rfl, by rw [List.length_take, Nat.min_eq_left (by omega), ← hkL]; exact owns_mono hown (by omega)⟩
theorem stackTypes_any (f : Fr) (w : World) (hf : FrOk f) :
    Calls Tryz.prog 89 #[.agg (frL f).toArray] w (ListPost (f.stk.take f.depth) w) := by
  obtain ⟨i0, hi0, hz0, hz1, hz2⟩ := info_parts intInfo
  have hlen := hf.stk
  have hL := hf.depth
  have HF := hid hf
  have HD := hid (fr_get hf).2.1
  clear hf
  generalize f.depth = L at *
  generalize hF : (frL f).toArray = F
  have HFR := hid hF
  clear hF
  go_enter Tryz.func89, Tryz.ntmps89
  go_wp2_with fail
  go_loopg [3, 4] L (fun g l i w' => ∃ k : Nat, k ≤ L ∧ g = L - k ∧ i = .int .i64 k ∧ w'.ownsRow (w.heap.size + 1) 3 1 l k ((f.stk.take k).map numV) ∧ Below (w.heap.size + 1) (w.alloc (.cells F 125)) w')
  case atStart => exact ⟨0, by omega, by omega, rfl, World.ownsRow_nil _ _ _ _, Below.refl _ _⟩
  case round =>
    obtain ⟨k, hk, hg, rfl, hown, hbel⟩ := hrel
    obtain ⟨bx, bo, hz⟩ := box_cells hbel
    have HB := hid hbel
    clear hbel bo
    rcases Nat.lt_or_ge k L with hlt | hge
    · have d1 : (k : Int) < (L : Int) := by omega
      have d2 : (k : Int) < 8 := by omega
      have d0 : (0 : Int) ≤ (k : Int) := by omega
      have c0 := (bx (6 + k)).trans ((congrArg (fun x => x[6 + k]?) HFR.out.symm).trans (fr_stk HF.out (i := k) (by omega)))
      have c1 := (bx 5).trans ((congrArg (fun x => x[5]?) HFR.out.symm).trans HD.out)
      clear bx
      unfold numV at c0 c1
      go_wp2_with (at_builtin; go_must (refine wpList_append_lies _ (by rfl) _ _ _ (by rfl) (w.heap.size + 1) 3 i0 _ 1 8 Tryz.underlying22 hi0 hz0 hz1 hz2 rfl (by omega) _ k ((f.stk.take k).map numV) (by rfl) (hown.alloc _) ⟨_, 0, none⟩ 1 1 [.int .i64 (f.stk.getD k 0 : Nat)] (by rfl) (by rfl) (World.news_of_block (cs := #[.int .i64 (f.stk.getD k 0 : Nat)]) (t := 3) (fr := (0, 0)) (heap_alloc_new _ _)) (by simp [Value.oneCell']) (by omega) (by unfold maxLen; omega) (by omega) (by simp; omega) _ rfl ?_); intro gg cap w3 hown3 hgrow hat hlt2)
      go_roundg (L - (k + 1))
      case measure => omega
      case rel => exact ⟨k + 1, by omega, rfl, by go_num, by rw [take_snoc (by omega)]; exact hown3, (HB.out.alloc (by omega) _).grown hgrow (by simp; omega) (fun k hk => (hown.lt k hk).1)⟩
    · have d1 : ¬ (k : Int) < (L : Int) := by omega
      have hkL : k = L := by omega
      have c1 := (bx 5).trans ((congrArg (fun x => x[5]?) HFR.out.symm).trans HD.out)
      clear bx
      unfold numV at c1
      go_wp2_with fail
      go_ret
      exact ⟨box_below (Nat.le_refl _) HB.out, _, rfl, by rw [List.length_take, Nat.min_eq_left (by omega), ← hkL]; exact owns_mono hown (by omega)⟩
theorem pop_ok (b : Nat) (cs : Array Value) (e k : Nat) (w : World) (hr : RowAt w b cs) (h5 : cs[5]? = some (.int .i64 ((e + 1 : Nat) : Int))) (he : e < 8) (hk : cs[6 + e]? = some (.int .i64 k)) :
    Calls Tryz.prog 144 #[.pointer (some ⟨b, 0, none⟩)] w fun x w' => x = .returned (.int .i64 k) ∧ RowAt w' b ((cs.setIfInBounds 5 (.int .i64 e)).setIfInBounds (6 + e) (.int .i64 0)) ∧ Only b w w' := by
  have c5 := (hr.cell 5).trans h5
  have c6 := (hr.cell (6 + e)).trans hk
  have f5 := hr.frozen 5
  have f6 := hr.frozen (6 + e)
  have hcs : 6 + e < cs.size := (Array.getElem?_eq_some_iff.1 hk).1
  have r1 := hr.set 5 (.int .i64 e)
  have d5 := r1.cell 5
  have d6 := r1.cell (6 + e)
  have g6 := r1.frozen (6 + e)
  rw [Array.getElem?_setIfInBounds_self_of_lt (by omega)] at d5
  rw [Array.getElem?_setIfInBounds_ne (by omega), hk] at d6
  have R1 := hid r1
  have i0 : (0 : Int) ≤ (e : Int) := by omega
  have i1 : (e : Int) < 8 := by omega
  have HH5 := hid h5
  have HHK := hid hk
  clear r1 h5 hk
  go_enter Tryz.func144, Tryz.ntmps144
  go_wp2
  go_quiet (fail)
  go_wp2
  go_region
  all_goals go_wp2
  go_ret
  exact ⟨rfl, (R1.out.drewN _).set _ _, (((Only.refl _ _).set _ _).drewN _).set _ _⟩
theorem pop_bad (b : Nat) (cs : Array Value) (u : Bool) (w : World) (hr : RowAt w b cs) (h5 : cs[5]? = some (.int .i64 0)) (h14 : cs[14]? = some (.bool u)) :
    Calls Tryz.prog 144 #[.pointer (some ⟨b, 0, none⟩)] w fun x w' => x = .returned (.int .i64 0) ∧ RowAt w' b (cs.setIfInBounds 14 (.bool true)) ∧ Only b w w' := by
  have c5 := (hr.cell 5).trans h5
  have c14 := (hr.cell 14).trans h14
  have f14 := hr.frozen 14
  go_enter Tryz.func144, Tryz.ntmps144
  go_wp2
  go_ret
  exact ⟨rfl, hr.set _ _, (Only.refl _ _).set _ _⟩
theorem push_ok (b : Nat) (cs : Array Value) (d k : Nat) (v : Value) (w : World) (hr : RowAt w b cs) (h5 : cs[5]? = some (.int .i64 (d : Nat))) (hd : d < 8) (hk : cs[6 + d]? = some v) :
    Calls Tryz.prog 145 #[.pointer (some ⟨b, 0, none⟩), .int .i64 k] w fun x w' => x = .returned (.tuple #[]) ∧ RowAt w' b ((cs.setIfInBounds (6 + d) (.int .i64 k)).setIfInBounds 5 (.int .i64 ((d : Int) + 1))) ∧ Only b w w' := by
  have c5 := (hr.cell 5).trans h5
  have c6 := (hr.cell (6 + d)).trans hk
  have f5 := hr.frozen 5
  have f6 := hr.frozen (6 + d)
  have hcs : 6 + d < cs.size := (Array.getElem?_eq_some_iff.1 hk).1
  have r1 := hr.set (6 + d) (.int .i64 k)
  have d5 := r1.cell 5
  have g5 := r1.frozen 5
  rw [Array.getElem?_setIfInBounds_ne (by omega), h5] at d5
  have R1 := hid r1
  have i0 : (0 : Int) ≤ (d : Int) := by omega
  have i1 : (d : Int) < 8 := by omega
  clear r1 h5 hk
  go_enter Tryz.func145, Tryz.ntmps145
  go_wp2
  go_region
  all_goals go_wp2
  go_end0
  exact ⟨rfl, (show RowAt _ b _ from R1.out).set _ _, ((Only.refl _ _).set _ _).drew.set _ _⟩
theorem push_full (b : Nat) (cs : Array Value) (u : Bool) (k : Nat) (w : World) (hr : RowAt w b cs) (h5 : cs[5]? = some (.int .i64 8)) (h14 : cs[14]? = some (.bool u)) :
    Calls Tryz.prog 145 #[.pointer (some ⟨b, 0, none⟩), .int .i64 k] w fun x w' => x = .returned (.tuple #[]) ∧ RowAt w' b (cs.setIfInBounds 14 (.bool true)) ∧ Only b w w' := by
  have c5 := (hr.cell 5).trans h5
  have c14 := (hr.cell 14).trans h14
  have f14 := hr.frozen 14
  go_enter Tryz.func145, Tryz.ntmps145
  go_wp2
  exact bodyPost_ret (v := .tuple #[]) (by simp [results, Tryz.results145, go_sem]) rfl ⟨rfl, hr.set _ _, (Only.refl _ _).set _ _⟩
theorem pop_any (b : Nat) (f : Fr) (w : World) (h : FrAt w b f) (ok : FrOk f) :
    Calls Tryz.prog 144 #[.pointer (some ⟨b, 0, none⟩)] w fun x w' => x = .returned (.int .i64 ((popF f).2 : Nat)) ∧ FrAt w' b (popF f).1 ∧ Only b w w' := by
  obtain ⟨g0, g5, g14⟩ := fr_get ok
  have hd := ok.depth
  by_cases h0 : f.depth = 0
  · rw [h0] at g5
    refine (pop_bad b _ f.wrong w h g5 g14).mono ?_
    rintro x w' ⟨h1, h2, h3⟩
    rw [fr_set_wrong ok] at h2
    simp only [popF, if_pos h0]
    exact ⟨h1, h2, h3⟩
  · obtain ⟨e, he⟩ : ∃ e, f.depth = e + 1 := ⟨f.depth - 1, by omega⟩
    rw [he] at g5
    have hs := fr_stk ok (i := e) (by omega)
    refine (pop_ok b _ e _ w h g5 (by omega) hs).mono ?_
    rintro x w' ⟨h1, h2, h3⟩
    rw [show (Value.int .i64 (e : Int)) = numV e from rfl, fr_set_depth ok, show (Value.int .i64 0) = numV 0 from rfl, fr_set_stk (f := { f with depth := e }) ⟨ok.lo, ok.stk, by simp only; omega⟩ (by omega)] at h2
    simp only [popF, if_neg h0]
    rw [show f.depth - 1 = e by omega]
    exact ⟨h1, h2, h3⟩
theorem push_any (b : Nat) (f : Fr) (k : Nat) (w : World) (h : FrAt w b f) (ok : FrOk f) :
    Calls Tryz.prog 145 #[.pointer (some ⟨b, 0, none⟩), .int .i64 k] w fun x w' => x = .returned (.tuple #[]) ∧ FrAt w' b (pushF f k) ∧ Only b w w' := by
  obtain ⟨g0, g5, g14⟩ := fr_get ok
  have hd := ok.depth
  by_cases h0 : f.depth = 8
  · rw [h0] at g5
    refine (push_full b _ f.wrong k w h g5 g14).mono ?_
    rintro x w' ⟨h1, h2, h3⟩
    rw [fr_set_wrong ok] at h2
    simp only [pushF, if_pos h0]
    exact ⟨h1, h2, h3⟩
  · have hs := fr_stk ok (i := f.depth) (by omega)
    refine (push_ok b _ f.depth k _ w h g5 (by omega) hs).mono ?_
    rintro x w' ⟨h1, h2, h3⟩
    rw [show (Value.int .i64 (k : Int)) = numV k from rfl, fr_set_stk ok (by omega), show (Value.int .i64 ((f.depth : Int) + 1)) = numV (f.depth + 1) from rfl, fr_set_depth (f := { f with stk := f.stk.set f.depth k }) ⟨ok.lo, by simp [ok.stk], ok.depth⟩] at h2
    simp only [pushF, if_neg h0]
    exact ⟨h1, h2, h3⟩
/-- What a Load and a Store do to a frame. -/
def loadF (f : Fr) (n : Nat) : Fr := if 4 ≤ n then badF f else pushF (if f.lo.getD n 0 = 2 then badF f else f) (f.lo.getD n 0)
def storeF (f : Fr) (n : Nat) : Fr := if 4 ≤ n then badF (popF f).1 else { (popF f).1 with lo := (popF f).1.lo.set n (popF f).2 }
theorem loadF_ok {f : Fr} (h : FrOk f) (n : Nat) : FrOk (loadF f n) := by
  unfold loadF
  by_cases hn : 4 ≤ n
  · rw [if_pos hn]; exact badF_ok h
  · rw [if_neg hn]
    apply pushF_ok
    by_cases h2 : f.lo.getD n 0 = 2
    · rw [if_pos h2]; exact badF_ok h
    · rw [if_neg h2]; exact h
theorem storeF_ok {f : Fr} (h : FrOk f) (n : Nat) : FrOk (storeF f n) := by
  unfold storeF
  have h1 := popF_ok h
  by_cases hn : 4 ≤ n
  · rw [if_pos hn]; exact badF_ok h1
  · rw [if_neg hn]; exact ⟨by simp [h1.lo], h1.stk, h1.depth⟩
theorem load_any (b : Nat) (f : Fr) (n : Nat) (w : World) (h : FrAt w b f) (ok : FrOk f) (hn : n < 4) :
    Calls Tryz.prog 142 #[.pointer (some ⟨b, 0, none⟩), .int .i64 n] w fun x w' => x = .returned (.tuple #[]) ∧ FrAt w' b (loadF f n) ∧ Only b w w' := by
  obtain ⟨g0, g5, g14⟩ := fr_get ok
  have c := (RowAt.cell h (1 + n)).trans (fr_lo ok hn)
  have c14 := (RowAt.cell h 14).trans g14
  have f14 := RowAt.frozen h 14
  have i0 : (0 : Int) ≤ (n : Int) := by omega
  have i1 : (n : Int) < 4 := by omega
  have HR := hid h
  simp only [numV] at c
  have HL : Hid (loadF f n = pushF (if f.lo.getD n 0 = 2 then badF f else f) (f.lo.getD n 0)) := hid (by unfold loadF; rw [if_neg (by omega)])
  generalize f.lo.getD n 0 = k at *
  clear g0 g5 g14 h
  by_cases h2 : k = 2
  · have h2' : ((k : Int) == 2) = true := by simp; omega
    have hrow : FrAt (w.setCell ⟨b, 14, none⟩ (.bool true)) b (badF f) := by
      have := RowAt.set HR.out 14 (.bool true)
      rw [fr_set_wrong ok] at this
      exact this
    have hp := hid (push_any b (badF f) k _ hrow (badF_ok ok))
    rw [if_pos h2] at HL
    clear h2 hrow
    go_enter Tryz.func142, Tryz.ntmps142
    go_wp2_with fail
    refine hp.out.mono ?_
    rintro x w2 ⟨rfl, h3, h4⟩
    go_wp2_with fail
    go_end0
    exact ⟨rfl, by rw [HL.out]; exact h3, ((Only.refl _ _).set _ _).trans h4⟩
  · have h2' : ((k : Int) == 2) = false := by simp; omega
    have hp := hid (push_any b f k w HR.out ok)
    rw [if_neg h2] at HL
    clear h2
    go_enter Tryz.func142, Tryz.ntmps142
    go_wp2_with fail
    refine hp.out.mono ?_
    rintro x w2 ⟨rfl, h3, h4⟩
    go_wp2_with fail
    go_end0
    exact ⟨rfl, by rw [HL.out]; exact h3, h4⟩
theorem store_any (b : Nat) (f : Fr) (n : Nat) (w : World) (h : FrAt w b f) (ok : FrOk f) (hn : n < 4) :
    Calls Tryz.prog 143 #[.pointer (some ⟨b, 0, none⟩), .int .i64 n] w fun x w' => x = .returned (.tuple #[]) ∧ FrAt w' b (storeF f n) ∧ Only b w w' := by
  have hp := hid (pop_any b f w h ok)
  have hok := popF_ok ok
  have i0 : (0 : Int) ≤ (n : Int) := by omega
  have i1 : (n : Int) < 4 := by omega
  have HL : Hid (storeF f n = { (popF f).1 with lo := (popF f).1.lo.set n (popF f).2 }) := hid (by unfold storeF; rw [if_neg (by omega)])
  generalize popF f = P at *
  obtain ⟨f2, k⟩ := P
  simp only at hok hp HL
  clear h
  go_enter Tryz.func143, Tryz.ntmps143
  go_wp2_with fail
  refine hp.out.mono ?_
  rintro x w2 ⟨rfl, h3, h4⟩
  have c := (RowAt.cell h3 (1 + n)).trans (fr_lo hok hn)
  have fz := RowAt.frozen h3 (1 + n)
  have H3 := hid h3
  clear h3 hp
  go_wp2_with fail
  go_end0
  refine ⟨rfl, ?_, h4.set _ _⟩
  have := RowAt.set H3.out (1 + n) (numV k)
  rw [fr_set_lo hok hn] at this
  rw [HL.out]
  exact this
def kindN (c : Nat) : Nat := if c = 114 then 1 else 0
def popR (f : Fr) : List Nat → Fr
  | [] => f
  | c :: r => popR (if (popF f).2 = kindN c then (popF f).1 else badF (popF f).1) r
def pushR (f : Fr) : List Nat → Fr
  | [] => f
  | c :: r => pushR (pushF f (kindN c)) r
theorem popR_ok : ∀ (l : List Nat) (f : Fr), FrOk f → FrOk (popR f l)
  | [], _, h => h
  | c :: r, f, h => by
    simp only [popR]
    apply popR_ok r
    by_cases e : (popF f).2 = kindN c
    · rw [if_pos e]; exact popF_ok h
    · rw [if_neg e]; exact badF_ok (popF_ok h)
theorem pushR_ok : ∀ (l : List Nat) (f : Fr), FrOk f → FrOk (pushR f l)
  | [], _, h => h
  | c :: r, f, h => by
    simp only [pushR]
    exact pushR_ok r _ (pushF_ok h _)
def popsN (op : Nat) : List Nat := (popsL op).map UInt8.toNat
def pushesN (op : Nat) : List Nat := (pushesL op).map UInt8.toNat
theorem popsN_at {op j : Nat} (h : j < (popsS op).size) : ∃ h' : j < (popsN op).length, (popsN op)[j] = byteAt (popsS op) j := by
  have h1 : j < (popsL op).length := h
  refine ⟨by simp [popsN]; exact h1, ?_⟩
  simp [popsN, byteAt, popsS, h1]
theorem pushesN_at {op j : Nat} (h : j < (pushesS op).size) : ∃ h' : j < (pushesN op).length, (pushesN op)[j] = byteAt (pushesS op) j := by
  have h1 : j < (pushesL op).length := h
  refine ⟨by simp [pushesN]; exact h1, ?_⟩
  simp [pushesN, byteAt, pushesS, h1]
theorem popsN_len (op : Nat) : (popsN op).length = (popsS op).size := by simp [popsN, popsS]; rfl
theorem pushesN_len (op : Nat) : (pushesN op).length = (pushesS op).size := by simp [pushesN, pushesS]; rfl
/-- The program's two tables of types. -/
def FlowTab (w : World) : Prop := ∀ k : Nat, k < 25 → w.cell? ⟨3, k, none⟩ = some (.string (popsS k)) ∧ w.cell? ⟨4, k, none⟩ = some (.string (pushesS k))
theorem FlowTab.below {w w' : World} (h : FlowTab w) (hb : Below w.heap.size w w') : FlowTab w' := by
  intro k hk
  obtain ⟨h0, h1⟩ := h k hk
  have l0 := World.block_lt_of_cell? w _ h0
  have l1 := World.block_lt_of_cell? w _ h1
  exact ⟨(hb.cell (p := ⟨3, k, none⟩) l0).trans h0, (hb.cell (p := ⟨4, k, none⟩) l1).trans h1⟩
theorem FlowTab.only {b : Nat} {w w' : World} (h : FlowTab w) (hb : Only b w w') (h3 : b ≠ 3) (h4 : b ≠ 4) : FlowTab w' := by
  intro k hk
  obtain ⟨h0, h1⟩ := h k hk
  exact ⟨(hb.cell (Ne.symm h3)).trans h0, (hb.cell (Ne.symm h4)).trans h1⟩
theorem typeOf_any (c : Nat) (w : World) :
    Calls Tryz.prog 148 #[.int .u8 c] w fun e w' => e = .returned (.int .i64 (kindN c : Nat)) ∧ w' = w := by
  by_cases h : c = 114
  · have h' : ((c : Int) == 114) = true := by simp; omega
    have HE : Hid (kindN c = 1) := hid (by simp [kindN, h])
    clear h
    go_enter Tryz.func148, Tryz.ntmps148
    go_wp2
    go_ret
    exact ⟨ret_int (by rw [HE.out]; rfl), rfl⟩
  · have h' : ((c : Int) == 114) = false := by simp; omega
    have HE : Hid (kindN c = 0) := hid (by simp [kindN, h])
    clear h
    go_enter Tryz.func148, Tryz.ntmps148
    go_wp2
    go_ret
    exact ⟨ret_int (by rw [HE.out]; rfl), rfl⟩
theorem take_rev {l : List Nat} {j : Nat} (h : j < l.length) : (l.take (j + 1)).reverse = l[j] :: (l.take j).reverse := by
  rw [List.take_succ_eq_append_getElem h, List.reverse_append]; rfl
theorem popAll_any (b : Nat) (f : Fr) (op : Nat) (w : World) (h : FrAt w b f) (ok : FrOk f) (hop : op < 25) (htab : FlowTab w) :
    Calls Tryz.prog 146 #[.pointer (some ⟨b, 0, none⟩), .int .i64 op] w fun x w' => x = .returned (.tuple #[]) ∧ FrAt w' b (popR f (popsN op).reverse) ∧ Only b w w' := by
  obtain ⟨c1, c2⟩ := htab op hop
  have hsz := popsS_size op
  have i0 : (0 : Int) ≤ (op : Int) := by omega
  have i1 : (op : Int) < 25 := by omega
  have HN := hid (fun j (h : j < (popsS op).size) => popsN_at (op := op) h)
  have HLN := hid (popsN_len op)
  generalize popsS op = P at *
  generalize popsN op = N at *
  clear htab c2
  go_enter Tryz.func146, Tryz.ntmps146
  go_wp2_with fail
  go_loopw [5] (fun i w' => ∃ (j : Nat) (f' : Fr), j ≤ P.size ∧ i = .int .i64 ((j : Int) - 1) ∧ FrAt w' b f' ∧ FrOk f' ∧ popR f N.reverse = popR f' (N.take j).reverse ∧ Only b w w') (fun i _ => (intOf i + 1).toNat)
  case atStart => exact ⟨P.size, f, Nat.le_refl _, rfl, h, ok, by rw [List.take_of_length_le (by have := HLN.out; omega)], Only.refl _ _⟩
  case round =>
    obtain ⟨j, f', hj, rfl, hf, hok, hpr, honly⟩ := hrel
    have HPR := hid hpr
    clear hpr
    cases j with
    | zero =>
      go_wp2_with fail
      go_end0
      exact ⟨rfl, by rw [HPR.out]; exact hf, honly⟩
    | succ j =>
      obtain ⟨hjn, hbyte⟩ := HN.out j (by omega)
      have e0 := byteAt_eq P j (by omega)
      have hp := hid (pop_any b f' wr hf hok)
      have hok2 := popF_ok hok
      have HS : Hid (popR f' (N.take (j + 1)).reverse = popR (if (popF f').2 = kindN (byteAt P j) then (popF f').1 else badF (popF f').1) (N.take j).reverse) := hid (by
        rw [take_rev hjn, hbyte]; rfl)
      generalize popF f' = Q at *
      obtain ⟨f2, k⟩ := Q
      simp only at hok2 hp HS
      have hty := hid (fun W => typeOf_any (byteAt P j) W)
      have hb2 := byteAt_lt P j
      have ej : (((j + 1 : Nat) : Int) - 1) = (j : Int) := by omega
      rw [ej]
      clear hf hbyte
      generalize byteAt P j = c at *
      by_cases hk : k = kindN c
      · rw [if_pos hk] at HS
        have hk' : ((k : Int) != ((kindN c : Nat) : Int)) = false := by simp; omega
        clear hk
        go_wp2_with fail
        refine hp.out.mono ?_
        rintro x w2 ⟨rfl, h3, h4⟩
        clear hp
        go_wp2_with fail
        refine (hty.out w2).mono ?_
        clear hty
        intro e w9 hh
        obtain ⟨he9, hw9⟩ := hh
        subst e
        subst w9
        go_wp2_with fail
        exact ⟨⟨j, f2, by omega, by go_num, h3, hok2, by rw [HPR.out, HS.out], honly.trans h4⟩, by simp [intOf] <;> omega⟩
      · rw [if_neg hk] at HS
        have hk' : ((k : Int) != ((kindN c : Nat) : Int)) = true := by simp; omega
        clear hk
        go_wp2_with fail
        refine hp.out.mono ?_
        rintro x w2 ⟨rfl, h3, h4⟩
        clear hp
        have c14 := (RowAt.cell h3 14).trans (fr_get hok2).2.2
        have f14 := RowAt.frozen h3 14
        have hrow : Hid (FrAt (w2.setCell ⟨b, 14, none⟩ (.bool true)) b (badF f2)) := hid (by
          have := RowAt.set h3 14 (.bool true)
          rw [fr_set_wrong hok2] at this
          exact this)
        clear h3
        go_wp2_with fail
        refine (hty.out w2).mono ?_
        clear hty
        intro e w9 hh
        obtain ⟨he9, hw9⟩ := hh
        subst e
        subst w9
        go_wp2_with fail
        exact ⟨⟨j, badF f2, by omega, by go_num, hrow.out, badF_ok hok2, by rw [HPR.out, HS.out], (honly.trans h4).set _ _⟩, by simp [intOf] <;> omega⟩
theorem pushAll_any (b : Nat) (f : Fr) (op : Nat) (w : World) (h : FrAt w b f) (ok : FrOk f) (hop : op < 25) (htab : FlowTab w) :
    Calls Tryz.prog 147 #[.pointer (some ⟨b, 0, none⟩), .int .i64 op] w fun x w' => x = .returned (.tuple #[]) ∧ FrAt w' b (pushR f (pushesN op)) ∧ Only b w w' := by
  obtain ⟨c1, c2⟩ := htab op hop
  have hsz := pushesS_size op
  have i0 : (0 : Int) ≤ (op : Int) := by omega
  have i1 : (op : Int) < 25 := by omega
  have HN := hid (fun j (h : j < (pushesS op).size) => pushesN_at (op := op) h)
  have HLN := hid (pushesN_len op)
  generalize pushesS op = P at *
  generalize pushesN op = N at *
  clear htab c1
  go_enter Tryz.func147, Tryz.ntmps147
  go_wp2_with fail
  go_loopw [5] (fun i w' => ∃ (j : Nat) (f' : Fr), j ≤ P.size ∧ i = .int .i64 j ∧ FrAt w' b f' ∧ FrOk f' ∧ pushR f N = pushR f' (N.drop j) ∧ Only b w w') (fun i _ => P.size - (intOf i).toNat)
  case atStart => exact ⟨0, f, Nat.zero_le _, rfl, h, ok, by simp, Only.refl _ _⟩
  case round =>
    obtain ⟨j, f', hj, rfl, hf, hok, hpr, honly⟩ := hrel
    have HPR := hid hpr
    clear hpr
    by_cases hlt : j < P.size
    · obtain ⟨hjn, hbyte⟩ := HN.out j hlt
      have e0 := byteAt_eq P j hlt
      have HS : Hid (pushR f' (N.drop j) = pushR (pushF f' (kindN (byteAt P j))) (N.drop (j + 1))) := hid (by
        rw [List.drop_eq_getElem_cons hjn, hbyte]; rfl)
      have hp := hid (push_any b f' (kindN (byteAt P j)) wr hf hok)
      have hok2 := pushF_ok hok (kindN (byteAt P j))
      have hty := hid (typeOf_any (byteAt P j) wr)
      have hb2 := byteAt_lt P j
      clear hf hbyte
      generalize byteAt P j = c at *
      go_wp2_with fail
      refine hty.out.mono ?_
      clear hty
      intro e w9 hh
      obtain ⟨he9, hw9⟩ := hh
      subst e
      subst w9
      go_wp2_with fail
      refine hp.out.mono ?_
      rintro x w2 ⟨rfl, h3, h4⟩
      clear hp
      go_wp2_with fail
      exact ⟨⟨j + 1, _, by omega, by go_num, h3, hok2, by rw [HPR.out, HS.out], honly.trans h4⟩, by simp [intOf] <;> omega⟩
    · go_wp2_with fail
      go_end0
      exact ⟨rfl, by rw [HPR.out, List.drop_of_length_le (by have := HLN.out; omega)]; exact hf, honly⟩
theorem three_new (w : World) (a b c : Obj) : Below w.heap.size w (((w.alloc a).alloc b).alloc c) :=
  (((Below.refl _ _).alloc (Nat.le_refl _) _).alloc (by simp) _).alloc (by simp; omega) _
def dupF (f : Fr) : Fr := pushF (pushF (popF f).1 (popF f).2) (popF f).2
def swapF (f : Fr) : Fr := pushF (pushF (popF (popF f).1).1 (popF f).2) (popF (popF f).1).2
/-- What an instruction does to a frame. -/
def afterF (f : Fr) (op n : Nat) : Fr :=
  if op = 7 then loadF f n else if op = 8 then storeF f n else if op = 9 then dupF f else if op = 10 then (popF f).1 else if op = 11 then swapF f
  else pushR (popR f (popsN op).reverse) (pushesN op)
theorem afterF_ok {f : Fr} (h : FrOk f) (op n : Nat) : FrOk (afterF f op n) := by
  unfold afterF
  split
  · exact loadF_ok h n
  split
  · exact storeF_ok h n
  split
  · exact pushF_ok (pushF_ok (popF_ok h) _) _
  split
  · exact popF_ok h
  split
  · exact pushF_ok (pushF_ok (popF_ok (popF_ok h)) _) _
  · exact pushR_ok _ _ (popR_ok _ _ h)
theorem heap_three_first (w : World) (a b c : Obj) : (((w.alloc a).alloc b).alloc c).heap[w.heap.size]? = some a := by
  rw [Below.heap_alloc _ _ _ (by simp; omega), Below.heap_alloc _ _ _ (by simp), heap_alloc_new]
theorem cell_three_second (w : World) (a c : Obj) (cs : Array Value) (t : TypeId) (j : Nat) : (((w.alloc a).alloc (.cells cs t)).alloc c).cell? ⟨w.heap.size + 1, j, none⟩ = cs[j]? :=
  cell_of_row _ _ j cs t (0, 0) (by rw [Below.heap_alloc _ _ _ (by simp)]; exact heap_two_new w _ _)
theorem heap_three_third (w : World) (a b c : Obj) : (((w.alloc a).alloc b).alloc c).heap[w.heap.size + 1 + 1]? = some c := by
  have h := heap_alloc_new ((w.alloc a).alloc b) c
  have e : ((w.alloc a).alloc b).heap.size = w.heap.size + 1 + 1 := by simp
  rw [e] at h
  exact h
def AftPost (f : Fr) (op n : Nat) (w : World) (e : Ending) (w' : World) : Prop :=
  Below w.heap.size w w' ∧ e = .returned (.tuple #[.agg (frL (afterF f op n)).toArray, .bool (!(afterF f op n).wrong)])
theorem RowAt.drew {w : World} {b : Nat} {cs : Array Value} (h : RowAt w b cs) : RowAt w.drew b cs := h
theorem fifteen_set {w : World} {b : Nat} {z0 z1 z2 z3 z4 z5 z6 z7 z8 z9 z10 z11 z12 z13 z14 : Value} (h : RowAt w b #[z0, z1, z2, z3, z4, z5, z6, z7, z8, z9, z10, z11, z12, z13, z14]) (v0 v1 v2 v3 v4 v5 v6 v7 v8 v9 v10 v11 v12 v13 v14 : Value) :
    RowAt (((((((((((((((w.setCell ⟨b, 0, none⟩ v0).setCell ⟨b, 1, none⟩ v1).setCell ⟨b, 2, none⟩ v2).setCell ⟨b, 3, none⟩ v3).setCell ⟨b, 4, none⟩ v4).setCell ⟨b, 5, none⟩ v5).setCell ⟨b, 6, none⟩ v6).setCell ⟨b, 7, none⟩ v7).setCell ⟨b, 8, none⟩ v8).setCell ⟨b, 9, none⟩ v9).setCell ⟨b, 10, none⟩ v10).setCell ⟨b, 11, none⟩ v11).setCell ⟨b, 12, none⟩ v12).setCell ⟨b, 13, none⟩ v13).setCell ⟨b, 14, none⟩ v14) b #[v0, v1, v2, v3, v4, v5, v6, v7, v8, v9, v10, v11, v12, v13, v14] := by
  simpa using (((((((((((((((h.set 0 v0).set 1 v1).set 2 v2).set 3 v3).set 4 v4).set 5 v5).set 6 v6).set 7 v7).set 8 v8).set 9 v9).set 10 v10).set 11 v11).set 12 v12).set 13 v13).set 14 v14)
theorem fifteen_below {B : Nat} {w0 w : World} {b : Nat} (h : Below B w0 w) (hb : B ≤ b) (v0 v1 v2 v3 v4 v5 v6 v7 v8 v9 v10 v11 v12 v13 v14 : Value) :
    Below B w0 (((((((((((((((w.setCell ⟨b, 0, none⟩ v0).setCell ⟨b, 1, none⟩ v1).setCell ⟨b, 2, none⟩ v2).setCell ⟨b, 3, none⟩ v3).setCell ⟨b, 4, none⟩ v4).setCell ⟨b, 5, none⟩ v5).setCell ⟨b, 6, none⟩ v6).setCell ⟨b, 7, none⟩ v7).setCell ⟨b, 8, none⟩ v8).setCell ⟨b, 9, none⟩ v9).setCell ⟨b, 10, none⟩ v10).setCell ⟨b, 11, none⟩ v11).setCell ⟨b, 12, none⟩ v12).setCell ⟨b, 13, none⟩ v13).setCell ⟨b, 14, none⟩ v14) :=
  (((((((((((((((h.setCell (p := ⟨b, 0, none⟩) hb v0).setCell (p := ⟨b, 1, none⟩) hb v1).setCell (p := ⟨b, 2, none⟩) hb v2).setCell (p := ⟨b, 3, none⟩) hb v3).setCell (p := ⟨b, 4, none⟩) hb v4).setCell (p := ⟨b, 5, none⟩) hb v5).setCell (p := ⟨b, 6, none⟩) hb v6).setCell (p := ⟨b, 7, none⟩) hb v7).setCell (p := ⟨b, 8, none⟩) hb v8).setCell (p := ⟨b, 9, none⟩) hb v9).setCell (p := ⟨b, 10, none⟩) hb v10).setCell (p := ⟨b, 11, none⟩) hb v11).setCell (p := ⟨b, 12, none⟩) hb v12).setCell (p := ⟨b, 13, none⟩) hb v13).setCell (p := ⟨b, 14, none⟩) hb v14)
theorem aft_res {tmps : Array Value} {W : World} {B : Nat} {r wg u : Bool} {a b c e d t0 t1 t2 t3 t4 t5 t6 t7 : Nat} (h4 : tmps[4]? = some (.pointer (some ⟨B, 0, none⟩))) (h5 : tmps[5]? = some (.bool u))
    (hrow : RowAt W B #[.bool r, .int .i64 a, .int .i64 b, .int .i64 c, .int .i64 e, .int .i64 d, .int .i64 t0, .int .i64 t1, .int .i64 t2, .int .i64 t3, .int .i64 t4, .int .i64 t5, .int .i64 t6, .int .i64 t7, .bool wg]) :
    (results Tryz.f140 tmps).run Tryz.prog W = .ok (.tuple #[.agg #[.bool r, .int .i64 a, .int .i64 b, .int .i64 c, .int .i64 e, .int .i64 d, .int .i64 t0, .int .i64 t1, .int .i64 t2, .int .i64 t3, .int .i64 t4, .int .i64 t5, .int .i64 t6, .int .i64 t7, .bool wg], .bool u]) W := by
  have y0 := RowAt.cell hrow 0
  have y1 := RowAt.cell hrow 1
  have y2 := RowAt.cell hrow 2
  have y3 := RowAt.cell hrow 3
  have y4 := RowAt.cell hrow 4
  have y5 := RowAt.cell hrow 5
  have y6 := RowAt.cell hrow 6
  have y7 := RowAt.cell hrow 7
  have y8 := RowAt.cell hrow 8
  have y9 := RowAt.cell hrow 9
  have y10 := RowAt.cell hrow 10
  have y11 := RowAt.cell hrow 11
  have y12 := RowAt.cell hrow 12
  have y13 := RowAt.cell hrow 13
  have y14 := RowAt.cell hrow 14
  simp only [List.getElem?_toArray, List.getElem?_cons_zero, List.getElem?_cons_succ] at y0 y1 y2 y3 y4 y5 y6 y7 y8 y9 y10 y11 y12 y13 y14
  simp [results, Tryz.results140, go_sem, *]
theorem aftPost_mk {f : Fr} {op n : Nat} {w W : World} (b : Bool) (hb : Below w.heap.size w W) (h : b = !(afterF f op n).wrong) : AftPost f op n w (.returned (.tuple #[.agg (frL (afterF f op n)).toArray, .bool b])) W := by
  subst h; exact ⟨hb, rfl⟩
/-- What is told of an instruction. -/
structure MP where
  place : Nat
  reached : Bool
  lo : List Nat
  st : List Nat
/-- v is a list of these numbers, in a block of which P holds. -/
def IntsAt (w : World) (P : Nat → Prop) (v : Value) (l : List Nat) : Prop :=
  (v = .slice none 0 0 ∧ l = []) ∨ ∃ g cap, v = .slice (some ⟨g, 0, none⟩) l.length cap ∧ P g ∧ ∀ (j n : Nat), l[j]? = some n → w.cell? ⟨g, j, none⟩ = some (numV n)
theorem IntsAt.nil (w : World) (P : Nat → Prop) : IntsAt w P (.slice none 0 0) [] := .inl ⟨rfl, rfl⟩
theorem IntsAt.slice {w : World} {P : Nat → Prop} {v : Value} {l : List Nat} (h : IntsAt w P v l) : ∃ p cap, v = .slice p l.length cap := by
  rcases h with ⟨h1, h2⟩ | ⟨g, cap, hv, _⟩
  · exact ⟨none, 0, by rw [h1, h2]; rfl⟩
  · exact ⟨_, cap, hv⟩
theorem IntsAt.keep {w w' : World} {P P' : Nat → Prop} {v : Value} {l : List Nat} (h : IntsAt w P v l) (hP : ∀ g, P g → P' g ∧ w'.heap[g]? = w.heap[g]?) : IntsAt w' P' v l := by
  rcases h with h | ⟨g, cap, hv, hg, hc⟩
  · exact .inl h
  · exact .inr ⟨g, cap, hv, (hP g hg).1, fun j n hj => (World.cell?_of_block (a := ⟨g, j, none⟩) (hP g hg).2).trans (hc j n hj)⟩
theorem IntsAt.of_owns {w : World} {base : Nat} {v : Value} {l : List Nat} (h : w.ownsRow base 3 1 v l.length (l.map numV)) : IntsAt w (fun g => base ≤ g ∧ g < w.heap.size) v l := by
  have hh := h
  rcases h.2 with ⟨h1, h2⟩ | ⟨g, cap, cur, hv, hg, r⟩
  · exact .inl ⟨h1, List.length_eq_zero_iff.1 h2⟩
  · subst hv
    refine .inr ⟨g, cap, rfl, ⟨hg, (Array.getElem?_eq_some_iff.1 r.1).1⟩, fun j n hj => ?_⟩
    have := hh.cells (g := g) rfl j (numV n) (by rw [List.getElem?_map, hj]; rfl)
    rw [addr_add] at this
    simpa using this
theorem heap_two_first (w : World) (a b : Obj) : ((w.alloc a).alloc b).heap[w.heap.size]? = some a := by
  rw [Below.heap_alloc _ _ _ (by simp), heap_alloc_new]
theorem owns_slice {w : World} {base e size n : Nat} {v : Value} {xs : List Value} (h : w.ownsRow base e size v n xs) : ∃ p cap, v = .slice p n cap := by
  rcases h.2 with ⟨h1, h2⟩ | ⟨g, cap, cur, hv, _⟩
  · exact ⟨none, 0, by rw [h1, h2]⟩
  · exact ⟨_, cap, hv⟩
def ptF (place : Nat) (f : Fr) (L : Nat) : MP := if f.reached = true then ⟨place, true, f.lo.take L, f.stk.take f.depth⟩ else ⟨place, false, [], []⟩
def PointPost (m : MP) (w : World) (e : Ending) (w' : World) : Prop :=
  Below w.heap.size w w' ∧ ∃ v1 v2, e = .returned (.agg #[.int .i64 m.place, .bool m.reached, v1, v2]) ∧ IntsAt w' (fun g => w.heap.size ≤ g ∧ g < w'.heap.size) v1 m.lo ∧ IntsAt w' (fun g => w.heap.size ≤ g ∧ g < w'.heap.size) v2 m.st
theorem point_any (place L : Nat) (f : Fr) (w : World) (hf : FrOk f) (hL : L ≤ 4) :
    Calls Tryz.prog 53 #[.int .i64 place, .agg (frL f).toArray, .int .i64 L] w (PointPost (ptF place f L) w) := by
  have hlt := hid (fun W => localTypes_any f L W hf hL)
  have hsk := hid (fun W => stackTypes_any f W hf)
  obtain ⟨r, lo, d, st, wr⟩ := f
  obtain ⟨h1, h2, h3⟩ := hf
  simp only at h1 h2
  obtain ⟨a, b, c, e, rfl⟩ := four h1
  obtain ⟨s0, s1, s2, s3, s4, s5, s6, s7, rfl⟩ := eight h2
  simp only [frL, List.map_cons, List.map_nil, List.cons_append, List.nil_append, numV] at hlt hsk ⊢
  cases r
  · have HF : Hid (ptF place ⟨false, [a, b, c, e], d, [s0, s1, s2, s3, s4, s5, s6, s7], wr⟩ L = ⟨place, false, [], []⟩) := hid rfl
    clear hlt hsk
    go_enter Tryz.func53, Tryz.ntmps53
    go_wp2_with fail
    exact bodyPost_ret (v := .agg #[.int .i64 place, .bool false, .slice none 0 0, .slice none 0 0]) (by simp [results, Tryz.results53, go_sem]) rfl ⟨((Below.refl _ _).alloc (Nat.le_refl _) _).alloc (by simp) _, _, _, by rw [HF.out], by rw [HF.out]; exact .nil _ _, by rw [HF.out]; exact .nil _ _⟩
  · have HF : Hid (ptF place ⟨true, [a, b, c, e], d, [s0, s1, s2, s3, s4, s5, s6, s7], wr⟩ L = ⟨place, true, [a, b, c, e].take L, [s0, s1, s2, s3, s4, s5, s6, s7].take d⟩) := hid rfl
    generalize [a, b, c, e].take L = l1 at *
    generalize [s0, s1, s2, s3, s4, s5, s6, s7].take d = l2 at *
    generalize ptF place ⟨true, [a, b, c, e], d, [s0, s1, s2, s3, s4, s5, s6, s7], wr⟩ L = M at *
    go_enter Tryz.func53, Tryz.ntmps53
    go_wp2_with fail
    refine (hlt.out _).mono ?_
    clear hlt
    intro x w2 hp
    obtain ⟨hb2, v1, hx, ho1⟩ := hp
    obtain ⟨p1, c1, hv1⟩ := owns_slice ho1
    subst x
    subst hv1
    have hrow : w2.heap[w.heap.size]? = some (.cells #[.bool true, .int .i64 a, .int .i64 b, .int .i64 c, .int .i64 e, .int .i64 d, .int .i64 s0, .int .i64 s1, .int .i64 s2, .int .i64 s3, .int .i64 s4, .int .i64 s5, .int .i64 s6, .int .i64 s7, .bool wr] 125) := by
      rw [hb2.block _ (by simp; omega)]; exact heap_two_first w _ _
    have m0 := cell_of_row w2 w.heap.size 0 _ _ _ hrow
    have m1 := cell_of_row w2 w.heap.size 1 _ _ _ hrow
    have m2 := cell_of_row w2 w.heap.size 2 _ _ _ hrow
    have m3 := cell_of_row w2 w.heap.size 3 _ _ _ hrow
    have m4 := cell_of_row w2 w.heap.size 4 _ _ _ hrow
    have m5 := cell_of_row w2 w.heap.size 5 _ _ _ hrow
    have m6 := cell_of_row w2 w.heap.size 6 _ _ _ hrow
    have m7 := cell_of_row w2 w.heap.size 7 _ _ _ hrow
    have m8 := cell_of_row w2 w.heap.size 8 _ _ _ hrow
    have m9 := cell_of_row w2 w.heap.size 9 _ _ _ hrow
    have m10 := cell_of_row w2 w.heap.size 10 _ _ _ hrow
    have m11 := cell_of_row w2 w.heap.size 11 _ _ _ hrow
    have m12 := cell_of_row w2 w.heap.size 12 _ _ _ hrow
    have m13 := cell_of_row w2 w.heap.size 13 _ _ _ hrow
    have m14 := cell_of_row w2 w.heap.size 14 _ _ _ hrow
    simp only [List.getElem?_toArray, List.getElem?_cons_zero, List.getElem?_cons_succ] at m0 m1 m2 m3 m4 m5 m6 m7 m8 m9 m10 m11 m12 m13 m14
    have HB2 := hid hb2
    have HO1 := hid ho1
    clear hrow hb2 ho1
    go_wp2_with fail
    refine (hsk.out _).mono ?_
    clear hsk m0 m1 m2 m3 m4 m5 m6 m7 m8 m9 m10 m11 m12 m13 m14
    intro x w3 hp
    obtain ⟨hb3, v2, hx, ho2⟩ := hp
    obtain ⟨p2, c2, hv2⟩ := owns_slice ho2
    subst x
    subst hv2
    have hz2 := HB2.out.size
    simp only [World.alloc, Array.size_push] at hz2
    have hrow : w3.heap[w.heap.size + 1]? = some (.cells #[.int .i64 0, .bool false, .slice none 0 0, .slice none 0 0] 102) := by
      rw [hb3.block _ (by omega), HB2.out.block _ (by simp)]; exact heap_two_new w _ _
    have m0 := cell_of_row w3 (w.heap.size + 1) 0 _ _ _ hrow
    have m1 := cell_of_row w3 (w.heap.size + 1) 1 _ _ _ hrow
    have m2 := cell_of_row w3 (w.heap.size + 1) 2 _ _ _ hrow
    have m3 := cell_of_row w3 (w.heap.size + 1) 3 _ _ _ hrow
    simp only [List.getElem?_toArray, List.getElem?_cons_zero, List.getElem?_cons_succ] at m0 m1 m2 m3
    have f0 := frozen_of_row w3 (w.heap.size + 1) 0 _ _ hrow
    have f1 := frozen_of_row w3 (w.heap.size + 1) 1 _ _ hrow
    have f2 := frozen_of_row w3 (w.heap.size + 1) 2 _ _ hrow
    have f3 := frozen_of_row w3 (w.heap.size + 1) 3 _ _ hrow
    have HB3 := hid hb3
    have HO2 := hid ho2
    clear hrow hb3 ho2
    have HFK : Hid (∀ (u0 u1 u2 u3 : Value) k, k ≠ w.heap.size + 1 → ((((w3.setCell ⟨w.heap.size + 1, 0, none⟩ u0).setCell ⟨w.heap.size + 1, 1, none⟩ u1).setCell ⟨w.heap.size + 1, 2, none⟩ u2).setCell ⟨w.heap.size + 1, 3, none⟩ u3).heap[k]? = w3.heap[k]?) := hid (fun u0 u1 u2 u3 k hk => by
      rw [Below.heap_setCell _ _ _ _ hk, Below.heap_setCell _ _ _ _ hk, Below.heap_setCell _ _ _ _ hk, Below.heap_setCell _ _ _ _ hk])
    have hz3 := HB3.out.size
    go_wp2_with fail
    have hw3 : Below w.heap.size w w3 := ((((Below.refl _ _).alloc (Nat.le_refl _) _).alloc (by simp) _).trans (HB2.out.mono (by simp; omega))).trans (HB3.out.mono (by omega))
    refine bodyPost_ret (v := .agg #[.int .i64 place, .bool true, .slice p1 l1.length c1, .slice p2 l2.length c2]) (by simp [results, Tryz.results53, go_sem, m0, m1, m2, m3]) rfl ⟨(((hw3.setCell (by simp) _).setCell (by simp) _).setCell (by simp) _).setCell (by simp) _, _, _, by rw [HF.out], ?_, ?_⟩
    · rw [HF.out]
      refine (IntsAt.of_owns HO1.out).keep (fun g hg => ?_)
      simp only [World.alloc, Array.size_push] at hg
      refine ⟨⟨by omega, by simp [World.setCell]; omega⟩, ?_⟩
      rw [HFK.out _ _ _ _ _ (by omega), HB3.out.block _ (by omega)]
    · rw [HF.out]
      refine (IntsAt.of_owns HO2.out).keep (fun g hg => ?_)
      refine ⟨⟨by omega, by simp [World.setCell]; omega⟩, ?_⟩
      rw [HFK.out _ _ _ _ _ (by omega)]
def letters (b : ByteArray) : Prop := ∀ c ∈ b.data.toList, c = 105 ∨ c = 114
theorem letters_append {a b : ByteArray} (ha : letters a) (hb : letters b) : letters (a ++ b) := by
  intro c hc
  rw [ByteArray.data_append, Array.toList_append, List.mem_append] at hc
  rcases hc with h | h
  · exact ha c h
  · exact hb c h
theorem letters_extract {a : ByteArray} (ha : letters a) (i j : Nat) : letters (a.extract i j) := by
  intro c hc
  rw [ByteArray.data_extract, Array.toList_extract] at hc
  exact ha c (List.mem_of_mem_drop (List.mem_of_mem_take hc))
theorem letters_pushes (op : Nat) : letters (pushesS op) := by
  intro c hc
  simp only [pushesS, pushesL] at hc
  split at hc
  · simp at hc; exact .inl hc
  · split at hc
    · simp at hc; exact .inr hc
    · simp at hc
/-- What is known of an image's instructions. -/
structure Wf (l : List Ins) (L : Nat) : Prop where
  pos : 0 < l.length
  len : l.length ≤ 120
  loc : L ≤ 4
  op : ∀ i ∈ l, i.op < 25
  num : ∀ i ∈ l, i.n < 256
  arg : ∀ i ∈ l, i.op = 7 ∨ i.op = 8 → i.n < L
  jump : ∀ i ∈ l, isJump i.op = true → 0 ≤ findP i.n l 0
  last : endsOk l = true
structure Okp (l : List Ins) (L : Nat) (p : Pt) : Prop where
  at_ : p.at_ < l.length
  lo : p.lo.size = L
  llo : letters p.lo
  lst : letters p.st
  st : p.st.size ≤ 8
def stepP (l : List Ins) (p : Pt) : Option (List Pt) :=
  match l[p.at_]? with
  | none => none
  | some i => if (afterV p.lo p.st i.op i.n).2.2 = false ∨ 8 < (afterV p.lo p.st i.op i.n).2.1.size then none else
    some ((if isJump i.op = true then [⟨(findP i.n l 0).toNat, (afterV p.lo p.st i.op i.n).1, (afterV p.lo p.st i.op i.n).2.1⟩] else []) ++
      (if i.op ≠ 0 ∧ i.op ≠ 19 then [⟨p.at_ + 1, (afterV p.lo p.st i.op i.n).1, (afterV p.lo p.st i.op i.n).2.1⟩] else []))
def initP (L : Nat) : Pt := ⟨0, (⟨#[105, 105, 105, 105]⟩ : ByteArray).extract 0 L, ⟨#[]⟩⟩
def ReachN (l : List Ins) (L : Nat) : Nat → Pt → Prop
  | 0, p => p = initP L
  | n + 1, p => ∃ q ss, ReachN l L n q ∧ stepP l q = some ss ∧ p ∈ ss
def Reach (l : List Ins) (L : Nat) (p : Pt) : Prop := ∃ n, ReachN l L n p
theorem Reach.init (l : List Ins) (L : Nat) : Reach l L (initP L) := ⟨0, rfl⟩
theorem Reach.step {l : List Ins} {L : Nat} {p q : Pt} {ss : List Pt} (h : Reach l L q) (hs : stepP l q = some ss) (hp : p ∈ ss) : Reach l L p := by
  obtain ⟨n, hn⟩ := h
  exact ⟨n + 1, q, ss, hn, hs, hp⟩
/-- Well typed code. -/
def WT (l : List Ins) (L : Nat) : Prop := (∀ p, Reach l L p → stepP l p ≠ none) ∧ (∀ p q i, Reach l L p → Reach l L q → p.at_ = q.at_ → l[p.at_]? = some i → clashB i p q = false)
theorem findP_lt (p : Nat) : ∀ (l : List Ins) (k : Nat), 0 ≤ findP p l k → findP p l k < (k : Int) + l.length ∧ (k : Int) ≤ findP p l k := by
  intro l
  induction l with
  | nil => intro k h; simp [findP] at h
  | cons a r ih =>
    intro k h
    simp only [findP] at *
    by_cases hp : a.place = p
    · rw [if_pos hp] at *; simp; omega
    · rw [if_neg hp] at *
      have := ih (k + 1) h
      simp only [List.length_cons]; omega
theorem after_ok {lo st : ByteArray} {op n L : Nat} (hlo : lo.size = L) (h1 : letters lo) (h2 : letters st) (hn : op = 7 ∨ op = 8 → n < L) (hs : (afterV lo st op n).2.2 = true) :
    (afterV lo st op n).1.size = L ∧ letters (afterV lo st op n).1 ∧ letters (afterV lo st op n).2.1 := by
  unfold afterV at *
  by_cases e7 : op = 7
  · simp only [if_pos e7]
    exact ⟨hlo, h1, letters_append h2 (letters_extract h1 _ _)⟩
  simp only [if_neg e7] at *
  by_cases e8 : op = 8
  · have hn' := hn (.inr e8)
    simp only [if_pos e8] at *
    by_cases hk : st.size < 1
    · simp only [if_pos hk] at hs; cases hs
    simp only [if_neg hk] at *
    refine ⟨?_, letters_append (letters_append (letters_extract h1 _ _) (letters_extract h2 _ _)) (letters_extract h1 _ _), letters_extract h2 _ _⟩
    simp only [ByteArray.size_append, ByteArray.size_extract]
    omega
  simp only [if_neg e8] at *
  by_cases e9 : op = 9
  · simp only [if_pos e9] at *
    by_cases hk : st.size < 1
    · simp only [if_pos hk] at hs; cases hs
    simp only [if_neg hk] at *
    exact ⟨hlo, h1, letters_append h2 (letters_extract h2 _ _)⟩
  simp only [if_neg e9] at *
  by_cases e10 : op = 10
  · simp only [if_pos e10] at *
    by_cases hk : st.size < 1
    · simp only [if_pos hk] at hs; cases hs
    simp only [if_neg hk] at *
    exact ⟨hlo, h1, letters_extract h2 _ _⟩
  simp only [if_neg e10] at *
  by_cases e11 : op = 11
  · simp only [if_pos e11] at *
    by_cases hk : st.size < 2
    · simp only [if_pos hk] at hs; cases hs
    simp only [if_neg hk] at *
    exact ⟨hlo, h1, letters_append (letters_append (letters_extract h2 _ _) (letters_extract h2 _ _)) (letters_extract h2 _ _)⟩
  simp only [if_neg e11] at *
  by_cases hk : st.size < (popsS op).size
  · simp only [if_pos hk] at hs; cases hs
  simp only [if_neg hk] at *
  by_cases hx : st.extract (st.size - (popsS op).size) st.size = popsS op
  · simp only [if_pos hx] at *
    exact ⟨hlo, h1, letters_append (letters_extract h2 _ _) (letters_pushes op)⟩
  · simp only [if_neg hx] at hs; cases hs
theorem stepP_eq {l : List Ins} {p : Pt} {i : Ins} (hi : l[p.at_]? = some i) : stepP l p = (if (afterV p.lo p.st i.op i.n).2.2 = false ∨ 8 < (afterV p.lo p.st i.op i.n).2.1.size then none else
    some ((if isJump i.op = true then [⟨(findP i.n l 0).toNat, (afterV p.lo p.st i.op i.n).1, (afterV p.lo p.st i.op i.n).2.1⟩] else []) ++
      (if i.op ≠ 0 ∧ i.op ≠ 19 then [⟨p.at_ + 1, (afterV p.lo p.st i.op i.n).1, (afterV p.lo p.st i.op i.n).2.1⟩] else []))) := by
  unfold stepP; rw [hi]
theorem step_ok {l : List Ins} {L : Nat} (hw : Wf l L) {p s : Pt} {ss : List Pt} (hp : Okp l L p) (h : stepP l p = some ss) (hs : s ∈ ss) : Okp l L s := by
  have hi : l[p.at_]? = some (l[p.at_]'hp.at_) := List.getElem?_eq_getElem hp.at_
  have hm : l[p.at_]'hp.at_ ∈ l := List.getElem_mem hp.at_
  rw [stepP_eq hi] at h
  by_cases hb : (afterV p.lo p.st (l[p.at_]'hp.at_).op (l[p.at_]'hp.at_).n).2.2 = false ∨ 8 < (afterV p.lo p.st (l[p.at_]'hp.at_).op (l[p.at_]'hp.at_).n).2.1.size
  · rw [if_pos hb] at h; cases h
  rw [if_neg hb] at h
  simp only [not_or, Bool.not_eq_false, Nat.not_lt] at hb
  obtain ⟨a1, a2, a3⟩ := after_ok hp.lo hp.llo hp.lst (hw.arg _ hm) hb.1
  simp only [Option.some.injEq] at h
  subst h
  rw [List.mem_append] at hs
  rcases hs with hs | hs
  · by_cases hj : isJump (l[p.at_]'hp.at_).op = true
    · rw [if_pos hj] at hs
      simp only [List.mem_singleton] at hs
      subst hs
      have h0 := hw.jump _ hm hj
      have h1 := findP_lt _ l 0 h0
      exact ⟨by simp only; omega, a1, a2, a3, hb.2⟩
    · rw [if_neg hj] at hs; simp at hs
  · by_cases hj : (l[p.at_]'hp.at_).op ≠ 0 ∧ (l[p.at_]'hp.at_).op ≠ 19
    · rw [if_pos hj] at hs
      simp only [List.mem_singleton] at hs
      subst hs
      refine ⟨?_, a1, a2, a3, hb.2⟩
      simp only
      rcases Nat.lt_or_ge (p.at_ + 1) l.length with h | h
      · exact h
      · exfalso
        have hlast := hw.last
        have e : p.at_ = l.length - 1 := by have := hp.at_; omega
        have h1 : lastOp l = (l[p.at_]'hp.at_).op := by
          unfold lastOp
          rw [List.getLast?_eq_getElem?, ← e, hi]
          rfl
        simp [endsOk, h1] at hlast
        omega
    · rw [if_neg hj] at hs; simp at hs
theorem init_ok {l : List Ins} {L : Nat} (hw : Wf l L) : Okp l L (initP L) := by
  have := hw.loc
  refine ⟨hw.pos, ?_, ?_, fun c hc => by simp [initP] at hc, by show 0 ≤ 8; omega⟩
  · show ((⟨#[105, 105, 105, 105]⟩ : ByteArray).extract 0 L).size = L
    rw [ByteArray.size_extract]
    show min L 4 - 0 = L
    omega
  · apply letters_extract
    intro c hc
    simp at hc
    exact .inl hc
theorem nodup_lt : ∀ (n : Nat) (l : List Nat), l.Nodup → (∀ x ∈ l, x < n) → l.length ≤ n := by
  intro n
  induction n with
  | zero => intro l _ h; cases l with
    | nil => simp
    | cons a r => exact absurd (h a (by simp)) (by omega)
  | succ n ih =>
    intro l hd h
    have h1 := ih (l.erase n) (hd.erase n) (fun x hx => by
      rw [hd.mem_erase_iff] at hx
      have := h x hx.2
      omega)
    have h2 : l.length ≤ (l.erase n).length + 1 := by
      by_cases hm : n ∈ l
      · rw [List.length_erase_of_mem hm]; omega
      · rw [List.erase_of_not_mem hm]; omega
    omega
def bits : List UInt8 → Nat
  | [] => 0
  | c :: r => (if c = 114 then 1 else 0) + 2 * bits r
theorem bits_lt : ∀ l : List UInt8, bits l < 2 ^ l.length
  | [] => by simp [bits]
  | c :: r => by
    have := bits_lt r
    simp only [bits, List.length_cons, Nat.pow_succ]
    split <;> omega
theorem bits_inj : ∀ a b : List UInt8, a.length = b.length → (∀ c ∈ a, c = 105 ∨ c = 114) → (∀ c ∈ b, c = 105 ∨ c = 114) → bits a = bits b → a = b
  | [], [], _, _, _, _ => rfl
  | [], _ :: _, h, _, _, _ => by simp at h
  | _ :: _, [], h, _, _, _ => by simp at h
  | c :: r, d :: s, h, ha, hb, e => by
    simp only [bits] at e
    have hc := ha c (by simp)
    have hd := hb d (by simp)
    have h1 := bits_inj r s (by simpa using h) (fun x hx => ha x (by simp [hx])) (fun x hx => hb x (by simp [hx]))
    have h105 : ¬ ((105 : UInt8) = 114) := by decide
    rcases hc with rfl | rfl <;> rcases hd with rfl | rfl
    · simp only [if_neg h105] at e
      rw [h1 (by omega)]
    · simp only [if_neg h105, if_true] at e; omega
    · simp only [if_neg h105, if_true] at e; omega
    · simp only [if_true] at e
      rw [h1 (by omega)]
def keyN (p : Pt) : Nat := p.at_ * 16 + bits p.lo.data.toList
theorem bits_small {l : List Ins} {L : Nat} (hw : Wf l L) {p : Pt} (hp : Okp l L p) : bits p.lo.data.toList < 16 := by
  have h := bits_lt p.lo.data.toList
  have e : p.lo.data.toList.length = L := hp.lo
  have := hw.loc
  rw [e] at h
  have : 2 ^ L ≤ 2 ^ 4 := Nat.pow_le_pow_right (by omega) this
  omega
theorem keyN_lt {l : List Ins} {L : Nat} (hw : Wf l L) {p : Pt} (hp : Okp l L p) : keyN p < 16 * l.length := by
  have := bits_small hw hp
  have := hp.at_
  unfold keyN; omega
theorem bytes_ext {a b : ByteArray} (h : a.data.toList = b.data.toList) : a = b := by
  cases a; cases b
  exact congrArg ByteArray.mk (Array.toList_inj.1 h)
theorem keyN_inj {l : List Ins} {L : Nat} (hw : Wf l L) {p q : Pt} (hp : Okp l L p) (hq : Okp l L q) (h : keyN p = keyN q) : p.at_ = q.at_ ∧ p.lo = q.lo := by
  have h1 := bits_small hw hp
  have h2 := bits_small hw hq
  unfold keyN at h
  refine ⟨by omega, bytes_ext (bits_inj _ _ ?_ hp.llo hq.llo (by omega))⟩
  have e1 : p.lo.data.toList.length = L := hp.lo
  have e2 : q.lo.data.toList.length = L := hq.lo
  omega
structure Base (l : List Ins) (L : Nat) (all : List Pt) : Prop where
  first : all[0]? = some (initP L)
  reach : ∀ p ∈ all, Reach l L p
  ok : ∀ p ∈ all, Okp l L p
  calm : ∀ p ∈ all, ∀ q ∈ all, p.at_ = q.at_ → ∀ i, l[p.at_]? = some i → clashB i p q = false
  nodup : (all.map keyN).Nodup
theorem Base.len {l : List Ins} {L : Nat} {all : List Pt} (hw : Wf l L) (h : Base l L all) : all.length ≤ 16 * l.length := by
  have := nodup_lt (16 * l.length) (all.map keyN) h.nodup (fun x hx => by
    obtain ⟨p, hp, rfl⟩ := List.mem_map.1 hx
    exact keyN_lt hw (h.ok p hp))
  simpa using this
theorem Base.init {l : List Ins} {L : Nat} (hw : Wf l L) : Base l L [initP L] := by
  refine ⟨rfl, fun p hp => ?_, fun p hp => ?_, fun p hp q hq _ i _ => ?_, by simp⟩
  · rw [List.mem_singleton] at hp; subst hp; exact Reach.init l L
  · rw [List.mem_singleton] at hp; subst hp; exact init_ok hw
  · rw [List.mem_singleton] at hp hq; subst hp; subst hq; simp [clashB]
theorem clash_comm (i : Ins) (p q : Pt) : clashB i p q = clashB i q p := by
  unfold clashB
  rw [Bool.eq_iff_iff]
  simp only [Bool.and_eq_true, beq_iff_eq, Bool.or_eq_true, Bool.not_eq_true', decide_eq_false_iff_not, beq_eq_false_iff_ne]
  constructor
  · rintro ⟨h1, h2⟩; exact ⟨h1.symm, h2.imp (fun h e => h e.symm) (fun h => ⟨h.1, fun e => h.2 e.symm⟩)⟩
  · rintro ⟨h1, h2⟩; exact ⟨h1.symm, h2.imp (fun h e => h e.symm) (fun h => ⟨h.1, fun e => h.2 e.symm⟩)⟩
theorem joined_no {l : List Ins} {L : Nat} {all : List Pt} {s : Pt} {i : Ins} (hb : Base l L all) (hs : Reach l L s) (hi : l[s.at_]? = some i) (h : (joinedP i all s).2 = false) : ¬ WT l L := by
  intro hwt
  unfold joinedP at h
  by_cases hc : all.any (clashB i s) = true
  · rw [List.any_eq_true] at hc
    obtain ⟨q, hq, hcl⟩ := hc
    have hat : s.at_ = q.at_ := by
      simp only [clashB, Bool.and_eq_true, beq_iff_eq] at hcl
      exact hcl.1.symm
    have := hwt.2 s q i hs (hb.reach q hq) hat hi
    rw [this] at hcl; cases hcl
  · rw [if_neg hc] at h
    by_cases hk : all.any (knownB s) = true
    · rw [if_pos hk] at h; cases h
    · rw [if_neg hk] at h; cases h
theorem joined_yes {l : List Ins} {L : Nat} (hw : Wf l L) {all : List Pt} {s : Pt} {i : Ins} (hb : Base l L all) (hs : Reach l L s) (ho : Okp l L s) (hi : l[s.at_]? = some i) (h : (joinedP i all s).2 = true) :
    Base l L (joinedP i all s).1 ∧ (∃ ext, (joinedP i all s).1 = all ++ ext) ∧ s ∈ (joinedP i all s).1 := by
  unfold joinedP at *
  by_cases hc : all.any (clashB i s) = true
  · rw [if_pos hc] at h; cases h
  rw [if_neg hc] at *
  have hcalm : ∀ q ∈ all, clashB i s q = false := by
    intro q hq
    cases e : clashB i s q
    · rfl
    · exact absurd (List.any_eq_true.2 ⟨q, hq, e⟩) hc
  by_cases hk : all.any (knownB s) = true
  · rw [if_pos hk]
    refine ⟨hb, ⟨[], by simp⟩, ?_⟩
    rw [List.any_eq_true] at hk
    obtain ⟨q, hq, hkn⟩ := hk
    simp only [knownB, Bool.and_eq_true, beq_iff_eq, decide_eq_true_eq] at hkn
    have h1 := hcalm q hq
    have h2 : q.st = s.st := by
      by_cases e : q.st = s.st
      · exact e
      · exfalso; simp [clashB, hkn.1, e] at h1
    have : q = s := by
      cases q; cases s
      simp only at hkn h2
      rw [hkn.1, hkn.2, h2]
    exact this ▸ hq
  · rw [if_neg hk]
    refine ⟨⟨?_, ?_, ?_, ?_, ?_⟩, ⟨[s], rfl⟩, by simp⟩
    · have := hb.first
      cases all with
      | nil => simp at this
      | cons a r => simpa using this
    · intro p hp
      rw [List.mem_append, List.mem_singleton] at hp
      rcases hp with hp | rfl
      · exact hb.reach p hp
      · exact hs
    · intro p hp
      rw [List.mem_append, List.mem_singleton] at hp
      rcases hp with hp | rfl
      · exact hb.ok p hp
      · exact ho
    · intro p hp q hq he j hj
      rw [List.mem_append, List.mem_singleton] at hp hq
      rcases hp with hp | rfl
      · rcases hq with hq | rfl
        · exact hb.calm p hp q hq he j hj
        · rw [he, hi] at hj
          cases hj
          rw [clash_comm]
          exact hcalm p hp
      · rw [hi] at hj
        cases hj
        rcases hq with hq | rfl
        · exact hcalm q hq
        · simp [clashB]
    · rw [List.map_append, List.nodup_append]
      refine ⟨hb.nodup, by simp, ?_⟩
      intro a ha b hb2 e
      simp only [List.map_cons, List.map_nil, List.mem_singleton] at hb2
      obtain ⟨q, hq, rfl⟩ := List.mem_map.1 ha
      subst hb2
      obtain ⟨e1, e2⟩ := keyN_inj hw (hb.ok q hq) ho e
      apply hk
      rw [List.any_eq_true]
      exact ⟨q, hq, by simp [knownB, e1, e2]⟩
/-- The points below k have been followed. -/
def Done (l : List Ins) (all : List Pt) (k : Nat) : Prop := ∀ j p, j < k → all[j]? = some p → ∃ ss, stepP l p = some ss ∧ ∀ s ∈ ss, s ∈ all
theorem Done.ext {l : List Ins} {all ext : List Pt} {k : Nat} (h : Done l all k) (hk : k ≤ all.length) : Done l (all ++ ext) k := by
  intro j p hj hp
  rw [List.getElem?_append_left (by omega)] at hp
  obtain ⟨ss, h1, h2⟩ := h j p hj hp
  exact ⟨ss, h1, fun s hs => List.mem_append_left _ (h2 s hs)⟩
theorem ways_end {l : List Ins} {L : Nat} {all : List Pt} (hb : Base l L all) (hd : Done l all all.length) : WT l L ∧ ∀ p, Reach l L p ↔ p ∈ all := by
  have hmem : ∀ n p, ReachN l L n p → p ∈ all := by
    intro n
    induction n with
    | zero => intro p hp; rw [show p = initP L from hp]; exact List.mem_of_getElem? hb.first
    | succ n ih =>
      rintro p ⟨q, ss, h1, h2, h3⟩
      obtain ⟨j, hj, rfl⟩ := List.getElem_of_mem (ih q h1)
      obtain ⟨ss', e1, e2⟩ := hd j _ hj (List.getElem?_eq_getElem hj)
      rw [h2] at e1
      cases e1
      exact e2 p h3
  have hiff : ∀ p, Reach l L p ↔ p ∈ all := fun p => ⟨fun ⟨n, hn⟩ => hmem n p hn, hb.reach p⟩
  refine ⟨⟨fun p hp => ?_, fun p q i hp hq he hi => ?_⟩, hiff⟩
  · obtain ⟨j, hj, rfl⟩ := List.getElem_of_mem ((hiff p).1 hp)
    obtain ⟨ss', e1, _⟩ := hd j _ hj (List.getElem?_eq_getElem hj)
    rw [e1]; simp
  · exact hb.calm p ((hiff p).1 hp) q ((hiff q).1 hq) he i hi
theorem errOf_zero {s : ByteArray} (h : errOf s = 0) : shapedP s = true ∧ dec (textOf s) (byteAt s 1) 0 = some (codeOf s) ∧ jumpsOk (codeOf s) = true ∧ endsOk (codeOf s) = true := by
  unfold errOf at h
  cases hs : shapedP s
  · rw [hs] at h; simp at h
  · rw [hs] at h
    simp only [Bool.true_eq_false, if_false] at h
    cases hd : dec (textOf s) (byteAt s 1) 0 with
    | none => rw [hd] at h; simp at h
    | some l =>
      rw [hd] at h
      simp only at h
      have hc : codeOf s = l := by unfold codeOf; rw [hd]; rfl
      rw [hc]
      cases hj : jumpsOk l
      · rw [hj] at h; simp at h
      · cases he : endsOk l
        · rw [hj, he] at h; simp at h
        · exact ⟨rfl, rfl, rfl, rfl⟩
theorem wf_of {s : ByteArray} (h : errOf s = 0) : Wf (codeOf s) (byteAt s 1) := by
  obtain ⟨hs, hd, hj, he⟩ := errOf_zero h
  obtain ⟨⟨⟨h3, h4⟩, _⟩, h1⟩ : ((3 ≤ s.size ∧ s.size ≤ 122) ∧ byteAt s 0 = 84) ∧ byteAt s 1 ≤ 4 := by simpa [shapedP] using hs
  have hsz : (textOf s).size = s.size - 2 := by simp [textOf]
  obtain ⟨hg, hl⟩ := dec_good hd
  refine ⟨?_, by omega, h1, fun i hi => ?_, fun i hi => (hg i hi).2.1, fun i hi h => ?_, fun i hi h => ?_, he⟩
  · rcases Nat.eq_zero_or_pos (codeOf s).length with h | h
    · exfalso
      rw [List.length_eq_zero_iff.1 h] at he
      simp [endsOk, lastOp] at he
    · exact h
  · have := (hg i hi).1; omega
  · have := (hg i hi).2.2.2
    simp only [badN, Bool.or_eq_false_iff, Bool.and_eq_false_iff, decide_eq_false_iff_not, beq_eq_false_iff_ne] at this
    rcases this.1 with ⟨a, b⟩ | a
    · rcases h with h | h
      · exact absurd h a
      · exact absurd h b
    · omega
  · unfold jumpsOk at hj
    rw [List.all_eq_true] at hj
    have := hj i hi
    simp only [h, Bool.not_true, Bool.false_or, decide_eq_true_eq] at this
    exact this
/-- r is the error of the image. -/
def IsErr (s : ByteArray) (r : Nat) : Prop := (errOf s ≠ 0 ∧ r = errOf s) ∨ (errOf s = 0 ∧ WT (codeOf s) (byteAt s 1) ∧ r = 0) ∨ (errOf s = 0 ∧ ¬ WT (codeOf s) (byteAt s 1) ∧ r = 5)
theorem IsErr.unique {s : ByteArray} {r r' : Nat} (h : IsErr s r) (h' : IsErr s r') : r = r' := by
  rcases h with ⟨a, b⟩ | ⟨a, b, c⟩ | ⟨a, b, c⟩ <;> rcases h' with ⟨a', b'⟩ | ⟨a', b', c'⟩ | ⟨a', b', c'⟩
  · omega
  · exact absurd a' a
  · exact absurd a' a
  · exact absurd a a'
  · omega
  · exact absurd b b'
  · exact absurd a a'
  · exact absurd b' b
  · omega
def code8 (c : UInt8) : Nat := kindN c.toNat
def letter (c : UInt8) : Prop := c = 105 ∨ c = 114
theorem code8_inj {c d : UInt8} (hc : letter c) (hd : letter d) (h : code8 c = code8 d) : c = d := by
  rcases hc with rfl | rfl <;> rcases hd with rfl | rfl
  · rfl
  · exact absurd h (by decide)
  · exact absurd h (by decide)
  · rfl
theorem code8_le (c : UInt8) : code8 c ≤ 1 := by unfold code8 kindN; split <;> omega
theorem nil_or_snoc {α : Type} (s : List α) : s = [] ∨ ∃ s0 d, s = s0 ++ [d] := by
  rcases List.eq_nil_or_concat s with h | ⟨a, b, h⟩
  · exact .inl h
  · exact .inr ⟨a, b, by rw [h, List.concat_eq_append]⟩
/-- The frame's stack holds s. -/
structure Stk (f : Fr) (s : List UInt8) : Prop where
  le : s.length ≤ 8
  depth : f.depth = s.length
  stk : f.stk = s.map code8 ++ List.replicate (8 - s.length) 0
theorem pop_nil {f : Fr} (h : Stk f []) : (popF f).1.wrong = true := by
  unfold popF; rw [if_pos (show f.depth = 0 from h.depth)]; rfl
theorem pop_snoc {f : Fr} {s : List UInt8} {c : UInt8} (h : Stk f (s ++ [c])) :
    Stk (popF f).1 s ∧ (popF f).2 = code8 c ∧ (popF f).1.lo = f.lo ∧ (popF f).1.wrong = f.wrong := by
  have hd : f.depth = s.length + 1 := by simpa using h.depth
  have hle : s.length + 1 ≤ 8 := by simpa using h.le
  unfold popF
  rw [if_neg (by omega), hd, h.stk]
  simp only [Nat.add_sub_cancel, List.map_append, List.map_cons, List.map_nil, List.length_append, List.length_cons, List.length_nil]
  refine ⟨⟨by omega, rfl, ?_⟩, ?_, trivial, trivial⟩
  · simp only
    rw [List.append_assoc, List.set_append_right _ _ (by simp), show 8 - s.length = (8 - (s.length + 1)) + 1 by omega, List.replicate_succ]
    simp
  · simp [List.getD_eq_getElem?_getD]
theorem stk_full {f : Fr} {s : List UInt8} (h : Stk f s) (h8 : s.length = 8) (k : Nat) : (pushF f k).wrong = true := by
  unfold pushF; rw [if_pos (by rw [h.depth, h8])]; rfl
theorem stk_room {f : Fr} {s : List UInt8} (h : Stk f s) (h8 : s.length < 8) (c : UInt8) :
    Stk (pushF f (code8 c)) (s ++ [c]) ∧ (pushF f (code8 c)).lo = f.lo ∧ (pushF f (code8 c)).wrong = f.wrong := by
  unfold pushF
  rw [if_neg (by rw [h.depth]; omega), h.depth, h.stk]
  refine ⟨⟨by simp; omega, by simp, ?_⟩, rfl, rfl⟩
  simp only [List.map_append, List.map_cons, List.map_nil, List.length_append, List.length_cons, List.length_nil]
  rw [List.set_append_right _ _ (by simp), show 8 - s.length = (8 - (s.length + 1)) + 1 by omega, List.replicate_succ]
  simp
theorem popF_wrong {f : Fr} (h : f.wrong = true) : (popF f).1.wrong = true := by
  unfold popF
  by_cases hd : f.depth = 0
  · rw [if_pos hd]; rfl
  · rw [if_neg hd]; exact h
theorem pushF_wrong {f : Fr} (h : f.wrong = true) (k : Nat) : (pushF f k).wrong = true := by
  unfold pushF
  by_cases hd : f.depth = 8
  · rw [if_pos hd]; rfl
  · rw [if_neg hd]; exact h
theorem popR_wrong : ∀ (r : List Nat) {f : Fr}, f.wrong = true → (popR f r).wrong = true
  | [], _, h => h
  | c :: r, f, h => by
    simp only [popR]
    apply popR_wrong r
    by_cases hk : (popF f).2 = kindN c
    · rw [if_pos hk]; exact popF_wrong h
    · rw [if_neg hk]; rfl
theorem pushR_wrong : ∀ (r : List Nat) {f : Fr}, f.wrong = true → (pushR f r).wrong = true
  | [], _, h => h
  | c :: r, f, h => by
    simp only [pushR]
    exact pushR_wrong r (pushF_wrong h _)
theorem popR_both : ∀ (r : List UInt8) (f : Fr) (s : List UInt8), (∀ c ∈ r, letter c) → Stk f s → f.wrong = false → (∀ c ∈ s, letter c) →
    (∃ s', s = s' ++ r.reverse ∧ Stk (popR f (r.map UInt8.toNat)) s' ∧ (popR f (r.map UInt8.toNat)).wrong = false ∧ (popR f (r.map UInt8.toNat)).lo = f.lo) ∨
    ((¬ ∃ s', s = s' ++ r.reverse) ∧ (popR f (r.map UInt8.toNat)).wrong = true)
  | [], f, s, _, hs, hw, _ => .inl ⟨s, by simp, hs, hw, rfl⟩
  | c :: r, f, s, hr, hs, hw, hl => by
    simp only [List.map_cons, popR, List.reverse_cons]
    rcases nil_or_snoc s with rfl | ⟨s0, d, rfl⟩
    · refine .inr ⟨?_, popR_wrong _ ?_⟩
      · rintro ⟨s', h⟩
        have := congrArg List.length h
        simp at this
      · split
        · exact pop_nil hs
        · rfl
    · obtain ⟨h1, h2, h3, h4⟩ := pop_snoc hs
      by_cases hk : (popF f).2 = kindN c.toNat
      · rw [if_pos hk]
        have hdc : d = c := code8_inj (hl d (by simp)) (hr c (by simp)) (by rw [← h2, hk]; rfl)
        subst hdc
        rcases popR_both r (popF f).1 s0 (fun x hx => hr x (by simp [hx])) h1 (h4.trans hw) (fun x hx => hl x (by simp [hx])) with ⟨s', e, a, b, l⟩ | ⟨e, a⟩
        · exact .inl ⟨s', by rw [e]; simp, a, b, l.trans h3⟩
        · refine .inr ⟨?_, a⟩
          rintro ⟨s', h⟩
          apply e
          rw [← List.append_assoc] at h
          exact ⟨s', (List.append_inj' h rfl).1⟩
      · rw [if_neg hk]
        refine .inr ⟨?_, popR_wrong _ rfl⟩
        rintro ⟨s', h⟩
        rw [← List.append_assoc] at h
        have := (List.append_inj' h rfl).2
        simp only [List.cons.injEq, and_true] at this
        apply hk
        rw [h2, this]; rfl
theorem pushR_both : ∀ (r : List UInt8) (f : Fr) (s : List UInt8), Stk f s →
    (s.length + r.length ≤ 8 ∧ Stk (pushR f (r.map UInt8.toNat)) (s ++ r) ∧ (pushR f (r.map UInt8.toNat)).wrong = f.wrong ∧ (pushR f (r.map UInt8.toNat)).lo = f.lo) ∨
    (8 < s.length + r.length ∧ (pushR f (r.map UInt8.toNat)).wrong = true)
  | [], f, s, hs => .inl ⟨by simpa using hs.le, by simpa [pushR] using hs, rfl, rfl⟩
  | c :: r, f, s, hs => by
    simp only [List.map_cons, pushR, List.length_cons]
    by_cases h8 : s.length = 8
    · exact .inr ⟨by omega, pushR_wrong _ (stk_full hs h8 _)⟩
    · obtain ⟨h1, h2, h3⟩ := stk_room hs (by have := hs.le; omega) c
      rcases pushR_both r _ _ h1 with ⟨a, b, d, e⟩ | ⟨a, b⟩
      · refine .inl ⟨by simp at a; omega, ?_, d.trans h3, e.trans h2⟩
        rw [List.append_assoc] at b
        exact b
      · exact .inr ⟨by simp at a; omega, b⟩
def tl (b : ByteArray) : List UInt8 := b.data.toList
theorem tl_len (b : ByteArray) : (tl b).length = b.size := rfl
theorem tl_append (a b : ByteArray) : tl (a ++ b) = tl a ++ tl b := by unfold tl; rw [ByteArray.data_append, Array.toList_append]
theorem tl_extract (a : ByteArray) (i j : Nat) : tl (a.extract i j) = ((tl a).drop i).take (j - i) := by
  unfold tl; rw [ByteArray.data_extract, Array.toList_extract]
theorem tl_inj {a b : ByteArray} (h : tl a = tl b) : a = b := bytes_ext h
theorem tl_get {b : ByteArray} {n : Nat} (h : n < b.size) : ∃ c, (tl b)[n]? = some c ∧ byteAt b n = c.toNat ∧ tl (b.extract n (n + 1)) = [c] := by
  have h' : n < (tl b).length := h
  refine ⟨(tl b)[n], List.getElem?_eq_getElem h', ?_, ?_⟩
  · unfold byteAt; show ((tl b).getD n 0).toNat = _
    rw [List.getD_eq_getElem?_getD, List.getElem?_eq_getElem h']; rfl
  · rw [tl_extract, List.drop_eq_getElem_cons h', show n + 1 - n = 1 by omega]; rfl
theorem tl_last {b : ByteArray} {s : List UInt8} {c : UInt8} (h : tl b = s ++ [c]) : b.size = s.length + 1 ∧ tl (b.extract (b.size - 1) b.size) = [c] ∧ tl (b.extract 0 (b.size - 1)) = s ∧ byteAt b (b.size - 1) = c.toNat := by
  have hz : b.size = s.length + 1 := by rw [← tl_len, h]; simp
  refine ⟨hz, ?_, ?_, ?_⟩
  · rw [tl_extract, h, hz, show s.length + 1 - 1 = s.length by omega, List.drop_left, show s.length + 1 - s.length = 1 by omega]; rfl
  · rw [tl_extract, h, hz, show s.length + 1 - 1 - 0 = s.length by omega]; simp
  · unfold byteAt; show ((tl b).getD _ 0).toNat = _
    rw [h, hz]; simp [List.getD_eq_getElem?_getD]
/-- The types of the locals behind an instruction, as a frame has them. -/
def loAft (lo : List Nat) (st : ByteArray) (op n : Nat) : List Nat := if op = 8 then lo.set n (kindN (byteAt st (st.size - 1))) else lo
structure Ago (f : Fr) (lo st : ByteArray) (op n : Nat) : Prop where
  ok : (afterV lo st op n).2.2 = true
  sm : (afterV lo st op n).2.1.size ≤ 8
  wr : (afterF f op n).wrong = false
  sk : Stk (afterF f op n) (tl (afterV lo st op n).2.1)
  fl : (afterF f op n).lo = loAft f.lo st op n
  lv : (afterV lo st op n).1 = (if op = 8 then lo.extract 0 n ++ st.extract (st.size - 1) st.size ++ lo.extract (n + 1) lo.size else lo)
  pos : op = 8 → 1 ≤ st.size
def Abad (f : Fr) (lo st : ByteArray) (op n : Nat) : Prop := ((afterV lo st op n).2.2 = false ∨ 8 < (afterV lo st op n).2.1.size) ∧ (afterF f op n).wrong = true
theorem letters_pops (op : Nat) : ∀ c ∈ popsL op, letter c := by
  intro c hc
  unfold popsL at hc
  unfold letter
  split at hc
  · simp at hc; exact .inl hc
  split at hc
  · simp at hc; exact .inl hc
  split at hc
  · simp at hc; exact .inr hc
  split at hc
  · simp at hc; exact .inr hc
  split at hc
  · simp at hc; exact hc.symm
  · simp at hc
theorem aft_both {f : Fr} {lo st : ByteArray} {op n : Nat} (hs : Stk f (tl st)) (hw : f.wrong = false) (hl : letters st) (hn : op = 7 ∨ op = 8 → n < lo.size) (h4 : lo.size ≤ 4)
    (h7 : op = 7 → f.lo.getD n 0 = kindN (byteAt lo n)) : Ago f lo st op n ∨ Abad f lo st op n := by
  by_cases e7 : op = 7
  · subst e7
    have hn' := hn (.inl rfl)
    obtain ⟨c, _, hc2, hc3⟩ := tl_get hn'
    have hv : afterV lo st 7 n = (lo, st ++ lo.extract n (n + 1), true) := by simp [afterV]
    have hk : f.lo.getD n 0 = code8 c := by rw [h7 rfl, hc2]; rfl
    have hf : afterF f 7 n = pushF f (code8 c) := by
      have : afterF f 7 n = loadF f n := by simp [afterF]
      rw [this]
      unfold loadF
      have := code8_le c
      rw [if_neg (by omega), hk, if_neg (by omega)]
    have ht : tl (afterV lo st 7 n).2.1 = tl st ++ [c] := by rw [hv]; show tl (st ++ _) = _; rw [tl_append, hc3]
    have hz : (afterV lo st 7 n).2.1.size = (tl st).length + 1 := by rw [← tl_len, ht]; simp
    by_cases h8 : (tl st).length = 8
    · exact .inr ⟨.inr (by omega), by rw [hf]; exact stk_full hs h8 _⟩
    · obtain ⟨a, b, d⟩ := stk_room hs (by have := hs.le; omega) c
      exact .inl ⟨by rw [hv], by have := hs.le; omega, by rw [hf, d, hw], by rw [hf, ht]; exact a, by rw [hf, b]; rfl, by rw [hv]; rfl, fun h => absurd h (by decide)⟩
  by_cases e8 : op = 8
  · subst e8
    have hn' := hn (.inr rfl)
    have hf : afterF f 8 n = { (popF f).1 with lo := (popF f).1.lo.set n (popF f).2 } := by
      have : afterF f 8 n = storeF f n := by simp [afterF]
      rw [this]; unfold storeF; rw [if_neg (by omega)]
    rcases nil_or_snoc (tl st) with e | ⟨s0, d, e⟩
    · have hz : st.size = 0 := by rw [← tl_len, e]; rfl
      refine .inr ⟨.inl (by simp [afterV, hz]), ?_⟩
      rw [hf]; rw [e] at hs; exact pop_nil hs
    · obtain ⟨z, z1, z2, z3⟩ := tl_last e
      have hv : afterV lo st 8 n = (lo.extract 0 n ++ st.extract (st.size - 1) st.size ++ lo.extract (n + 1) lo.size, st.extract 0 (st.size - 1), true) := by
        have : ¬ st.size < 1 := by omega
        simp [afterV, this]
      rw [e] at hs
      obtain ⟨a, b, c, g⟩ := pop_snoc hs
      refine .inl ⟨by rw [hv], ?_, by rw [hf]; exact g.trans hw, ?_, ?_, by rw [hv]; rfl, fun _ => by omega⟩
      · rw [hv]; show (st.extract 0 (st.size - 1)).size ≤ 8
        rw [← tl_len, z2]; exact a.le
      · rw [hf, hv]; show Stk _ (tl (st.extract 0 (st.size - 1)))
        rw [z2]; exact ⟨a.le, a.depth, a.stk⟩
      · rw [hf]; unfold loAft; rw [if_pos rfl, z3, ← show code8 d = kindN d.toNat from rfl, ← b, ← c]
  have hlo : ∀ x, loAft x st op n = x := fun x => by unfold loAft; rw [if_neg e8]
  by_cases e9 : op = 9
  · subst e9
    have hf : afterF f 9 n = dupF f := by simp [afterF]
    rcases nil_or_snoc (tl st) with e | ⟨s0, d, e⟩
    · have hz : st.size = 0 := by rw [← tl_len, e]; rfl
      refine .inr ⟨.inl (by simp [afterV, hz]), ?_⟩
      rw [hf]; rw [e] at hs; exact pushF_wrong (pushF_wrong (pop_nil hs) _) _
    · obtain ⟨z, z1, z2, z3⟩ := tl_last e
      have hv : afterV lo st 9 n = (lo, st ++ st.extract (st.size - 1) st.size, true) := by
        have : ¬ st.size < 1 := by omega
        simp [afterV, this]
      have ht : tl (afterV lo st 9 n).2.1 = tl st ++ [d] := by rw [hv]; show tl (st ++ _) = _; rw [tl_append, z1]
      have hzz : (afterV lo st 9 n).2.1.size = (tl st).length + 1 := by rw [← tl_len, ht]; simp
      have hs' := hs
      rw [e] at hs
      obtain ⟨a, b, c, g⟩ := pop_snoc hs
      obtain ⟨a1, b1, c1⟩ := stk_room a (by have := hs.le; simp at this; omega) d
      rw [← e] at a1
      have hd2 : afterF f 9 n = pushF (pushF (popF f).1 (code8 d)) (code8 d) := by rw [hf]; unfold dupF; rw [b]
      by_cases h8 : (tl st).length = 8
      · exact .inr ⟨.inr (by omega), by rw [hd2]; exact stk_full a1 h8 _⟩
      · obtain ⟨a2, b2, c2⟩ := stk_room a1 (by have := hs'.le; omega) d
        exact .inl ⟨by rw [hv], by have := hs'.le; omega, by rw [hd2, c2, c1, g, hw], by rw [hd2, ht]; exact a2, by rw [hd2, b2, b1, c, hlo], by rw [hv]; rfl, fun h => absurd h (by decide)⟩
  by_cases e10 : op = 10
  · subst e10
    have hf : afterF f 10 n = (popF f).1 := by simp [afterF]
    rcases nil_or_snoc (tl st) with e | ⟨s0, d, e⟩
    · have hz : st.size = 0 := by rw [← tl_len, e]; rfl
      refine .inr ⟨.inl (by simp [afterV, hz]), ?_⟩
      rw [hf]; rw [e] at hs; exact pop_nil hs
    · obtain ⟨z, z1, z2, z3⟩ := tl_last e
      have hv : afterV lo st 10 n = (lo, st.extract 0 (st.size - 1), true) := by
        have : ¬ st.size < 1 := by omega
        simp [afterV, this]
      rw [e] at hs
      obtain ⟨a, b, c, g⟩ := pop_snoc hs
      refine .inl ⟨by rw [hv], ?_, by rw [hf, g, hw], ?_, by rw [hf, c, hlo], by rw [hv]; rfl, fun h => absurd h (by decide)⟩
      · rw [hv]; show (st.extract 0 (st.size - 1)).size ≤ 8
        rw [← tl_len, z2]; exact a.le
      · rw [hf, hv]; show Stk _ (tl (st.extract 0 (st.size - 1)))
        rw [z2]; exact a
  by_cases e11 : op = 11
  · subst e11
    have hf : afterF f 11 n = pushF (pushF (popF (popF f).1).1 (popF f).2) (popF (popF f).1).2 := by simp [afterF, swapF]
    rcases nil_or_snoc (tl st) with e | ⟨s0, d, e⟩
    · have hz : st.size = 0 := by rw [← tl_len, e]; rfl
      refine .inr ⟨.inl (by simp [afterV, hz]), ?_⟩
      rw [hf]; rw [e] at hs; exact pushF_wrong (pushF_wrong (popF_wrong (pop_nil hs)) _) _
    · obtain ⟨z, z1, z2, z3⟩ := tl_last e
      have hs' := hs
      rw [e] at hs
      obtain ⟨a, b, c, g⟩ := pop_snoc hs
      rcases nil_or_snoc s0 with e0 | ⟨s1, d1, e0⟩
      · have hz : st.size = 1 := by rw [z, e0]; rfl
        refine .inr ⟨.inl (by simp [afterV, hz]), ?_⟩
        rw [hf]; rw [e0] at a; exact pushF_wrong (pushF_wrong (pop_nil a) _) _
      · subst e0
        obtain ⟨a', b', c', g'⟩ := pop_snoc a
        have z' : st.size = s1.length + 2 := by rw [z]; simp
        have hv : afterV lo st 11 n = (lo, st.extract 0 (st.size - 2) ++ st.extract (st.size - 1) st.size ++ st.extract (st.size - 2) (st.size - 1), true) := by
          have : ¬ st.size < 2 := by omega
          simp [afterV, this]
        have y0 : tl (st.extract 0 (st.size - 2)) = s1 := by
          rw [tl_extract, e, z', show s1.length + 2 - 2 - 0 = s1.length by omega]; simp
        have y1 : tl (st.extract (st.size - 2) (st.size - 1)) = [d1] := by
          rw [tl_extract, e, z', show s1.length + 2 - 2 = s1.length by omega, show s1.length + 2 - 1 - s1.length = 1 by omega]; simp
        have ht : tl (afterV lo st 11 n).2.1 = s1 ++ [d] ++ [d1] := by rw [hv]; show tl (_ ++ _ ++ _) = _; rw [tl_append, tl_append, y0, z1, y1]
        have hzz : (afterV lo st 11 n).2.1.size = s1.length + 2 := by rw [← tl_len, ht]; simp
        have hl8 := hs'.le
        rw [tl_len] at hl8
        obtain ⟨a1, b1, c1⟩ := stk_room a' (by omega) d
        obtain ⟨a2, b2, c2⟩ := stk_room a1 (by simp; omega) d1
        have hd2 : afterF f 11 n = pushF (pushF (popF (popF f).1).1 (code8 d)) (code8 d1) := by rw [hf, b, b']
        exact .inl ⟨by rw [hv], by omega, by rw [hd2, c2, c1, g', g, hw], by rw [hd2, ht]; exact a2, by rw [hd2, b2, b1, c', c, hlo], by rw [hv]; rfl, fun h => absurd h (by decide)⟩
  have hf : afterF f op n = pushR (popR f (popsN op).reverse) (pushesN op) := by simp [afterF, e7, e8, e9, e10, e11]
  have hpr : (popsN op).reverse = (popsL op).reverse.map UInt8.toNat := by unfold popsN; rw [List.map_reverse]
  have hv0 : afterV lo st op n = (if st.size < (popsS op).size then (lo, st, false)
      else if st.extract (st.size - (popsS op).size) st.size = popsS op then (lo, st.extract 0 (st.size - (popsS op).size) ++ pushesS op, true) else (lo, st, false)) := by
    simp only [afterV, if_neg e7, if_neg e8, if_neg e9, if_neg e10, if_neg e11]
  have hps : tl (popsS op) = popsL op := by simp [tl, popsS]
  have hpz : (popsS op).size = (popsL op).length := by rw [← tl_len, hps]
  have hqs : tl (pushesS op) = pushesL op := by simp [tl, pushesS]
  rcases popR_both (popsL op).reverse f (tl st) (fun c hc => letters_pops op c (by simpa using hc)) hs hw hl with ⟨s', e, a, b, c⟩ | ⟨e, a⟩
  · rw [List.reverse_reverse] at e
    have hz : st.size = s'.length + (popsL op).length := by rw [← tl_len, e]; simp
    have hx : st.extract (st.size - (popsS op).size) st.size = popsS op := by
      apply tl_inj
      rw [tl_extract, e, hps, hz, hpz, show s'.length + (popsL op).length - (popsL op).length = s'.length by omega, List.drop_left, show s'.length + (popsL op).length - s'.length = (popsL op).length by omega, List.take_length]
    have hv : afterV lo st op n = (lo, st.extract 0 (st.size - (popsS op).size) ++ pushesS op, true) := by
      rw [hv0, if_neg (by omega), if_pos hx]
    have ht : tl (afterV lo st op n).2.1 = s' ++ pushesL op := by
      rw [hv]; show tl (_ ++ _) = _
      rw [tl_append, hqs, tl_extract, e, hz, hpz, show s'.length + (popsL op).length - (popsL op).length - 0 = s'.length by omega]; simp
    have hzz : (afterV lo st op n).2.1.size = s'.length + (pushesL op).length := by rw [← tl_len, ht]; simp
    have hfq : afterF f op n = pushR (popR f ((popsL op).reverse.map UInt8.toNat)) ((pushesL op).map UInt8.toNat) := by rw [hf, hpr]; rfl
    rcases pushR_both (pushesL op) _ _ a with ⟨a1, b1, c1, d1⟩ | ⟨a1, b1⟩
    · exact .inl ⟨by rw [hv], by omega, by rw [hfq, c1, b], by rw [hfq, ht]; exact b1, by rw [hfq, d1, c, hlo], by rw [hv]; simp [e8], fun h => absurd h e8⟩
    · exact .inr ⟨.inr (by omega), by rw [hfq]; exact b1⟩
  · refine .inr ⟨.inl ?_, ?_⟩
    · rw [hv0]
      by_cases hlt : st.size < (popsS op).size
      · rw [if_pos hlt]
      · rw [if_neg hlt]
        by_cases hx : st.extract (st.size - (popsS op).size) st.size = popsS op
        · exfalso
          apply e
          rw [List.reverse_reverse]
          have := congrArg tl hx
          rw [tl_extract, hps, show st.size - (st.size - (popsS op).size) = (popsS op).size by omega] at this
          rw [List.take_of_length_le (by rw [List.length_drop, tl_len]; omega)] at this
          refine ⟨(tl st).take (st.size - (popsS op).size), ?_⟩
          rw [← this, List.take_append_drop]
        · rw [if_neg hx]
    · rw [hf, hpr]; exact pushR_wrong _ a
theorem load_mixed {f : Fr} {n : Nat} (h : f.lo.getD n 0 = 2) : (afterF f 7 n).wrong = true := by
  have : afterF f 7 n = loadF f n := by simp [afterF]
  rw [this]; unfold loadF
  by_cases h4 : 4 ≤ n
  · rw [if_pos h4]; rfl
  · rw [if_neg h4, if_pos h]; exact pushF_wrong rfl _
def joinN (a b : Nat) : Nat := if a = b then a else 2
theorem joinN_eq {a b : Nat} (h : a = b) : joinN a b = a := if_pos h
theorem joinN_ne {a b : Nat} (h : ¬ a = b) : joinN a b = 2 := if_neg h
theorem flowJoined_any (a0 a1 a2 a3 b0 b1 b2 b3 : Nat) (w : World) :
    Calls Tryz.prog 134 #[.agg #[.int .i64 a0, .int .i64 a1, .int .i64 a2, .int .i64 a3], .agg #[.int .i64 b0, .int .i64 b1, .int .i64 b2, .int .i64 b3]] w fun e w' =>
      e = .returned (.agg #[.int .i64 (joinN a0 b0 : Nat), .int .i64 (joinN a1 b1 : Nat), .int .i64 (joinN a2 b2 : Nat), .int .i64 (joinN a3 b3 : Nat)]) ∧ Below w.heap.size w w' := by
  go_enter Tryz.func134, Tryz.ntmps134
  go_wp2_with fail
  go_loopw [6] (fun i w' => ∃ (k x0 x1 x2 x3 : Nat), i = .int .i64 k ∧ k ≤ 4 ∧ w'.heap[w.heap.size]? = some (.cells #[.int .i64 x0, .int .i64 x1, .int .i64 x2, .int .i64 x3] 66) ∧
    Only w.heap.size (((w.alloc (.cells #[.int .i64 a0, .int .i64 a1, .int .i64 a2, .int .i64 a3] 66)).alloc (.cells #[.int .i64 b0, .int .i64 b1, .int .i64 b2, .int .i64 b3] 66)).alloc (.cells #[.int .i64 0, .int .i64 0, .int .i64 0, .int .i64 0] 66)) w' ∧
    x0 = (if 0 < k then joinN a0 b0 else a0) ∧ x1 = (if 1 < k then joinN a1 b1 else a1) ∧ x2 = (if 2 < k then joinN a2 b2 else a2) ∧ x3 = (if 3 < k then joinN a3 b3 else a3)) (fun i _ => 4 - (intOf i).toNat)
  case atStart => exact ⟨0, a0, a1, a2, a3, rfl, by omega, heap_three_first w _ _ _, Only.refl _ _, by simp, by simp, by simp, by simp⟩
  case round =>
    obtain ⟨k, x0, x1, x2, x3, rfl, hk, hrow, honly, v0, v1, v2, v3⟩ := hrel
    have hz := honly.size
    simp at hz
    have y0 := cell_of_row wr w.heap.size 0 _ _ _ hrow
    have y1 := cell_of_row wr w.heap.size 1 _ _ _ hrow
    have y2 := cell_of_row wr w.heap.size 2 _ _ _ hrow
    have y3 := cell_of_row wr w.heap.size 3 _ _ _ hrow
    have f0 := frozen_of_row wr w.heap.size 0 _ _ hrow
    have f1 := frozen_of_row wr w.heap.size 1 _ _ hrow
    have f2 := frozen_of_row wr w.heap.size 2 _ _ hrow
    have f3 := frozen_of_row wr w.heap.size 3 _ _ hrow
    have u0 := (honly.cell (k := w.heap.size + 1) (o := 0) (by omega)).trans (cell_three_second w _ _ _ _ 0)
    have u1 := (honly.cell (k := w.heap.size + 1) (o := 1) (by omega)).trans (cell_three_second w _ _ _ _ 1)
    have u2 := (honly.cell (k := w.heap.size + 1) (o := 2) (by omega)).trans (cell_three_second w _ _ _ _ 2)
    have u3 := (honly.cell (k := w.heap.size + 1) (o := 3) (by omega)).trans (cell_three_second w _ _ _ _ 3)
    simp only [List.getElem?_toArray, List.getElem?_cons_zero, List.getElem?_cons_succ] at y0 y1 y2 y3 u0 u1 u2 u3
    match k, hk with
    | 0, _ =>
      simp only [Nat.lt_irrefl, Nat.not_lt_zero, if_false] at v0 v1 v2 v3
      by_cases hq : a0 = b0
      · have hx := hid (joinN_eq hq)
        have hq' : ((x0 : Int) != (b0 : Int)) = false := by rw [v0]; simp; omega
        have V0 := hid v0
        have V1 := hid v1
        have V2 := hid v2
        have V3 := hid v3
        clear v0 v1 v2 v3 hq
        go_wp2_with fail
        go_quiet (fail)
        go_wp2_with fail
        exact ⟨⟨1, x0, x1, x2, x3, rfl, by omega, hrow, honly.drewN _, by rw [V0.out]; simp [hx.out], by rw [V1.out]; simp, by rw [V2.out]; simp, by rw [V3.out]; simp⟩, by simp [intOf]⟩
      · have hx := hid (joinN_ne hq)
        have hq' : ((x0 : Int) != (b0 : Int)) = true := by rw [v0]; simp; omega
        have V0 := hid v0
        have V1 := hid v1
        have V2 := hid v2
        have V3 := hid v3
        clear v0 v1 v2 v3 hq
        go_wp2_with fail
        go_quiet (fail)
        go_wp2_with fail
        exact ⟨⟨1, 2, x1, x2, x3, rfl, by omega, by have := setCell_row (w := wr.drewN nq) 0 (.int .i64 2) hrow; simpa using this, (honly.drewN _).set _ _, by simp [hx.out], by rw [V1.out]; simp, by rw [V2.out]; simp, by rw [V3.out]; simp⟩, by simp [intOf]⟩
    | 1, _ =>
      simp only [Nat.reduceLT, Nat.lt_irrefl, if_true, if_false] at v0 v1 v2 v3
      by_cases hq : a1 = b1
      · have hx := hid (joinN_eq hq)
        have hq' : ((x1 : Int) != (b1 : Int)) = false := by rw [v1]; simp; omega
        have V0 := hid v0
        have V1 := hid v1
        have V2 := hid v2
        have V3 := hid v3
        clear v0 v1 v2 v3 hq
        go_wp2_with fail
        go_quiet (fail)
        go_wp2_with fail
        exact ⟨⟨2, x0, x1, x2, x3, rfl, by omega, hrow, honly.drewN _, by rw [V0.out]; simp, by rw [V1.out]; simp [hx.out], by rw [V2.out]; simp, by rw [V3.out]; simp⟩, by simp [intOf]⟩
      · have hx := hid (joinN_ne hq)
        have hq' : ((x1 : Int) != (b1 : Int)) = true := by rw [v1]; simp; omega
        have V0 := hid v0
        have V1 := hid v1
        have V2 := hid v2
        have V3 := hid v3
        clear v0 v1 v2 v3 hq
        go_wp2_with fail
        go_quiet (fail)
        go_wp2_with fail
        exact ⟨⟨2, x0, 2, x2, x3, rfl, by omega, by have := setCell_row (w := wr.drewN nq) 1 (.int .i64 2) hrow; simpa using this, (honly.drewN _).set _ _, by rw [V0.out]; simp, by simp [hx.out], by rw [V2.out]; simp, by rw [V3.out]; simp⟩, by simp [intOf]⟩
    | 2, _ =>
      simp only [Nat.reduceLT, Nat.lt_irrefl, if_true, if_false] at v0 v1 v2 v3
      by_cases hq : a2 = b2
      · have hx := hid (joinN_eq hq)
        have hq' : ((x2 : Int) != (b2 : Int)) = false := by rw [v2]; simp; omega
        have V0 := hid v0
        have V1 := hid v1
        have V2 := hid v2
        have V3 := hid v3
        clear v0 v1 v2 v3 hq
        go_wp2_with fail
        go_quiet (fail)
        go_wp2_with fail
        exact ⟨⟨3, x0, x1, x2, x3, rfl, by omega, hrow, honly.drewN _, by rw [V0.out]; simp, by rw [V1.out]; simp, by rw [V2.out]; simp [hx.out], by rw [V3.out]; simp⟩, by simp [intOf]⟩
      · have hx := hid (joinN_ne hq)
        have hq' : ((x2 : Int) != (b2 : Int)) = true := by rw [v2]; simp; omega
        have V0 := hid v0
        have V1 := hid v1
        have V2 := hid v2
        have V3 := hid v3
        clear v0 v1 v2 v3 hq
        go_wp2_with fail
        go_quiet (fail)
        go_wp2_with fail
        exact ⟨⟨3, x0, x1, 2, x3, rfl, by omega, by have := setCell_row (w := wr.drewN nq) 2 (.int .i64 2) hrow; simpa using this, (honly.drewN _).set _ _, by rw [V0.out]; simp, by rw [V1.out]; simp, by simp [hx.out], by rw [V3.out]; simp⟩, by simp [intOf]⟩
    | 3, _ =>
      simp only [Nat.reduceLT, Nat.lt_irrefl, if_true, if_false] at v0 v1 v2 v3
      by_cases hq : a3 = b3
      · have hx := hid (joinN_eq hq)
        have hq' : ((x3 : Int) != (b3 : Int)) = false := by rw [v3]; simp; omega
        have V0 := hid v0
        have V1 := hid v1
        have V2 := hid v2
        have V3 := hid v3
        clear v0 v1 v2 v3 hq
        go_wp2_with fail
        go_quiet (fail)
        go_wp2_with fail
        exact ⟨⟨4, x0, x1, x2, x3, rfl, by omega, hrow, honly.drewN _, by rw [V0.out]; simp, by rw [V1.out]; simp, by rw [V2.out]; simp, by rw [V3.out]; simp [hx.out]⟩, by simp [intOf]⟩
      · have hx := hid (joinN_ne hq)
        have hq' : ((x3 : Int) != (b3 : Int)) = true := by rw [v3]; simp; omega
        have V0 := hid v0
        have V1 := hid v1
        have V2 := hid v2
        have V3 := hid v3
        clear v0 v1 v2 v3 hq
        go_wp2_with fail
        go_quiet (fail)
        go_wp2_with fail
        exact ⟨⟨4, x0, x1, x2, 2, rfl, by omega, by have := setCell_row (w := wr.drewN nq) 3 (.int .i64 2) hrow; simpa using this, (honly.drewN _).set _ _, by rw [V0.out]; simp, by rw [V1.out]; simp, by rw [V2.out]; simp, by simp [hx.out]⟩, by simp [intOf]⟩
    | 4, _ =>
      have hres := hid ((honly.block (w.heap.size + 1 + 1) (by omega)).trans (heap_three_third w _ _ _))
      have z0 := cell_of_row wr (w.heap.size + 1 + 1) 0 _ _ _ hres.out
      have z1 := cell_of_row wr (w.heap.size + 1 + 1) 1 _ _ _ hres.out
      have z2 := cell_of_row wr (w.heap.size + 1 + 1) 2 _ _ _ hres.out
      have z3 := cell_of_row wr (w.heap.size + 1 + 1) 3 _ _ _ hres.out
      have g0 := frozen_of_row wr (w.heap.size + 1 + 1) 0 _ _ hres.out
      have g1 := frozen_of_row wr (w.heap.size + 1 + 1) 1 _ _ hres.out
      have g2 := frozen_of_row wr (w.heap.size + 1 + 1) 2 _ _ hres.out
      have g3 := frozen_of_row wr (w.heap.size + 1 + 1) 3 _ _ hres.out
      simp only [List.getElem?_toArray, List.getElem?_cons_zero, List.getElem?_cons_succ] at z0 z1 z2 z3
      simp only [Nat.reduceLT, if_true] at v0 v1 v2 v3
      have V0 := hid v0
      have V1 := hid v1
      have V2 := hid v2
      have V3 := hid v3
      have hbw : Below w.heap.size w wr := (three_new w _ _ _).trans (honly.below (Nat.le_refl _))
      clear v0 v1 v2 v3
      go_wp2_with fail
      refine bodyPost_ret (v := .agg #[.int .i64 x0, .int .i64 x1, .int .i64 x2, .int .i64 x3]) (by simp [results, Tryz.results134, go_sem, *]) rfl ⟨by rw [V0.out, V1.out, V2.out, V3.out], ?_⟩
      exact (((hbw.setCell (by simp; omega) _).setCell (by simp; omega) _).setCell (by simp; omega) _).setCell (by simp; omega) _
theorem kind_any (c : Nat) (w : World) : Calls Tryz.prog 90 #[.int .u8 c] w fun x w' => x = .returned (.int .i64 (kindN c : Nat)) ∧ w' = w := by
  by_cases h : c = 114
  · have h' : ((c : Int) == 114) = true := by simp; omega
    have HE : Hid (kindN c = 1) := hid (by simp [kindN, h])
    clear h
    go_enter Tryz.func90, Tryz.ntmps90
    go_wp2
    go_ret
    exact ⟨ret_int (by rw [HE.out]; rfl), rfl⟩
  · have h' : ((c : Int) == 114) = false := by simp; omega
    have HE : Hid (kindN c = 0) := hid (by simp [kindN, h])
    clear h
    go_enter Tryz.func90, Tryz.ntmps90
    go_wp2
    go_ret
    exact ⟨ret_int (by rw [HE.out]; rfl), rfl⟩
def codes (b : ByteArray) : List Nat := (tl b).map code8
theorem codes_len (b : ByteArray) : (codes b).length = b.size := by simp [codes, tl_len]
theorem codes_get {b : ByteArray} {n : Nat} (h : n < b.size) : (codes b).getD n 0 = kindN (byteAt b n) := by
  obtain ⟨c, c1, c2, _⟩ := tl_get h
  unfold codes
  rw [List.getD_eq_getElem?_getD, List.getElem?_map, c1, c2]
  rfl
/-- What is told so far: reached, locals, stack. -/
structure Ac where
  r : Bool
  lo : List Nat
  st : List Nat
def baseA (a : Ac) (p : Pt) : List Nat × List Nat := if a.r = true then (a.lo, a.st) else (codes p.lo, codes p.st)
def toldS (i : Nat) (a : Ac) (p : Pt) : Ac := if p.at_ = i then ⟨true, List.zipWith joinN (baseA a p).1 (codes p.lo), (baseA a p).2⟩ else a
def toldF (i : Nat) (all : List Pt) : Ac := all.foldl (toldS i) ⟨false, [], []⟩
theorem toldF_snoc (i : Nat) (all : List Pt) (k : Nat) (h : k < all.length) : toldF i (all.take (k + 1)) = toldS i (toldF i (all.take k)) all[k] := by
  unfold toldF
  rw [List.take_succ_eq_append_getElem h, List.foldl_append]; rfl
theorem toldF_len {L : Nat} (i : Nat) (all : List Pt) (h : ∀ p ∈ all, p.lo.size = L) : (toldF i all).r = true → (toldF i all).lo.length = L := by
  suffices hs : ∀ (all : List Pt) (a : Ac), (∀ p ∈ all, p.lo.size = L) → (a.r = true → a.lo.length = L) → (all.foldl (toldS i) a).r = true → (all.foldl (toldS i) a).lo.length = L from hs all _ h (by simp)
  intro all
  induction all with
  | nil => intro a _ ha; exact ha
  | cons p r ih =>
    intro a hp ha
    simp only [List.foldl_cons]
    refine ih _ (fun q hq => hp q (by simp [hq])) ?_
    have hpL := hp p (by simp)
    unfold toldS
    by_cases e : p.at_ = i
    · rw [if_pos e]
      intro _
      simp only [List.length_zipWith, codes_len, hpL]
      unfold baseA
      by_cases hr : a.r = true
      · rw [if_pos hr, ha hr]; simp
      · rw [if_neg hr]; simp [codes_len, hpL]
    · rw [if_neg e]; exact ha
/-- The point that is being told lies in block b. -/
def OutAt (w : World) (b : Nat) (place : Nat) (r : Bool) (v1 v2 : Value) : Prop := w.heap[b]? = some (.cells #[.int .i64 place, .bool r, v1, v2] 102)
structure ToldAt (w w' : World) (place : Nat) (a : Ac) (v1 v2 : Value) : Prop where
  below : Below w.heap.size w w'
  res : OutAt w' w.heap.size 0 false (.slice none 0 0) (.slice none 0 0)
  out : OutAt w' (w.heap.size + 1) place a.r v1 v2
  o1 : w'.ownsRow (w.heap.size + 2) 3 1 v1 a.lo.length (a.lo.map numV)
  o2 : w'.ownsRow (w.heap.size + 2) 3 1 v2 a.st.length (a.st.map numV)
  ne : ∀ g, v1.ownBlock = some g → v2.ownBlock ≠ some g
structure InAt (w w' : World) (B place : Nat) (a : Ac) (v1 v2 : Value) (p : Pt) : Prop extends ToldAt w w' place a v1 v2 where
  box : w'.heap[B]? = some (.cells #[.int .i64 p.at_, .string p.lo, .string p.st] 155)
  b1 : v1.ownBlock ≠ some B
  b2 : v2.ownBlock ≠ some B
  hB : w.heap.size + 2 ≤ B
theorem owns_keep {w w' : World} {base e size n : Nat} {v : Value} {xs : List Value} (h : w.ownsRow base e size v n xs) (hk : ∀ g, v.ownBlock = some g → w'.heap[g]? = w.heap[g]?) : w'.ownsRow base e size v n xs := by
  refine ⟨h.1, ?_⟩
  rcases h.2 with h2 | ⟨g, cap, cur, hv, hg, hh, r⟩
  · exact .inl h2
  · exact .inr ⟨g, cap, cur, hv, hg, by rw [hk g (by rw [hv]; rfl)]; exact hh, r⟩
/-- Nothing that is asked has turned. -/
theorem ToldAt.same {w w1 w2 : World} {place : Nat} {a : Ac} {v1 v2 : Value} (h : ToldAt w w1 place a v1 v2) (hb : Below w1.heap.size w1 w2) : ToldAt w w2 place a v1 v2 := by
  have hz := h.below.size
  have ho : w.heap.size + 1 < w1.heap.size := (Array.getElem?_eq_some_iff.1 h.out).1
  exact ⟨h.below.trans (hb.mono hz), (hb.block _ (by omega)).trans h.res, (hb.block _ ho).trans h.out, owns_keep h.o1 (fun g hg => hb.block g (h.o1.lt g hg).2), owns_keep h.o2 (fun g hg => hb.block g (h.o2.lt g hg).2), h.ne⟩
theorem InAt.start {w w1 : World} {place : Nat} {a : Ac} {v1 v2 : Value} (h : ToldAt w w1 place a v1 v2) (p : Pt) : InAt w (w1.alloc (.cells #[.int .i64 p.at_, .string p.lo, .string p.st] 155)) w1.heap.size place a v1 v2 p := by
  have ho : w.heap.size + 1 < w1.heap.size := (Array.getElem?_eq_some_iff.1 h.out).1
  exact ⟨h.same ((Below.refl _ _).alloc (Nat.le_refl _) _), heap_alloc_new _ _, fun e => by have := (h.o1.lt _ e).2; omega, fun e => by have := (h.o2.lt _ e).2; omega, by omega⟩
theorem InAt.same {w w1 w2 : World} {B place : Nat} {a : Ac} {v1 v2 : Value} {p : Pt} (h : InAt w w1 B place a v1 v2 p) (hb : Below w1.heap.size w1 w2) : InAt w w2 B place a v1 v2 p :=
  ⟨h.toToldAt.same hb, (hb.block _ (Array.getElem?_eq_some_iff.1 h.box).1).trans h.box, h.b1, h.b2, h.hB⟩
theorem out_set {w : World} {b place j : Nat} {r : Bool} {v1 v2 u : Value} (h : OutAt w b place r v1 v2) : (w.setCell ⟨b, j, none⟩ u).heap[b]? = some (.cells ((#[.int .i64 place, .bool r, v1, v2] : Array Value).setIfInBounds j u) 102) := setCell_row j u h
/-- The locals have grown. -/
theorem InAt.push1 {w W w3 : World} {B place n c gg cap : Nat} {r : Bool} {x y : List Nat} {v1 v2 : Value} {p : Pt} (h : InAt w W B place ⟨r, x, y⟩ v1 v2 p) (hn : n = x.length)
    (hown : w3.ownsRow (w.heap.size + 2) 3 1 (.slice (some ⟨gg, 0, none⟩) (n + 1) cap) (n + 1) (x.map numV ++ [.int .i64 c])) (hgrow : W.grownBy w3 v1.ownBlock) (hat : v1.ownBlock = some gg ∨ gg = W.heap.size) :
    InAt w (w3.setCell ⟨w.heap.size + 1, 2, none⟩ (.slice (some ⟨gg, 0, none⟩) (n + 1) cap)) B place ⟨r, x ++ [c], y⟩ (.slice (some ⟨gg, 0, none⟩) (n + 1) cap) v2 p := by
  subst hn
  have ho : w.heap.size + 1 < W.heap.size := (Array.getElem?_eq_some_iff.1 h.out).1
  have hBz : B < W.heap.size := (Array.getElem?_eq_some_iff.1 h.box).1
  have far : ∀ k, k < W.heap.size → k < w.heap.size + 2 → some k ≠ v1.ownBlock := fun k _ hk e => by have := (h.o1.lt k e.symm).1; omega
  have hO3 : OutAt w3 (w.heap.size + 1) place r v1 v2 := (hgrow.block _ ho (far _ ho (by omega))).trans h.out
  have hset : ∀ k, k ≠ w.heap.size + 1 → (w3.setCell ⟨w.heap.size + 1, 2, none⟩ (.slice (some ⟨gg, 0, none⟩) (x.length + 1) cap)).heap[k]? = w3.heap[k]? := fun k hk => Below.heap_setCell _ _ _ _ hk
  have hgg : w.heap.size + 2 ≤ gg := (hown.lt gg rfl).1
  have hsz := hgrow.size
  refine ⟨⟨?_, ?_, ?_, ?_, ?_, ?_⟩, ?_, ?_, h.b2, h.hB⟩
  · refine (h.below.trans ⟨hgrow.os, hgrow.tape, hgrow.output, hgrow.size, fun k hk => hgrow.block k (by omega) (far k (by omega) (by omega))⟩).setCell (by simp) _
  · exact (hset _ (by omega)).trans ((hgrow.block _ (by omega) (far _ (by omega) (by omega))).trans h.res)
  · exact out_set hO3
  · rw [List.length_append, List.map_append]
    exact owns_keep hown (fun g hg => by
      have e : gg = g := by simpa [Value.ownBlock] using hg
      exact hset _ (by omega))
  · refine owns_keep h.o2 (fun g hg => ?_)
    have := h.o2.lt g hg
    rw [hset _ (by omega)]
    exact hgrow.block g this.2 (fun e => h.ne g e.symm hg)
  · intro g hg e
    have e2 : gg = g := by simpa [Value.ownBlock] using hg
    subst e2
    rcases hat with h1 | h1
    · exact h.ne _ h1 e
    · have := (h.o2.lt _ e).2; omega
  · rw [hset _ (by have := h.hB; omega)]
    exact (hgrow.block _ hBz (fun e => h.b1 e.symm)).trans h.box
  · intro e
    have e2 : gg = B := by simpa [Value.ownBlock] using e
    subst e2
    rcases hat with h1 | h1
    · exact h.b1 h1
    · omega
/-- The stack has grown. -/
theorem InAt.push2 {w W w3 : World} {B place n c gg cap : Nat} {r : Bool} {x y : List Nat} {v1 v2 : Value} {p : Pt} (h : InAt w W B place ⟨r, x, y⟩ v1 v2 p) (hn : n = y.length)
    (hown : w3.ownsRow (w.heap.size + 2) 3 1 (.slice (some ⟨gg, 0, none⟩) (n + 1) cap) (n + 1) (y.map numV ++ [.int .i64 c])) (hgrow : W.grownBy w3 v2.ownBlock) (hat : v2.ownBlock = some gg ∨ gg = W.heap.size) :
    InAt w (w3.setCell ⟨w.heap.size + 1, 3, none⟩ (.slice (some ⟨gg, 0, none⟩) (n + 1) cap)) B place ⟨r, x, y ++ [c]⟩ v1 (.slice (some ⟨gg, 0, none⟩) (n + 1) cap) p := by
  subst hn
  have ho : w.heap.size + 1 < W.heap.size := (Array.getElem?_eq_some_iff.1 h.out).1
  have hBz : B < W.heap.size := (Array.getElem?_eq_some_iff.1 h.box).1
  have far : ∀ k, k < W.heap.size → k < w.heap.size + 2 → some k ≠ v2.ownBlock := fun k _ hk e => by have := (h.o2.lt k e.symm).1; omega
  have hO3 : OutAt w3 (w.heap.size + 1) place r v1 v2 := (hgrow.block _ ho (far _ ho (by omega))).trans h.out
  have hset : ∀ k, k ≠ w.heap.size + 1 → (w3.setCell ⟨w.heap.size + 1, 3, none⟩ (.slice (some ⟨gg, 0, none⟩) (y.length + 1) cap)).heap[k]? = w3.heap[k]? := fun k hk => Below.heap_setCell _ _ _ _ hk
  have hgg : w.heap.size + 2 ≤ gg := (hown.lt gg rfl).1
  have hsz := hgrow.size
  refine ⟨⟨?_, ?_, ?_, ?_, ?_, ?_⟩, ?_, h.b1, ?_, h.hB⟩
  · refine (h.below.trans ⟨hgrow.os, hgrow.tape, hgrow.output, hgrow.size, fun k hk => hgrow.block k (by omega) (far k (by omega) (by omega))⟩).setCell (by simp) _
  · exact (hset _ (by omega)).trans ((hgrow.block _ (by omega) (far _ (by omega) (by omega))).trans h.res)
  · exact out_set hO3
  · refine owns_keep h.o1 (fun g hg => ?_)
    have := h.o1.lt g hg
    rw [hset _ (by omega)]
    exact hgrow.block g this.2 (fun e => h.ne g hg e.symm)
  · rw [List.length_append, List.map_append]
    exact owns_keep hown (fun g hg => by
      have e : gg = g := by simpa [Value.ownBlock] using hg
      exact hset _ (by omega))
  · intro g hg e
    have e2 : gg = g := by simpa [Value.ownBlock] using e
    subst e2
    rcases hat with h1 | h1
    · exact h.ne _ hg h1
    · have := (h.o1.lt _ hg).2; omega
  · rw [hset _ (by have := h.hB; omega)]
    exact (hgrow.block _ hBz (fun e => h.b2 e.symm)).trans h.box
  · intro e
    have e2 : gg = B := by simpa [Value.ownBlock] using e
    subst e2
    rcases hat with h1 | h1
    · exact h.b2 h1
    · omega
/-- The point is reached. -/
theorem InAt.mark {w W : World} {B place : Nat} {r : Bool} {x y : List Nat} {v1 v2 : Value} {p : Pt} (h : InAt w W B place ⟨r, x, y⟩ v1 v2 p) : InAt w (W.setCell ⟨w.heap.size + 1, 1, none⟩ (.bool true)) B place ⟨true, x, y⟩ v1 v2 p := by
  have hset : ∀ k, k ≠ w.heap.size + 1 → (W.setCell ⟨w.heap.size + 1, 1, none⟩ (.bool true)).heap[k]? = W.heap[k]? := fun k hk => Below.heap_setCell _ _ _ _ hk
  have hB := h.hB
  exact ⟨⟨h.below.setCell (by simp) _, (hset _ (by omega)).trans h.res, out_set h.out, owns_keep h.o1 (fun g hg => hset _ (by have := (h.o1.lt g hg).1; omega)), owns_keep h.o2 (fun g hg => hset _ (by have := (h.o2.lt g hg).1; omega)), h.ne⟩, (hset _ (by omega)).trans h.box, h.b1, h.b2, hB⟩
theorem owns_put {w : World} {base N n c : Nat} {g cap : Nat} {x : List Nat} (h : w.ownsRow base 3 1 (.slice (some ⟨g, 0, none⟩) N cap) N (x.map numV)) : (w.setCell ⟨g, n, none⟩ (numV c)).ownsRow base 3 1 (.slice (some ⟨g, 0, none⟩) N cap) N ((x.set n c).map numV) := by
  have h1 := h.1
  refine ⟨by simpa using h1, ?_⟩
  rcases h.2 with ⟨h2, _⟩ | ⟨g', cap', cur, hv, hg, hh, r1, r2, r3, r4⟩
  · cases h2
  · cases hv
    refine .inr ⟨g, cap, cur.setIfInBounds n (numV c), rfl, hg, setCell_row n _ hh, r1, r2, by simpa using r3, ?_⟩
    rw [Array.toList_setIfInBounds, List.take_set, r4, List.map_set]
/-- One of the locals becomes Mixed. -/
theorem InAt.mixed {w W : World} {B place n g cap : Nat} {r : Bool} {x y : List Nat} {N : Nat} {v2 : Value} {p : Pt} (h : InAt w W B place ⟨r, x, y⟩ (.slice (some ⟨g, 0, none⟩) N cap) v2 p) (c : Nat) :
    InAt w (W.setCell ⟨g, n, none⟩ (.int .i64 c)) B place ⟨r, x.set n c, y⟩ (.slice (some ⟨g, 0, none⟩) N cap) v2 p := by
  have hset : ∀ k, k ≠ g → (W.setCell ⟨g, n, none⟩ (.int .i64 c)).heap[k]? = W.heap[k]? := fun k hk => Below.heap_setCell _ _ _ _ hk
  have hg := h.o1.lt g rfl
  have hN : N = x.length := by
    obtain ⟨p1, c1, e1⟩ := owns_slice h.o1
    cases e1; rfl
  subst hN
  refine ⟨⟨h.below.setCell (by simp; omega) _, (hset _ (by omega)).trans h.res, (hset _ (by omega)).trans h.out, ?_, owns_keep h.o2 (fun g' hg' => hset _ (fun e => h.ne g rfl (by rw [← e]; exact hg'))), h.ne⟩, (hset _ (fun e => h.b1 (by rw [e]; rfl))).trans h.box, h.b1, h.b2, h.hB⟩
  rw [List.length_set]
  exact owns_put h.o1
structure CI where
  ins : Ins
  tg : Nat
def ciCells (l : List CI) : List Value := l.flatMap fun i => [.int .i64 i.ins.place, .int .i64 i.ins.op, .int .i64 i.ins.n, .int .i64 i.tg]
theorem ciCells_snoc (l : List CI) (i : CI) : ciCells (l ++ [i]) = ciCells l ++ [.int .i64 i.ins.place, .int .i64 i.ins.op, .int .i64 i.ins.n, .int .i64 i.tg] := by simp [ciCells]
theorem ciCells_at (l : List CI) (k : Nat) (h : k < l.length) : (ciCells l)[k * 4]? = some (.int .i64 l[k].ins.place) ∧ (ciCells l)[k * 4 + 1]? = some (.int .i64 l[k].ins.op) ∧ (ciCells l)[k * 4 + 2]? = some (.int .i64 l[k].ins.n) ∧ (ciCells l)[k * 4 + 3]? = some (.int .i64 l[k].tg) := by
  induction l generalizing k with
  | nil => simp at h
  | cons a r ih =>
    cases k with
    | zero => simp [ciCells]
    | succ k =>
      have := ih k (by simpa using h)
      have e0 : (k + 1) * 4 = k * 4 + 4 := by omega
      have e1 : (k + 1) * 4 + 1 = k * 4 + 1 + 4 := by omega
      have e2 : (k + 1) * 4 + 2 = k * 4 + 2 + 4 := by omega
      have e3 : (k + 1) * 4 + 3 = k * 4 + 3 + 4 := by omega
      have hc : ∀ j, (ciCells (a :: r))[j + 4]? = (ciCells r)[j]? := fun j => by simp [ciCells]
      rw [e3, e2, e1, e0, hc, hc, hc, hc]
      simpa using this
def CiAt (w : World) (g : Nat) (l : List CI) : Prop :=
  ∀ (i : Nat) (c : CI), l[i]? = some c → w.cell? ⟨g, i * 4, none⟩ = some (.int .i64 c.ins.place) ∧ w.cell? ⟨g, i * 4 + 1, none⟩ = some (.int .i64 c.ins.op) ∧ w.cell? ⟨g, i * 4 + 2, none⟩ = some (.int .i64 c.ins.n) ∧ w.cell? ⟨g, i * 4 + 3, none⟩ = some (.int .i64 c.tg)
theorem CiAt.below {w w' : World} {g B : Nat} {l : List CI} (h : CiAt w g l) (hb : Below B w w') (hg : g < B) : CiAt w' g l := by
  intro i c hi
  obtain ⟨h0, h1, h2, h3⟩ := h i c hi
  exact ⟨(hb.cell (p := ⟨g, i * 4, none⟩) hg).trans h0, (hb.cell (p := ⟨g, i * 4 + 1, none⟩) hg).trans h1, (hb.cell (p := ⟨g, i * 4 + 2, none⟩) hg).trans h2, (hb.cell (p := ⟨g, i * 4 + 3, none⟩) hg).trans h3⟩
theorem CiAt.of_owns {w : World} {base e g n cap : Nat} {l : List CI} (h : w.ownsRow base e 4 (.slice (some ⟨g, 0, none⟩) n cap) l.length (ciCells l)) : CiAt w g l := by
  intro i c hi
  obtain ⟨hl, rfl⟩ := List.getElem?_eq_some_iff.1 hi
  have hc := h.cells (g := g) rfl
  obtain ⟨a0, a1, a2, a3⟩ := ciCells_at l i hl
  have h0 := hc _ _ a0
  have h1 := hc _ _ a1
  have h2 := hc _ _ a2
  have h3 := hc _ _ a3
  rw [addr_add] at h0 h1 h2 h3
  exact ⟨h0, h1, h2, h3⟩
theorem CiAt.same {w w' : World} {g : Nat} {l : List CI} (h : CiAt w g l) (hb : w'.heap[g]? = w.heap[g]?) : CiAt w' g l := by
  have hc : ∀ o, w'.cell? ⟨g, o, none⟩ = w.cell? ⟨g, o, none⟩ := fun o => World.cell?_of_block (a := ⟨g, o, none⟩) hb
  intro i c hi
  obtain ⟨h0, h1, h2, h3⟩ := h i c hi
  exact ⟨(hc _).trans h0, (hc _).trans h1, (hc _).trans h2, (hc _).trans h3⟩
def plain (i : Ins) : CI := ⟨i, 0⟩
def plains (l : List Ins) : List CI := l.map plain
theorem plains_len (l : List Ins) : (plains l).length = l.length := by simp [plains]
theorem plains_snoc (l : List Ins) (i : Ins) : plains (l ++ [i]) = plains l ++ [⟨i, 0⟩] := by simp [plains, plain]
/-- The index that a jump aims at. -/
def aimOf (l : List Ins) (i : Ins) : Nat := if isJump i.op = true then (findP i.n l 0).toNat else 0
def aims (l : List Ins) : List CI := l.map fun i => ⟨i, aimOf l i⟩
theorem aims_len (l : List Ins) : (aims l).length = l.length := by simp [aims]
theorem shaped_any (s : ByteArray) (w : World) (hs : s.size ≤ maxLen) :
    Calls Tryz.prog 107 #[.string s] w fun e w' => e = .returned (.bool (shapedP s)) ∧ w' = w := by
  unfold maxLen at hs
  generalize hS : shapedP s = S
  have HS := hid hS
  clear hS
  have b0 := byteAt_lt s 0
  have b1 := byteAt_lt s 1
  by_cases h3 : s.size < 3
  · have HF : Hid (S = false) := hid (by rw [← HS.out]; simp [shapedP]; omega)
    go_enter Tryz.func107, Tryz.ntmps107
    go_wp2
    go_ret
    exact ⟨ret_bool HF.out.symm, rfl⟩
  by_cases h4 : 122 < s.size
  · have HF : Hid (S = false) := hid (by rw [← HS.out]; simp [shapedP]; omega)
    go_enter Tryz.func107, Tryz.ntmps107
    go_wp2
    go_ret
    exact ⟨ret_bool HF.out.symm, rfl⟩
  have e0 := byteAt_eq s 0 (by omega)
  have e1 := byteAt_eq s 1 (by omega)
  have d1 : decide ((s.size : Int) ≤ 2) = false := by simp; omega
  have d2 : decide (122 < (s.size : Int)) = false := by simp; omega
  by_cases h5 : byteAt s 0 = 84
  · have h5' : (((byteAt s 0 : Nat) : Int) == 84) = true := by simp; omega
    have HF : Hid (S = decide ((byteAt s 1 : Int) ≤ 4)) := hid (by
      rw [← HS.out, Bool.eq_iff_iff]; simp [shapedP, h5]; omega)
    clear h5
    go_enter Tryz.func107, Tryz.ntmps107
    go_wp2
    go_ret
    exact ⟨ret_bool HF.out.symm, rfl⟩
  · have h5' : (((byteAt s 0 : Nat) : Int) == 84) = false := by simp; omega
    have HF : Hid (S = false) := hid (by rw [← HS.out]; simp [shapedP, h5])
    clear h5
    go_enter Tryz.func107, Tryz.ntmps107
    go_wp2
    go_ret
    exact ⟨ret_bool HF.out.symm, rfl⟩
theorem hasOperand_any (k : Nat) (w : World) :
    Calls Tryz.prog 131 #[.int .i64 k] w fun e w' => e = .returned (.bool (takesB k)) ∧ w' = w := by
  generalize hS : takesB k = S
  have HS := hid hS
  clear hS
  go_enter Tryz.func131, Tryz.ntmps131
  go_wp2
  all_goals go_ret
  all_goals simp only [beq_iff_eq, beq_eq_false_iff_ne, ne_eq] at *
  all_goals exact ⟨ret_bool (by rw [← HS.out]; simp [takesB]; omega), by first | rfl | trivial⟩
theorem operandFits_any (pl tg x : Int) (op n locals : Nat) (w : World) (hx : x = (n : Int)) :
    Calls Tryz.prog 132 #[.agg #[.int .i64 pl, .int .i64 op, .int .i64 x, .int .i64 tg], .int .i64 locals] w fun e w' => e = .returned (.bool (!badN op n locals)) ∧ Below w.heap.size w w' := by
  subst hx
  generalize hS : badN op n locals = S
  have HS := hid hS
  clear hS
  by_cases h1 : op = 7 ∨ op = 8
  · have HF : Hid ((!S) = decide (n < locals)) := hid (by
      rw [← HS.out, Bool.eq_iff_iff]; simp [badN]; omega)
    go_enter Tryz.func132, Tryz.ntmps132
    go_wp2
    all_goals go_ret
    all_goals exact ⟨ret_bool (by rw [HF.out]), (Below.refl _ _).alloc (Nat.le_refl _) _⟩
  by_cases h2 : op = 14 ∨ op = 15
  · have HF : Hid ((!S) = decide ((n : Int) ≤ 1)) := hid (by
      rw [← HS.out, Bool.eq_iff_iff]; simp [badN]; omega)
    go_enter Tryz.func132, Tryz.ntmps132
    go_wp2
    all_goals go_ret
    all_goals exact ⟨ret_bool (by rw [HF.out]), (Below.refl _ _).alloc (Nat.le_refl _) _⟩
  · have HF : Hid ((!S) = true) := hid (by rw [← HS.out]; simp [badN]; omega)
    go_enter Tryz.func132, Tryz.ntmps132
    go_wp2
    all_goals go_ret
    all_goals exact ⟨ret_bool (by rw [HF.out]), (Below.refl _ _).alloc (Nat.le_refl _) _⟩
theorem Tryz.infoCI : (Tryz.prog.info? 128).map (fun i => (i.zero, i.size, i.bytes)) = some (some (.agg #[.int .i64 0, .int .i64 0, .int .i64 0, .int .i64 0]), 4, 32) := by kernel_rfl
theorem instr_below {wr w2 : World} {o : Obj} (hb : Below (wr.alloc o).heap.size (wr.alloc o) w2) : Below (wr.heap.size + 1) (wr.alloc o) w2 := hb.mono (by simp)
def InstrPost (t : ByteArray) (L : Nat) (w : World) (e : Ending) (w' : World) : Prop :=
  Below w.heap.size w w' ∧ ((dec t L 0 = none ∧ e = .returned (.tuple #[.slice none 0 0, .bool false])) ∨
    (∃ ls g cap, dec t L 0 = some ls ∧ 0 < ls.length ∧ ls.length ≤ t.size ∧ e = .returned (.tuple #[.slice (some ⟨g, 0, none⟩) ls.length cap, .bool true]) ∧ w.heap.size ≤ g ∧ g < w'.heap.size ∧ CiAt w' g (plains ls)))
theorem instructions_any (t : ByteArray) (L : Nat) (w : World) (ht1 : 1 ≤ t.size) (ht2 : t.size ≤ 120) :
    Calls Tryz.prog 108 #[.string t, .int .i64 L] w (InstrPost t L w) := by
  obtain ⟨i0, hi0, hz0, hz1, hz2⟩ := info_parts Tryz.infoCI
  go_enter Tryz.func108, Tryz.ntmps108
  go_wp2_with fail
  go_loopw [6, 7] (fun l p w' => ∃ (pn : Nat) (ls : List Ins), pn ≤ t.size ∧ p = .int .i64 pn ∧ w'.ownsRow w.heap.size 128 4 l ls.length (ciCells (plains ls)) ∧ Below w.heap.size w w' ∧ dec t L 0 = (dec t L pn).map (ls ++ ·) ∧ ls.length ≤ pn) (fun _ p _ => t.size - (intOf p).toNat)
  case atStart => exact ⟨0, [], by omega, rfl, World.ownsRow_nil _ _ _ _, Below.refl _ _, by simp, by simp⟩
  case round =>
    obtain ⟨pn, ls, hpn, rfl, hown, hbel, hdec, hlen⟩ := hrel
    have HDEC := hid hdec
    clear hdec
    have hsize := hbel.size
    by_cases hlt : pn < t.size
    · have c0 := byteAt_eq t pn hlt
      have c1 := byteAt_lt t pn
      have HBQ : Hid (behindP t pn L = behindQ (byteAt t pn) t.size pn (byteAt t (pn + 1)) L) := hid rfl
      have d1 := byteAt_lt t (pn + 1)
      have d0 := byteAt_eq t (pn + 1)
      have HNO := hid (dec_none t L pn hlt)
      have HYES := hid (dec_some t L pn hlt)
      generalize byteAt t pn = c at *
      generalize byteAt t (pn + 1) = n at *
      generalize behindP t pn L = Q at *
      by_cases h24 : 24 < c
      · have HF : Hid (dec t L pn = none) := hid (HNO.out (by rw [HBQ.out]; simp [behindQ, h24]))
        clear d0
        go_wp2_with fail
        go_ret2
        exact ⟨hbel, .inl ⟨by rw [HDEC.out, HF.out]; rfl, rfl⟩⟩
      cases htk : takesB c
      · have HF : Hid (dec t L pn = (dec t L (pn + 1)).map (⟨c, 0, pn⟩ :: ·)) := hid (by
          have e : Q = (pn + 1, 0) := by rw [HBQ.out]; simp [behindQ, h24, htk]
          have := HYES.out (by rw [e]; simp)
          rw [e] at this
          exact this)
        have hbad : badN c 0 L = false := by
          have hne : ∀ k, takesB k = true → c ≠ k := fun k hk e => by rw [e, hk] at htk; cases htk
          have a1 := hne 7 rfl
          have a2 := hne 8 rfl
          have a3 := hne 14 rfl
          have a4 := hne 15 rfl
          simp [badN, a1, a2]
        have HBAD := hid hbad
        have HTK := hid htk
        clear hbad htk d0
        go_wp2_with fail
        refine (hasOperand_any c _).mono ?_
        intro e w9 hh
        obtain ⟨he9, hw9⟩ := hh
        rw [HTK.out] at he9
        subst e
        subst w9
        go_wp2_with fail
        refine (operandFits_any _ _ _ c 0 L _ rfl).mono ?_
        intro e w2 hh
        obtain ⟨he2, hb2⟩ := hh
        rw [HBAD.out] at he2
        subst e
        have hb3 := instr_below hb2
        obtain ⟨bx, bo, hz⟩ := box_cells hb3
        have x0 := bx 0
        have x1 := bx 1
        have x2 := bx 2
        have x3 := bx 3
        simp only [List.getElem?_toArray, List.getElem?_cons_zero, List.getElem?_cons_succ] at x0 x1 x2 x3
        have hb4 : Below wr.heap.size wr w2 := box_below (Nat.le_refl _) hb3
        have hown2 := owns_below hown hb4 (fun g' hg' => (hown.lt g' hg').2)
        have hbel2 : Below w.heap.size w w2 := hbel.trans (hb4.mono hsize)
        clear bx bo hb2
        go_wp2_with (at_builtin; go_must (refine wpList_append_lies _ (by rfl) _ _ _ (by rfl) w.heap.size 128 i0 _ 4 32 Tryz.underlying62 hi0 hz0 hz1 hz2 rfl (by omega) _ ls.length (ciCells (plains ls)) (by rfl) (hown2.alloc _) ⟨_, 0, none⟩ 1 1 [.int .i64 pn, .int .i64 c, .int .i64 0, .int .i64 0] (by rfl) (by rfl) (World.news_of_block (cs := #[.int .i64 pn, .int .i64 c, .int .i64 0, .int .i64 0]) (t := 128) (fr := (0, 0)) (heap_alloc_new _ _)) (by simp [Value.oneCell']) (by omega) (by unfold maxLen; omega) (by omega) (by simp; omega) _ rfl ?_); intro gg cap w3 hown3 hgrow hat hlt2)
        refine ⟨⟨pn + 1, ls ++ [⟨c, 0, pn⟩], by omega, by go_num, by rw [plains_snoc, ciCells_snoc, List.length_append]; exact hown3, (hbel2.alloc (by omega) _).grown hgrow (by simp; omega) (fun k hk => (hown.lt k hk).1), ?_, by simp; omega⟩, by simp [intOf]; omega⟩
        rw [HDEC.out, HF.out]
        cases dec t L (pn + 1) <;> simp
      by_cases hsz : t.size ≤ pn + 1
      · have HF : Hid (dec t L pn = none) := hid (HNO.out (by rw [HBQ.out]; simp [behindQ, h24, htk, hsz]))
        have HTK := hid htk
        clear htk d0
        go_wp2_with fail
        refine (hasOperand_any c _).mono ?_
        intro e w9 hh
        obtain ⟨he9, hw9⟩ := hh
        rw [HTK.out] at he9
        subst e
        subst w9
        go_wp2_with fail
        go_ret2
        exact ⟨hbel.alloc hsize _, .inl ⟨by rw [HDEC.out, HF.out]; rfl, rfl⟩⟩
      have d2 := d0 (by omega)
      clear d0
      cases hbd : badN c n L
      · have HF : Hid (dec t L pn = (dec t L (pn + 2)).map (⟨c, n, pn⟩ :: ·)) := hid (by
          have e : Q = (pn + 2, n) := by rw [HBQ.out]; simp [behindQ, h24, htk, hsz, hbd]
          have := HYES.out (by rw [e]; simp)
          rw [e] at this
          exact this)
        have HBAD := hid hbd
        have HTK := hid htk
        clear hbd htk
        go_wp2_with fail
        refine (hasOperand_any c _).mono ?_
        intro e w9 hh
        obtain ⟨he9, hw9⟩ := hh
        rw [HTK.out] at he9
        subst e
        subst w9
        go_wp2_with fail
        refine (operandFits_any _ _ _ c n L _ rfl).mono ?_
        intro e w2 hh
        obtain ⟨he2, hb2⟩ := hh
        rw [HBAD.out] at he2
        subst e
        have hb3 := instr_below hb2
        obtain ⟨bx, bo, hz⟩ := box_cells hb3
        have x0 := bx 0
        have x1 := bx 1
        have x2 := bx 2
        have x3 := bx 3
        simp only [List.getElem?_toArray, List.getElem?_cons_zero, List.getElem?_cons_succ] at x0 x1 x2 x3
        have hb4 : Below wr.heap.size wr w2 := box_below (Nat.le_refl _) hb3
        have hown2 := owns_below hown hb4 (fun g' hg' => (hown.lt g' hg').2)
        have hbel2 : Below w.heap.size w w2 := hbel.trans (hb4.mono hsize)
        clear bx bo hb2
        go_wp2_with (at_builtin; go_must (refine wpList_append_lies _ (by rfl) _ _ _ (by rfl) w.heap.size 128 i0 _ 4 32 Tryz.underlying62 hi0 hz0 hz1 hz2 rfl (by omega) _ ls.length (ciCells (plains ls)) (by rfl) (hown2.alloc _) ⟨_, 0, none⟩ 1 1 [.int .i64 pn, .int .i64 c, .int .i64 n, .int .i64 0] (by rfl) (by rfl) (World.news_of_block (cs := #[.int .i64 pn, .int .i64 c, .int .i64 n, .int .i64 0]) (t := 128) (fr := (0, 0)) (heap_alloc_new _ _)) (by simp [Value.oneCell']) (by omega) (by unfold maxLen; omega) (by omega) (by simp; omega) _ rfl ?_); intro gg cap w3 hown3 hgrow hat hlt2)
        refine ⟨⟨pn + 2, ls ++ [⟨c, n, pn⟩], by omega, by go_num, by rw [plains_snoc, ciCells_snoc, List.length_append]; exact hown3, (hbel2.alloc (by omega) _).grown hgrow (by simp; omega) (fun k hk => (hown.lt k hk).1), ?_, by simp; omega⟩, by simp [intOf]; omega⟩
        rw [HDEC.out, HF.out]
        cases dec t L (pn + 2) <;> simp
      · have HF : Hid (dec t L pn = none) := hid (HNO.out (by rw [HBQ.out]; simp [behindQ, h24, htk, hsz, hbd]))
        have HBAD := hid hbd
        have HTK := hid htk
        clear hbd htk
        go_wp2_with fail
        refine (hasOperand_any c _).mono ?_
        intro e w9 hh
        obtain ⟨he9, hw9⟩ := hh
        rw [HTK.out] at he9
        subst e
        subst w9
        go_wp2_with fail
        refine (operandFits_any _ _ _ c n L _ rfl).mono ?_
        intro e w2 hh
        obtain ⟨he2, hb2⟩ := hh
        rw [HBAD.out] at he2
        subst e
        have hb4 : Below wr.heap.size wr w2 := box_below (Nat.le_refl _) (instr_below hb2)
        have hbel2 : Below w.heap.size w w2 := hbel.trans (hb4.mono hsize)
        go_wp2_with fail
        go_ret2
        exact ⟨hbel2, .inl ⟨by rw [HDEC.out, HF.out]; rfl, rfl⟩⟩
    · have HD := hid (dec_end t L pn (by omega))
      have hne : 0 < ls.length := by
        rcases Nat.eq_zero_or_pos ls.length with h | h
        · exfalso
          have h' := HDEC.out
          rw [HD.out, List.length_eq_zero_iff.1 h] at h'
          by_cases hq : (behindP t 0 L).1 = 0
          · rw [dec_none t L 0 (by omega) hq] at h'; cases h'
          · rw [dec_some t L 0 (by omega) hq] at h'
            cases hx : dec t L (behindP t 0 L).1 with
            | none => rw [hx] at h'; cases h'
            | some r => rw [hx] at h'; cases h'
        · exact h
      have HDEC2 : Hid (dec t L 0 = some ls) := hid (by rw [HDEC.out, HD.out]; simp)
      clear HDEC HD
      obtain ⟨g, cap, rfl, hg1, hg2⟩ := hown.form hne
      have hat := CiAt.of_owns (l := plains ls) (by rw [plains_len]; exact hown)
      go_wp2_with fail
      go_ret2
      exact ⟨hbel, .inr ⟨ls, g, cap, HDEC2.out, hne, by omega, rfl, hg1, hg2, hat⟩⟩
/-- v is a list of n elements with these cells, in a block of which P holds. -/
def LsAt (w : World) (P : Nat → Prop) (v : Value) (n : Nat) (cs : List Value) : Prop :=
  (v = .slice none 0 0 ∧ n = 0) ∨ ∃ g cap, v = .slice (some ⟨g, 0, none⟩) n cap ∧ P g ∧ ∀ (j : Nat) (u : Value), cs[j]? = some u → w.cell? ⟨g, j, none⟩ = some u
theorem LsAt.slice {w : World} {P : Nat → Prop} {v : Value} {n : Nat} {cs : List Value} (h : LsAt w P v n cs) : ∃ p cap, v = .slice p n cap := by
  rcases h with ⟨h1, h2⟩ | ⟨g, cap, hv, _⟩
  · exact ⟨none, 0, by rw [h1, h2]⟩
  · exact ⟨_, cap, hv⟩
theorem LsAt.some {w : World} {P : Nat → Prop} {v : Value} {n : Nat} {cs : List Value} (h : LsAt w P v n cs) (hn : 0 < n) : ∃ g cap, v = .slice (some ⟨g, 0, none⟩) n cap ∧ P g ∧ ∀ (j : Nat) (u : Value), cs[j]? = some u → w.cell? ⟨g, j, none⟩ = some u := by
  rcases h with ⟨_, h2⟩ | h
  · omega
  · exact h
theorem LsAt.keep {w w' : World} {P P' : Nat → Prop} {v : Value} {n : Nat} {cs : List Value} (h : LsAt w P v n cs) (hP : ∀ g, P g → P' g ∧ w'.heap[g]? = w.heap[g]?) : LsAt w' P' v n cs := by
  rcases h with h | ⟨g, cap, hv, hg, hc⟩
  · exact .inl h
  · exact .inr ⟨g, cap, hv, (hP g hg).1, fun j u hj => (World.cell?_of_block (a := ⟨g, j, none⟩) (hP g hg).2).trans (hc j u hj)⟩
theorem LsAt.of_owns {w : World} {base e size n : Nat} {v : Value} {cs : List Value} (h : w.ownsRow base e size v n cs) : LsAt w (fun g => base ≤ g ∧ g < w.heap.size) v n cs := by
  have hh := h
  rcases h.2 with h1 | ⟨g, cap, cur, hv, hg, r⟩
  · exact .inl h1
  · subst hv
    refine .inr ⟨g, cap, rfl, ⟨hg, (Array.getElem?_eq_some_iff.1 r.1).1⟩, fun j u hj => ?_⟩
    have := hh.cells (g := g) rfl j u hj
    rw [addr_add] at this
    exact this
/-- A cell of the reference's heap. -/
structure RC where
  used : Bool
  reached : Bool
  looked : Bool
  weak : Bool
  a : Int
  b : Int
  num : Int
/-- A cell, as it is told. -/
structure Cl where
  col : Nat
  weak : Bool
  a : Int
  b : Int
  num : Int
def rcCells (c : RC) : List Value := [.bool c.used, .bool c.reached, .bool c.looked, .bool c.weak, .int .i64 c.a, .int .i64 c.b, .int .i64 c.num]
def clCells (c : Cl) : List Value := [.int .i64 c.col, .bool c.weak, .int .i64 c.a, .int .i64 c.b, .int .i64 c.num]
def colR (c : RC) : Nat := if c.used = false then 0 else if c.looked = true then 3 else if c.reached = true then 2 else 1
def toldC (c : RC) : Cl := ⟨colR c, c.weak, c.a, c.b, c.num⟩
theorem flat_at {α : Type} (f : α → List Value) (m : Nat) (hf : ∀ x, (f x).length = m) : ∀ (l : List α) (k j : Nat) (h : k < l.length), j < m → (l.flatMap f)[k * m + j]? = (f l[k])[j]? := by
  intro l
  induction l with
  | nil => intro k j h; simp at h
  | cons a r ih =>
    intro k j h hj
    have h1 := hf a
    rw [List.flatMap_cons]
    cases k with
    | zero => rw [Nat.zero_mul, Nat.zero_add, List.getElem?_append_left (by omega)]; rfl
    | succ k =>
      rw [List.getElem?_append_right (by rw [h1, Nat.add_mul]; omega), h1, show (k + 1) * m + j - m = k * m + j by rw [Nat.add_mul]; omega]
      exact ih k j (by simpa using h) hj
theorem colour_any (c : RC) (w : World) : Calls Tryz.prog 75 #[.agg (rcCells c).toArray] w fun e w' => e = .returned (.int .i64 (colR c : Nat)) ∧ Below w.heap.size w w' := by
  obtain ⟨u, r, k, wk, a, b, n⟩ := c
  simp only [rcCells]
  have hb : Below w.heap.size w (w.alloc (.cells #[.bool u, .bool r, .bool k, .bool wk, .int .i64 a, .int .i64 b, .int .i64 n] 109)) := (Below.refl _ _).alloc (Nat.le_refl _) _
  have HB := hid hb
  clear hb
  cases u <;> cases k <;> cases r <;>
    (go_enter Tryz.func75, Tryz.ntmps75
     go_wp2_with fail
     go_ret
     exact ⟨rfl, HB.out⟩)
theorem cellInfo : (Tryz.prog.info? 100).map (fun i => (i.zero, i.size, i.bytes)) = some (some (.agg #[.int .i64 0, .bool false, .int .i64 0, .int .i64 0, .int .i64 0]), 5, 40) := by kernel_rfl
theorem cellsTold_any (b o : Nat) (cs : List RC) (P : Nat → Prop) (v : Value) (w : World) (hv : w.cell? ⟨b, o, none⟩ = some v) (hls : LsAt w P v cs.length (cs.flatMap rcCells)) (hl : cs.length ≤ 1000) :
    Calls Tryz.prog 106 #[.pointer (some ⟨b, o, none⟩)] w fun e w' => Below w.heap.size w w' ∧ ∃ v', e = .returned v' ∧ w'.ownsRow w.heap.size 100 5 v' cs.length ((cs.map toldC).flatMap clCells) := by
  obtain ⟨i0, hi0, hz0, hz1, hz2⟩ := info_parts cellInfo
  have hbz := World.block_lt_of_cell? w _ hv
  simp only at hbz
  obtain ⟨p0, q0, e0⟩ := hls.slice
  subst e0
  have HLS := hid hls
  clear hls
  go_enter Tryz.func106, Tryz.ntmps106
  go_wp2_with fail
  go_loopg [3, 4] cs.length (fun g l x w' => ∃ k : Nat, k ≤ cs.length ∧ g = cs.length - k ∧ x = .int .i64 k ∧ w'.ownsRow w.heap.size 100 5 l k (((cs.take k).map toldC).flatMap clCells) ∧ Below w.heap.size w w')
  case atStart => exact ⟨0, by omega, by omega, rfl, World.ownsRow_nil _ _ _ _, Below.refl _ _⟩
  case round =>
    obtain ⟨k, hk, hg, rfl, hown, hbel⟩ := hrel
    have hz := hbel.size
    have hv' := (hbel.cell (p := ⟨b, o, none⟩) hbz).trans hv
    have HB := hid hbel
    clear hbel
    rcases Nat.lt_or_ge k cs.length with hlt | hge
    · have d1 : (k : Int) < (cs.length : Int) := by omega
      have d0 : (0 : Int) ≤ (k : Int) := by omega
      obtain ⟨g, cap, eg, _, hc⟩ := HLS.out.some (by omega)
      cases eg
      have hgz : g < w.heap.size := World.block_lt_of_cell? w _ (hc 0 _ (by
        have := flat_at rcCells 7 (fun _ => rfl) cs 0 0 (by omega) (by omega)
        simpa [rcCells] using this))
      have hcell : ∀ j, j < 7 → ∀ u, (rcCells cs[k])[j]? = some u → wr.cell? ⟨g, k * 7 + j, none⟩ = some u := fun j hj u hu => by
        rw [HB.out.cell (p := ⟨g, k * 7 + j, none⟩) hgz]
        exact hc _ _ ((flat_at rcCells 7 (fun _ => rfl) cs k j hlt hj).trans hu)
      have c0 := hcell 0 (by omega) _ rfl
      have c1 := hcell 1 (by omega) _ rfl
      have c2 := hcell 2 (by omega) _ rfl
      have c3 := hcell 3 (by omega) _ rfl
      have c4 := hcell 4 (by omega) _ rfl
      have c5 := hcell 5 (by omega) _ rfl
      have c6 := hcell 6 (by omega) _ rfl
      rw [Nat.add_zero] at c0
      have HNX : Hid ((((cs.take (k + 1)).map toldC).flatMap clCells) = ((cs.take k).map toldC).flatMap clCells ++ clCells (toldC cs[k])) := hid (by
        rw [List.take_succ_eq_append_getElem hlt, List.map_append, List.flatMap_append]
        rfl)
      have hcol := hid (fun W => colour_any cs[k] W)
      clear hc hcell
      generalize cs[k] = c at *
      obtain ⟨u, r, lk, wk, a, b', n⟩ := c
      simp only [rcCells] at hcol
      generalize hco : colR ⟨u, r, lk, wk, a, b', n⟩ = co at *
      have HCO := hid hco
      clear hco
      go_wp2_with fail
      refine (hcol.out _).mono ?_
      clear hcol
      intro x w5 hh
      obtain ⟨hx, hb5⟩ := hh
      subst x
      have hb6 := instr_below hb5
      obtain ⟨bx, bo, hz5⟩ := box_cells hb6
      have x3 := bx 3
      have x4 := bx 4
      have x5 := bx 5
      have x6 := bx 6
      simp only [List.getElem?_toArray, List.getElem?_cons_zero, List.getElem?_cons_succ] at x3 x4 x5 x6
      have hb7 : Below wr.heap.size wr w5 := box_below (Nat.le_refl _) hb6
      have hown5 := owns_keep hown (fun g' hg' => hb7.block g' (hown.lt g' hg').2)
      have HB7 := hid hb7
      clear bx bo hb5 hb6 hb7
      go_wp2_with (at_builtin; go_must (refine wpList_append_lies _ (by rfl) _ _ _ (by rfl) w.heap.size 100 i0 _ 5 40 Tryz.underlying70 hi0 hz0 hz1 hz2 rfl (by omega) _ k (((cs.take k).map toldC).flatMap clCells) (by rfl) (hown5.alloc _) ⟨_, 0, none⟩ 1 1 [.int .i64 co, .bool wk, .int .i64 a, .int .i64 b', .int .i64 n] (by rfl) (by rfl) (World.news_of_block (cs := #[.int .i64 co, .bool wk, .int .i64 a, .int .i64 b', .int .i64 n]) (t := 100) (fr := (0, 0)) (heap_alloc_new _ _)) (by simp [Value.oneCell']) (by omega) (by unfold maxLen; omega) (by omega) (by simp; omega) _ rfl ?_); intro gg gcap w6 hown6 hgrow6 hat6 hlt6)
      go_roundg (cs.length - (k + 1))
      case measure => omega
      case rel =>
        refine ⟨k + 1, by omega, rfl, by go_num, ?_, ?_⟩
        · rw [HNX.out]
          simp only [toldC, clCells, HCO.out]
          exact hown6
        · exact ((HB.out.trans (HB7.out.mono hz)).alloc (by omega) _).grown hgrow6 (by simp; omega) (fun j hj => (hown.lt j hj).1)
    · have d1 : ¬ (k : Int) < (cs.length : Int) := by omega
      have hkl : k = cs.length := by omega
      go_wp2_with fail
      go_ret
      refine ⟨HB.out, _, rfl, ?_⟩
      rw [hkl, List.take_length] at hown
      exact hown
/-- The cells of a list of points, their own lists in blocks of which P holds. -/
def PtsIn (w : World) (P : Nat → Prop) : List Value → List MP → Prop
  | [], [] => True
  | a :: b :: c :: d :: r, m :: ms => a = .int .i64 m.place ∧ b = .bool m.reached ∧ IntsAt w P c m.lo ∧ IntsAt w P d m.st ∧ PtsIn w P r ms
  | _, _ => False
theorem PtsIn.keep {w w' : World} {P P' : Nat → Prop} (hP : ∀ g, P g → P' g ∧ w'.heap[g]? = w.heap[g]?) : ∀ (cs : List Value) (ms : List MP), PtsIn w P cs ms → PtsIn w' P' cs ms
  | [], [], _ => trivial
  | _ :: _ :: _ :: _ :: r, _ :: ms, ⟨h1, h2, h3, h4, h5⟩ => ⟨h1, h2, h3.keep hP, h4.keep hP, PtsIn.keep hP r ms h5⟩
  | [], _ :: _, h => h.elim
  | [_], [], h => h.elim
  | [_], _ :: _, h => h.elim
  | [_, _], [], h => h.elim
  | [_, _], _ :: _, h => h.elim
  | [_, _, _], [], h => h.elim
  | [_, _, _], _ :: _, h => h.elim
  | _ :: _ :: _ :: _ :: _, [], h => h.elim
theorem PtsIn.snoc {w : World} {P : Nat → Prop} {m : MP} {v1 v2 : Value} (h1 : IntsAt w P v1 m.lo) (h2 : IntsAt w P v2 m.st) : ∀ (cs : List Value) (ms : List MP), PtsIn w P cs ms → PtsIn w P (cs ++ [.int .i64 m.place, .bool m.reached, v1, v2]) (ms ++ [m])
  | [], [], _ => ⟨rfl, rfl, h1, h2, trivial⟩
  | _ :: _ :: _ :: _ :: r, _ :: ms, ⟨a1, a2, a3, a4, a5⟩ => ⟨a1, a2, a3, a4, PtsIn.snoc h1 h2 r ms a5⟩
  | [], _ :: _, h => h.elim
  | [_], [], h => h.elim
  | [_], _ :: _, h => h.elim
  | [_, _], [], h => h.elim
  | [_, _], _ :: _, h => h.elim
  | [_, _, _], [], h => h.elim
  | [_, _, _], _ :: _, h => h.elim
  | _ :: _ :: _ :: _ :: _, [], h => h.elim
theorem PtsIn.at {w : World} {P : Nat → Prop} : ∀ (cs : List Value) (ms : List MP), PtsIn w P cs ms → ∀ (k : Nat) (m : MP), ms[k]? = some m →
    cs[k * 4]? = some (.int .i64 m.place) ∧ cs[k * 4 + 1]? = some (.bool m.reached) ∧ ∃ v1 v2, cs[k * 4 + 2]? = some v1 ∧ cs[k * 4 + 3]? = some v2 ∧ IntsAt w P v1 m.lo ∧ IntsAt w P v2 m.st
  | [], [], _, k, m, h => by simp at h
  | a :: b :: c :: d :: r, m0 :: ms, ⟨a1, a2, a3, a4, a5⟩, k, m, h => by
    cases k with
    | zero =>
      simp only [List.getElem?_cons_zero, Option.some.injEq] at h
      subst h
      exact ⟨by rw [a1]; rfl, by rw [a2]; rfl, c, d, rfl, rfl, a3, a4⟩
    | succ k =>
      have := PtsIn.at r ms a5 k m (by simpa using h)
      have hc : ∀ j, (a :: b :: c :: d :: r)[j + 4]? = r[j]? := fun j => by simp
      rw [show (k + 1) * 4 = k * 4 + 4 by omega, show k * 4 + 4 + 1 = k * 4 + 1 + 4 by omega, show k * 4 + 4 + 2 = k * 4 + 2 + 4 by omega, show k * 4 + 4 + 3 = k * 4 + 3 + 4 by omega, hc, hc, hc, hc]
      exact this
  | [], _ :: _, h, _, _, _ => h.elim
  | [_], [], h, _, _, _ => h.elim
  | [_], _ :: _, h, _, _, _ => h.elim
  | [_, _], [], h, _, _, _ => h.elim
  | [_, _], _ :: _, h, _, _, _ => h.elim
  | [_, _, _], [], h, _, _, _ => h.elim
  | [_, _, _], _ :: _, h, _, _, _ => h.elim
  | _ :: _ :: _ :: _ :: _, [], h, _, _, _ => h.elim
/-- v is a list of points, all of it in blocks of its own from base on. -/
def OwnPts (w : World) (base : Nat) (v : Value) (ms : List MP) : Prop :=
  ∃ cs, w.ownsRow base 102 4 v ms.length cs ∧ PtsIn w (fun g => base ≤ g ∧ g < w.heap.size ∧ v.ownBlock ≠ some g) cs ms
theorem OwnPts.nil (w : World) (base : Nat) : OwnPts w base (.slice none 0 0) [] := ⟨[], World.ownsRow_nil _ _ _ _, trivial⟩
theorem OwnPts.below {w w' : World} {B base : Nat} {v : Value} {ms : List MP} (h : OwnPts w base v ms) (hb : Below B w w') (hB : w.heap.size ≤ B) : OwnPts w' base v ms := by
  obtain ⟨cs, h1, h2⟩ := h
  have hz := hb.size
  exact ⟨cs, owns_below h1 hb (fun g hg => by have := (h1.lt g hg).2; omega), PtsIn.keep (fun g hg => ⟨⟨hg.1, by omega, hg.2.2⟩, hb.block g (by omega)⟩) _ _ h2⟩
theorem pointInfo : (Tryz.prog.info? 102).map (fun i => (i.zero, i.size, i.bytes)) = some (some (.agg #[.int .i64 0, .bool false, .slice none 0 0, .slice none 0 0]), 4, 64) := by kernel_rfl
/-- One point more, by an append. -/
theorem OwnPts.push {w w' : World} {base gg cap n : Nat} {v v1 v2 : Value} {ms : List MP} {m : MP} {cs : List Value} (hn : n = ms.length) (hp : PtsIn w (fun g => base ≤ g ∧ g < w.heap.size ∧ v.ownBlock ≠ some g) cs ms)
    (h1 : IntsAt w (fun g => base ≤ g ∧ g < w.heap.size ∧ v.ownBlock ≠ some g) v1 m.lo) (h2 : IntsAt w (fun g => base ≤ g ∧ g < w.heap.size ∧ v.ownBlock ≠ some g) v2 m.st)
    (hown : w'.ownsRow base 102 4 (.slice (some ⟨gg, 0, none⟩) (n + 1) cap) (n + 1) (cs ++ [.int .i64 m.place, .bool m.reached, v1, v2])) (hgrow : w.grownBy w' v.ownBlock) (hat : v.ownBlock = some gg ∨ gg = w.heap.size) :
    OwnPts w' base (.slice (some ⟨gg, 0, none⟩) (ms ++ [m]).length cap) (ms ++ [m]) := by
  subst hn
  refine ⟨_, by rw [List.length_append]; exact hown, ?_⟩
  refine PtsIn.keep (fun g hg => ?_) _ _ (PtsIn.snoc h1 h2 _ _ hp)
  refine ⟨⟨hg.1, Nat.lt_of_lt_of_le hg.2.1 hgrow.size, ?_⟩, hgrow.block g hg.2.1 (fun e => hg.2.2 e.symm)⟩
  intro e
  simp only [Value.ownBlock, Option.some.injEq] at e
  rcases hat with h | h
  · exact hg.2.2 (h.trans (by rw [e]))
  · omega
/-- A slot, as it is told: its type, what it holds. -/
def slCells (x : Nat × Int) : List Value := [.int .i64 x.1, .int .i64 x.2]
theorem sameSlots_any (l : List (Nat × Int)) (va vb : Value) (P Q : Nat → Prop) (w : World) (ha : LsAt w P va l.length (l.flatMap slCells)) (hb : LsAt w Q vb l.length (l.flatMap slCells)) (hl : l.length ≤ 1000) :
    Calls Tryz.prog 104 #[va, vb] w fun e w' => e = .returned (.bool true) ∧ ∃ n, w' = w.drewN n := by
  obtain ⟨pa, ca, ea⟩ := ha.slice
  obtain ⟨pb, cb, eb⟩ := hb.slice
  subst ea
  subst eb
  have HA := hid ha
  have HB := hid hb
  clear ha hb
  go_enter Tryz.func104, Tryz.ntmps104
  go_wp2_with fail
  go_loopg [5] l.length (fun gk x w' => ∃ k : Nat, k ≤ l.length ∧ gk = l.length - k ∧ x = .int .i64 k ∧ ∃ n, w' = w.drewN n)
  case atStart => exact ⟨0, by omega, by omega, rfl, 0, rfl⟩
  case round =>
    obtain ⟨k, hk, hgk, rfl, n, rfl⟩ := hrel
    rcases Nat.lt_or_ge k l.length with hlt | hge
    · have d0 : (0 : Int) ≤ (k : Int) := by omega
      have d1 : (k : Int) < (l.length : Int) := by omega
      obtain ⟨ga, c1, e1, _, hca⟩ := HA.out.some (by omega)
      obtain ⟨gb, c2, e2, _, hcb⟩ := HB.out.some (by omega)
      have f0 := flat_at slCells 2 (fun _ => rfl) l k 0 hlt (by omega)
      have f1 := flat_at slCells 2 (fun _ => rfl) l k 1 hlt (by omega)
      rw [Nat.add_zero] at f0
      have x0 := hca _ _ f0
      have x1 := hca _ _ f1
      have y0 := hcb _ _ f0
      have y1 := hcb _ _ f1
      cases e1
      cases e2
      generalize l[k] = c at *
      obtain ⟨t, v⟩ := c
      simp only at x0 x1 y0 y1
      clear hca hcb f0 f1
      go_wp2_with fail
      go_quiet (fail)
      go_wp2_with fail
      go_roundg (l.length - (k + 1))
      case measure => omega
      case rel => exact ⟨k + 1, by omega, rfl, by go_num, ⟨_, rfl⟩⟩
    · have d1 : ¬ (k : Int) < (l.length : Int) := by omega
      go_wp2_with fail
      go_ret
      exact ⟨rfl, n, rfl⟩
theorem sameCells_any (l : List Cl) (va vb : Value) (P Q : Nat → Prop) (w : World) (ha : LsAt w P va l.length (l.flatMap clCells)) (hb : LsAt w Q vb l.length (l.flatMap clCells)) (hl : l.length ≤ 1000) :
    Calls Tryz.prog 65 #[va, vb] w fun e w' => e = .returned (.bool true) ∧ ∃ n, w' = w.drewN n := by
  obtain ⟨pa, ca, ea⟩ := ha.slice
  obtain ⟨pb, cb, eb⟩ := hb.slice
  subst ea
  subst eb
  have HA := hid ha
  have HB := hid hb
  clear ha hb
  go_enter Tryz.func65, Tryz.ntmps65
  go_wp2_with fail
  go_loopg [5] l.length (fun gk x w' => ∃ k : Nat, k ≤ l.length ∧ gk = l.length - k ∧ x = .int .i64 k ∧ ∃ n, w' = w.drewN n)
  case atStart => exact ⟨0, by omega, by omega, rfl, 0, rfl⟩
  case round =>
    obtain ⟨k, hk, hgk, rfl, n, rfl⟩ := hrel
    rcases Nat.lt_or_ge k l.length with hlt | hge
    · have d0 : (0 : Int) ≤ (k : Int) := by omega
      have d1 : (k : Int) < (l.length : Int) := by omega
      obtain ⟨ga, c1, e1, _, hca⟩ := HA.out.some (by omega)
      obtain ⟨gb, c2, e2, _, hcb⟩ := HB.out.some (by omega)
      have f0 := flat_at clCells 5 (fun _ => rfl) l k 0 hlt (by omega)
      have f1 := flat_at clCells 5 (fun _ => rfl) l k 1 hlt (by omega)
      have f2 := flat_at clCells 5 (fun _ => rfl) l k 2 hlt (by omega)
      have f3 := flat_at clCells 5 (fun _ => rfl) l k 3 hlt (by omega)
      have f4 := flat_at clCells 5 (fun _ => rfl) l k 4 hlt (by omega)
      rw [Nat.add_zero] at f0
      have x0 := hca _ _ f0
      have x1 := hca _ _ f1
      have x2 := hca _ _ f2
      have x3 := hca _ _ f3
      have x4 := hca _ _ f4
      have y0 := hcb _ _ f0
      have y1 := hcb _ _ f1
      have y2 := hcb _ _ f2
      have y3 := hcb _ _ f3
      have y4 := hcb _ _ f4
      cases e1
      cases e2
      generalize l[k] = c at *
      obtain ⟨co, wk, a, b, nn⟩ := c
      simp only at x0 x1 x2 x3 x4 y0 y1 y2 y3 y4
      clear hca hcb f0 f1 f2 f3 f4
      go_wp2_with fail
      go_quiet (fail)
      go_wp2_with fail
      go_roundg (l.length - (k + 1))
      case measure => omega
      case rel => exact ⟨k + 1, by omega, rfl, by go_num, ⟨_, rfl⟩⟩
    · have d1 : ¬ (k : Int) < (l.length : Int) := by omega
      go_wp2_with fail
      go_ret
      exact ⟨rfl, n, rfl⟩
/-- What State tells of a word of type t. -/
def slotV (t : Nat) (x : Int) : Int := if t = 2 then 0 else x
theorem slot_any (t : Nat) (r : Bool) (x : Int) (w : World) : Calls Tryz.prog 103 #[.int .i64 t, .agg #[.bool r, .int .i64 x]] w fun e w' => e = .returned (.agg #[.int .i64 t, .int .i64 (slotV t x)]) ∧ Below w.heap.size w w' := by
  by_cases h : t = 2
  · subst h
    have HE : Hid (slotV 2 x = 0) := hid rfl
    go_enter Tryz.func103, Tryz.ntmps103
    go_wp2_with fail
    exact bodyPost_ret (v := .agg #[.int .i64 2, .int .i64 0]) (by simp [results, Tryz.results103, go_sem]) rfl ⟨by rw [HE.out]; rfl, ((Below.refl _ _).alloc (Nat.le_refl _) _).alloc (by simp) _⟩
  · have h' : ((t : Int) == 2) = false := by simp; omega
    have HE : Hid (slotV t x = x) := hid (if_neg h)
    clear h
    go_enter Tryz.func103, Tryz.ntmps103
    go_wp2_with fail
    exact bodyPost_ret (v := .agg #[.int .i64 t, .int .i64 x]) (by simp [results, Tryz.results103, go_sem]) rfl ⟨by rw [HE.out], ((Below.refl _ _).alloc (Nat.le_refl _) _).alloc (by simp) _⟩
/-- A word: is it a reference; what it holds. -/
def wdCells (x : Bool × Int) : List Value := [.bool x.1, .int .i64 x.2]
theorem slotInfo : (Tryz.prog.info? 98).map (fun i => (i.zero, i.size, i.bytes)) = some (some (.agg #[.int .i64 0, .int .i64 0]), 2, 16) := by kernel_rfl
structure SnAt (w w' : World) (sb : Nat) (oc va ph hd : Int) (pl : Nat) (prow : Array Value) (a1 a2 : List (Nat × Int)) (v1 v2 : Value) : Prop where
  below : Below w.heap.size w w'
  res : w'.heap[w.heap.size]? = some (.cells #[.int .i64 0, .int .i64 0, .int .i64 0, .int .i64 0, .int .i64 0, .slice none 0 0, .slice none 0 0] 134)
  pt : w'.heap[w.heap.size + 1]? = some (.cells prow 102)
  out : w'.heap[sb]? = some (.cells #[.int .i64 oc, .int .i64 va, .int .i64 pl, .int .i64 ph, .int .i64 hd, v1, v2] 134)
  o1 : w'.ownsRow (sb + 1) 98 2 v1 a1.length (a1.flatMap slCells)
  o2 : w'.ownsRow (sb + 1) 98 2 v2 a2.length (a2.flatMap slCells)
  ne : ∀ g, v1.ownBlock = some g → v2.ownBlock ≠ some g
  hs : w.heap.size + 2 ≤ sb
theorem SnAt.start {w wc : World} {oc va ph hd : Int} {pl : Nat} {prow : Array Value} (hb : Below w.heap.size w wc) (hr : wc.heap[w.heap.size]? = some (.cells #[.int .i64 0, .int .i64 0, .int .i64 0, .int .i64 0, .int .i64 0, .slice none 0 0, .slice none 0 0] 134)) (hp : wc.heap[w.heap.size + 1]? = some (.cells prow 102)) :
    SnAt w (wc.alloc (.cells #[.int .i64 oc, .int .i64 va, .int .i64 pl, .int .i64 ph, .int .i64 hd, .slice none 0 0, .slice none 0 0] 134)).drew wc.heap.size oc va ph hd pl prow [] [] (.slice none 0 0) (.slice none 0 0) := by
  have h1 : w.heap.size + 1 < wc.heap.size := (Array.getElem?_eq_some_iff.1 hp).1
  have hb2 : Below w.heap.size w (wc.alloc (.cells #[.int .i64 oc, .int .i64 va, .int .i64 pl, .int .i64 ph, .int .i64 hd, .slice none 0 0, .slice none 0 0] 134)) := hb.alloc (by omega) _
  exact ⟨⟨hb2.os, hb2.tape, hb2.output, hb2.size, hb2.block⟩, (Below.heap_alloc wc _ _ (by omega)).trans hr, (Below.heap_alloc wc _ _ h1).trans hp, heap_alloc_new wc _, World.ownsRow_nil _ _ _ _, World.ownsRow_nil _ _ _ _, fun _ h => by (cases h), by omega⟩
theorem SnAt.same {w w1 w2 : World} {sb : Nat} {oc va ph hd : Int} {pl : Nat} {prow : Array Value} {a1 a2 : List (Nat × Int)} {v1 v2 : Value} (h : SnAt w w1 sb oc va ph hd pl prow a1 a2 v1 v2) (hb : Below w1.heap.size w1 w2) : SnAt w w2 sb oc va ph hd pl prow a1 a2 v1 v2 := by
  have hz := h.below.size
  have ho : sb < w1.heap.size := (Array.getElem?_eq_some_iff.1 h.out).1
  have hs := h.hs
  exact ⟨h.below.trans (hb.mono hz), (hb.block _ (by omega)).trans h.res, (hb.block _ (by omega)).trans h.pt, (hb.block _ ho).trans h.out, owns_keep h.o1 (fun g hg => hb.block g (h.o1.lt g hg).2), owns_keep h.o2 (fun g hg => hb.block g (h.o2.lt g hg).2), h.ne, hs⟩
theorem SnAt.push1 {w W w3 : World} {sb n gg cap : Nat} {oc va ph hd : Int} {pl : Nat} {prow : Array Value} {a1 a2 : List (Nat × Int)} {v1 v2 : Value} {x : Nat × Int} (h : SnAt w W sb oc va ph hd pl prow a1 a2 v1 v2) (hn : n = a1.length)
    (hown : w3.ownsRow (sb + 1) 98 2 (.slice (some ⟨gg, 0, none⟩) (n + 1) cap) (n + 1) (a1.flatMap slCells ++ slCells x)) (hgrow : W.grownBy w3 v1.ownBlock) (hat : v1.ownBlock = some gg ∨ gg = W.heap.size) :
    SnAt w (w3.setCell ⟨sb, 5, none⟩ (.slice (some ⟨gg, 0, none⟩) (n + 1) cap)) sb oc va ph hd pl prow (a1 ++ [x]) a2 (.slice (some ⟨gg, 0, none⟩) (n + 1) cap) v2 := by
  subst hn
  have ho : sb < W.heap.size := (Array.getElem?_eq_some_iff.1 h.out).1
  have hs := h.hs
  have far : ∀ k, k < sb + 1 → some k ≠ v1.ownBlock := fun k hk e => by have := (h.o1.lt k e.symm).1; omega
  have hset : ∀ k, k ≠ sb → (w3.setCell ⟨sb, 5, none⟩ (.slice (some ⟨gg, 0, none⟩) (a1.length + 1) cap)).heap[k]? = w3.heap[k]? := fun k hk => Below.heap_setCell _ _ _ _ hk
  have hgg : sb + 1 ≤ gg := (hown.lt gg rfl).1
  refine ⟨?_, ?_, ?_, ?_, ?_, ?_, ?_, hs⟩
  · exact (h.below.trans ⟨hgrow.os, hgrow.tape, hgrow.output, hgrow.size, fun k hk => hgrow.block k (by omega) (far k (by omega))⟩).setCell (by simp; omega) _
  · exact (hset _ (by omega)).trans ((hgrow.block _ (by omega) (far _ (by omega))).trans h.res)
  · exact (hset _ (by omega)).trans ((hgrow.block _ (by omega) (far _ (by omega))).trans h.pt)
  · exact setCell_row 5 _ ((hgrow.block _ ho (far _ (by omega))).trans h.out)
  · rw [List.length_append, List.flatMap_append]
    have : [x].flatMap slCells = slCells x := by simp
    rw [this]
    exact owns_keep hown (fun g hg => by
      have e : gg = g := by simpa [Value.ownBlock] using hg
      exact hset _ (by omega))
  · refine owns_keep h.o2 (fun g hg => ?_)
    have := h.o2.lt g hg
    rw [hset _ (by omega)]
    exact hgrow.block g this.2 (fun e => h.ne g e.symm hg)
  · intro g hg e
    have e2 : gg = g := by simpa [Value.ownBlock] using hg
    subst e2
    rcases hat with h1 | h1
    · exact h.ne _ h1 e
    · have := (h.o2.lt _ e).2; omega
theorem SnAt.push2 {w W w3 : World} {sb n gg cap : Nat} {oc va ph hd : Int} {pl : Nat} {prow : Array Value} {a1 a2 : List (Nat × Int)} {v1 v2 : Value} {x : Nat × Int} (h : SnAt w W sb oc va ph hd pl prow a1 a2 v1 v2) (hn : n = a2.length)
    (hown : w3.ownsRow (sb + 1) 98 2 (.slice (some ⟨gg, 0, none⟩) (n + 1) cap) (n + 1) (a2.flatMap slCells ++ slCells x)) (hgrow : W.grownBy w3 v2.ownBlock) (hat : v2.ownBlock = some gg ∨ gg = W.heap.size) :
    SnAt w (w3.setCell ⟨sb, 6, none⟩ (.slice (some ⟨gg, 0, none⟩) (n + 1) cap)) sb oc va ph hd pl prow a1 (a2 ++ [x]) v1 (.slice (some ⟨gg, 0, none⟩) (n + 1) cap) := by
  subst hn
  have ho : sb < W.heap.size := (Array.getElem?_eq_some_iff.1 h.out).1
  have hs := h.hs
  have far : ∀ k, k < sb + 1 → some k ≠ v2.ownBlock := fun k hk e => by have := (h.o2.lt k e.symm).1; omega
  have hset : ∀ k, k ≠ sb → (w3.setCell ⟨sb, 6, none⟩ (.slice (some ⟨gg, 0, none⟩) (a2.length + 1) cap)).heap[k]? = w3.heap[k]? := fun k hk => Below.heap_setCell _ _ _ _ hk
  have hgg : sb + 1 ≤ gg := (hown.lt gg rfl).1
  refine ⟨?_, ?_, ?_, ?_, ?_, ?_, ?_, hs⟩
  · exact (h.below.trans ⟨hgrow.os, hgrow.tape, hgrow.output, hgrow.size, fun k hk => hgrow.block k (by omega) (far k (by omega))⟩).setCell (by simp; omega) _
  · exact (hset _ (by omega)).trans ((hgrow.block _ (by omega) (far _ (by omega))).trans h.res)
  · exact (hset _ (by omega)).trans ((hgrow.block _ (by omega) (far _ (by omega))).trans h.pt)
  · exact setCell_row 6 _ ((hgrow.block _ ho (far _ (by omega))).trans h.out)
  · refine owns_keep h.o1 (fun g hg => ?_)
    have := h.o1.lt g hg
    rw [hset _ (by omega)]
    exact hgrow.block g this.2 (fun e => h.ne g hg e.symm)
  · rw [List.length_append, List.flatMap_append]
    have : [x].flatMap slCells = slCells x := by simp
    rw [this]
    exact owns_keep hown (fun g hg => by
      have e : gg = g := by simpa [Value.ownBlock] using hg
      exact hset _ (by omega))
  · intro g hg e
    have e2 : gg = g := by simpa [Value.ownBlock] using e
    subst e2
    rcases hat with h1 | h1
    · exact h.ne _ hg h1
    · have := (h.o1.lt _ hg).2; omega
theorem cell6b {wr w6 : World} {o : Obj} {b : Nat} {row : Option Nat} (hgrow : (wr.alloc o).grownBy w6 row) (hz : b < wr.heap.size) (hne : some b ≠ row) (j : Nat) : w6.cell? ⟨b, j, none⟩ = wr.cell? ⟨b, j, none⟩ ∧ w6.frozen? ⟨b, j, none⟩ = wr.frozen? ⟨b, j, none⟩ := by
  have h : w6.heap[b]? = wr.heap[b]? := (hgrow.block b (by simp; omega) hne).trans (Below.heap_alloc wr o b hz)
  exact ⟨World.cell?_of_block (a := ⟨b, j, none⟩) h, World.frozen?_of_block (a := ⟨b, j, none⟩) h⟩
theorem two_below (w : World) (a b : Obj) : Below w.heap.size w ((w.alloc a).alloc b).drew :=
  have h : Below w.heap.size w ((w.alloc a).alloc b) := ((Below.refl _ _).alloc (Nat.le_refl _) _).alloc (by simp) _
  ⟨h.os, h.tape, h.output, h.size, h.block⟩
theorem toldF_none (i : Nat) (all : List Pt) : (toldF i all).r = false → (toldF i all).lo = [] ∧ (toldF i all).st = [] := by
  suffices hs : ∀ (all : List Pt) (a : Ac), (a.r = false → a.lo = [] ∧ a.st = []) → (all.foldl (toldS i) a).r = false → (all.foldl (toldS i) a).lo = [] ∧ (all.foldl (toldS i) a).st = [] from hs all _ (fun _ => ⟨rfl, rfl⟩)
  intro all
  induction all with
  | nil => intro a ha; exact ha
  | cons p r ih =>
    intro a ha
    simp only [List.foldl_cons]
    refine ih _ ?_
    unfold toldS
    by_cases e : p.at_ = i
    · rw [if_pos e]; intro h; cases h
    · rw [if_neg e]; exact ha
theorem cell6 {wr w6 : World} {o : Obj} {b : Nat} {row : Option Nat} (hgrow : (wr.alloc o).drew.grownBy w6 row) (hz : b < wr.heap.size) (hne : some b ≠ row) (j : Nat) : w6.cell? ⟨b, j, none⟩ = wr.cell? ⟨b, j, none⟩ ∧ w6.frozen? ⟨b, j, none⟩ = wr.frozen? ⟨b, j, none⟩ := by
  have h : w6.heap[b]? = wr.heap[b]? := (hgrow.block b (by simp [World.drew]; omega) hne).trans (Below.heap_alloc wr o b hz)
  exact ⟨World.cell?_of_block (a := ⟨b, j, none⟩) h, World.frozen?_of_block (a := ⟨b, j, none⟩) h⟩
def mixL (X C : List Nat) (n : Nat) : List Nat := (List.zipWith joinN X C).take n ++ X.drop n
theorem mix_zero (X C : List Nat) : mixL X C 0 = X := by simp [mixL]
theorem mix_end {X C : List Nat} {n : Nat} (hX : X.length = n) (hC : C.length = n) : mixL X C n = List.zipWith joinN X C := by
  unfold mixL
  rw [List.take_of_length_le (by simp; omega), List.drop_of_length_le (by omega), List.append_nil]
theorem mix_len {X C : List Nat} {n N : Nat} (hX : X.length = N) (hC : C.length = N) (h : n ≤ N) : (mixL X C n).length = N := by
  simp [mixL, hX, hC]; omega
theorem mix_get {X C : List Nat} {n N : Nat} (hX : X.length = N) (hC : C.length = N) (h : n < N) : (mixL X C n)[n]? = some (X.getD n 0) := by
  unfold mixL
  rw [List.getElem?_append_right (by simp; omega), List.length_take, List.length_zipWith, hX, hC, Nat.min_self, Nat.min_eq_left (by omega), Nat.sub_self, List.getElem?_drop, Nat.add_zero, List.getD_eq_getElem?_getD, List.getElem?_eq_getElem (by omega)]
  rfl
theorem mix_next {X C : List Nat} {n N : Nat} (hX : X.length = N) (hC : C.length = N) (h : n < N) : mixL X C (n + 1) = (mixL X C n).set n (joinN (X.getD n 0) (C.getD n 0)) := by
  have h1 : n < (List.zipWith joinN X C).length := by simp; omega
  have h2 : n < X.length := by omega
  have h3 : n < C.length := by omega
  unfold mixL
  rw [List.take_succ_eq_append_getElem h1, List.drop_eq_getElem_cons h2, List.set_append_right _ _ (by simp; omega), List.append_assoc]
  simp only [List.length_take, List.length_zipWith, hX, hC, Nat.min_self, Nat.min_eq_left (Nat.le_of_lt h), Nat.sub_self, List.set_cons_zero, List.getElem_zipWith]
  simp [List.getD_eq_getElem?_getD, List.getElem?_eq_getElem h2, List.getElem?_eq_getElem h3]
theorem mix_eq {X C : List Nat} {n N : Nat} (hX : X.length = N) (hC : C.length = N) (h : n < N) (e : X.getD n 0 = C.getD n 0) : mixL X C (n + 1) = mixL X C n := by
  rw [mix_next hX hC h, joinN_eq e]
  have := mix_get hX hC h
  obtain ⟨h1, h2⟩ := List.getElem?_eq_some_iff.1 this
  rw [← h2, List.set_getElem_self]
theorem mix_ne {X C : List Nat} {n N : Nat} (hX : X.length = N) (hC : C.length = N) (h : n < N) (e : ¬ X.getD n 0 = C.getD n 0) : mixL X C (n + 1) = (mixL X C n).set n 2 := by
  rw [mix_next hX hC h, joinN_ne e]
theorem owns_some {w : World} {base e n : Nat} {v : Value} {xs : List Value} (h : w.ownsRow base e 1 v n xs) (hn : 0 < n) : ∃ g cap, v = .slice (some ⟨g, 0, none⟩) n cap := by
  rcases h.2 with ⟨_, h2⟩ | ⟨g, cap, cur, hv, _⟩
  · omega
  · exact ⟨g, cap, hv⟩
theorem ToldAt.mark {w W : World} {place : Nat} {r : Bool} {x y : List Nat} {v1 v2 : Value} (h : ToldAt w W place ⟨r, x, y⟩ v1 v2) : ToldAt w (W.setCell ⟨w.heap.size + 1, 1, none⟩ (.bool true)) place ⟨true, x, y⟩ v1 v2 := by
  have hset : ∀ k, k ≠ w.heap.size + 1 → (W.setCell ⟨w.heap.size + 1, 1, none⟩ (.bool true)).heap[k]? = W.heap[k]? := fun k hk => Below.heap_setCell _ _ _ _ hk
  exact ⟨h.below.setCell (by simp) _, (hset _ (by omega)).trans h.res, out_set h.out, owns_keep h.o1 (fun g hg => hset _ (by have := (h.o1.lt g hg).1; omega)), owns_keep h.o2 (fun g hg => hset _ (by have := (h.o2.lt g hg).1; omega)), h.ne⟩
theorem told_start (w : World) (pl i : Nat) : ToldAt w ((w.alloc (.cells #[.int .i64 0, .bool false, .slice none 0 0, .slice none 0 0] 102)).alloc (.cells #[.int .i64 pl, .bool false, .slice none 0 0, .slice none 0 0] 102)) pl (toldF i []) (.slice none 0 0) (.slice none 0 0) :=
  ⟨((Below.refl _ _).alloc (Nat.le_refl _) _).alloc (by simp) _, heap_two_first w _ _, heap_two_new w _ _, World.ownsRow_nil _ _ _ _, World.ownsRow_nil _ _ _ _, fun _ h => by cases h⟩
theorem out_cells {w : World} {b place : Nat} {r : Bool} {v1 v2 : Value} (h : OutAt w b place r v1 v2) : w.cell? ⟨b, 0, none⟩ = some (.int .i64 place) ∧ w.cell? ⟨b, 1, none⟩ = some (.bool r) ∧ w.cell? ⟨b, 2, none⟩ = some v1 ∧ w.cell? ⟨b, 3, none⟩ = some v2 := by
  refine ⟨?_, ?_, ?_, ?_⟩
  · rw [cell_of_row w b 0 _ _ _ h]; rfl
  · rw [cell_of_row w b 1 _ _ _ h]; rfl
  · rw [cell_of_row w b 2 _ _ _ h]; rfl
  · rw [cell_of_row w b 3 _ _ _ h]; rfl
theorem box_cells3 {w : World} {b : Nat} {p : Pt} (h : w.heap[b]? = some (.cells #[.int .i64 p.at_, .string p.lo, .string p.st] 155)) : w.cell? ⟨b, 0, none⟩ = some (.int .i64 p.at_) ∧ w.cell? ⟨b, 1, none⟩ = some (.string p.lo) ∧ w.cell? ⟨b, 2, none⟩ = some (.string p.st) := by
  refine ⟨?_, ?_, ?_⟩
  · rw [cell_of_row w b 0 _ _ _ h]; rfl
  · rw [cell_of_row w b 1 _ _ _ h]; rfl
  · rw [cell_of_row w b 2 _ _ _ h]; rfl
theorem told_any (l : List Ins) (all : List Pt) (i L gi ci g ca : Nat) (w : World) (hins : InsAt w gi l) (hgi : gi < w.heap.size) (hpt : PtAt w g all) (hg : g < w.heap.size) (hi : i < l.length)
    (hlo : ∀ p ∈ all, p.lo.size = L) (hL : L ≤ 4) (hst : ∀ p ∈ all, p.st.size ≤ 8) (hln : all.length ≤ 10000) :
    Calls Tryz.prog 54 #[.slice (some ⟨gi, 0, none⟩) l.length ci, .slice (some ⟨g, 0, none⟩) all.length ca, .int .i64 i] w (PointPost ⟨l[i].place, (toldF i all).r, (toldF i all).lo, (toldF i all).st⟩ w) := by
  obtain ⟨i0, hi0, hz0, hz1, hz2⟩ := info_parts intInfo
  obtain ⟨_, _, q2⟩ := hins i hi
  have i1 : (0 : Int) ≤ (i : Int) := by omega
  have i2 : (i : Int) < (l.length : Int) := by omega
  generalize l[i].place = pl at *
  have HPT := hid hpt
  have HLO := hid hlo
  have HST := hid hst
  clear hins hpt hlo hst
  go_enter Tryz.func54, Tryz.ntmps54
  go_wp2_with fail
  go_loopg [8] all.length (fun gk x w' => ∃ (k : Nat) (v1 v2 : Value), k ≤ all.length ∧ gk = all.length - k ∧ x = .int .i64 k ∧ ToldAt w w' pl (toldF i (all.take k)) v1 v2)
  case atStart => exact ⟨0, .slice none 0 0, .slice none 0 0, by omega, by omega, rfl, told_start w pl i⟩
  case round =>
    obtain ⟨k, v1, v2, hk, hgk, rfl, hT⟩ := hrel
    rcases Nat.lt_or_ge k all.length with hlt | hge
    · have d1 : (k : Int) < (all.length : Int) := by omega
      have d0 : (0 : Int) ≤ (k : Int) := by omega
      obtain ⟨p0, p1, p2⟩ := HPT.out k hlt
      have HSN := hid (toldF_snoc i all k hlt)
      have HN := hid (toldF_none i (all.take k))
      have hpL := HLO.out all[k] (List.getElem_mem hlt)
      have hpS := HST.out all[k] (List.getElem_mem hlt)
      have hbel := hT.below
      rw [← hbel.cell (p := ⟨g, k * 3, none⟩) hg] at p0
      rw [← hbel.cell (p := ⟨g, k * 3 + 1, none⟩) hg] at p1
      rw [← hbel.cell (p := ⟨g, k * 3 + 2, none⟩) hg] at p2
      have hlen : (toldF i (all.take k)).r = true → (toldF i (all.take k)).lo.length = L := toldF_len i (all.take k) (fun p hp => HLO.out p (List.mem_of_mem_take hp))
      have HLN := hid hlen
      have hgz : g < wr.heap.size := Nat.lt_of_lt_of_le hg hbel.size
      have hIn := InAt.start hT all[k]
      generalize all[k] = p at *
      generalize toldF i (all.take k) = A at *
      have HIN := hid hIn
      have HTT := hid hT
      clear hIn hT hbel hlen q2
      by_cases ha : p.at_ = i
      · have ha' : (((p.at_ : Nat) : Int) != (i : Int)) = false := by simp; omega
        obtain ⟨r, alo, ast⟩ := A
        obtain ⟨o0, o1, o2, o3⟩ := out_cells HTT.out.out
        have hOz : w.heap.size + 1 < wr.heap.size := (Array.getElem?_eq_some_iff.1 HTT.out.out).1
        have hf1 := frozen_of_row wr (w.heap.size + 1) 1 _ _ HTT.out.out
        cases r
        · obtain ⟨e1, e2⟩ := HN.out rfl
          simp only at e1 e2
          subst e1
          subst e2
          have HAT := hid ha
          clear ha
          go_wp2_with fail
          generalize hBB : wr.heap.size = B at *
          have HBB := hid hBB
          clear hBB
          go_loopg [10] p.lo.size (fun gk2 x w' => ∃ (n : Nat) (u1 : Value), n ≤ p.lo.size ∧ gk2 = p.lo.size - n ∧ x = .int .i64 n ∧ InAt w w' B pl ⟨false, (codes p.lo).take n, []⟩ u1 v2 p)
          case atStart => exact ⟨0, v1, by omega, by omega, rfl, HIN.out⟩
          case round =>
            obtain ⟨n, u1, hn, hgk2, rfl, hI⟩ := hrel
            have HI := hid hI
            have hown := hI.o1
            simp only [List.length_take, codes_len] at hown
            rw [Nat.min_eq_left hn] at hown
            obtain ⟨o0', o1', o2', o3'⟩ := out_cells hI.out
            obtain ⟨b0, b1, b2⟩ := box_cells3 hI.box
            have hzz : w.heap.size + 2 ≤ wr.heap.size := by
              have h1 := (Array.getElem?_eq_some_iff.1 hI.out).1
              omega
            have fo := frozen_of_row wr (w.heap.size + 1) 2 _ _ hI.out
            have ne1 := World.new_ne wr ⟨w.heap.size + 1, 2, none⟩ o2'
            have ne2 := World.new_ne wr ⟨B, 1, none⟩ b1
            have hfar : some (w.heap.size + 1) ≠ u1.ownBlock := fun e => by
              have := (hown.lt _ e.symm).1
              omega
            clear hI
            rcases Nat.lt_or_ge n p.lo.size with hnl | hnl
            · have n0 : (0 : Int) ≤ (n : Int) := by omega
              have n1 : (n : Int) < (p.lo.size : Int) := by omega
              have e0 := byteAt_eq p.lo n hnl
              have hb2 := byteAt_lt p.lo n
              have hkd := hid (fun W => kind_any (byteAt p.lo n) W)
              have HCG := hid (codes_get hnl)
              have HTK := hid (take_snoc (l := codes p.lo) (k := n) (by rw [codes_len]; exact hnl))
              have HT1 : Hid ((codes p.lo).take (n + 1) = (codes p.lo).take n ++ [(codes p.lo).getD n 0]) := hid (by
                have h1 : n < (codes p.lo).length := by rw [codes_len]; exact hnl
                rw [List.take_succ_eq_append_getElem h1]
                simp [List.getD_eq_getElem?_getD, List.getElem?_eq_getElem h1])
              generalize byteAt p.lo n = c at *
              have a1 : (wr.alloc (.cells #[.int .i64 (kindN c : Nat)] 3)).cell? ⟨w.heap.size + 1, 2, none⟩ = some u1 := (World.cell?_alloc_past _ _ _ (by omega)).trans o2'
              go_upto_region 11 with fail
              go_region_law
                ((first
                  | (refine step_append_lies _ (by rfl) _ _ _ (by rfl) (w.heap.size + 2) 3 i0 _ 1 8 Tryz.underlying22 hi0 hz0 hz1 hz2 rfl (by omega) _ n (((codes p.lo).take n).map numV) (by rfl) ((hown.alloc _).drew)
                      ⟨wr.heap.size, 0, none⟩ 1 1 [.int .i64 (kindN c : Nat)] (by rfl) (by rfl) (World.news_of_block (cs := #[.int .i64 (kindN c : Nat)]) (t := 3) (fr := (0, 0)) (heap_alloc_new wr _)) (by simp [Value.oneCell'])
                      (by omega) (by unfold maxLen; omega) (by omega) (by simp; omega) (wr.heap.size + 1) (by simp) ?_; intro gg gcap w6 hown6 hgrow6 hat6 hlt6; obtain ⟨c6, f6⟩ := cell6 hgrow6 (b := w.heap.size + 1) (by omega) hfar 2; rw [o2'] at c6; rw [fo] at f6)
                  | (go_simp; go_at_call 90; refine (hkd.out _).mono ?_; intro x w9 hh; obtain ⟨hx9, hw9⟩ := hh; subst hx9; subst hw9; dsimp only)))
              all_goals
                have HO6 := hid hown6
                have HG6 := hid hgrow6
                have HA6 := hid hat6
                clear hown6 hgrow6 hat6 hown o0' o1' o2' o3' b0 b1 b2 fo a1 c6 f6 hkd p0 p1 p2 o0 o1 o2 o3
                go_wp2_with fail
                go_roundg (p.lo.size - (n + 1))
                case measure => omega
                case rel =>
                  refine ⟨n + 1, .slice (some ⟨gg, 0, none⟩) (n + 1) gcap, by omega, rfl, by go_num, ?_⟩
                  rw [HT1.out, HCG.out]
                  exact InAt.push1 (HI.out.same (((Below.refl _ _).alloc (Nat.le_refl _) _).drew)) (by rw [List.length_take, codes_len, Nat.min_eq_left hn]) HO6.out HG6.out (by simpa using HA6.out)
            · have n1 : ¬ (n : Int) < (p.lo.size : Int) := by omega
              have hnn : n = p.lo.size := by omega
              have HIA : Hid (InAt w wr B pl ⟨false, codes p.lo, []⟩ u1 v2 p) := hid (by
                have := HI.out
                rw [List.take_of_length_le (by rw [codes_len]; omega)] at this
                exact this)
              clear HI hown
              go_wp2_with fail
              go_loopg [11] p.st.size (fun gk2 x w' => ∃ (n : Nat) (u2 : Value), n ≤ p.st.size ∧ gk2 = p.st.size - n ∧ x = .int .i64 n ∧ InAt w w' B pl ⟨false, codes p.lo, (codes p.st).take n⟩ u1 u2 p)
              case atStart => exact ⟨0, v2, by omega, by omega, rfl, HIA.out⟩
              case round =>
                obtain ⟨n, u2, hn, hgk2, rfl, hI⟩ := hrel
                have HI := hid hI
                have hown := hI.o2
                simp only [List.length_take, codes_len] at hown
                rw [Nat.min_eq_left hn] at hown
                obtain ⟨o0', o1', o2', o3'⟩ := out_cells hI.out
                obtain ⟨b0, b1, b2⟩ := box_cells3 hI.box
                have hzz : w.heap.size + 2 ≤ wr.heap.size := by
                  have h1 := (Array.getElem?_eq_some_iff.1 hI.out).1
                  omega
                have fo := frozen_of_row wr (w.heap.size + 1) 3 _ _ hI.out
                have ne1 := World.new_ne wr ⟨w.heap.size + 1, 3, none⟩ o3'
                have ne2 := World.new_ne wr ⟨B, 2, none⟩ b2
                have hfar : some (w.heap.size + 1) ≠ u2.ownBlock := fun e => by
                  have := (hown.lt _ e.symm).1
                  omega
                clear hI
                rcases Nat.lt_or_ge n p.st.size with hnl | hnl
                · have n0 : (0 : Int) ≤ (n : Int) := by omega
                  have n1 : (n : Int) < (p.st.size : Int) := by omega
                  have e0 := byteAt_eq p.st n hnl
                  have hb2 := byteAt_lt p.st n
                  have hkd := hid (fun W => kind_any (byteAt p.st n) W)
                  have HCG := hid (codes_get hnl)
                  have HTK := hid (take_snoc (l := codes p.st) (k := n) (by rw [codes_len]; exact hnl))
                  have HT1 : Hid ((codes p.st).take (n + 1) = (codes p.st).take n ++ [(codes p.st).getD n 0]) := hid (by
                    have h1 : n < (codes p.st).length := by rw [codes_len]; exact hnl
                    rw [List.take_succ_eq_append_getElem h1]
                    simp [List.getD_eq_getElem?_getD, List.getElem?_eq_getElem h1])
                  generalize byteAt p.st n = c at *
                  have a1 : (wr.alloc (.cells #[.int .i64 (kindN c : Nat)] 3)).cell? ⟨w.heap.size + 1, 3, none⟩ = some u2 := (World.cell?_alloc_past _ _ _ (by omega)).trans o3'
                  go_upto_region 15 with fail
                  go_region_law
                    ((first
                      | (refine step_append_lies _ (by rfl) _ _ _ (by rfl) (w.heap.size + 2) 3 i0 _ 1 8 Tryz.underlying22 hi0 hz0 hz1 hz2 rfl (by omega) _ n (((codes p.st).take n).map numV) (by rfl) ((hown.alloc _).drew)
                          ⟨wr.heap.size, 0, none⟩ 1 1 [.int .i64 (kindN c : Nat)] (by rfl) (by rfl) (World.news_of_block (cs := #[.int .i64 (kindN c : Nat)]) (t := 3) (fr := (0, 0)) (heap_alloc_new wr _)) (by simp [Value.oneCell'])
                          (by omega) (by unfold maxLen; omega) (by omega) (by simp; omega) (wr.heap.size + 1) (by simp) ?_; intro gg gcap w6 hown6 hgrow6 hat6 hlt6; obtain ⟨c6, f6⟩ := cell6 hgrow6 (b := w.heap.size + 1) (by omega) hfar 3; rw [o3'] at c6; rw [fo] at f6)
                      | (go_simp; go_at_call 90; refine (hkd.out _).mono ?_; intro x w9 hh; obtain ⟨hx9, hw9⟩ := hh; subst hx9; subst hw9; dsimp only)))
                  all_goals
                    have HO6 := hid hown6
                    have HG6 := hid hgrow6
                    have HA6 := hid hat6
                    clear hown6 hgrow6 hat6 hown o0' o1' o3' o2' b0 b2 b1 fo a1 c6 f6 hkd p0 p1 p2 o0 o1 o2 o3
                    go_wp2_with fail
                    go_roundg (p.st.size - (n + 1))
                    case measure => omega
                    case rel =>
                      refine ⟨n + 1, .slice (some ⟨gg, 0, none⟩) (n + 1) gcap, by omega, rfl, by go_num, ?_⟩
                      rw [HT1.out, HCG.out]
                      exact InAt.push2 (HI.out.same (((Below.refl _ _).alloc (Nat.le_refl _) _).drew)) (by rw [List.length_take, codes_len, Nat.min_eq_left hn]) HO6.out HG6.out (by simpa using HA6.out)
                · have n1 : ¬ (n : Int) < (p.st.size : Int) := by omega
                  have HIB : Hid (InAt w wr B pl ⟨false, codes p.lo, codes p.st⟩ u1 u2 p) := hid (by
                    have := HI.out
                    rw [List.take_of_length_le (by rw [codes_len]; omega)] at this
                    exact this)
                  have HMK := hid (HIB.out.mark)
                  have f1' := frozen_of_row wr (w.heap.size + 1) 1 _ _ HIB.out.out
                  have HX := hid (codes_len p.lo)
                  have HS : Hid (toldF i (all.take (k + 1)) = ⟨true, List.zipWith joinN (codes p.lo) (codes p.lo), codes p.st⟩) := hid (by rw [HSN.out]; unfold toldS; rw [if_pos HAT.out]; rfl)
                  clear HI hown HN HLN
                  go_wp2_with fail
                  go_loopg [12] p.lo.size (fun gk2 x w' => ∃ (n : Nat), n ≤ p.lo.size ∧ gk2 = p.lo.size - n ∧ x = .int .i64 n ∧ InAt w w' B pl ⟨true, mixL (codes p.lo) (codes p.lo) n, codes p.st⟩ u1 u2 p)
                  case atStart => exact ⟨0, by omega, by omega, rfl, by rw [mix_zero]; exact HMK.out⟩
                  case round =>
                    obtain ⟨n, hn, hgk2, rfl, hI⟩ := hrel
                    obtain ⟨o0', o1', o2', o3'⟩ := out_cells hI.out
                    obtain ⟨b0, b1, b2⟩ := box_cells3 hI.box
                    have HI := hid hI
                    rcases Nat.lt_or_ge n p.lo.size with hnl | hnl
                    · have n0 : (0 : Int) ≤ (n : Int) := by omega
                      have n1 : (n : Int) < (p.lo.size : Int) := by omega
                      have hml := mix_len HX.out (codes_len p.lo) hn
                      have hown := hI.o1
                      simp only [hml] at hown
                      obtain ⟨g1, cp1, hz1e⟩ := owns_some hown (by omega)
                      have hcell := hown.cells (g := g1) (by rw [hz1e]; rfl) n (numV ((codes p.lo).getD n 0)) (by rw [List.getElem?_map, mix_get HX.out (codes_len p.lo) hnl]; rfl)
                      rw [addr_add] at hcell
                      unfold numV at hcell
                      have hfz1 : wr.frozen? ⟨g1, n, none⟩ = false := World.ownsRow.frozenAt (hz1e ▸ hown) n
                      have HZE := hid hz1e
                      rw [hz1e] at o2'
                      have e0 := byteAt_eq p.lo n hnl
                      have hb2 := byteAt_lt p.lo n
                      have hkd := hid (fun W => kind_any (byteAt p.lo n) W)
                      have HCG := hid (codes_get hnl)
                      have HEQ := hid (mix_eq (X := codes p.lo) (C := codes p.lo) HX.out (codes_len p.lo) hnl)
                      have HNE := hid (mix_ne (X := codes p.lo) (C := codes p.lo) HX.out (codes_len p.lo) hnl)
                      have n2 : (n : Int) < (p.lo.size : Int) := n1
                      clear hI hml hown hz1e
                      generalize byteAt p.lo n = c at *
                      generalize hxn : (codes p.lo).getD n 0 = xn at *
                      have hxc : xn = kindN c := HCG.out
                      have hx' : ((xn : Int) != ((kindN c : Nat) : Int)) = false := by simp; omega
                      have HM : Hid (mixL (codes p.lo) (codes p.lo) (n + 1) = mixL (codes p.lo) (codes p.lo) n) := hid (HEQ.out rfl)
                      clear hxc HEQ HNE hxn
                      go_upto_region 20 with fail
                      go_quiet ((go_at_call 90; refine Calls.quiet_of_same (hkd.out _)))
                      clear hkd o0' o1' o2' o3' b0 b1 b2 hcell
                      go_wp2_with fail
                      go_roundg (p.lo.size - (n + 1))
                      case measure => omega
                      case rel => exact ⟨n + 1, by omega, rfl, by go_num, by rw [HM.out]; exact HI.out.same (below_drewN (Below.refl _ _) _)⟩
                    · have n1 : ¬ (n : Int) < (p.lo.size : Int) := by omega
                      have hnn : n = p.lo.size := by omega
                      have HDN : Hid (ToldAt w wr pl (toldF i (all.take (k + 1))) u1 u2) := hid (by
                        have := hI.toToldAt
                        rw [hnn, mix_end HX.out (codes_len p.lo)] at this
                        rw [HS.out]
                        exact this)
                      clear hI HI
                      go_wp2_with fail
                      go_roundg (all.length - (k + 1))
                      case measure => omega
                      case rel => exact ⟨k + 1, u1, u2, by omega, rfl, by go_num, HDN.out⟩
        · have HX : Hid (alo.length = p.lo.size) := hid (by rw [hpL]; exact HLN.out rfl)
          have HMK := hid (InAt.start HTT.out.mark p)
          rw [show (wr.setCell ⟨w.heap.size + 1, 1, none⟩ (.bool true)).heap.size = wr.heap.size by simp [World.setCell]] at HMK
          have HS : Hid (toldF i (all.take (k + 1)) = ⟨true, List.zipWith joinN alo (codes p.lo), ast⟩) := hid (by rw [HSN.out]; unfold toldS; rw [if_pos ha]; rfl)
          clear ha HN HLN
          go_wp2_with fail
          generalize hBB : wr.heap.size = B at *
          have HBB := hid hBB
          clear hBB
          go_loopg [12] p.lo.size (fun gk2 x w' => ∃ (n : Nat), n ≤ p.lo.size ∧ gk2 = p.lo.size - n ∧ x = .int .i64 n ∧ InAt w w' B pl ⟨true, mixL alo (codes p.lo) n, ast⟩ v1 v2 p)
          case atStart => exact ⟨0, by omega, by omega, rfl, by rw [mix_zero]; exact HMK.out⟩
          case round =>
            obtain ⟨n, hn, hgk2, rfl, hI⟩ := hrel
            obtain ⟨o0', o1', o2', o3'⟩ := out_cells hI.out
            obtain ⟨b0, b1, b2⟩ := box_cells3 hI.box
            have HI := hid hI
            rcases Nat.lt_or_ge n p.lo.size with hnl | hnl
            · have n0 : (0 : Int) ≤ (n : Int) := by omega
              have n1 : (n : Int) < (p.lo.size : Int) := by omega
              have hml := mix_len HX.out (codes_len p.lo) hn
              have hown := hI.o1
              simp only [hml] at hown
              obtain ⟨g1, cp1, hz1e⟩ := owns_some hown (by omega)
              have hcell := hown.cells (g := g1) (by rw [hz1e]; rfl) n (numV (alo.getD n 0)) (by rw [List.getElem?_map, mix_get HX.out (codes_len p.lo) hnl]; rfl)
              rw [addr_add] at hcell
              unfold numV at hcell
              have hfz1 : wr.frozen? ⟨g1, n, none⟩ = false := World.ownsRow.frozenAt (hz1e ▸ hown) n
              have HZE := hid hz1e
              rw [hz1e] at o2'
              have e0 := byteAt_eq p.lo n hnl
              have hb2 := byteAt_lt p.lo n
              have hkd := hid (fun W => kind_any (byteAt p.lo n) W)
              have HCG := hid (codes_get hnl)
              have HEQ := hid (mix_eq (X := alo) (C := codes p.lo) HX.out (codes_len p.lo) hnl)
              have HNE := hid (mix_ne (X := alo) (C := codes p.lo) HX.out (codes_len p.lo) hnl)
              have n2 : (n : Int) < (p.lo.size : Int) := n1
              clear hI hml hown hz1e
              generalize byteAt p.lo n = c at *
              generalize alo.getD n 0 = xn at *
              by_cases hxc : xn = kindN c
              · have hx' : ((xn : Int) != ((kindN c : Nat) : Int)) = false := by simp; omega
                have HM : Hid (mixL alo (codes p.lo) (n + 1) = mixL alo (codes p.lo) n) := hid (HEQ.out (by rw [HCG.out]; exact hxc))
                clear hxc HEQ HNE
                go_upto_region 20 with fail
                go_quiet ((go_at_call 90; refine Calls.quiet_of_same (hkd.out _)))
                clear hkd o0' o1' o2' o3' b0 b1 b2 hcell
                go_wp2_with fail
                go_roundg (p.lo.size - (n + 1))
                case measure => omega
                case rel => exact ⟨n + 1, by omega, rfl, by go_num, by rw [HM.out]; exact HI.out.same (below_drewN (Below.refl _ _) _)⟩
              · have hx' : ((xn : Int) != ((kindN c : Nat) : Int)) = true := by simp; omega
                have HM : Hid (mixL alo (codes p.lo) (n + 1) = (mixL alo (codes p.lo) n).set n 2) := hid (HNE.out (by rw [HCG.out]; exact hxc))
                clear hxc HEQ HNE
                go_upto_region 20 with fail
                go_quiet ((go_at_call 90; refine Calls.quiet_of_same (hkd.out _)))
                go_wp2_with fail
                go_roundg (p.lo.size - (n + 1))
                case measure => omega
                case rel =>
                  refine ⟨n + 1, by omega, rfl, by go_num, ?_⟩
                  have h := HI.out
                  rw [HZE.out] at h ⊢
                  rw [HM.out]
                  exact (h.same (below_drewN (Below.refl _ _) _)).mixed 2
            · have n1 : ¬ (n : Int) < (p.lo.size : Int) := by omega
              have hnn : n = p.lo.size := by omega
              have HDN : Hid (ToldAt w wr pl (toldF i (all.take (k + 1))) v1 v2) := hid (by
                have := hI.toToldAt
                rw [hnn, mix_end HX.out (codes_len p.lo)] at this
                rw [HS.out]
                exact this)
              clear hI HI
              go_wp2_with fail
              go_roundg (all.length - (k + 1))
              case measure => omega
              case rel => exact ⟨k + 1, v1, v2, by omega, rfl, by go_num, HDN.out⟩
      · have ha' : (((p.at_ : Nat) : Int) != (i : Int)) = true := by simp; omega
        have HS : Hid (toldF i (all.take (k + 1)) = A) := hid (by rw [HSN.out]; unfold toldS; rw [if_neg ha])
        clear ha
        go_wp2_with fail
        go_roundg (all.length - (k + 1))
        case measure => omega
        case rel => exact ⟨k + 1, v1, v2, by omega, rfl, by go_num, by rw [HS.out]; exact HIN.out.toToldAt⟩
    · have d1 : ¬ (k : Int) < (all.length : Int) := by omega
      have hkl : k = all.length := by omega
      have hT2 := hT
      rw [hkl, List.take_length] at hT2
      have HTT := hid hT2
      obtain ⟨o0, o1, o2, o3⟩ := out_cells hT.out
      obtain ⟨r0, r1, r2, r3⟩ := out_cells hT.res
      have f0 := frozen_of_row wr w.heap.size 0 _ _ hT.res
      have f1 := frozen_of_row wr w.heap.size 1 _ _ hT.res
      have f2 := frozen_of_row wr w.heap.size 2 _ _ hT.res
      have f3 := frozen_of_row wr w.heap.size 3 _ _ hT.res
      obtain ⟨s1, c1, hv1⟩ := owns_slice hT.o1
      obtain ⟨s2, c2, hv2⟩ := owns_slice hT.o2
      rw [hkl, List.take_length] at o1 hv1 hv2
      generalize toldF i all = A at *
      generalize toldF i (all.take k) = A' at *
      obtain ⟨ar, alo, ast⟩ := A
      simp only at o1 hv1 hv2
      subst hv1
      subst hv2
      clear hT hT2
      have hOz : w.heap.size + 1 < wr.heap.size := (Array.getElem?_eq_some_iff.1 HTT.out.out).1
      go_wp2_with fail
      have hset : ∀ (u0 u1 u2 u3 : Value) j, j ≠ w.heap.size → ((((wr.setCell ⟨w.heap.size, 0, none⟩ u0).setCell ⟨w.heap.size, 1, none⟩ u1).setCell ⟨w.heap.size, 2, none⟩ u2).setCell ⟨w.heap.size, 3, none⟩ u3).heap[j]? = wr.heap[j]? := fun u0 u1 u2 u3 j hj => by
        rw [Below.heap_setCell _ _ _ _ hj, Below.heap_setCell _ _ _ _ hj, Below.heap_setCell _ _ _ _ hj, Below.heap_setCell _ _ _ _ hj]
      refine bodyPost_ret (v := .agg #[.int .i64 pl, .bool ar, .slice s1 alo.length c1, .slice s2 ast.length c2]) (by simp [results, Tryz.results54, go_sem, r0, r1, r2, r3]) rfl ⟨(((HTT.out.below.setCell (by simp) _).setCell (by simp) _).setCell (by simp) _).setCell (by simp) _, _, _, rfl, ?_, ?_⟩
      · refine (IntsAt.of_owns HTT.out.o1).keep (fun g' hg' => ⟨⟨by omega, by simp [World.setCell]; omega⟩, hset _ _ _ _ _ (by omega)⟩)
      · refine (IntsAt.of_owns HTT.out.o2).keep (fun g' hg' => ⟨⟨by omega, by simp [World.setCell]; omega⟩, hset _ _ _ _ _ (by omega)⟩)
theorem find_any (l : List Ins) (g cap p : Nat) (w : World) (hl : l.length ≤ 200) (hat : InsAt w g l) :
    Calls Tryz.prog 50 #[.slice (some ⟨g, 0, none⟩) l.length cap, .int .i64 p] w fun e w' => e = .returned (.int .i64 (findP p l 0)) ∧ w' = w := by
  go_enter Tryz.func50, Tryz.ntmps50
  go_wp2
  go_loop [5] (fun i => ∃ k : Nat, k ≤ l.length ∧ i = .int .i64 k ∧ findP p l 0 = findP p (l.drop k) k) (fun i => l.length - (intOf i).toNat)
  case atStart => exact ⟨0, Nat.zero_le _, rfl, by simp⟩
  case round =>
    obtain ⟨k, hk, rfl, hf⟩ := hrel
    have HF : Hid (findP p l 0 = findP p (l.drop k) k) := hf
    clear hf
    by_cases hlt : k < l.length
    · obtain ⟨h0, h1, h2⟩ := hat k hlt
      have HD : Hid (l.drop k = l[k] :: l.drop (k + 1)) := List.drop_eq_getElem_cons hlt
      by_cases hp : l[k].place = p
      · have hp' : (((l[k].place : Nat) : Int) == (p : Int)) = true := by simp; omega
        have HP : Hid (l[k].place = p) := hp
        clear hp
        go_wp2
        go_ret
        exact ⟨ret_int (by rw [HF.out, HD.out]; simp [findP, HP.out]), rfl⟩
      · have hp' : (((l[k].place : Nat) : Int) == (p : Int)) = false := by simp; omega
        go_wp2
        go_round
        case rel => exact ⟨k + 1, by omega, by go_num, by rw [HF.out, HD.out]; simp [findP, hp]⟩
        case measure => simp [intOf]; omega
    · go_wp2
      go_ret
      exact ⟨ret_int (by rw [HF.out, List.drop_of_length_le (by omega)]; simp [findP]), rfl⟩
theorem behind_any (t : ByteArray) (p locals : Nat) (w : World) (hs : t.size ≤ 200) (hp : p < t.size) (hl : locals ≤ 4) (htab : TakesTab w) :
    Calls Tryz.prog 73 #[.string t, .int .i64 p, .int .i64 locals] w fun e w' => e = .returned (.tuple #[.int .i64 ((behindP t p locals).1 : Nat), .int .i64 ((behindP t p locals).2 : Nat)]) ∧ w' = w := by
  have hc := byteAt_eq t p hp
  have hc2 := byteAt_lt t p
  have hd := byteAt_eq t (p + 1)
  have hd2 := byteAt_lt t (p + 1)
  generalize hB : behindP t p locals = B
  have HB : Hid (behindP t p locals = B) := hB
  clear hB
  unfold behindP at HB
  generalize byteAt t p = c at *
  generalize byteAt t (p + 1) = n at *
  have hw := wrapb c hc2
  have hw2 := wrapb n hd2
  by_cases h24 : 24 < c
  · have HE : Hid ((0, 0) = B) := hid (by rw [← HB.out]; simp [behindQ, h24])
    clear HB htab hd hd2 hw2
    go_enter Tryz.func73, Tryz.ntmps73
    go_wp2
    go_ret2
    exact ⟨ret2 (by rw [← HE.out]; rfl) (by rw [← HE.out]; rfl), rfl⟩
  have hk := htab c (by omega)
  clear htab
  cases htk : takesB c
  · have HE : Hid ((p + 1, 0) = B) := hid (by rw [← HB.out]; simp [behindQ, h24, htk])
    rw [htk] at hk
    clear HB hd hd2 hw2 htk
    go_enter Tryz.func73, Tryz.ntmps73
    go_wp2
    go_ret2
    exact ⟨ret2 (by rw [← HE.out]; simp) (by rw [← HE.out]; rfl), rfl⟩
  rw [htk] at hk
  by_cases hsz : t.size ≤ p + 1
  · have HE : Hid ((0, 0) = B) := hid (by rw [← HB.out]; simp [behindQ, h24, htk, hsz])
    clear HB hd hd2 hw2 htk
    go_enter Tryz.func73, Tryz.ntmps73
    go_wp2
    go_ret2
    exact ⟨ret2 (by rw [← HE.out]; rfl) (by rw [← HE.out]; rfl), rfl⟩
  have hd' := hd (by omega)
  clear hd
  have HE : Hid ((if badN c n locals = true then (0, 0) else (p + 2, n)) = B) := hid (by rw [← HB.out]; simp [behindQ, h24, htk, hsz])
  clear HB htk
  have hl' : (locals : Int) ≤ 4 := by omega
  go_enter Tryz.func73, Tryz.ntmps73
  go_wp2
  all_goals go_ret2
  all_goals
    first
    | (have e1 : badN c n locals = true := by (simp [badN]; omega)
       have h1 := HE.out
       rw [if_pos e1] at h1
       exact ⟨ret2 (by rw [← h1]; simp) (by rw [← h1]; simp), rfl⟩)
    | (have e1 : badN c n locals = false := by (simp [badN]; omega)
       have h1 := HE.out
       rw [if_neg (by simp [e1])] at h1
       exact ⟨ret2 (by rw [← h1]; simp) (by rw [← h1]), rfl⟩)
theorem Tryz.infoIns : (Tryz.prog.info? 113).map (fun i => (i.zero, i.size, i.bytes)) = some (some (.agg #[.int .i64 0, .int .i64 0, .int .i64 0]), 3, 24) := by kernel_rfl
theorem jumpsOk_false {ls : List Ins} {k : Nat} (h : k < ls.length) (hj : ls[k].op = 19 ∨ ls[k].op = 20) (hf : findP ls[k].n ls 0 < 0) : jumpsOk ls = false := by
  unfold jumpsOk
  rw [List.all_eq_false]
  refine ⟨ls[k], List.getElem_mem h, ?_⟩
  simp [isJump]
  exact ⟨fun h => hj.resolve_left h, hf⟩
theorem jumpsOk_true {ls : List Ins} (h : ∀ j (h : j < ls.length), isJump ls[j].op = false ∨ 0 ≤ findP ls[j].n ls 0) : jumpsOk ls = true := by
  unfold jumpsOk
  rw [List.all_eq_true]
  intro i hi
  obtain ⟨j, hj, rfl⟩ := List.getElem_of_mem hi
  rcases h j hj with h | h
  · simp [h]
  · simp [h]
theorem lastOp_eq {ls : List Ins} (h : 0 < ls.length) : lastOp ls = (ls[ls.length - 1]'(by omega)).op := by
  unfold lastOp
  rw [List.getLast?_eq_getElem?, List.getElem?_eq_getElem (by omega)]
  rfl
def CodePost (s : ByteArray) (w : World) (e : Ending) (w' : World) : Prop :=
  Below w.heap.size w w' ∧ ((errOf s ≠ 0 ∧ e = .returned (.tuple #[.slice none 0 0, .int .i64 0, .int .i64 (errOf s : Nat)])) ∨
    (errOf s = 0 ∧ ∃ g cap, e = .returned (.tuple #[.slice (some ⟨g, 0, none⟩) (codeOf s).length cap, .int .i64 (byteAt s 1 : Nat), .int .i64 0]) ∧ w.heap.size ≤ g ∧ g < w'.heap.size ∧ InsAt w' g (codeOf s)))
theorem codePost_err {s : ByteArray} {w w' : World} {k : Nat} (hb : Below w.heap.size w w') (he : errOf s = k) (hk : k ≠ 0) {z : Int} (hz : z = (k : Int)) : CodePost s w (.returned (.tuple #[.slice none 0 0, .int .i64 0, .int .i64 z])) w' := by
  subst he; subst hz; exact ⟨hb, .inl ⟨hk, rfl⟩⟩
theorem codePost_ok {s : ByteArray} {w w' : World} {L g cap n : Nat} {ls : List Ins} (hb : Below w.heap.size w w') (he : errOf s = 0) (hL : byteAt s 1 = L) (hc : codeOf s = ls) (hn : ls.length = n) (h1 : w.heap.size ≤ g) (h2 : g < w'.heap.size) (h3 : InsAt w' g ls) :
    CodePost s w (.returned (.tuple #[.slice (some ⟨g, 0, none⟩) n cap, .int .i64 (L : Nat), .int .i64 0])) w' := by
  subst hL; subst hc; subst hn; exact ⟨hb, .inr ⟨he, g, cap, rfl, h1, h2, h3⟩⟩
theorem code_shaped (s : ByteArray) (w : World) (htab : TakesTab w) (hsh : shapedP s = true) :
    Calls Tryz.prog 43 #[.string s] w (CodePost s w) := by
  obtain ⟨i0, hi0, hz0, hz1, hz2⟩ := info_parts Tryz.infoIns
  obtain ⟨⟨⟨h3, h4⟩, h0⟩, h1⟩ : ((3 ≤ s.size ∧ s.size ≤ 122) ∧ byteAt s 0 = 84) ∧ byteAt s 1 ≤ 4 := by simpa [shapedP] using hsh
  have hsz : (textOf s).size = s.size - 2 := by simp [textOf]
  have e0 := byteAt_eq s 0 (by omega)
  have e1 := byteAt_eq s 1 (by omega)
  rw [h0] at e0
  have HB : Hid (errOf s = match dec (textOf s) (byteAt s 1) 0 with
    | none => 2
    | some l => if jumpsOk l = false then 3 else if endsOk l = false then 4 else 0) := hid (by unfold errOf; rw [hsh]; rfl)
  have HC : Hid (codeOf s = (dec (textOf s) (byteAt s 1) 0).getD []) := hid rfl
  generalize hL : byteAt s 1 = L at *
  have HL := hid hL
  clear hsh h0 hL
  have HT : Hid (textOf s = s.extract 2 s.size) := hid rfl
  have d1 : decide ((s.size : Int) < 3) = false := by simp; omega
  have d2 : decide (122 < (s.size : Int)) = false := by simp; omega
  have d3 : decide (4 < (L : Int)) = false := by simp; omega
  have t1 : 1 ≤ (textOf s).size := by omega
  have t2 : (textOf s).size ≤ 120 := by omega
  clear hsz
  go_enter Tryz.func43, Tryz.ntmps43
  go_wp2_with fail
  rw [← HT.out]
  generalize textOf s = t at *
  clear HT
  go_loopw [7, 8] (fun l p w' => ∃ (pn : Nat) (ls : List Ins), pn ≤ t.size ∧ p = .int .i64 pn ∧ w'.ownsRow w.heap.size 113 3 l ls.length (insCells ls) ∧ Below w.heap.size w w' ∧ dec t L 0 = (dec t L pn).map (ls ++ ·) ∧ ls.length ≤ pn) (fun _ p _ => t.size - (intOf p).toNat)
  case atStart => exact ⟨0, [], by omega, rfl, World.ownsRow_nil _ _ _ _, Below.refl _ _, by simp, by simp⟩
  case round =>
    obtain ⟨pn, ls, hpn, rfl, hown, hbel, hdec, hlen⟩ := hrel
    have HDEC := hid hdec
    clear hdec
    have hsize := hbel.size
    by_cases hlt : pn < t.size
    · have htab' := htab.below hbel
      have c0 := byteAt_eq t pn hlt
      have c1 := byteAt_lt t pn
      by_cases hq : (behindP t pn L).1 = 0
      · have HD := hid (dec_none t L pn hlt hq)
        have hq' : (((behindP t pn L).1 : Nat) : Int) = 0 := by omega
        clear hq
        go_wp2_with (go_at_call 73; refine (behind_any _ _ _ _ (by omega) hlt (by omega) htab').mono ?_; rintro e w2 ⟨rfl, rfl⟩)
        go_ret3
        exact codePost_err (k := 2) hbel (by have h := HB.out; rw [HDEC.out, HD.out] at h; exact h) (by decide) rfl
      · have hgt := behindP_gt t pn L hlt hq
        have HD := hid (dec_some t L pn hlt hq)
        have hbh := hid (behind_any t pn L wr (by omega) hlt (by omega) htab')
        generalize behindP t pn L = B at *
        obtain ⟨q, n⟩ := B
        simp only at hgt hq HD hbh
        obtain ⟨g1, g2, g3⟩ := hgt
        have q0 : (((q : Nat) : Int) == 0) = false := by simp; omega
        go_wp2_with fail
        refine hbh.out.mono ?_
        clear hbh
        rintro e w2 ⟨rfl, rfl⟩
        go_wp2_with (at_builtin; go_loud (refine wpList_append_lies _ (by rfl) _ _ _ (by rfl) w.heap.size 113 i0 _ 3 24 Tryz.underlying75 hi0 hz0 hz1 hz2 rfl (by omega) _ ls.length (insCells ls) (by rfl) (hown.alloc _) ⟨_, 0, none⟩ 1 1 [.int .i64 (byteAt t pn : Nat), .int .i64 n, .int .i64 pn] (by rfl) (by rfl) (World.news_of_block (cs := #[.int .i64 (byteAt t pn : Nat), .int .i64 n, .int .i64 pn]) (t := 113) (fr := (0, 0)) (heap_alloc_new _ _)) (by simp [Value.oneCell']) (by omega) (by unfold maxLen; omega) (by omega) (by simp; omega) _ rfl ?_); intro gg cap w1 hown1 hgrow hat hlt2)
        refine ⟨⟨q, ls ++ [⟨byteAt t pn, n, pn⟩], g2, rfl, by rw [insCells_snoc, List.length_append]; exact hown1, (hbel.alloc hsize _).grown hgrow (by simp; omega) (fun k hk => (hown.lt k hk).1), ?_, by simp; omega⟩, by simp [intOf]; omega⟩
        rw [HDEC.out, HD.out]
        cases dec t L q <;> simp
    · have HD := hid (dec_end t L pn (by omega))
      have hne : 0 < ls.length := by
        rcases Nat.eq_zero_or_pos ls.length with h | h
        · exfalso
          have h' := HDEC.out
          rw [HD.out, List.length_eq_zero_iff.1 h] at h'
          by_cases hq : (behindP t 0 L).1 = 0
          · rw [dec_none t L 0 (by omega) hq] at h'; cases h'
          · rw [dec_some t L 0 (by omega) hq] at h'
            cases hx : dec t L (behindP t 0 L).1 with
            | none => rw [hx] at h'; cases h'
            | some r => rw [hx] at h'; cases h'
        · exact h
      have HDEC2 : Hid (dec t L 0 = some ls) := hid (by rw [HDEC.out, HD.out]; simp)
      clear HDEC HD
      obtain ⟨g, cap, rfl, hg1, hg2⟩ := hown.form hne
      have hat := InsAt.of_owns hown
      have hlen2 : ls.length ≤ 120 := by omega
      clear hown hpn hlen
      go_wp2_with fail
      go_loopw [11] (fun i w' => ∃ (k : Nat), k ≤ ls.length ∧ i = .int .i64 k ∧ w' = wr ∧ ∀ j (h : j < ls.length), j < k → isJump ls[j].op = false ∨ 0 ≤ findP ls[j].n ls 0) (fun i _ => ls.length - (intOf i).toNat)
      case atStart => exact ⟨0, by omega, rfl, rfl, fun j _ h => by omega⟩
      case round =>
        obtain ⟨k, hk, rfl, hweq, hall⟩ := hrel
        subst hweq
        have HA := hid hall
        clear hall
        by_cases hkl : k < ls.length
        · obtain ⟨a0, a1, a2⟩ := hat k hkl
          have hfd := hid (find_any ls g cap ls[k].n wr (by omega) hat)
          go_wp2_with (go_at_call 50; go_must (refine hfd.out.mono ?_); rintro e w2 ⟨rfl, rfl⟩)
          all_goals
            first
            | (go_ret3
               exact codePost_err (k := 3) hbel (by have h := HB.out; rw [HDEC2.out] at h; simpa [jumpsOk_false hkl (by omega) (by omega)] using h) (by decide) rfl)
            | (refine ⟨⟨k + 1, by omega, by go_num, by first | rfl | trivial, fun j hj hjk => ?_⟩, by simp [intOf]; omega⟩
               rcases Nat.lt_or_ge j k with hlt2 | hge2
               · exact HA.out j hj hlt2
               · have : j = k := by omega
                 subst this
                 first
                 | (right; omega)
                 | (left; simp [isJump]; omega))
        · have HJ := hid (jumpsOk_true (ls := ls) fun j h => HA.out j h (by omega))
          have hlo := hid (lastOp_eq hne)
          obtain ⟨a0, a1, a2⟩ := hat (ls.length - 1) (by omega)
          have HEnd : Hid (errOf s = if endsOk ls = false then 4 else 0) := hid (by
            have h := HB.out
            rw [HDEC2.out] at h
            simpa [HJ.out] using h)
          have HCode : Hid (codeOf s = ls) := hid (by rw [HC.out, HDEC2.out]; rfl)
          by_cases hx0 : ls[ls.length - 1].op = 0
          · have hy0 : (((ls[ls.length - 1].op : Nat) : Int) != 0) = false := by simp; omega
            have HE2 : Hid (errOf s = 0) := hid (by rw [HEnd.out]; simp [endsOk, hlo.out, hx0])
            clear HEnd
            go_wp2_with fail
            go_ret3
            exact codePost_ok hbel HE2.out HL.out HCode.out rfl hg1 hg2 hat
          · have hy0 : (((ls[ls.length - 1].op : Nat) : Int) != 0) = true := by simp; omega
            by_cases hx1 : ls[ls.length - 1].op = 19
            · have hy1 : (((ls[ls.length - 1].op : Nat) : Int) != 19) = false := by simp; omega
              have HE2 : Hid (errOf s = 0) := hid (by rw [HEnd.out]; simp [endsOk, hlo.out, hx1])
              clear HEnd hx1 hx0
              go_wp2_with fail
              go_ret3
              exact codePost_ok hbel HE2.out HL.out HCode.out rfl hg1 hg2 hat
            · have hy1 : (((ls[ls.length - 1].op : Nat) : Int) != 19) = true := by simp; omega
              have HE2 : Hid (errOf s = 4) := hid (by rw [HEnd.out]; simp [endsOk, hlo.out, hx1, hx0])
              clear HEnd hx1 hx0
              go_wp2_with fail
              go_ret3
              exact codePost_err hbel HE2.out (by decide) rfl
theorem code_unshaped (s : ByteArray) (w : World) (hs : s.size ≤ maxLen) (hsh : shapedP s = false) :
    Calls Tryz.prog 43 #[.string s] w (CodePost s w) := by
  unfold maxLen at hs
  have HE : Hid (errOf s = 1) := hid (by simp [errOf, hsh])
  have b0 := byteAt_lt s 0
  have b1 := byteAt_lt s 1
  by_cases h3 : s.size < 3
  · clear hsh
    go_enter Tryz.func43, Tryz.ntmps43
    go_wp2_with fail
    go_ret3
    exact codePost_err (Below.refl _ _) HE.out (by decide) rfl
  by_cases h4 : 122 < s.size
  · clear hsh
    go_enter Tryz.func43, Tryz.ntmps43
    go_wp2_with fail
    go_ret3
    exact codePost_err (Below.refl _ _) HE.out (by decide) rfl
  have e0 := byteAt_eq s 0 (by omega)
  have e1 := byteAt_eq s 1 (by omega)
  by_cases h5 : byteAt s 0 = 84
  · have h6 : 4 < byteAt s 1 := by
      simp [shapedP] at hsh
      exact hsh (by omega) (by omega) h5
    clear hsh
    rw [h5] at e0
    have d1 : decide ((s.size : Int) < 3) = false := by simp; omega
    have d2 : decide (122 < (s.size : Int)) = false := by simp; omega
    clear h5
    go_enter Tryz.func43, Tryz.ntmps43
    go_wp2_with fail
    go_ret3
    exact codePost_err (Below.refl _ _) HE.out (by decide) rfl
  · have d1 : decide ((s.size : Int) < 3) = false := by simp; omega
    have d2 : decide (122 < (s.size : Int)) = false := by simp; omega
    have h7 : (((byteAt s 0 : Nat) : Int) != 84) = true := by simp; omega
    clear hsh
    go_enter Tryz.func43, Tryz.ntmps43
    go_wp2_with fail
    go_ret3
    exact codePost_err (Below.refl _ _) HE.out (by decide) rfl
theorem code_any (s : ByteArray) (w : World) (hs : s.size ≤ maxLen) (htab : TakesTab w) :
    Calls Tryz.prog 43 #[.string s] w (CodePost s w) := by
  cases hsh : shapedP s
  · exact code_unshaped s w hs hsh
  · exact code_shaped s w htab hsh
theorem three_new_r (w : World) (a b c : Obj) : Below w.heap.size w (((w.alloc a).alloc b).alloc c) :=
  (((Below.refl _ _).alloc (Nat.le_refl _) _).alloc (by simp) _).alloc (by simp; omega) _
theorem three_new_r_drew (w : World) (a b c : Obj) : Below w.heap.size w ((((w.alloc a).alloc b).alloc c).drew) := (three_new_r w a b c).drew
theorem after_load (a n pl : Nat) (lo st : ByteArray) (w : World) (h1 : lo.size ≤ 4) (h2 : st.size ≤ 8) (h3 : n < lo.size) :
    Calls Tryz.prog 86 #[.agg #[.int .i64 a, .string lo, .string st], .agg #[.int .i64 (7 : Nat), .int .i64 n, .int .i64 pl]] w (AfterPost a lo st 7 n w) := by
  go_enter Tryz.func86, Tryz.ntmps86
  go_wp2
  exact bodyPost_ret (v := .tuple #[.agg #[.int .i64 a, .string lo, .string (st ++ lo.extract n (n + 1))], .bool true]) (by simp [results, Tryz.results86, go_sem]) rfl (afterPost_mk (three_new_r _ _ _ _) rfl)
theorem after_store (a n pl : Nat) (lo st : ByteArray) (w : World) (h1 : lo.size ≤ 4) (h2 : st.size ≤ 8) (h3 : n < lo.size) (hk : 1 ≤ st.size) :
    Calls Tryz.prog 86 #[.agg #[.int .i64 a, .string lo, .string st], .agg #[.int .i64 (8 : Nat), .int .i64 n, .int .i64 pl]] w (AfterPost a lo st 8 n w) := by
  have hn0 : (0 : Int) ≤ (n : Int) := by omega
  have hn1 : (n : Int) + 1 ≤ (lo.size : Int) := by omega
  have hn2 : (n : Int) ≤ (lo.size : Int) := by omega
  have hs0 : (0 : Int) ≤ (st.size : Int) - 1 := by omega
  have hs1 : (st.size : Int) - 1 ≤ (st.size : Int) := by omega
  have d1 : decide ((st.size : Int) < 1) = false := by simp; omega
  have HE : Hid (afterV lo st 8 n = (lo.extract 0 n ++ st.extract (st.size - 1) st.size ++ lo.extract (n + 1) lo.size, st.extract 0 (st.size - 1), true)) := hid (by
    unfold afterV; rw [if_neg (by decide), if_pos rfl, if_neg (by omega)])
  go_enter Tryz.func86, Tryz.ntmps86
  go_wp2
  go_region
  all_goals go_wp2
  exact bodyPost_ret (v := .tuple #[.agg #[.int .i64 a, .string (lo.extract 0 n ++ st.extract (st.size - 1) st.size ++ lo.extract (n + 1) lo.size), .string (st.extract 0 (st.size - 1))], .bool true]) (by simp [results, Tryz.results86, go_sem]) rfl (afterPost_mk (three_new_r_drew _ _ _ _) HE.out)
theorem after_dup (a n pl : Nat) (lo st : ByteArray) (w : World) (h2 : st.size ≤ 8) (hk : 1 ≤ st.size) :
    Calls Tryz.prog 86 #[.agg #[.int .i64 a, .string lo, .string st], .agg #[.int .i64 (9 : Nat), .int .i64 n, .int .i64 pl]] w (AfterPost a lo st 9 n w) := by
  have HE : Hid (afterV lo st 9 n = (lo, st ++ st.extract (st.size - 1) st.size, true)) := hid (by
    unfold afterV; rw [if_neg (by decide), if_neg (by decide), if_pos rfl, if_neg (by omega)])
  go_enter Tryz.func86, Tryz.ntmps86
  go_wp2
  exact bodyPost_ret (v := .tuple #[.agg #[.int .i64 a, .string lo, .string (st ++ st.extract (st.size - 1) st.size)], .bool true]) (by simp [results, Tryz.results86, go_sem]) rfl (afterPost_mk (three_new_r _ _ _ _) HE.out)
theorem after_drop (a n pl : Nat) (lo st : ByteArray) (w : World) (h2 : st.size ≤ 8) (hk : 1 ≤ st.size) :
    Calls Tryz.prog 86 #[.agg #[.int .i64 a, .string lo, .string st], .agg #[.int .i64 (10 : Nat), .int .i64 n, .int .i64 pl]] w (AfterPost a lo st 10 n w) := by
  have HE : Hid (afterV lo st 10 n = (lo, st.extract 0 (st.size - 1), true)) := hid (by
    unfold afterV; rw [if_neg (by decide), if_neg (by decide), if_neg (by decide), if_pos rfl, if_neg (by omega)])
  go_enter Tryz.func86, Tryz.ntmps86
  go_wp2
  exact bodyPost_ret (v := .tuple #[.agg #[.int .i64 a, .string lo, .string (st.extract 0 (st.size - 1))], .bool true]) (by simp [results, Tryz.results86, go_sem]) rfl (afterPost_mk (three_new_r _ _ _ _) HE.out)
theorem after_swap (a n pl : Nat) (lo st : ByteArray) (w : World) (h2 : st.size ≤ 8) (hk : 2 ≤ st.size) :
    Calls Tryz.prog 86 #[.agg #[.int .i64 a, .string lo, .string st], .agg #[.int .i64 (11 : Nat), .int .i64 n, .int .i64 pl]] w (AfterPost a lo st 11 n w) := by
  have hs0 : (0 : Int) ≤ (st.size : Int) - 2 := by omega
  have hs1 : (st.size : Int) - 2 ≤ (st.size : Int) - 1 := by omega
  have hs2 : (st.size : Int) - 1 ≤ (st.size : Int) := by omega
  have d1 : decide ((st.size : Int) < 2) = false := by simp; omega
  have HE : Hid (afterV lo st 11 n = (lo, st.extract 0 (st.size - 2) ++ st.extract (st.size - 1) st.size ++ st.extract (st.size - 2) (st.size - 1), true)) := hid (by
    unfold afterV; rw [if_neg (by decide), if_neg (by decide), if_neg (by decide), if_neg (by decide), if_pos rfl, if_neg (by omega)])
  go_enter Tryz.func86, Tryz.ntmps86
  go_wp2
  go_region
  all_goals go_wp2
  exact bodyPost_ret (v := .tuple #[.agg #[.int .i64 a, .string lo, .string (st.extract 0 (st.size - 2) ++ st.extract (st.size - 1) st.size ++ st.extract (st.size - 2) (st.size - 1))], .bool true]) (by simp [results, Tryz.results86, go_sem]) rfl (afterPost_mk (three_new_r_drew _ _ _ _) HE.out)
theorem after_short (a op n pl : Nat) (lo st : ByteArray) (w : World) (h2 : st.size ≤ 8) (hk : op = 8 ∧ st.size < 1 ∨ op = 9 ∧ st.size < 1 ∨ op = 10 ∧ st.size < 1 ∨ op = 11 ∧ st.size < 2) :
    Calls Tryz.prog 86 #[.agg #[.int .i64 a, .string lo, .string st], .agg #[.int .i64 op, .int .i64 n, .int .i64 pl]] w (AfterPost a lo st op n w) := by
  have HE : Hid (afterV lo st op n = (lo, st, false)) := hid (by
    unfold afterV
    rcases hk with ⟨rfl, h⟩ | ⟨rfl, h⟩ | ⟨rfl, h⟩ | ⟨rfl, h⟩ <;> simp [h])
  rcases hk with ⟨rfl, h⟩ | ⟨rfl, h⟩ | ⟨rfl, h⟩ | ⟨rfl, h⟩
  all_goals
    go_enter Tryz.func86, Tryz.ntmps86
    go_wp2
    exact bodyPost_ret (v := .tuple #[.agg #[.int .i64 a, .string lo, .string st], .bool false]) (by simp [results, Tryz.results86, go_sem]) rfl (afterPost_mk (three_new_r _ _ _ _) HE.out)
theorem after_eqs (op : Nat) (hne : op ≠ 7 ∧ op ≠ 8 ∧ op ≠ 9 ∧ op ≠ 10 ∧ op ≠ 11) : ((op : Int) == 7) = false ∧ ((op : Int) == 8) = false ∧ ((op : Int) == 9) = false ∧ ((op : Int) == 10) = false ∧ ((op : Int) == 11) = false := by
  simp only [beq_eq_false_iff_ne]; omega
theorem after_few (a op n pl : Nat) (lo st : ByteArray) (w : World) (hop : op < 25) (hne : op ≠ 7 ∧ op ≠ 8 ∧ op ≠ 9 ∧ op ≠ 10 ∧ op ≠ 11) (htab : TypeTab w) (hk : st.size < (popsS op).size) :
    Calls Tryz.prog 86 #[.agg #[.int .i64 a, .string lo, .string st], .agg #[.int .i64 op, .int .i64 n, .int .i64 pl]] w (AfterPost a lo st op n w) := by
  have HE : Hid (afterV lo st op n = (lo, st, false)) := hid (by
    unfold afterV
    simp [hne, hk])
  obtain ⟨c1, c2⟩ := htab op hop
  obtain ⟨q1, q2, q3, q4, q5⟩ := after_eqs op hne
  have hps := popsS_size op
  have l2 := World.block_lt_of_cell? w _ c2
  have l1 := World.block_lt_of_cell? w _ c1
  have l0 : 0 < w.heap.size := by omega
  clear htab hne
  generalize popsS op = P at *
  go_enter Tryz.func86, Tryz.ntmps86
  go_wp2
  exact bodyPost_ret (v := .tuple #[.agg #[.int .i64 a, .string lo, .string st], .bool false]) (by simp [results, Tryz.results86, go_sem]) rfl (afterPost_mk (three_new_r _ _ _ _) HE.out)
theorem after_wrong (a op n pl : Nat) (lo st : ByteArray) (w : World) (h2 : st.size ≤ 8) (hop : op < 25) (hne : op ≠ 7 ∧ op ≠ 8 ∧ op ≠ 9 ∧ op ≠ 10 ∧ op ≠ 11) (htab : TypeTab w) (hk : (popsS op).size ≤ st.size) (hx : st.extract (st.size - (popsS op).size) st.size ≠ popsS op) :
    Calls Tryz.prog 86 #[.agg #[.int .i64 a, .string lo, .string st], .agg #[.int .i64 op, .int .i64 n, .int .i64 pl]] w (AfterPost a lo st op n w) := by
  have HE : Hid (afterV lo st op n = (lo, st, false)) := hid (by
    unfold afterV
    simp [hne, hx])
  obtain ⟨c1, c2⟩ := htab op hop
  obtain ⟨q1, q2, q3, q4, q5⟩ := after_eqs op hne
  have hps := popsS_size op
  have l2 := World.block_lt_of_cell? w _ c2
  have l1 := World.block_lt_of_cell? w _ c1
  have l0 : 0 < w.heap.size := by omega
  clear htab hne
  generalize popsS op = P at *
  have hx' := str_ne hx
  clear hx
  go_enter Tryz.func86, Tryz.ntmps86
  go_wp2
  exact bodyPost_ret (v := .tuple #[.agg #[.int .i64 a, .string lo, .string st], .bool false]) (by simp [results, Tryz.results86, go_sem]) rfl (afterPost_mk (three_new_r _ _ _ _) HE.out)
theorem after_right (a op n pl : Nat) (lo st : ByteArray) (w : World) (h2 : st.size ≤ 8) (hop : op < 25) (hne : op ≠ 7 ∧ op ≠ 8 ∧ op ≠ 9 ∧ op ≠ 10 ∧ op ≠ 11) (htab : TypeTab w) (hk : (popsS op).size ≤ st.size) (hx : st.extract (st.size - (popsS op).size) st.size = popsS op) :
    Calls Tryz.prog 86 #[.agg #[.int .i64 a, .string lo, .string st], .agg #[.int .i64 op, .int .i64 n, .int .i64 pl]] w (AfterPost a lo st op n w) := by
  have HE : Hid (afterV lo st op n = (lo, st.extract 0 (st.size - (popsS op).size) ++ pushesS op, true)) := hid (by
    unfold afterV
    simp [hne, hx]; omega)
  obtain ⟨c1, c2⟩ := htab op hop
  obtain ⟨q1, q2, q3, q4, q5⟩ := after_eqs op hne
  have hps := popsS_size op
  have hpu := pushesS_size op
  have l2 := World.block_lt_of_cell? w _ c2
  have l1 := World.block_lt_of_cell? w _ c1
  have l0 : 0 < w.heap.size := by omega
  clear htab hne
  generalize popsS op = P at *
  generalize pushesS op = R at *
  have hx' := str_eq hx
  clear hx
  go_enter Tryz.func86, Tryz.ntmps86
  go_wp2
  go_region
  all_goals go_wp2
  exact bodyPost_ret (v := .tuple #[.agg #[.int .i64 a, .string lo, .string (st.extract 0 (st.size - P.size) ++ R)], .bool true]) (by simp [results, Tryz.results86, go_sem]) rfl (afterPost_mk (three_new_r_drew _ _ _ _) HE.out)
theorem after_any (a op n pl : Nat) (lo st : ByteArray) (w : World) (h1 : lo.size ≤ 4) (h2 : st.size ≤ 8) (hop : op < 25) (hn : op = 7 ∨ op = 8 → n < lo.size) (htab : TypeTab w) :
    Calls Tryz.prog 86 #[.agg #[.int .i64 a, .string lo, .string st], .agg #[.int .i64 op, .int .i64 n, .int .i64 pl]] w (AfterPost a lo st op n w) := by
  by_cases e7 : op = 7
  · subst e7; exact after_load a n pl lo st w h1 h2 (hn (.inl rfl))
  by_cases e8 : op = 8
  · by_cases hk : 1 ≤ st.size
    · subst e8; exact after_store a n pl lo st w h1 h2 (hn (.inr rfl)) hk
    · exact after_short a op n pl lo st w h2 (.inl ⟨e8, by omega⟩)
  by_cases e9 : op = 9
  · by_cases hk : 1 ≤ st.size
    · subst e9; exact after_dup a n pl lo st w h2 hk
    · exact after_short a op n pl lo st w h2 (.inr (.inl ⟨e9, by omega⟩))
  by_cases e10 : op = 10
  · by_cases hk : 1 ≤ st.size
    · subst e10; exact after_drop a n pl lo st w h2 hk
    · exact after_short a op n pl lo st w h2 (.inr (.inr (.inl ⟨e10, by omega⟩)))
  by_cases e11 : op = 11
  · by_cases hk : 2 ≤ st.size
    · subst e11; exact after_swap a n pl lo st w h2 hk
    · exact after_short a op n pl lo st w h2 (.inr (.inr (.inr ⟨e11, by omega⟩)))
  by_cases hk : st.size < (popsS op).size
  · exact after_few a op n pl lo st w hop ⟨e7, e8, e9, e10, e11⟩ htab hk
  by_cases hx : st.extract (st.size - (popsS op).size) st.size = popsS op
  · exact after_right a op n pl lo st w h2 hop ⟨e7, e8, e9, e10, e11⟩ htab (by omega) hx
  · exact after_wrong a op n pl lo st w h2 hop ⟨e7, e8, e9, e10, e11⟩ htab (by omega) hx
end Go.Proofs.YtdmdpindonghdaaGreatDoor
