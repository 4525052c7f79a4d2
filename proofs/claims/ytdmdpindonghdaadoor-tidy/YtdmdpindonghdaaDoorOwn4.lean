/- What the proofs of these statements stand on, part 4: BlB, MsE, GcB, GcC, GcD, GcE, KpA, KpB, PmA, PmB. -/
import Derived.Test.YtdmdpindonghdaaDoorRows
import Derived.Test.YtdmdpindonghdaaDoorOwn3
import Derived.WalkKit
import Derived.WalkSmall
import Derived.Deep.AppendLies
import Derived.Deep.DeepMust
import Derived.Deep.LoopGhost
import Derived.WalkSpells
import Derived.WalkLawsBesides
import Derived.BigRegion
import Derived.Deep.QuietTactic
import Derived.BigQuiet
import Derived.Deep.RegionHeld3
import Derived.OwnWalk
import Derived.Laws.StructEq
import Derived.Deep.RegionLaw
import Derived.Deep.DeepCutAuto
import Derived.Laws.MakeOwn
import Derived.Laws.IdiomCopy
import Derived.Laws.BytesArg
namespace Go.Proofs.YtdmdpindonghdaaDoor
open Go.RowKit
def runT (lo st : ByteArray) : List (Nat × Nat) → Option (ByteArray × ByteArray)
  | [] => some (lo, st)
  | x :: r => if (afterV lo st x.1 x.2).2.2 = true ∧ (afterV lo st x.1 x.2).2.1.size ≤ 8 then runT (afterV lo st x.1 x.2).1 (afterV lo st x.1 x.2).2.1 r else none
theorem runT_append (a b : List (Nat × Nat)) : ∀ lo st, runT lo st (a ++ b) = (runT lo st a).bind fun p => runT p.1 p.2 b := by
  induction a with
  | nil => intro lo st; rfl
  | cons x r ih =>
    intro lo st
    simp only [List.cons_append, runT]
    split
    · exact ih _ _
    · rfl
/-- The code of a built image is made of pieces, of which each leaves the types as they were. -/
def loB : ByteArray := ⟨#[105, 114, 114, 114]⟩
def stB : ByteArray := ⟨#[]⟩
def loI : ByteArray := ⟨#[105, 105, 105, 105]⟩
def proC : List (Nat × Nat) := [(12, 0), (8, 1), (12, 0), (8, 2), (12, 0), (8, 3)]
def unlC (n at_ : Nat) (cs : List (Nat × Nat)) : List (Nat × Nat) := [(7, n), (12, 0), (18, 0), (20, at_ + 6 + csize cs)] ++ cs
/-- The body of a piece, and the local whose None leaves it out (0: none). -/
def bodyC (c : Nat) (weak : Bool) : Nat × List (Nat × Nat) :=
  let k := c % 16
  let x := 1 + c / 16 % 2
  let y := 3 - x
  let f := c / 32 % 2
  if k ≤ 1 then (0, [(13, 0), (8, x)])
  else if k ≤ 4 then (0, [(13, 0), (9, 0), (7, x), (15, f), (8, x)])
  else if k ≤ 6 then (x, [(7, x), (14, f), (8, x)])
  else if k = 7 then (x, [(7, x), (21, 0), (17, 0)])
  else if k ≤ 9 then (x, [(7, x), (16, 0), (22, 0)])
  else if k ≤ 11 then (x, [(7, x), (7, y), (15, f)])
  else if k = 12 then (0, [(7, x), (7, y), (8, x), (8, y)])
  else if k = 13 then (0, [(7, 0), (1, c), (2, 0), (9, 0), (8, 0), (22, 0)])
  else if weak = false then (0, [(7, x), (7, y), (18, 0), (22, 0)])
  else if k = 14 then (0, [(7, x), (23, 0), (8, 3)])
  else (3, [(7, 3), (24, 0), (8, x)])
def pieceC (c at_ : Nat) (weak : Bool) : List (Nat × Nat) := if (bodyC c weak).1 = 0 then (bodyC c weak).2 else unlC (bodyC c weak).1 at_ (bodyC c weak).2
def noEnd (x : Nat × Nat) : Bool := x.1 != 0 && x.1 != 19 && x.1 != 20
/-- A check of one body. -/
def bodyOk (c : Nat) (weak : Bool) : Bool :=
  (bodyC c weak).2.all (goodI 4) && (bodyC c weak).2.all noEnd && decide (csize (bodyC c weak).2 ≤ 9) && decide (runT loB stB (bodyC c weak).2 = some (loB, stB)) && decide ((bodyC c weak).1 ≤ 3) && decide ((bodyC c weak).1 = 0 ∨ csize (bodyC c weak).2 ≤ 6)
theorem body_all : (List.range 256).all (fun c => bodyOk c true && bodyOk c false) = true := by kernel_rfl
theorem body_ok (c : Nat) (hc : c < 256) (weak : Bool) : bodyOk c weak = true := by
  have h := List.all_eq_true.1 body_all c (List.mem_range.2 hc)
  rw [Bool.and_eq_true] at h
  cases weak
  · exact h.2
  · exact h.1
theorem unl1 : runT loB stB [(7, 1), (12, 0), (18, 0), (20, 0)] = some (loB, stB) := by kernel_rfl
theorem unl2 : runT loB stB [(7, 2), (12, 0), (18, 0), (20, 0)] = some (loB, stB) := by kernel_rfl
theorem unl3 : runT loB stB [(7, 3), (12, 0), (18, 0), (20, 0)] = some (loB, stB) := by kernel_rfl
theorem unl_run (n t : Nat) (h : n = 1 ∨ n = 2 ∨ n = 3) : runT loB stB [(7, n), (12, 0), (18, 0), (20, t)] = some (loB, stB) := by
  have e : ∀ lo st, runT lo st [(20, t)] = runT lo st [(20, 0)] := by
    intro lo st
    have ea : afterV lo st 20 t = afterV lo st 20 0 := by simp only [afterV, reduceIte, Nat.reduceEqDiff]
    simp only [runT, ea]
  have h2 : runT loB stB [(7, n), (12, 0), (18, 0), (20, t)] = runT loB stB [(7, n), (12, 0), (18, 0), (20, 0)] := by
    rw [show [(7, n), (12, 0), (18, 0), (20, t)] = [(7, n), (12, 0), (18, 0)] ++ [(20, t)] from rfl, show [(7, n), (12, 0), (18, 0), (20, 0)] = [(7, n), (12, 0), (18, 0)] ++ [(20, 0)] from rfl, runT_append, runT_append]
    congr 1
  rw [h2]
  rcases h with rfl | rfl | rfl
  · exact unl1
  · exact unl2
  · exact unl3
/-- What holds of the code of a built image while it grows. -/
structure Bld (cs : List (Nat × Nat)) : Prop where
  good : cs.all (goodI 4) = true
  ends : cs.all (fun x => x.1 != 0 && x.1 != 19) = true
  six : proC <+: cs
  run : runT loI stB cs = some (loB, stB)
  aim : ∀ a t b, cs = a ++ (20, t) :: b → ∃ a' b', cs = a' ++ b' ∧ t = csize a' ∧ runT loI stB a' = some (loB, stB) ∧ runT loI stB (a ++ [(20, t)]) = some (loB, stB)
theorem Bld.start : Bld proC := by
  refine ⟨by kernel_rfl, by kernel_rfl, List.prefix_rfl, by kernel_rfl, ?_⟩
  intro a t b h
  exfalso
  have : (20, t) ∈ proC := by rw [h]; simp
  simp [proC] at this
structure PieceOk (at_ : Nat) (cs : List (Nat × Nat)) : Prop where
  good : cs.all (goodI 4) = true
  ends : cs.all (fun x => x.1 != 0 && x.1 != 19) = true
  run : runT loB stB cs = some (loB, stB)
  size : csize cs ≤ 12
  aim : ∀ a t b, cs = a ++ (20, t) :: b → t = at_ + csize cs ∧ runT loB stB (a ++ [(20, t)]) = some (loB, stB)
theorem no_branch {cs : List (Nat × Nat)} (h : cs.all noEnd = true) {a b : List (Nat × Nat)} {t : Nat} (he : cs = a ++ (20, t) :: b) : False := by
  have : (20, t) ∈ cs := by rw [he]; simp
  have h2 := List.all_eq_true.1 h _ this
  simp [noEnd] at h2
theorem noEnd_ends {cs : List (Nat × Nat)} (h : cs.all noEnd = true) : cs.all (fun x => x.1 != 0 && x.1 != 19) = true := by
  rw [List.all_eq_true] at *
  intro x hx
  have := h x hx
  simp only [noEnd, Bool.and_eq_true] at this
  rw [Bool.and_eq_true]
  exact this.1
theorem piece_ok (c : Nat) (hc : c < 256) (at_ : Nat) (ha : at_ ≤ 120) (weak : Bool) : PieceOk at_ (pieceC c at_ weak) := by
  have h := body_ok c hc weak
  unfold bodyOk at h
  simp only [Bool.and_eq_true, decide_eq_true_eq] at h
  obtain ⟨⟨⟨⟨⟨h1, h2⟩, h3⟩, h4⟩, h5⟩, h6⟩ := h
  unfold pieceC
  generalize (bodyC c weak).1 = n at *
  generalize (bodyC c weak).2 = cs at *
  split
  · exact ⟨h1, noEnd_ends h2, h4, by omega, fun a t b he => (no_branch h2 he).elim⟩
  · rename_i hn
    have hz : csize cs ≤ 6 := by omega
    have hsz : csize (unlC n at_ cs) = 6 + csize cs := by
      unfold unlC
      rw [csize_append]
      have : csize [(7, n), (12, 0), (18, 0), (20, at_ + 6 + csize cs)] = 6 := rfl
      omega
    refine ⟨?_, ?_, ?_, by omega, ?_⟩
    · unfold unlC
      rw [List.all_append, h1]
      have hn4 : n < 4 := by omega
      simp [goodI, badN, takesB]
      omega
    · unfold unlC
      rw [List.all_append, noEnd_ends h2]
      rfl
    · unfold unlC
      rw [runT_append, unl_run n _ (by omega)]
      exact h4
    · intro a t b he
      unfold unlC at he
      match a, he with
      | [], he => simp at he
      | [_], he => simp at he
      | [_, _], he => simp at he
      | [a0, a1, a2], he =>
        simp only [List.cons_append, List.nil_append, List.cons.injEq, Prod.mk.injEq, true_and] at he
        obtain ⟨rfl, rfl, rfl, ht, _⟩ := he
        refine ⟨by rw [hsz]; omega, ?_⟩
        exact unl_run n _ (by omega)
      | a0 :: a1 :: a2 :: a3 :: ar, he =>
        simp only [List.cons_append, List.nil_append, List.cons.injEq] at he
        exact (no_branch h2 he.2.2.2.2).elim
theorem Bld.more {cs p : List (Nat × Nat)} (h : Bld cs) (hp : PieceOk (csize cs) p) : Bld (cs ++ p) := by
  have hrun : runT loI stB (cs ++ p) = some (loB, stB) := by rw [runT_append, h.run]; exact hp.run
  refine ⟨by rw [List.all_append, h.good, hp.good]; rfl, by rw [List.all_append, h.ends, hp.ends]; rfl, h.six.trans (List.prefix_append _ _), hrun, ?_⟩
  intro a t b he
  rcases List.append_eq_append_iff.1 he with ⟨a', e1, e2⟩ | ⟨c', e1, e2⟩
  · obtain ⟨q1, q2⟩ := hp.aim a' t b e2
    refine ⟨cs ++ p, [], by simp, by rw [csize_append]; exact q1, hrun, ?_⟩
    rw [e1, List.append_assoc, runT_append, h.run]
    exact q2
  · match c', e1, e2 with
    | [], e1, e2 =>
      simp only [List.append_nil] at e1
      simp only [List.nil_append] at e2
      obtain ⟨q1, q2⟩ := hp.aim [] t b (by simpa using e2.symm)
      refine ⟨cs ++ p, [], by simp, by rw [csize_append]; exact q1, hrun, ?_⟩
      rw [← e1, runT_append, h.run]
      exact q2
    | y :: c', e1, e2 =>
      simp only [List.cons_append, List.cons.injEq] at e2
      obtain ⟨rfl, e2⟩ := e2
      obtain ⟨a2, b2, q1, q2, q3, q4⟩ := h.aim a t c' e1
      exact ⟨a2, b2 ++ p, by rw [q1]; simp, q2, q3, q4⟩
/-- The code of a built image, out of raw bytes. -/
def bgo (weak : Bool) : List (Nat × Nat) → List UInt8 → List (Nat × Nat)
  | cs, [] => cs
  | cs, c :: r => if csize cs < 100 then bgo weak (cs ++ pieceC c.toNat (csize cs) weak) r else cs
theorem bgo_ok (weak : Bool) (r : List UInt8) : ∀ cs, Bld cs → csize cs ≤ 112 → Bld (bgo weak cs r) ∧ csize (bgo weak cs r) ≤ 112 := by
  induction r with
  | nil => intro cs h hz; exact ⟨h, hz⟩
  | cons c r ih =>
    intro cs h hz
    unfold bgo
    split
    · have hp := piece_ok c.toNat (UInt8.toNat_lt c) (csize cs) (by omega) weak
      refine ih _ (h.more hp) ?_
      have := hp.size
      rw [csize_append]; omega
    · exact ⟨h, hz⟩
def builtC (raw : List UInt8) (weak : Bool) : List (Nat × Nat) := bgo weak proC raw ++ [(19, 9)]
def builtS (raw : ByteArray) (weak : Bool) : ByteArray := ⟨(imgC 4 (builtC raw.data.toList weak)).toArray⟩
theorem Bld.wt {cs : List (Nat × Nat)} (h : Bld cs) : Typ (placed 0 (cs ++ [(19, 9)])) 4 (fun k => ((runT loI stB (cs.take k)).getD (loI, stB))) ∧ jumpsOk (placed 0 (cs ++ [(19, 9)])) = true := by
  obtain ⟨r6, h6⟩ := h.six
  have hfind9 : findP 9 (placed 0 (cs ++ [(19, 9)])) 0 = 6 := by
    rw [← h6]
    cases r6 with
    | nil => exact findP_placed proC (19, 9) [] 0 0
    | cons y r6 => rw [List.append_assoc]; exact findP_placed proC y (r6 ++ [(19, 9)]) 0 0
  have hlen6 : 6 ≤ cs.length := by rw [← h6]; simp [proC]
  have hpro : runT loI stB proC = some (loB, stB) := by kernel_rfl
  -- the instruction that a place in the code belongs to
  have hfind : ∀ a' b', cs = a' ++ b' → findP (csize a') (placed 0 (cs ++ [(19, 9)])) 0 = (a'.length : Int) := by
    intro a' b' he
    rw [he, List.append_assoc]
    cases b' with
    | nil => have := findP_placed a' (19, 9) [] 0 0; simpa using this
    | cons y b' => have := findP_placed a' y (b' ++ [(19, 9)]) 0 0; simpa using this
  have hT : ∀ k, k ≤ cs.length → ∃ p, runT loI stB (cs.take k) = some p := by
    intro k _
    have hr := h.run
    rw [← List.take_append_drop k cs, runT_append] at hr
    cases hq : runT loI stB (cs.take k) with
    | none => rw [hq] at hr; simp at hr
    | some p => exact ⟨p, rfl⟩
  have hj : ∀ k i, (placed 0 (cs ++ [(19, 9)]))[k]? = some i → (k < cs.length ∧ ∃ x, cs[k]? = some x ∧ i = ⟨x.1, x.2, csize ((cs ++ [(19, 9)]).take k)⟩) ∨ (k = cs.length ∧ i.op = 19 ∧ i.n = 9) := by
    intro k i hi
    rw [placed_at] at hi
    rcases Nat.lt_or_ge k cs.length with hk | hk
    · left
      refine ⟨hk, cs[k], List.getElem?_eq_getElem hk, ?_⟩
      rw [List.getElem?_append_left hk, List.getElem?_eq_getElem hk] at hi
      simp only [Option.map_some, Option.some.injEq, Nat.zero_add] at hi
      exact hi.symm
    · right
      rw [List.getElem?_append_right hk] at hi
      rcases Nat.eq_or_lt_of_le hk with e | hlt
      · rw [← e] at hi
        simp only [Nat.sub_self, List.getElem?_cons_zero, Option.map_some, Option.some.injEq] at hi
        rw [← hi]
        exact ⟨e.symm, rfl, rfl⟩
      · have : ([(19, 9)] : List (Nat × Nat))[k - cs.length]? = none := by rw [List.getElem?_eq_none]; simp; omega
        rw [this] at hi
        simp at hi
  have hsplit : ∀ k (hk : k < cs.length), cs = cs.take k ++ cs[k] :: cs.drop (k + 1) := by
    intro k hk
    rw [List.getElem_cons_drop]
    exact (List.take_append_drop k cs).symm
  constructor
  · refine ⟨?_, by rw [placed_len]; simp, ?_⟩
    · simp only [List.take_zero, runT]
      rfl
    · intro k i hi
      rw [placed_len, List.length_append, List.length_singleton]
      rcases hj k i hi with ⟨hk, x, hx, rfl⟩ | ⟨rfl, i1, i2⟩
      · obtain ⟨p, hp⟩ := hT k (by omega)
        obtain ⟨p', hp'⟩ := hT (k + 1) (by omega)
        have hxk : cs[k] = x := by rw [List.getElem?_eq_getElem hk] at hx; exact Option.some.inj hx
        have hstep : runT p.1 p.2 [x] = some p' := by
          rw [List.take_succ_eq_append_getElem hk, hxk, runT_append, hp] at hp'
          exact hp'
        simp only [runT] at hstep
        split at hstep
        · rename_i hc
          simp only [Option.some.injEq] at hstep
          simp only [hp, hp', Option.getD_some]
          have hop : x.1 ≠ 0 ∧ x.1 ≠ 19 := by
            have := List.all_eq_true.1 h.ends x (List.mem_of_getElem? hx)
            simpa using this
          refine ⟨hc.1, hc.2, ?_, fun _ => ⟨by omega, hstep.symm⟩⟩
          intro hjmp
          have h20 : x.1 = 20 := by
            have := hjmp
            simp only [isJump, Bool.or_eq_true, beq_iff_eq] at this
            omega
          obtain ⟨x1, x2⟩ := x
          simp only at h20
          subst h20
          obtain ⟨a', b', q1, q2, q3, q4⟩ := h.aim (cs.take k) x2 (cs.drop (k + 1)) (by rw [← hxk]; exact hsplit k hk)
          have hf := hfind a' b' q1
          simp only
          rw [q2, hf]
          simp only [Int.toNat_natCast]
          have htk : cs.take a'.length = a' := by rw [q1]; simp
          refine ⟨?_, ?_⟩
          · have : a'.length ≤ cs.length := by rw [q1]; simp
            omega
          · rw [htk, q3]
            rw [List.take_succ_eq_append_getElem hk, hxk] at hp'
            rw [q4] at hp'
            rw [← q2, hstep, ← Option.some.inj hp']
            rfl
        · cases hstep
      · obtain ⟨op, n, pl⟩ := i
        simp only at i1 i2
        subst i1
        subst i2
        simp only [List.take_length, h.run, Option.getD_some]
        refine ⟨by rfl, by decide, fun _ => ?_, fun hh => absurd rfl hh.2⟩
        rw [hfind9]
        refine ⟨by simp; omega, ?_⟩
        have : cs.take 6 = proC := by rw [← h6]; rfl
        simp only [Int.reduceToNat, this, hpro, Option.getD_some]
        rfl
  · unfold jumpsOk
    rw [List.all_eq_true]
    intro i hi
    obtain ⟨k, hk, rfl⟩ := List.getElem_of_mem hi
    rcases hj k _ (List.getElem?_eq_getElem hk) with ⟨hk, x, hx, e⟩ | ⟨_, i1, i2⟩
    · rw [e]
      have hxk : cs[k] = x := by rw [List.getElem?_eq_getElem hk] at hx; exact Option.some.inj hx
      have hop : x.1 ≠ 0 ∧ x.1 ≠ 19 := by
        have := List.all_eq_true.1 h.ends x (List.mem_of_getElem? hx)
        simpa using this
      by_cases h20 : x.1 = 20
      · obtain ⟨x1, x2⟩ := x
        simp only at h20
        subst h20
        obtain ⟨a', b', q1, q2, _, _⟩ := h.aim (cs.take k) x2 (cs.drop (k + 1)) (by rw [← hxk]; exact hsplit k hk)
        have hf := hfind a' b' q1
        simp only
        rw [q2, hf]
        simp
      · simp [isJump, hop.2, h20]
    · rw [i2, hfind9]
      simp
theorem built_ok (raw : ByteArray) (weak : Bool) : errOf (builtS raw weak) = 0 ∧ codeOf (builtS raw weak) = placed 0 (builtC raw.data.toList weak) ∧ byteAt (builtS raw weak) 1 = 4 ∧ WT (codeOf (builtS raw weak)) (byteAt (builtS raw weak) 1) ∧ Det (codeOf (builtS raw weak)) (byteAt (builtS raw weak) 1) := by
  obtain ⟨h1, h2⟩ := bgo_ok weak raw.data.toList proC Bld.start (by decide)
  obtain ⟨w1, w2⟩ := h1.wt
  have hs : (builtS raw weak).data.toList = imgC 4 (builtC raw.data.toList weak) := rfl
  have he : endsOk (placed 0 (builtC raw.data.toList weak)) = true := by
    unfold endsOk lastOp
    have : (placed 0 (builtC raw.data.toList weak)).getLast? = some ⟨19, 9, csize (bgo weak proC raw.data.toList)⟩ := by
      rw [List.getLast?_eq_getElem?, placed_at, placed_len]
      unfold builtC
      rw [List.length_append, List.length_singleton, Nat.add_sub_cancel, List.getElem?_append_right (Nat.le_refl _)]
      simp
    rw [this]
    rfl
  obtain ⟨a1, a2, a3⟩ := img_code hs (by omega) (by unfold builtC; rw [csize_append]; have : csize [(19, 9)] = 2 := rfl; omega) (by unfold builtC; rw [csize_append]; have : csize [(19, 9)] = 2 := rfl; omega)
    (by unfold builtC; rw [List.all_append, h1.good]; rfl) w2 he
  refine ⟨a1, a2, a3, ?_, ?_⟩
  · rw [a2, a3]
    exact w1.wt
  · rw [a2, a3]
    exact w1.det
end Go.Proofs.YtdmdpindonghdaaDoor
namespace Go.Proofs.YtdmdpindonghdaaDoor
open Go.RowKit
theorem decGo_n0 (t : ByteArray) (locals : Nat) : ∀ f p l, decGo t locals f p = some l → ∀ i ∈ l, takesB i.op = false → i.n = 0 := by
  intro f
  induction f with
  | zero => intro p l h; simp [decGo] at h; subst h; intro i hi; simp at hi
  | succ f ih =>
    intro p l h
    simp only [decGo] at h
    by_cases hp : p < t.size
    · rw [if_pos hp] at h
      by_cases hq : (behindP t p locals).1 = 0
      · rw [if_pos hq] at h; cases h
      · rw [if_neg hq] at h
        cases hr : decGo t locals f (behindP t p locals).1 with
        | none => rw [hr] at h; cases h
        | some r =>
          rw [hr] at h
          simp only [Option.map_some, Option.some.injEq] at h
          subst h
          intro i hi ht
          simp only [List.mem_cons] at hi
          rcases hi with rfl | hi
          · show (behindP t p locals).2 = 0
            simp only at ht
            by_cases h24 : 24 < byteAt t p
            · exfalso; apply hq; simp [behindP, behindQ, h24]
            · simp [behindP, behindQ, h24, ht]
          · exact ih _ _ hr i hi ht
    · rw [if_neg hp] at h; simp at h; subst h; intro i hi; simp at hi
theorem code_n0 {s : ByteArray} (h : errOf s = 0) : ∀ i ∈ codeOf s, takesB i.op = false → i.n = 0 := by
  obtain ⟨_, hd, _, _⟩ := errOf_zero h
  exact decGo_n0 _ _ _ _ _ hd
/-- The surroundings of a machine of the image. -/
def envOf (s : ByteArray) (fs : List Fr) (zs : List Int) (n : Nat) : Env := ⟨codeOf s, byteAt s 1, mapsF (codeOf s) fs (byteAt s 1), zs, n⟩
theorem cov_tys {l : List Ins} {L : Nat} {fs : List Fr} (hw : Wf l L) (hinv : SetInv l L fs) (hst : Still l fs) {p : Pt} (hp : Reach l L p) : ∃ m : MP, (mapsF l fs L)[p.at_]? = some m ∧ m.reached = true ∧ m.st = codes p.st ∧ m.lo.length = L ∧ ∀ j, j < L → m.lo.getD j 0 = lk p.lo j ∨ m.lo.getD j 0 = 2 := by
  have hok := reach_ok hw hp
  obtain ⟨f, hf, hc⟩ := still_all hw hinv.ok hst hinv.cov hp
  have hlt := hok.at_
  have hfok := hinv.ok f (List.mem_of_getElem? hf)
  have h4 := hw.loc
  obtain ⟨i, hi⟩ : ∃ i, l[p.at_]? = some i := ⟨_, List.getElem?_eq_getElem hlt⟩
  refine ⟨ptF i.place f L, ?_, ?_, ?_, ?_, ?_⟩
  · unfold mapsF
    rw [List.getElem?_zipWith, hi, hf]
  · unfold ptF; rw [if_pos hc.reached]
  · unfold ptF; rw [if_pos hc.reached]; exact stk_codes hc.sk
  · unfold ptF; rw [if_pos hc.reached]
    have := hfok.lo
    simp only [List.length_take]
    omega
  · intro j hj
    unfold ptF; rw [if_pos hc.reached]
    have := hc.lo j (by omega)
    rw [List.getD_eq_getElem?_getD, List.getElem?_take, if_pos hj, ← List.getD_eq_getElem?_getD]
    exact this
theorem env_okL {l : List Ins} {L : Nat} {fs : List Fr} {zs : List Int} {n : Nat} (hw : Wf l L) (hwt : WT l L) (hn0 : ∀ i ∈ l, takesB i.op = false → i.n = 0) (hinv : SetInv l L fs) (hst : Still l fs) (h1 : 1 ≤ n) (h2 : n ≤ 32) : EnvOk ⟨l, L, mapsF l fs L, zs, n⟩ := by
  have hlen := hinv.len
  refine ⟨hw, hwt, hn0, by simp [mapsF]; omega, ?_, fun p hp => cov_tys hw hinv hst hp, h1, h2⟩
  intro k i m hi hm
  simp only [mapsF] at hi hm
  rw [List.getElem?_zipWith, hi] at hm
  cases hf : fs[k]? with
  | none => rw [hf] at hm; simp at hm
  | some f =>
    rw [hf] at hm
    simp only [Option.some.injEq] at hm
    subst hm
    unfold ptF
    split <;> rfl
theorem env_ok {s : ByteArray} {fs : List Fr} {zs : List Int} {n : Nat} (he : errOf s = 0) (hwt : WT (codeOf s) (byteAt s 1)) (hinv : SetInv (codeOf s) (byteAt s 1) fs) (hst : Still (codeOf s) fs) (h1 : 1 ≤ n) (h2 : n ≤ 32) : EnvOk (envOf s fs zs n) :=
  env_okL (wf_of he) hwt (code_n0 he) hinv hst h1 h2
theorem start_pt {L n : Nat} (h : L ≤ 4) : ptOf (startS L n) = initP L := by
  have hl : flagB (List.replicate L (false, 0)) = (initP L).lo := by
    apply flag_ext
    show _ = tl ((⟨#[105, 105, 105, 105]⟩ : ByteArray).extract 0 L)
    rw [tl_extract]
    match L, h with
    | 0, _ => rfl
    | 1, _ => rfl
    | 2, _ => rfl
    | 3, _ => rfl
    | 4, _ => rfl
  unfold ptOf startS
  rw [hl]
  rfl
theorem start_inv_m {E : Env} (he : EnvOk E) : MInv E (startS E.L E.n) := by
  have h1 := he.n1
  have h2 := he.n32
  refine ⟨?_, ?_, ⟨?_, ?_, ?_, ?_, ?_, ?_⟩, ⟨?_, ?_⟩, ?_, Nat.zero_le _, Nat.zero_le _⟩
  · rw [start_pt he.wf.loc]; exact Reach.init _ _
  · intro x hx hb
    simp only [startS, List.append_nil] at hx
    rw [List.eq_of_mem_replicate hx] at hb
    cases hb
  · simp only [startS, List.length_replicate]; omega
  · simp only [startS, List.length_replicate]; omega
  · intro c hc
    simp only [startS] at hc
    rw [List.eq_of_mem_replicate hc]
    simp only [startS, List.length_replicate]
    omega
  · simp [startS]
  · intro e; simp [startS] at e
  · intro _; rfl
  · intro c hc
    simp only [startS] at hc
    rw [List.eq_of_mem_replicate hc]
    exact .blank
  · intro e; simp [startS] at e
  · simp [startS]
end Go.Proofs.YtdmdpindonghdaaDoor
namespace Go.Proofs.YtdmdpindonghdaaDoor
open Go.RowKit
/-- Maps tells of no local that it is Mixed. -/
def NoMix (E : Env) : Prop := ∀ p, Reach E.l E.L p → ∃ m : MP, E.ms[p.at_]? = some m ∧ m.lo = codes p.lo ∧ m.st = codes p.st
theorem codes_lk' {b : ByteArray} {j : Nat} (h : j < b.size) : (codes b).getD j 0 = lk b j := codes_lk h
theorem noMix_ofL {l : List Ins} {L : Nat} {fs : List Fr} {zs : List Int} {n : Nat} (hw : Wf l L) (hwt : WT l L) (hinv : SetInv l L fs) (hst : Still l fs) (hd : Det l L) : NoMix ⟨l, L, mapsF l fs L, zs, n⟩ := by
  intro p hp
  simp only at hp ⊢
  have hok := reach_ok hw hp
  obtain ⟨m, h1, h2, h3, h4, h5⟩ := cov_tys hw hinv hst hp
  refine ⟨m, h1, ?_, h3⟩
  obtain ⟨f, hf, hc⟩ := still_all hw hinv.ok hst hinv.cov hp
  have hwit := hinv.sound hwt p.at_ f hf hc.reached
  have hL := hw.loc
  have hsz := hok.lo
  apply List.ext_getElem?
  intro j
  by_cases hj : j < L
  · have e1 : m.lo[j]? = some (m.lo.getD j 0) := by
      rw [List.getD_eq_getElem?_getD, List.getElem?_eq_getElem (by omega)]; rfl
    have e2 : (codes p.lo)[j]? = some ((codes p.lo).getD j 0) := by
      have : j < (codes p.lo).length := by rw [codes_len]; omega
      rw [List.getD_eq_getElem?_getD, List.getElem?_eq_getElem this]; rfl
    rw [e1, e2, codes_lk' (by omega)]
    rcases h5 j hj with e | e
    · rw [e]
    · -- Mixed: two ways that differ
      have hmf : m.lo.getD j 0 = f.lo.getD j 0 := by
        obtain ⟨i, hi⟩ : ∃ i, l[p.at_]? = some i := ⟨_, List.getElem?_eq_getElem hok.at_⟩
        have hm : (mapsF l fs L)[p.at_]? = some (ptF i.place f L) := by
          unfold mapsF
          rw [List.getElem?_zipWith, hi, hf]
        have hmm : m = ptF i.place f L := Option.some.inj (h1.symm.trans hm)
        rw [hmm]
        unfold ptF; rw [if_pos hc.reached]
        simp only
        rw [List.getD_eq_getElem?_getD, List.getElem?_take, if_pos hj, ← List.getD_eq_getElem?_getD]
      rcases hwit.lo j (by omega) with ⟨lo, st, r1, r2⟩ | ⟨_, lo, st, lo', st', r1, r2, r3⟩
      · have := (hd ⟨p.at_, lo, st⟩ p r1 hp rfl).1
        simp only at this
        rw [hmf, r2, this]
      · exfalso
        apply r3
        have a1 := (hd ⟨p.at_, lo, st⟩ p r1 hp rfl).1
        have a2 := (hd ⟨p.at_, lo', st'⟩ p r2 hp rfl).1
        simp only at a1 a2
        rw [a1, a2]
  · rw [List.getElem?_eq_none (by omega), List.getElem?_eq_none (by rw [codes_len]; omega)]
theorem noMix_of {s : ByteArray} {fs : List Fr} {zs : List Int} {n : Nat} (he : errOf s = 0) (hwt : WT (codeOf s) (byteAt s 1)) (hinv : SetInv (codeOf s) (byteAt s 1) fs) (hst : Still (codeOf s) fs) (hd : Det (codeOf s) (byteAt s 1)) : NoMix (envOf s fs zs n) := noMix_ofL (wf_of he) hwt hinv hst hd
def flagR (ws : List (Bool × Int)) : List Int := (ws.filter (fun x => x.1)).map (·.2)
theorem flagR_append (a b : List (Bool × Int)) : flagR (a ++ b) = flagR a ++ flagR b := by simp [flagR]
theorem mem_flagR {ws : List (Bool × Int)} {v : Int} : v ∈ flagR ws ↔ (true, v) ∈ ws := by
  unfold flagR
  constructor
  · intro h
    obtain ⟨x, hx, rfl⟩ := List.mem_map.1 h
    obtain ⟨h1, h2⟩ := List.mem_filter.1 hx
    obtain ⟨b, y⟩ := x
    simp only at h2
    subst h2
    exact h1
  · intro h
    exact List.mem_map.2 ⟨_, List.mem_filter.2 ⟨h, rfl⟩, rfl⟩
theorem rootsC_flag : ∀ (ws : List (Bool × Int)), rootsC (slotsC (ws.map (fun x => kindB x.1)) ws) = flagR ws
  | [] => rfl
  | x :: r => by
    have ih := rootsC_flag r
    unfold rootsC slotsC flagR at *
    obtain ⟨b, v⟩ := x
    cases b
    · simpa [kindB] using ih
    · simpa [kindB, slotV] using ih
theorem rootsS_flag {E : Env} (hn : NoMix E) {s : MS} (h : MInv E s) : rootsS E s = flagR (s.lo ++ s.st) := by
  obtain ⟨m, h1, h2, h3⟩ := hn _ h.reach
  have e1 : E.ms[s.at_]? = some m := h1
  unfold rootsS locsS stkS tysAt
  rw [e1, rootsC_append, flagR_append]
  simp only
  rw [h2, h3, show (ptOf s).lo = flagB s.lo from rfl, show (ptOf s).st = flagB s.st from rfl, codes_flag, codes_flag, rootsC_flag, rootsC_flag]
/-- A heap and its colours, with these roots. -/
structure GH (n : Nat) (h : HSt) (rs : List Int) : Prop where
  ok : HOk n h
  g : GInv (h.1.map toldC) h.2.1 h.2.2 rs
theorem GH.unit {n : Nat} {h : HSt} {rs : List Int} (k : GH n h rs) : GH n (stepC rs h) rs := by
  refine ⟨k.ok.unit rs, ?_⟩
  have hu := told_unit k.ok.ok k.ok.x rs
  have := k.g.unit k.ok.ok.phz (by simpa using k.ok.ok.hand)
  rw [hu] at this
  exact this
theorem GH.units {n : Nat} {h : HSt} {rs : List Int} (k : GH n h rs) : ∀ m, GH n (unitsC rs m h) rs
  | 0 => k
  | m + 1 => (GH.units k m).unit
theorem GH.idle {n : Nat} {h : HSt} {rs : List Int} (k : GH n h rs) : GH n (idleC rs h) rs := idleC_ind (P := fun h => GH n h rs) (fun _ k => k.unit) k
theorem GH.room {n : Nat} {h : HSt} {rs : List Int} (k : GH n h rs) : GH n (roomC rs h) rs := by
  unfold roomC
  split
  · exact k
  split
  · exact k.idle
  · exact k.idle.unit.idle
theorem GInv.fresh {T : List Cl} {ph hd : Nat} {rs : List Int} (h : GInv T ph hd rs) {j : Nat} {c : Cl} (hj : T[j]? = some c) (h0 : c.col = 0) :
    GInv (T.set j ⟨colFor ph hd j, false, -1, -1, 0⟩) ph hd rs ∧ ∀ k, (Alive T ph hd k ∨ k = j) → Alive (T.set j ⟨colFor ph hd j, false, -1, -1, 0⟩) ph hd k := by
  have hlt := (List.getElem?_eq_some_iff.1 hj).1
  have hget : ∀ k, (T.set j ⟨colFor ph hd j, false, -1, -1, 0⟩)[k]? = if k = j then some ⟨colFor ph hd j, false, -1, -1, 0⟩ else T[k]? := fun k => by
    rw [List.getElem?_set]
    by_cases e : k = j
    · subst e; simp [hlt]
    · rw [if_neg (Ne.symm e), if_neg e]
  have hcol : ∀ k, colL (T.set j ⟨colFor ph hd j, false, -1, -1, 0⟩) k = if k = j then colFor ph hd j else colL T k := fun k => by
    unfold colL
    rw [hget]
    split <;> rfl
  have hcf : colFor ph hd j = 1 ∨ colFor ph hd j = 3 := by
    unfold colFor
    split
    · exact .inr rfl
    split
    · exact .inr rfl
    · exact .inl rfl
  have hal : ∀ k, k ≠ j → (Alive (T.set j ⟨colFor ph hd j, false, -1, -1, 0⟩) ph hd k ↔ Alive T ph hd k) := fun k hk => by
    unfold Alive; rw [hcol, if_neg hk]
  have halj : Alive (T.set j ⟨colFor ph hd j, false, -1, -1, 0⟩) ph hd j := by
    unfold Alive; rw [hcol, if_pos rfl]
    refine ⟨by omega, ?_⟩
    rintro ⟨e1, e2, e3⟩
    unfold colFor at e3
    rw [if_neg (by omega), if_pos ⟨e1, e2⟩] at e3
    omega
  have hup : ∀ k, Alive T ph hd k → Alive (T.set j ⟨colFor ph hd j, false, -1, -1, 0⟩) ph hd k := fun k hk => by
    by_cases e : k = j
    · subst e; exact halj
    · exact (hal k e).2 hk
  have hmem : ∀ c' ∈ T.set j ⟨colFor ph hd j, false, -1, -1, 0⟩, c' = ⟨colFor ph hd j, false, -1, -1, 0⟩ ∨ c' ∈ T := fun c' hc => by
    rcases List.mem_or_eq_of_mem_set hc with e | e
    · exact .inr e
    · exact .inl e
  refine ⟨⟨fun k hk => hup k (h.root k hk), ?_, ?_, ?_, ?_, ?_, ?_, ?_, ?_⟩, ?_⟩
  · intro k c' hc ha q hq
    rw [hget] at hc
    by_cases e : k = j
    · rw [if_pos e] at hc
      obtain rfl := Option.some.inj hc
      simp at hq
    · rw [if_neg e] at hc
      exact hup q (h.clos k c' hc ((hal k e).1 ha) q hq)
  · intro c' hc e0
    rcases hmem c' hc with e | e
    · rw [e] at e0; simp only at e0; omega
    · exact h.blank c' e e0
  · intro c' hc
    rcases hmem c' hc with e | e
    · rw [e]; simp only; omega
    · exact h.col3 c' e
  · intro e0 c' hc
    rcases hmem c' hc with e | e
    · rw [e]; simp only; unfold colFor; rw [if_neg (by omega), if_neg (by omega)]; omega
    · exact h.idle e0 c' e
  · intro e1 k c' hc e3 hw q hq
    rw [hget] at hc
    by_cases e : k = j
    · rw [if_pos e] at hc
      obtain rfl := Option.some.inj hc
      simp at hq
    · rw [if_neg e] at hc
      have := h.mark e1 k c' hc e3 hw q hq
      rw [hcol]; split
      · rename_i eq; subst eq; rw [colL_some hj] at this; omega
      · exact this
  · intro e2 k c' hc hk
    rw [hget] at hc
    by_cases e : k = j
    · rw [if_pos e] at hc
      obtain rfl := Option.some.inj hc
      simp only; unfold colFor; rw [if_neg (by omega), if_neg (by omega)]; omega
    · rw [if_neg e] at hc
      exact h.low e2 k c' hc hk
  · intro e2 c' hc
    rcases hmem c' hc with e | e
    · rw [e]; simp only; omega
    · exact h.nogrey e2 c' e
  · intro c' hc hw
    rcases hmem c' hc with e | e
    · rw [e] at hw; cases hw
    · exact h.weak c' e hw
  · rintro k (hk | rfl)
    · exact hup k hk
    · exact halj
/-- One cell's contents are written. -/
theorem GInv.upd {T : List Cl} {ph hd : Nat} {rs : List Int} (h : GInv T ph hd rs) {r : Nat} {f : Cl → Cl} (hcol : ∀ c, (f c).col = c.col) (h0 : ∀ c, T[r]? = some c → c.col ≠ 0)
    (hw : ∀ c, T[r]? = some c → (f c).weak = true → (f c).b = -1 ∧ (f c).num = 0) (hr : ∀ c, T[r]? = some c → ∀ j : Nat, ((f c).a = (j : Int) ∨ (f c).b = (j : Int)) → Alive T ph hd r → Alive T ph hd j)
    (hm : ∀ c, T[r]? = some c → ph = 1 → c.col = 3 → (f c).weak = false → ∀ j : Nat, ((f c).a = (j : Int) ∨ (f c).b = (j : Int)) → 2 ≤ colL T j) :
    GInv (T.modify r f) ph hd rs ∧ ∀ k, Alive (T.modify r f) ph hd k ↔ Alive T ph hd k := by
  have hget : ∀ (k : Nat) (c' : Cl), (T.modify r f)[k]? = some c' → ∃ c, T[k]? = some c ∧ c' = if k = r then f c else c := by
    intro k c' hc
    rw [List.getElem?_modify] at hc
    cases hk : T[k]? with
    | none => rw [hk] at hc; cases hc
    | some c =>
      rw [hk] at hc
      refine ⟨c, rfl, ?_⟩
      have := Option.some.inj hc
      by_cases e : k = r
      · subst e; simp only [if_true] at this ⊢; exact this.symm
      · rw [if_neg e]; simp only [if_neg (Ne.symm e)] at this; exact this.symm
  have hc : ∀ k, colL (T.modify r f) k = colL T k := by
    intro k
    unfold colL
    rw [List.getElem?_modify]
    cases T[k]? with
    | none => rfl
    | some c =>
      by_cases e : r = k
      · simp [e, hcol]
      · simp [e]
  have hal : ∀ k, Alive (T.modify r f) ph hd k ↔ Alive T ph hd k := fun k => by unfold Alive; rw [hc]
  have hmem : ∀ c' ∈ T.modify r f, ∃ (k : Nat) (c : Cl), T[k]? = some c ∧ c' = if k = r then f c else c := by
    intro c' hc'
    obtain ⟨k, hk, e⟩ := List.mem_iff_getElem.1 hc'
    obtain ⟨c, h1, h2⟩ := hget k c' (by rw [List.getElem?_eq_getElem hk, e])
    exact ⟨k, c, h1, h2⟩
  have hcc : ∀ (k : Nat) (c c' : Cl), T[k]? = some c → (c' = if k = r then f c else c) → c'.col = c.col := by
    intro k c c' _ e
    rw [e]; split
    · exact hcol c
    · rfl
  refine ⟨⟨fun k hk => (hal k).2 (h.root k hk), ?_, ?_, ?_, ?_, ?_, ?_, ?_, ?_⟩, hal⟩
  · intro k c' hc' ha j hj
    obtain ⟨c, h1, h2⟩ := hget k c' hc'
    rw [hal] at ha ⊢
    by_cases e : k = r
    · subst e
      rw [if_pos rfl] at h2
      rw [h2] at hj
      exact hr c h1 j hj ha
    · rw [if_neg e] at h2
      rw [h2] at hj
      exact h.clos k c h1 ha j hj
  · intro c' hc' e0
    obtain ⟨k, c, h1, h2⟩ := hmem c' hc'
    have := hcc k c c' h1 h2
    by_cases e : k = r
    · subst e
      exact absurd (this.symm.trans e0) (h0 c h1)
    · rw [if_neg e] at h2
      rw [h2] at e0 ⊢
      exact h.blank c (List.mem_of_getElem? h1) e0
  · intro c' hc'
    obtain ⟨k, c, h1, h2⟩ := hmem c' hc'
    rw [hcc k c c' h1 h2]
    exact h.col3 c (List.mem_of_getElem? h1)
  · intro e0 c' hc'
    obtain ⟨k, c, h1, h2⟩ := hmem c' hc'
    rw [hcc k c c' h1 h2]
    exact h.idle e0 c (List.mem_of_getElem? h1)
  · intro e1 k c' hc' e3 hwk j hj
    obtain ⟨c, h1, h2⟩ := hget k c' hc'
    have hcol' := hcc k c c' h1 h2
    rw [hc]
    by_cases e : k = r
    · subst e
      rw [if_pos rfl] at h2
      rw [h2] at hj hwk
      exact hm c h1 e1 (hcol'.symm.trans e3) hwk j hj
    · rw [if_neg e] at h2
      rw [h2] at hj hwk e3
      exact h.mark e1 k c h1 e3 hwk j hj
  · intro e2 k c' hc' hk
    obtain ⟨c, h1, h2⟩ := hget k c' hc'
    rw [hcc k c c' h1 h2]
    exact h.low e2 k c h1 hk
  · intro e2 c' hc'
    obtain ⟨k, c, h1, h2⟩ := hmem c' hc'
    rw [hcc k c c' h1 h2]
    exact h.nogrey e2 c (List.mem_of_getElem? h1)
  · intro c' hc' hwk
    obtain ⟨k, c, h1, h2⟩ := hmem c' hc'
    by_cases e : k = r
    · subst e
      rw [if_pos rfl] at h2
      rw [h2] at hwk ⊢
      exact hw c h1 hwk
    · rw [if_neg e] at h2
      rw [h2] at hwk ⊢
      exact h.weak c (List.mem_of_getElem? h1) hwk
theorem GInv.roots {T : List Cl} {ph hd : Nat} {rs rs' : List Int} (h : GInv T ph hd rs) (hr : ∀ k : Nat, (k : Int) ∈ rs' → Alive T ph hd k) : GInv T ph hd rs' :=
  ⟨hr, h.clos, h.blank, h.col3, h.idle, h.mark, h.low, h.nogrey, h.weak⟩
end Go.Proofs.YtdmdpindonghdaaDoor
namespace Go.Proofs.YtdmdpindonghdaaDoor
open Go.RowKit
def AliveH (h : HSt) (k : Nat) : Prop := Alive (h.1.map toldC) h.2.1 h.2.2 k
/-- A word that is a reference refers to a cell that this round does not free. -/
def WOk (h : HSt) (x : Bool × Int) : Prop := x.1 = true → ∀ k : Nat, x.2 = (k : Int) → AliveH h k
def GInvH (h : HSt) : Prop := GInv (h.1.map toldC) h.2.1 h.2.2 []
structure GS (s : MS) : Prop where
  g : GInvH s.hs
  w : ∀ x ∈ s.lo ++ s.st, WOk s.hs x
theorem GS.flag {s : MS} (h : GS s) : GInv (s.hs.1.map toldC) s.hs.2.1 s.hs.2.2 (flagR (s.lo ++ s.st)) :=
  h.g.roots (fun k hk => h.w _ (mem_flagR.1 hk) rfl k rfl)
theorem GS.of {s : MS} (h : GInv (s.hs.1.map toldC) s.hs.2.1 s.hs.2.2 (flagR (s.lo ++ s.st))) : GS s :=
  ⟨h.roots (fun k hk => by (cases hk)), fun x hx hf k hk => h.root k (by
    obtain ⟨b, v⟩ := x
    simp only at hf hk
    subst hf
    subst hk
    exact mem_flagR.2 hx)⟩
theorem told_at {h : HSt} {k : Nat} {c : RC} (hc : h.1[k]? = some c) : (h.1.map toldC)[k]? = some (toldC c) := by rw [List.getElem?_map, hc]; rfl
theorem GInvH.refs {h : HSt} (g : GInvH h) {k : Nat} {c : RC} (hc : h.1[k]? = some c) (ha : AliveH h k) {j : Nat} (hj : c.a = (j : Int) ∨ c.b = (j : Int)) : AliveH h j := g.clos k (toldC c) (told_at hc) ha j hj
theorem WOk.num {h : HSt} {v : Int} : WOk h (false, v) := fun e => by cases e
theorem WOk.none {h : HSt} : WOk h (true, -1) := fun _ k hk => by simp only at hk; omega
theorem store_gc {h : HSt} (g : GInvH h) {r : Nat} {m : Nat} {v : Int} {c : RC} (hc : h.1[r]? = some c) (hwk : c.weak = false) (ha : AliveH h r) (hv : ∀ k : Nat, v = (k : Int) → AliveH h k) :
    GInvH (storeC h.1 h.2.1 r m v, h.2) ∧ ∀ k, AliveH (storeC h.1 h.2.1 r m v, h.2) k ↔ AliveH h k := by
  unfold GInvH AliveH at *
  simp only
  rw [told_store]
  have hset : ∀ d : Cl, (setABL m v d).col = d.col ∧ (setABL m v d).weak = d.weak ∧ (∀ j : Nat, ((setABL m v d).a = (j : Int) ∨ (setABL m v d).b = (j : Int)) → v = (j : Int) ∨ d.a = (j : Int) ∨ d.b = (j : Int)) := by
    intro d
    unfold setABL
    split
    · refine ⟨rfl, rfl, fun j hj => ?_⟩
      rcases hj with h | h
      · exact .inl h
      · exact .inr (.inr h)
    · refine ⟨rfl, rfl, fun j hj => ?_⟩
      rcases hj with h | h
      · exact .inr (.inl h)
      · exact .inl h
  have ht := told_at hc
  by_cases e1 : h.2.1 = 1
  · rw [if_pos e1]
    rw [e1] at g ha hv ⊢
    have gs := g.shades (by omega) [v]
    have hsh : shadesL (h.1.map toldC) [v] = shadeL (h.1.map toldC) v := rfl
    rw [hsh] at gs
    have hp := shade_paint (h.1.map toldC) v
    have hal : ∀ k, Alive (shadeL (h.1.map toldC) v) 1 h.2.2 k ↔ Alive (h.1.map toldC) 1 h.2.2 k := fun k => by
      unfold Alive
      rw [shade_colL]
      split
      · rename_i e
        constructor
        · rintro _; exact ⟨by omega, by omega⟩
        · rintro _; exact ⟨by omega, by omega⟩
      · constructor
        · rintro ⟨a, _⟩; exact ⟨a, by omega⟩
        · rintro ⟨a, _⟩; exact ⟨a, by omega⟩
    obtain ⟨d, hd1, hd2⟩ := hp.back r (toldC c) ht
    have hu : ∀ d', (shadeL (h.1.map toldC) v)[r]? = some d' → d' = d := fun d' h' => Option.some.inj (h'.symm.trans hd1)
    have hdw : d.weak = false := by rw [hd2]; exact hwk
    suffices hq : GInv ((shadeL (h.1.map toldC) v).modify r (setABL m v)) 1 h.2.2 [] ∧ ∀ k, Alive ((shadeL (h.1.map toldC) v).modify r (setABL m v)) 1 h.2.2 k ↔ Alive (shadeL (h.1.map toldC) v) 1 h.2.2 k from ⟨hq.1, fun k => (hq.2 k).trans (hal k)⟩
    refine gs.upd (r := r) (f := setABL m v) (fun d => (hset d).1) ?_ ?_ ?_ ?_
    · intro d' h'
      rw [hu d' h', ← colL_some hd1, shade_colL]
      have := ha.1
      split <;> omega
    · intro d' h' hw
      rw [hu d' h', (hset d).2.1, hdw] at hw
      cases hw
    · intro d' h' j hj har
      rw [hu d' h'] at hj
      rw [hal] at har ⊢
      rcases (hset d).2.2 j hj with e | e
      · exact hv j e
      · exact g.clos r (toldC c) ht har j (by rw [hd2] at e; exact e)
    · intro d' h' _ e3 _ j hj
      rw [hu d' h'] at hj e3
      rcases (hset d).2.2 j hj with e | e
      · have := (hv j e).1
        rw [shade_colL]
        by_cases e5 : colL (h.1.map toldC) j = 1
        · rw [if_pos ⟨e.symm, e5⟩]; exact Nat.le_refl _
        · rw [if_neg (fun e6 => e5 e6.2)]; omega
      · exact gs.mark rfl r d hd1 e3 hdw j e
  · rw [if_neg e1]
    refine g.upd (r := r) (f := setABL m v) (fun d => (hset d).1) ?_ ?_ ?_ ?_
    · intro d' h'
      obtain rfl := Option.some.inj (h'.symm.trans ht)
      rw [← colL_some ht]
      exact ha.1
    · intro d' h' hw
      obtain rfl := Option.some.inj (h'.symm.trans ht)
      rw [(hset _).2.1] at hw
      exact absurd (hwk.symm.trans hw) (by simp)
    · intro d' h' j hj har
      obtain rfl := Option.some.inj (h'.symm.trans ht)
      rcases (hset _).2.2 j hj with e | e
      · exact hv j e
      · exact g.clos r (toldC c) ht har j e
    · intro _ _ e; exact absurd e e1
theorem note_gc {h : HSt} (g : GInvH h) {r : Nat} {v : Int} {c : RC} (hc : h.1[r]? = some c) (hwk : c.weak = false) (ha : AliveH h r) :
    GInvH (h.1.modify r (noteS v), h.2) ∧ ∀ k, AliveH (h.1.modify r (noteS v), h.2) k ↔ AliveH h k := by
  unfold GInvH AliveH at *
  simp only
  rw [told_modify (g := noteL v) (fun _ => rfl)]
  have ht := told_at hc
  refine g.upd (r := r) (f := noteL v) (fun d => rfl) ?_ ?_ ?_ ?_
  · intro d' h'
    obtain rfl := Option.some.inj (h'.symm.trans ht)
    rw [← colL_some ht]
    exact ha.1
  · intro d' h' hw
    obtain rfl := Option.some.inj (h'.symm.trans ht)
    exact absurd (hwk.symm.trans hw) (by simp)
  · intro d' h' j hj har
    exact g.clos r d' h' har j hj
  · intro d' h' e1 e3 hw j hj
    exact g.mark e1 r d' h' e3 hw j hj
def weakL (v : Int) (c : Cl) : Cl := { c with weak := true, a := v }
theorem weak_gc {h : HSt} (g : GInvH h) {r : Nat} {v : Int} {d : Bool} (hc : h.1[r]? = some (freshC d)) (hv : ∀ k : Nat, v = (k : Int) → AliveH h k) :
    GInvH (h.1.modify r (weakS v), h.2) ∧ ∀ k, AliveH (h.1.modify r (weakS v), h.2) k ↔ AliveH h k := by
  unfold GInvH AliveH at *
  simp only
  rw [told_modify (g := weakL v) (fun _ => rfl)]
  have ht := told_at hc
  refine g.upd (r := r) (f := weakL v) (fun d => rfl) ?_ ?_ ?_ ?_
  · intro d' h'
    obtain rfl := Option.some.inj (h'.symm.trans ht)
    show colR (freshC d) ≠ 0
    rw [fresh_col]; split <;> omega
  · intro d' h' hw
    obtain rfl := Option.some.inj (h'.symm.trans ht)
    exact ⟨rfl, rfl⟩
  · intro d' h' j hj har
    obtain rfl := Option.some.inj (h'.symm.trans ht)
    rcases hj with hj | hj
    · exact hv j hj
    · have : (-1 : Int) = (j : Int) := hj
      omega
  · intro d' h' e1 e3 hw
    exact absurd hw (by simp [weakL])
theorem begin_gc {n : Nat} {h : HSt} {rs : List Int} (k : GH n h rs) (hl : 0 ≤ lowC h) : GH n (beginC h).2 rs ∧ (∀ j, AliveH h j → AliveH (beginC h).2 j) ∧ AliveH (beginC h).2 (beginC h).1.toNat := by
  obtain ⟨hlt, hu⟩ := lowC_at hl
  have hc : (h.1.map toldC)[(lowC h).toNat]? = some (toldC h.1[(lowC h).toNat]) := told_at (List.getElem?_eq_getElem hlt)
  have h0 : (toldC h.1[(lowC h).toNat]).col = 0 := by
    show colR _ = 0
    unfold colR
    rw [if_pos hu]
  obtain ⟨q1, q2⟩ := k.g.fresh hc h0
  have e : (beginC h).2.1.map toldC = (h.1.map toldC).set (lowC h).toNat ⟨colFor h.2.1 h.2.2 (lowC h).toNat, false, -1, -1, 0⟩ := by
    show (h.1.set _ _).map toldC = _
    rw [List.map_set, colFor_told]
  refine ⟨⟨k.ok.begin, ?_⟩, ?_, ?_⟩
  · rw [e]; exact q1
  · intro j hj
    unfold AliveH
    rw [e]
    exact q2 j (.inl hj)
  · unfold AliveH
    rw [e]
    exact q2 _ (.inr rfl)
theorem GH.root {n : Nat} {h : HSt} {rs : List Int} (k : GH n h rs) (j : Nat) (hj : (j : Int) ∈ rs) : AliveH h j := k.g.root j hj
theorem take_gc {n : Nat} {h : HSt} {rs : List Int} (k : GH n h rs) : GH n (takeC rs h).2 rs ∧ (¬ (takeC rs h).1 < 0 → AliveH (takeC rs h).2 (takeC rs h).1.toNat) := by
  rw [takeC_room]
  have kr := k.room
  split
  · rename_i hl
    obtain ⟨q1, _, q3⟩ := begin_gc kr hl
    exact ⟨q1, fun _ => q3⟩
  · exact ⟨kr, fun e => absurd (by simp) e⟩
set_option maxHeartbeats 1000000 in
theorem does_gc {E : Env} (he : EnvOk E) {s : MS} {i : Ins} (hlen : s.lo.length = E.L) (hd : DoneOk E s) (hg : GS s) (hc : CanI E s i) (hends : endsC s.hs.1 s.st i.op = 0) (cell : Int) (hcell : i.op = 13 ∨ i.op = 23 → 0 ≤ cell ∧ AliveH s.hs cell.toNat ∧ ∃ d, s.hs.1[cell.toNat]? = some (freshC d)) : GS (doesS E i cell s) := by
  have hlo : ∀ {x}, x ∈ s.lo → WOk s.hs x := fun hx => hg.w _ (List.mem_append_left _ hx)
  have hst : ∀ {x}, x ∈ s.st → WOk s.hs x := fun hx => hg.w _ (List.mem_append_right _ hx)
  have pushH : ∀ (h : HSt), (∀ k, AliveH s.hs k → AliveH h k) → ∀ (k : Nat) (ws : List (Bool × Int)), (∀ x ∈ ws, WOk h x) → ∀ x ∈ s.lo ++ (cutS s k ++ ws), WOk h x := by
    intro h hh k ws hws x hx
    rcases List.mem_append.1 hx with hx | hx
    · exact fun e j ej => hh j (hlo hx e j ej)
    rcases List.mem_append.1 hx with hx | hx
    · exact fun e j ej => hh j (hst (cut_sub hx) e j ej)
    · exact hws x hx
  have push := pushH s.hs (fun _ h => h)
  have push0 : ∀ (ws : List (Bool × Int)), (∀ x ∈ ws, WOk s.hs x) → ∀ x ∈ s.lo ++ (s.st ++ ws), WOk s.hs x := by
    intro ws hws x hx
    have := push 0 ws hws x
    unfold cutS at this
    rw [Nat.sub_zero, List.take_length] at this
    exact this hx
  have cutH : ∀ (h : HSt), (∀ k, AliveH s.hs k → AliveH h k) → ∀ (k : Nat), ∀ x ∈ s.lo ++ cutS s k, WOk h x := by
    intro h hh k x hx
    exact pushH h hh k [] (by simp) x (by simpa using hx)
  have cut := cutH s.hs (fun _ h => h)
  have hlast : ∀ {k : Nat}, k < s.st.length → WOk s.hs (lastW s.st k) := fun hk => hst (lastW_mem hk)
  have one : ∀ {h : HSt} {y : Bool × Int}, WOk h y → ∀ x ∈ [y], WOk h x := fun hy x hx => by rw [List.mem_singleton.1 hx]; exact hy
  by_cases e1 : i.op = 1
  · simp only [doesS, e1, if_true]
    exact ⟨hg.g, push0 _ (one WOk.num)⟩
  by_cases e2 : i.op = 2 ∨ i.op = 3 ∨ i.op = 4 ∨ i.op = 5 ∨ i.op = 6 ∨ i.op = 18
  · simp only [doesS, if_neg e1, if_pos e2]
    exact ⟨hg.g, push _ _ (one WOk.num)⟩
  by_cases e7 : i.op = 7
  · simp only [doesS, if_neg e1, if_neg e2, if_pos e7]
    refine ⟨hg.g, push0 _ (one ?_)⟩
    have hn := he.wf.arg i hc.mem (.inl e7)
    have hnl : i.n < s.lo.length := by omega
    rw [List.getD_eq_getElem?_getD, List.getElem?_eq_getElem hnl]
    exact hlo (List.getElem_mem hnl)
  by_cases e8 : i.op = 8
  · simp only [doesS, if_neg e1, if_neg e2, if_neg e7, if_pos e8]
    have hp := can_one hc (.inl e8)
    refine ⟨hg.g, ?_⟩
    intro x hx
    rcases List.mem_append.1 hx with hx | hx
    · rcases List.mem_or_eq_of_mem_set hx with hx | hx
      · exact hlo hx
      · rw [hx]; exact hlast hp
    · exact hst (cut_sub hx)
  by_cases e9 : i.op = 9
  · simp only [doesS, if_neg e1, if_neg e2, if_neg e7, if_neg e8, if_pos e9]
    exact ⟨hg.g, push0 _ (one (hlast (can_one hc (.inr (.inl e9)))))⟩
  by_cases e10 : i.op = 10 ∨ i.op = 20
  · simp only [doesS, if_neg e1, if_neg e2, if_neg e7, if_neg e8, if_neg e9, if_pos e10]
    exact ⟨hg.g, cut 1⟩
  by_cases e11 : i.op = 11
  · simp only [doesS, if_neg e1, if_neg e2, if_neg e7, if_neg e8, if_neg e9, if_neg e10, if_pos e11]
    have hp := can_two hc e11
    refine ⟨hg.g, push _ _ ?_⟩
    intro x hx
    rcases List.mem_cons.1 hx with rfl | hx
    · exact hlast (by omega)
    · rw [List.mem_singleton.1 hx]; exact hlast hp
  by_cases e12 : i.op = 12
  · simp only [doesS, if_neg e1, if_neg e2, if_neg e7, if_neg e8, if_neg e9, if_neg e10, if_neg e11, if_pos e12]
    exact ⟨hg.g, push0 _ (one WOk.none)⟩
  by_cases e21 : i.op = 21
  · simp only [doesS, if_neg e1, if_neg e2, if_neg e7, if_neg e8, if_neg e9, if_neg e10, if_neg e11, if_neg e12, if_pos e21]
    split
    · exact ⟨hg.g, push0 _ (one WOk.num)⟩
    · exact ⟨hg.g, push0 _ (one WOk.num)⟩
  by_cases e22 : i.op = 22
  · simp only [doesS, if_neg e1, if_neg e2, if_neg e7, if_neg e8, if_neg e9, if_neg e10, if_neg e11, if_neg e12, if_neg e21, if_pos e22]
    exact ⟨hg.g, cut 1⟩
  have hstd := hc.std ⟨e7, e8, e9, fun e => e10 (.inl e), e11⟩
  simp only [doesS, if_neg e1, if_neg e2, if_neg e7, if_neg e8, if_neg e9, if_neg e10, if_neg e11, if_neg e12, if_neg e21, if_neg e22]
  have hi : ∀ k : Nat, i.op = k → (i.op : Int) = (k : Int) := fun k e => by rw [e]
  have hN := hd.hh.len
  by_cases e13 : i.op = 13
  · simp only [touchS, if_pos e13]
    obtain ⟨c1, c2, _⟩ := hcell (.inl e13)
    refine ⟨hg.g, push0 _ (one ?_)⟩
    intro _ k hk
    simp only at hk
    rw [show k = cell.toNat by omega]
    exact c2
  by_cases e23 : i.op = 23
  · simp only [touchS, if_neg e13, if_pos e23]
    obtain ⟨c1, c2, d, c3⟩ := hcell (.inr e23)
    obtain ⟨hp, hf⟩ := hstd.one (c := 114) (by rw [e23]; rfl)
    obtain ⟨q1, q2⟩ := weak_gc hg.g c3 (v := (lastW s.st 0).2) (fun k hk => hlast hp (letB_r hf) k hk)
    refine ⟨q1, pushH _ (fun k hk => (q2 k).2 hk) _ _ (one ?_)⟩
    intro _ k hk
    simp only at hk
    rw [show k = cell.toNat by omega]
    exact (q2 _).2 c2
  by_cases e14 : i.op = 14 ∨ i.op = 24
  · simp only [touchS, if_neg e13, if_neg e23, if_pos e14]
    have hpop : popsL i.op = [114] := by rcases e14 with e | e <;> rw [e] <;> rfl
    obtain ⟨hp, hf⟩ := hstd.one hpop
    have hr := hd.refs _ (List.mem_append_right _ (lastW_mem hp)) (letB_r hf)
    obtain ⟨b, hw⟩ : ∃ b, wantsC s.hs.1 (lastW s.st 0).2 b = 0 := by
      rcases e14 with e | e
      · exact ⟨false, by rw [← hends, hi 14 e]; rfl⟩
      · exact ⟨true, by rw [← hends, hi 24 e]; rfl⟩
    obtain ⟨h0, hl, hwk⟩ := wantsC_zero hw (by rw [hN]; exact hr.2)
    have hal : AliveH s.hs (lastW s.st 0).2.toNat := hlast hp (letB_r hf) _ (by omega)
    have hcell' : cellAt s.hs.1 (lastW s.st 0).2 = s.hs.1[(lastW s.st 0).2.toNat] := by
      unfold cellAt
      rw [List.getD_eq_getElem?_getD, List.getElem?_eq_getElem hl]
      rfl
    refine ⟨hg.g, push _ _ (one ?_)⟩
    rw [hcell']
    intro _ k hk
    simp only at hk
    refine hg.g.refs (List.getElem?_eq_getElem hl) hal ?_
    split at hk
    · exact .inl hk
    · exact .inr hk
  by_cases e16 : i.op = 16
  · simp only [touchS, if_neg e13, if_neg e23, if_neg e14, if_pos e16]
    exact ⟨hg.g, push _ _ (one WOk.num)⟩
  by_cases e17 : i.op = 17
  · simp only [touchS, if_neg e13, if_neg e23, if_neg e14, if_neg e16, if_pos e17]
    obtain ⟨hp, hf, _⟩ := hstd.two (c := 114) (d := 105) (by rw [e17]; rfl)
    have hr := hd.refs _ (List.mem_append_right _ (lastW_mem hp)) (letB_r hf)
    have hw : wantsC s.hs.1 (lastW s.st 1).2 false = 0 := by rw [← hends, hi 17 e17]; rfl
    obtain ⟨h0, hl, hwk⟩ := wantsC_zero hw (by rw [hN]; exact hr.2)
    have hal : AliveH s.hs (lastW s.st 1).2.toNat := hlast hp (letB_r hf) _ (by omega)
    obtain ⟨q1, q2⟩ := note_gc hg.g (v := (lastW s.st 0).2) (List.getElem?_eq_getElem hl) hwk hal
    exact ⟨q1, cutH _ (fun k hk => (q2 k).2 hk) 2⟩
  by_cases e15 : i.op = 15
  · simp only [touchS, if_neg e13, if_neg e23, if_neg e14, if_neg e16, if_neg e17, if_pos e15]
    obtain ⟨hp, hf, hf2⟩ := hstd.two (c := 114) (d := 114) (by rw [e15]; rfl)
    have hr := hd.refs _ (List.mem_append_right _ (lastW_mem hp)) (letB_r hf)
    have hw : wantsC s.hs.1 (lastW s.st 1).2 false = 0 := by rw [← hends, hi 15 e15]; rfl
    obtain ⟨h0, hl, hwk⟩ := wantsC_zero hw (by rw [hN]; exact hr.2)
    have hal : AliveH s.hs (lastW s.st 1).2.toNat := hlast hp (letB_r hf) _ (by omega)
    obtain ⟨q1, q2⟩ := store_gc hg.g (m := i.n) (v := (lastW s.st 0).2) (List.getElem?_eq_getElem hl) hwk hal (fun k hk => hlast (by omega) (letB_r hf2) k hk)
    exact ⟨q1, cutH _ (fun k hk => (q2 k).2 hk) 2⟩
  simp only [touchS, if_neg e13, if_neg e23, if_neg e14, if_neg e16, if_neg e17, if_neg e15]
  exact hg
theorem GS.step {E : Env} (he : EnvOk E) (hn : NoMix E) {s : MS} (h : MInv E s) (hg : GS s) : GS (stepS E s) := by
  obtain ⟨i, hc⟩ := h.can he
  have hrt := rootsS_flag hn h
  unfold stepS
  rw [hc.get]
  simp only
  unfold stepI
  have hr := endsC_range (cs := s.hs.1) (st := s.st) (op := i.op)
  by_cases h1 : endsC s.hs.1 s.st i.op = 1
  · rw [if_pos h1]
    exact ⟨hg.g, hg.w⟩
  rw [if_neg h1]
  by_cases h2' : endsC s.hs.1 s.st i.op ≠ 0
  · rw [if_pos h2']
    exact ⟨hg.g, hg.w⟩
  rw [if_neg h2']
  have h2 : endsC s.hs.1 s.st i.op = 0 := by omega
  have goGS : ∀ {t : MS} {c : Int}, GS (doesS E i c t) → GS (goS E i c t) := fun q => ⟨q.g, q.w⟩
  by_cases ht : i.op = 13 ∨ i.op = 23
  · rw [if_pos ht]
    have k0 : GH E.n s.hs (rootsS E s) := ⟨h.hh, by rw [hrt]; exact hg.flag⟩
    obtain ⟨k1, k2⟩ := take_gc k0
    have gst : GS { s with hs := (takeC (rootsS E s) s.hs).2 } := GS.of (s := { s with hs := (takeC (rootsS E s) s.hs).2 }) (by rw [hrt] at k1 ⊢; exact k1.g)
    have hc2 : CanI E { s with hs := (takeC (rootsS E s) s.hs).2 } i := ⟨hc.get, hc.ok, hc.le⟩
    by_cases hneg : (takeC (rootsS E s) s.hs).1 < 0
    · rw [if_pos hneg]
      exact ⟨gst.g, gst.w⟩
    · rw [if_neg hneg]
      refine goGS (does_gc (s := { s with hs := (takeC (rootsS E s) s.hs).2 }) he (h.lo he) ⟨h.refs, k1.ok, h.rd⟩ gst hc2 ?_ _ (fun _ => ⟨by omega, k2 hneg, take_fresh _ hneg⟩))
      rw [← h2]
      exact endsC_take ht
  · rw [if_neg ht]
    exact goGS (does_gc he (h.lo he) ⟨h.refs, h.hh, h.rd⟩ hg hc h2 _ (fun e => absurd e ht))
theorem GS.coll {E : Env} (hn : NoMix E) {s : MS} (h : MInv E s) (hg : GS s) (m : Nat) : GS (collS E m s) := by
  have hrt := rootsS_flag hn h
  have k0 : GH E.n s.hs (rootsS E s) := ⟨h.hh, by rw [hrt]; exact hg.flag⟩
  have k1 := k0.units m
  refine GS.of (s := collS E m s) ?_
  have : (collS E m s).lo ++ (collS E m s).st = s.lo ++ s.st := rfl
  rw [this, ← hrt]
  exact k1.g
theorem GS.start (L n : Nat) : GS (startS L n) := by
  refine ⟨?_, ?_⟩
  · unfold GInvH startS
    simp only
    have hm : ∀ c ∈ (List.replicate n (⟨false, false, false, false, -1, -1, 0⟩ : RC)).map toldC, c = blankL := by
      intro c hc
      obtain ⟨d, hd, rfl⟩ := List.mem_map.1 hc
      rw [(List.mem_replicate.1 hd).2]
      rfl
    refine ⟨fun k hk => by (cases hk), ?_, fun c hc _ => hm c hc, ?_, ?_, fun e => by (cases e), fun e => by (cases e), fun e => by (cases e), ?_⟩
    · intro k c hc _ j hj
      rw [hm c (List.mem_of_getElem? hc)] at hj
      simp [blankL] at hj
    · intro c hc; rw [hm c hc]; simp [blankL]
    · intro _ c hc; rw [hm c hc]; simp [blankL]
    · intro c hc hw; rw [hm c hc] at hw; cases hw
  · intro x hx
    simp only [startS, List.append_nil] at hx
    rw [(List.mem_replicate.1 hx).2]
    exact WOk.num
end Go.Proofs.YtdmdpindonghdaaDoor
namespace Go.Proofs.YtdmdpindonghdaaDoor
open Go.RowKit
/-- What can be reached can still be reached. -/
theorem Rch.keep {T T' : List Cl} {rs rs' : List Int} (hr : ∀ k : Nat, (k : Int) ∈ rs → Rch T' rs' k) (hc : ∀ (k : Nat) (c : Cl) (j : Nat), Rch T rs k → T[k]? = some c → c.weak = false → (c.a = (j : Int) ∨ c.b = (j : Int)) → ∃ c', T'[k]? = some c' ∧ c'.weak = false ∧ (c'.a = (j : Int) ∨ c'.b = (j : Int))) {k : Nat} (h : Rch T rs k) : Rch T' rs' k := by
  induction h using Rch.ind with
  | root k hk => exact hr k hk
  | ref k j c hk hg hw hj ih =>
    obtain ⟨c', g1, g2, g3⟩ := hc k c j hk hg hw hj
    exact .ref k j c' ih g1 g2 g3
/-- The same contents, where a cell can be reached. -/
structure Kept (T T' : List Cl) (rs : List Int) : Prop where
  cell : ∀ (k : Nat) (c : Cl), Rch T rs k → T[k]? = some c → ∃ c', T'[k]? = some c' ∧ c'.weak = c.weak ∧ c'.b = c.b ∧ c'.num = c.num ∧ (c.weak = false → c'.a = c.a) ∧ (c.weak = true → c'.a = c.a ∨ (c'.a = -1 ∧ ∀ j : Nat, c.a = (j : Int) → ¬ Rch T rs j))
  back : ∀ k, Rch T' rs k → Rch T rs k
  len : T'.length = T.length
theorem Kept.refl (T : List Cl) (rs : List Int) : Kept T T rs := ⟨fun _ c _ hc => ⟨c, hc, rfl, rfl, rfl, fun _ => rfl, fun _ => .inl rfl⟩, fun _ h => h, rfl⟩
theorem Kept.on {T T' : List Cl} {rs : List Int} (h : Kept T T' rs) {k : Nat} (hk : Rch T rs k) : Rch T' rs k :=
  hk.keep (fun k hk => .root k hk) (fun k c j hr hc hw hj => by
    obtain ⟨c', g1, g2, g3, g4, g5, g6⟩ := h.cell k c hr hc
    exact ⟨c', g1, g2.trans hw, by rw [g5 hw, g3]; exact hj⟩)
theorem Kept.iff {T T' : List Cl} {rs : List Int} (h : Kept T T' rs) (k : Nat) : Rch T' rs k ↔ Rch T rs k := ⟨h.back k, h.on⟩
theorem Kept.trans {T T' T'' : List Cl} {rs : List Int} (h : Kept T T' rs) (h' : Kept T' T'' rs) : Kept T T'' rs := by
  refine ⟨fun k c hk hc => ?_, fun k hk => h.back k (h'.back k hk), h'.len.trans h.len⟩
  obtain ⟨c', g1, g2, g3, g4, g5, g6⟩ := h.cell k c hk hc
  obtain ⟨c'', q1, q2, q3, q4, q5, q6⟩ := h'.cell k c' (h.on hk) g1
  refine ⟨c'', q1, q2.trans g2, q3.trans g3, q4.trans g4, fun hw => (q5 (g2.trans hw)).trans (g5 hw), fun hw => ?_⟩
  rcases q6 (g2.trans hw) with e | ⟨e, f⟩
  · rcases g6 hw with e2 | ⟨e2, f2⟩
    · exact .inl (e.trans e2)
    · exact .inr ⟨e.trans e2, f2⟩
  · rcases g6 hw with e2 | ⟨e2, f2⟩
    · exact .inr ⟨e, fun j hj hr => f j (e2.trans hj) (h.on hr)⟩
    · exact .inr ⟨e, f2⟩
theorem Paint.len {T T' : List Cl} (h : Paint T T') : T'.length = T.length := by
  rcases Nat.lt_trichotomy T'.length T.length with e | e | e
  · obtain ⟨c', h1, _⟩ := h.back T'.length _ (List.getElem?_eq_getElem e)
    have := (List.getElem?_eq_some_iff.1 h1).1
    omega
  · exact e
  · obtain ⟨c, h1, _⟩ := h.get T.length _ (List.getElem?_eq_getElem e)
    have := (List.getElem?_eq_some_iff.1 h1).1
    omega
theorem Paint.kept {T T' : List Cl} (h : Paint T T') (rs : List Int) : Kept T T' rs := by
  refine ⟨fun k c _ hc => ?_, fun k hk => ?_, h.len⟩
  · obtain ⟨c', g1, g2⟩ := h.back k c hc
    exact ⟨c', g1, by rw [g2], by rw [g2], by rw [g2], fun _ => by rw [g2], fun _ => .inl (by rw [g2])⟩
  · exact hk.keep (fun k hk => .root k hk) (fun k c j hr hc hw hj => by
      obtain ⟨d, g1, g2⟩ := h.get k c hc
      rw [g2] at hw hj
      exact ⟨d, g1, hw, hj⟩)
theorem black_paint (T : List Cl) (g : Nat) : Paint T (blackL T g) := by
  unfold blackL
  split
  · exact paint_modify _ _ _
  · exact ((shade_paint _ _).trans (shade_paint _ _)).trans (paint_modify _ _ _)
theorem forget_len (T : List Cl) : (forgetL T).length = T.length := forgetL_len T
theorem forget_kept {T : List Cl} {rs : List Int} (h : GInv (forgetL T) 2 0 rs) : Kept T (forgetL T) rs := by
  have hget : ∀ (k : Nat) (c : Cl), T[k]? = some c → (forgetL T)[k]? = some (fgL T c) := fun k c hc => by unfold forgetL; rw [List.getElem?_map, hc]; rfl
  have hon : ∀ k, Rch T rs k → Rch (forgetL T) rs k := fun k hk => hk.keep (fun k hk => .root k hk) (fun k c j _ hc hw hj => ⟨c, by rw [hget k c hc, (fgL_all T c).2.2.2.2.2 hw], hw, hj⟩)
  refine ⟨fun k c hk hc => ?_, fun k hk => ?_, forgetL_len T⟩
  · obtain ⟨f1, f2, f3, f4, f5, f6⟩ := fgL_all T c
    refine ⟨fgL T c, hget k c hc, f2, f3, f4, fun hw => by rw [f6 hw], fun hw => ?_⟩
    rcases f5 with e | e
    · exact .inl e
    · by_cases e2 : c.a = -1
      · exact .inl (e.trans e2.symm)
      · refine .inr ⟨e, fun j hj hr => ?_⟩
        have hal := h.alive (hon j hr)
        unfold Alive at hal
        rw [forget_colL] at hal
        unfold fgL at e
        split at e
        · rename_i e3
          rw [Bool.and_eq_true] at e3
          have e4 := e3.2
          unfold hasL at e4
          simp only [Bool.and_eq_true, decide_eq_true_eq, beq_iff_eq] at e4
          rw [hj, Int.toNat_natCast] at e4
          omega
        · exact e2 e
  · exact hk.keep (fun k hk => .root k hk) (fun k c' j _ hc hw hj => by
      obtain ⟨c, g1, g2⟩ := forget_get hc
      obtain ⟨f1, f2, f3, f4, f5, f6⟩ := fgL_all T c
      rw [g2] at hw hj
      have hcw : c.weak = false := f2.symm.trans hw
      rw [f6 hcw] at hj
      exact ⟨c, g1, hcw, hj⟩)
theorem sweep_kept {T : List Cl} {hd : Nat} {rs : List Int} (h : GInv T 2 hd rs) (hh : hd < T.length) : Kept T (sweepL T hd) rs := by
  have hcol : colL T hd = T[hd].col := colL_get hh
  have hgo : ∀ (k : Nat) (c : Cl), Rch T rs k → T[k]? = some c → ∃ c', (sweepL T hd)[k]? = some c' ∧ c' = { c with col := c'.col } := by
    intro k c hk hc
    rw [sweep_get hh]
    by_cases e : k = hd
    · subst e
      obtain rfl := Option.some.inj ((List.getElem?_eq_getElem hh).symm.trans hc)
      have hal := h.alive hk
      unfold Alive at hal
      rw [if_pos rfl, if_neg (by omega)]
      split
      · exact ⟨_, rfl, rfl⟩
      · exact ⟨_, hc, rfl⟩
    · rw [if_neg e]
      exact ⟨c, hc, rfl⟩
  refine ⟨fun k c hk hc => ?_, fun k hk => ?_, sweepL_len T hd⟩
  · obtain ⟨c', g1, g2⟩ := hgo k c hk hc
    exact ⟨c', g1, by rw [g2], by rw [g2], by rw [g2], fun _ => by rw [g2], fun _ => .inl (by rw [g2])⟩
  · exact hk.keep (fun k hk => .root k hk) (fun k c' j _ hc hw hj => by
      rw [sweep_get hh] at hc
      by_cases e : k = hd
      · subst e
        rw [if_pos rfl] at hc
        split at hc
        · obtain rfl := Option.some.inj hc
          simp [blankL] at hj
        · split at hc
          · obtain rfl := Option.some.inj hc
            exact ⟨T[k], List.getElem?_eq_getElem hh, hw, hj⟩
          · exact ⟨c', hc, hw, hj⟩
      · rw [if_neg e] at hc
        exact ⟨c', hc, hw, hj⟩)
theorem GInv.kept {T : List Cl} {ph hd : Nat} {rs : List Int} (h : GInv T ph hd rs) (h2 : ph ≤ 2) (hh : ph = 2 → hd < T.length) : Kept T (unitL T ph hd rs).1 rs := by
  have hn := h.unit h2 hh
  revert hn
  unfold unitL
  by_cases e0 : ph = 0
  · rw [if_pos e0]
    intro _
    exact (shades_paint rs T).kept rs
  rw [if_neg e0]
  by_cases e2 : ph = 2
  · rw [if_pos e2]
    subst e2
    intro _
    split
    · exact sweep_kept h (hh rfl)
    · exact sweep_kept h (hh rfl)
  rw [if_neg e2]
  by_cases hg : 0 ≤ greyL T
  · rw [if_pos hg]
    intro _
    exact (black_paint T _).kept rs
  rw [if_neg hg]
  by_cases hg2 : greyL (shadesL T rs) < 0
  · rw [if_pos hg2]
    intro hn
    exact ((shades_paint rs T).kept rs).trans (forget_kept hn)
  · rw [if_neg hg2]
    intro _
    exact (shades_paint rs T).kept rs
/-- A round that began with every cell white: what it has come to. -/
structure RInv (T : List Cl) (ph hd : Nat) (rs : List Int) : Prop where
  mark : ph = 1 → ∀ k, k < T.length → 2 ≤ colL T k → Rch T rs k
  high : ph = 2 → ∀ k, k < T.length → colL T k = 3 → Rch T rs k
  low : ph = 2 → ∀ k, k < T.length → k < hd → colL T k ≠ 0 → Rch T rs k
  idle : ph = 0 → ∀ k, k < T.length → colL T k ≠ 0 → Rch T rs k
  weak2 : ph = 2 → ∀ (k : Nat) (c : Cl), T[k]? = some c → Rch T rs k → c.weak = true → ∀ j : Nat, c.a = (j : Int) → Rch T rs j
  weak0 : ph = 0 → ∀ (k : Nat) (c : Cl), T[k]? = some c → Rch T rs k → c.weak = true → ∀ j : Nat, c.a = (j : Int) → Rch T rs j
theorem RInv.begin {T : List Cl} {hd : Nat} {rs : List Int} (h : GInv T 0 hd rs) : RInv (shadesL T rs) 1 hd rs := by
  refine ⟨?_, fun e => by (cases e), fun e => by (cases e), fun e => by (cases e), fun e => by (cases e), fun e => by (cases e)⟩
  intro _ k hk h2
  rw [shadesL_len] at hk
  rw [shades_colL] at h2
  have := h.idle rfl T[k] (List.getElem_mem hk)
  rw [← colL_get hk] at this
  split at h2
  · rename_i e; exact .root k e.1
  · omega
theorem RInv.unit {T : List Cl} {ph hd : Nat} {rs : List Int} (h : GInv T ph hd rs) (r : RInv T ph hd rs) (h0 : ph ≠ 0) (h2 : ph ≤ 2) (hh : ph = 2 → hd < T.length) (hrefs : ∀ c ∈ T, c.a < (T.length : Int) ∧ c.b < (T.length : Int)) : RInv (unitL T ph hd rs).1 (unitL T ph hd rs).2.1 (unitL T ph hd rs).2.2 rs := by
  have hk := h.kept h2 hh
  have hn := h.unit h2 hh
  revert hk hn
  unfold unitL
  rw [if_neg h0]
  by_cases e2 : ph = 2
  · rw [if_pos e2]
    subst e2
    have hlt := hh rfl
    have hcol : colL T hd = T[hd].col := colL_get hlt
    have hng := h.nogrey rfl T[hd] (List.getElem_mem hlt)
    have h3 := h.col3 T[hd] (List.getElem_mem hlt)
    have key : Kept T (sweepL T hd) rs → (∀ k, k < (sweepL T hd).length → k < hd + 1 → colL (sweepL T hd) k ≠ 0 → Rch (sweepL T hd) rs k) := by
      intro kp k hk hlt' hc
      rw [sweepL_len] at hk
      apply kp.on
      rw [sweep_colL hlt] at hc
      by_cases e : k = hd
      · subst e
        rw [if_pos rfl] at hc
        apply r.high rfl k hk
        rw [hcol]
        by_cases c1 : T[k].col = 1
        · rw [if_pos c1] at hc; exact absurd rfl hc
        · rw [if_neg c1] at hc
          by_cases c3 : T[k].col = 3
          · exact c3
          · rw [if_neg c3] at hc; omega
      · rw [if_neg e] at hc
        exact r.low rfl k hk (by omega) hc
    have keyw : Kept T (sweepL T hd) rs → ∀ (k : Nat) (c : Cl), (sweepL T hd)[k]? = some c → Rch (sweepL T hd) rs k → c.weak = true → ∀ j : Nat, c.a = (j : Int) → Rch (sweepL T hd) rs j := by
      intro kp k c hc hk hw j hj
      apply kp.on
      have hk' := kp.back k hk
      have hkl : k < T.length := by
        have := (List.getElem?_eq_some_iff.1 hc).1
        rw [sweepL_len] at this; exact this
      obtain ⟨c', g1, g2, g3, g4, g5, g6⟩ := kp.cell k T[k] hk' (List.getElem?_eq_getElem hkl)
      obtain rfl := Option.some.inj (g1.symm.trans hc)
      rcases g6 (g2.symm.trans hw) with e | ⟨e, _⟩
      · exact r.weak2 rfl k T[k] (List.getElem?_eq_getElem hkl) hk' (g2.symm.trans hw) j (e.symm.trans hj)
      · omega
    split
    · rename_i hl
      intro kp _
      refine ⟨fun e => by (cases e), fun e => by (cases e), fun e => by (cases e), ?_, fun e => by (cases e), fun _ => keyw kp⟩
      intro _ k hk hc
      have hk' := hk
      rw [sweepL_len] at hk'
      exact key kp k hk (by omega) hc
    · intro kp _
      refine ⟨fun e => by (cases e), ?_, ?_, fun e => by (cases e), fun _ => keyw kp, fun e => by (cases e)⟩
      · intro _ k hk hc
        rw [sweepL_len] at hk
        apply kp.on
        rw [sweep_colL hlt] at hc
        by_cases e : k = hd
        · subst e
          rw [if_pos rfl] at hc
          exfalso
          by_cases c1 : T[k].col = 1
          · rw [if_pos c1] at hc; omega
          · rw [if_neg c1] at hc
            by_cases c3 : T[k].col = 3
            · rw [if_pos c3] at hc; omega
            · rw [if_neg c3] at hc; omega
        · rw [if_neg e] at hc
          exact r.high rfl k hk hc
      · intro _ k hk hlt' hc
        exact key kp k hk hlt' hc
  rw [if_neg e2]
  have e1 : ph = 1 := by omega
  subst e1
  by_cases hg : 0 ≤ greyL T
  · rw [if_pos hg]
    intro kp _
    refine ⟨?_, fun e => by (cases e), fun e => by (cases e), fun e => by (cases e), fun e => by (cases e), fun e => by (cases e)⟩
    intro _ k hk hc
    obtain ⟨c, hcg, hc2⟩ := greyL_pos hg
    generalize (greyL T).toNat = g at *
    have hgl := (List.getElem?_eq_some_iff.1 hcg).1
    have hgr : Rch T rs g := r.mark rfl g hgl (by rw [colL_some hcg]; omega)
    rw [blackL_len] at hk
    apply kp.on
    unfold blackL at hc
    rw [getD_some hcg] at hc
    by_cases ek : k = g
    · subst ek; exact hgr
    have hcU : colL ((if c.weak = true then T else shadeL (shadeL T c.a) c.b).modify g (paintL 3)) k = colL (if c.weak = true then T else shadeL (shadeL T c.a) c.b) k := by
      rw [colL_paint _ _ _ _ (by split; · exact hgl
                                 · rw [shadeL_len, shadeL_len]; exact hgl), if_neg ek]
    rw [hcU] at hc
    by_cases hw : c.weak = true
    · rw [if_pos hw] at hc
      exact r.mark rfl k hk hc
    · rw [if_neg hw, shade_colL, shade_colL] at hc
      have hw' : c.weak = false := by simpa using hw
      by_cases ea : (k : Int) = c.a
      · exact .ref g k c hgr hcg hw' (.inl ea.symm)
      · by_cases eb : (k : Int) = c.b
        · exact .ref g k c hgr hcg hw' (.inr eb.symm)
        · apply r.mark rfl k hk
          simp only [ea, eb, false_and, if_false] at hc
          exact hc
  rw [if_neg hg]
  have hsh : ∀ k, k < T.length → 2 ≤ colL (shadesL T rs) k → Rch (shadesL T rs) rs k := by
    intro k hk hc
    apply ((shades_paint rs T).kept rs).on
    rw [shades_colL] at hc
    split at hc
    · rename_i e; exact .root k e.1
    · exact r.mark rfl k hk hc
  by_cases hg2 : greyL (shadesL T rs) < 0
  · rw [if_pos hg2]
    intro _ hn
    have kp := forget_kept hn
    have hlen : (shadesL T rs).length = T.length := shadesL_len rs T
    have hs := h.shades (by omega) rs
    refine ⟨fun e => by (cases e), ?_, fun _ k _ hk => absurd hk (Nat.not_lt_zero _), fun e => by (cases e), ?_, fun e => by (cases e)⟩
    · intro _ k hk hc
      rw [forgetL_len, hlen] at hk
      rw [forget_colL] at hc
      exact kp.on (hsh k hk (by omega))
    · intro _ k c hc hk hw j hj
      obtain ⟨d, d1, d2⟩ := forget_get hc
      obtain ⟨f1, f2, f3, f4, f5, f6⟩ := fgL_all (shadesL T rs) d
      have hdw : d.weak = true := by rw [d2, f2] at hw; exact hw
      have hja : (fgL (shadesL T rs) d).a = (j : Int) := by rw [d2] at hj; exact hj
      have hwj := fgL_white hdw hja
      have hda : d.a = (j : Int) := by
        rcases f5 with e | e
        · exact e.symm.trans hja
        · omega
      have hdm := List.mem_of_getElem? d1
      have hjl : j < T.length := by
        obtain ⟨k', d', e1, e1', e2⟩ := (shades_paint rs T).mem hdm
        have := (hrefs d' (List.mem_of_getElem? e1)).1
        rw [e2] at hda
        simp only at hda
        omega
      have halive : Alive (shadesL T rs) 1 hd j := by
        refine hs.clos k d d1 ?_ j (.inl hda)
        have := hs.alive (kp.back k hk)
        exact this
      apply kp.on
      refine hsh j hjl ?_
      have := halive.1
      omega
  · rw [if_neg hg2]
    intro _ _
    refine ⟨?_, fun e => by (cases e), fun e => by (cases e), fun e => by (cases e), fun e => by (cases e), fun e => by (cases e)⟩
    intro _ k hk hc
    rw [shadesL_len] at hk
    exact hsh k hk hc
end Go.Proofs.YtdmdpindonghdaaDoor
namespace Go.Proofs.YtdmdpindonghdaaDoor
open Go.RowKit
theorem GH.kept1 {n : Nat} {h : HSt} {rs : List Int} (k : GH n h rs) : Kept (h.1.map toldC) ((stepC rs h).1.map toldC) rs := by
  have := k.g.kept k.ok.ok.phz (by simpa using k.ok.ok.hand)
  rw [told_unit k.ok.ok k.ok.x rs] at this
  exact this
theorem toIdle_ind' {rs : List Int} {P : HSt → Prop} (hP : ∀ h, P h → h.2.1 ≠ 0 → P (stepC rs h)) : ∀ (m : Nat) (h : HSt), P h → P (toIdle rs m h)
  | 0, _, k => k
  | m + 1, h, k => by
    simp only [toIdle]
    split
    · exact k
    · rename_i e
      exact toIdle_ind' hP m _ (hP h k e)
theorem idleC_ind' {rs : List Int} {P : HSt → Prop} (hP : ∀ h, P h → h.2.1 ≠ 0 → P (stepC rs h)) {h : HSt} (k : P h) : P (idleC rs h) := toIdle_ind' hP _ h k
theorem GH.keptU {n : Nat} {h : HSt} {rs : List Int} (k : GH n h rs) : ∀ m, Kept (h.1.map toldC) ((unitsC rs m h).1.map toldC) rs
  | 0 => Kept.refl _ _
  | m + 1 => (k.keptU m).trans (k.units m).kept1
theorem GH.keptIdle {n : Nat} {h : HSt} {rs : List Int} (k : GH n h rs) : Kept (h.1.map toldC) ((idleC rs h).1.map toldC) rs := by
  have := idleC_ind (rs := rs) (P := fun h' => GH n h' rs ∧ Kept (h.1.map toldC) (h'.1.map toldC) rs) (fun h' ⟨a, b⟩ => ⟨a.unit, b.trans a.kept1⟩) (h := h) ⟨k, Kept.refl _ _⟩
  exact this.2
theorem GH.keptRoom {n : Nat} {h : HSt} {rs : List Int} (k : GH n h rs) : Kept (h.1.map toldC) ((roomC rs h).1.map toldC) rs := by
  unfold roomC
  split
  · exact Kept.refl _ _
  split
  · exact k.keptIdle
  · exact (k.keptIdle.trans k.idle.kept1).trans k.idle.unit.keptIdle
def RInvH (h : HSt) (rs : List Int) : Prop := RInv (h.1.map toldC) h.2.1 h.2.2 rs
theorem told_refs {n : Nat} {h : HSt} (k : HOk n h) : ∀ c ∈ h.1.map toldC, c.a < ((h.1.map toldC).length : Int) ∧ c.b < ((h.1.map toldC).length : Int) := by
  intro c hc
  obtain ⟨d, hd, rfl⟩ := List.mem_map.1 hc
  rw [List.length_map]
  exact k.ok.refs d hd
theorem RInvH.unit {n : Nat} {h : HSt} {rs : List Int} (k : GH n h rs) (r : RInvH h rs) (h0 : h.2.1 ≠ 0) : RInvH (stepC rs h) rs := by
  have := RInv.unit k.g r h0 k.ok.ok.phz (by simpa using k.ok.ok.hand) (told_refs k.ok)
  rw [told_unit k.ok.ok k.ok.x rs] at this
  exact this
theorem RInvH.begin {n : Nat} {h : HSt} {rs : List Int} (k : GH n h rs) (h0 : h.2.1 = 0) : RInvH (stepC rs h) rs := by
  have hu := told_unit k.ok.ok k.ok.x rs
  unfold unitL at hu
  rw [if_pos h0] at hu
  simp only [Prod.mk.injEq] at hu
  have kg := k.g
  rw [h0] at kg
  have := RInv.begin kg
  unfold RInvH
  show RInv ((unitC h.1 h.2.1 h.2.2 rs).1.map toldC) (unitC h.1 h.2.1 h.2.2 rs).2.1 (unitC h.1 h.2.1 h.2.2 rs).2.2 rs
  rw [← hu.1, ← hu.2.1, ← hu.2.2]
  exact this
/-- A whole round, from Idle. -/
theorem GH.round {n : Nat} {h : HSt} {rs : List Int} (k : GH n h rs) (h0 : h.2.1 = 0) : RInvH (idleC rs (stepC rs h)) rs ∧ (idleC rs (stepC rs h)).2.1 = 0 := by
  have := idleC_ind' (rs := rs) (P := fun h' => GH n h' rs ∧ RInvH h' rs) (fun h' ⟨a, b⟩ e => ⟨a.unit, b.unit a e⟩) (h := stepC rs h) ⟨k.unit, RInvH.begin k h0⟩
  exact ⟨this.2, idleC_phase k.unit.ok.ok⟩
theorem lowC_neg {h : HSt} (hl : ¬ 0 ≤ lowC h) : ∀ c ∈ h.1, c.used = true := by
  intro c hc
  have : firstP (fun c => !c.used) h.1 0 < 0 := by unfold lowC at hl; omega
  have := firstP_none h.1 0 this c hc
  simpa using this
theorem col_used {c : RC} (h : c.used = true) : colR c ≠ 0 := by
  unfold colR
  rw [if_neg (by rw [h]; simp)]
  split
  · omega
  split <;> omega
theorem used_col {c : RC} (h : colR c ≠ 0) : c.used = true := by
  unfold colR at h
  by_cases e : c.used = false
  · rw [if_pos e] at h; exact absurd rfl h
  · simpa using e
/-- There is no room just if every cell can be reached. -/
theorem full_iff {n : Nat} {h : HSt} {rs : List Int} (k : GH n h rs) : (takeC rs h).1 < 0 ↔ ∀ j, j < n → Rch (h.1.map toldC) rs j := by
  have kr := k.room
  have kp := k.keptRoom
  have hneg : (takeC rs h).1 < 0 ↔ ¬ 0 ≤ lowC (roomC rs h) := by
    rw [takeC_room]
    split
    · rename_i e
      show lowC (roomC rs h) < 0 ↔ _
      omega
    · rename_i e
      exact ⟨fun _ => e, fun _ => by simp⟩
  rw [hneg]
  constructor
  · intro hl
    have hall : ∀ j, j < n → colL ((roomC rs h).1.map toldC) j ≠ 0 := by
      intro j hj
      have hj' : j < (roomC rs h).1.length := by rw [kr.ok.len]; exact hj
      rw [colL_told hj']
      exact col_used (lowC_neg hl _ (List.getElem_mem hj'))
    have hR : RInvH (roomC rs h) rs ∧ (roomC rs h).2.1 = 0 := by
      unfold roomC at hl ⊢
      by_cases e1 : 0 ≤ lowC h
      · rw [if_pos e1] at hl; exact absurd e1 hl
      rw [if_neg e1] at hl ⊢
      by_cases e2 : 0 ≤ lowC (idleC rs h)
      · rw [if_pos e2] at hl; exact absurd e2 hl
      rw [if_neg e2] at hl ⊢
      exact k.idle.round (idleC_phase k.ok.ok)
    intro j hj
    have hjl : j < ((roomC rs h).1.map toldC).length := by rw [List.length_map, kr.ok.len]; exact hj
    exact kp.back j (hR.1.idle hR.2 j hjl (hall j hj))
  · intro hall hl
    obtain ⟨hlt, hu⟩ := lowC_at hl
    have hj := hlt
    rw [kr.ok.len] at hj
    have hal := kr.g.alive (kp.on (hall _ hj))
    apply hal.1
    rw [colL_told hlt]
    unfold colR
    rw [if_pos hu]
end Go.Proofs.YtdmdpindonghdaaDoor
namespace Go.Proofs.YtdmdpindonghdaaDoor
open Go.RowKit
theorem conv_get (l : List Int) (i : Nat) (h : i < l.length) : (l.map (Value.int .u8)).toArray[i]? = some (.int .u8 (l.getD i 0)) := by
  rw [List.getElem?_toArray, List.getElem?_map, List.getD_eq_getElem?_getD, List.getElem?_eq_getElem h]
  rfl
theorem conv2 (w : World) (a0 a1 : Int) : (convert 101 9 (.slice (some ⟨w.heap.size, 0, none⟩) 2 2)).run Tryd.prog (w.alloc (.cells #[.int .u8 a0, .int .u8 a1] 5)) = .ok (.string (strOfNums [a0, a1])) (w.alloc (.cells #[.int .u8 a0, .int .u8 a1] 5)) := by
  refine run_convert_bytes_arg (P := Tryd.prog) _ 101 5 Tryd.underlying101 Tryd.underlying5 w.heap.size 0 2 2 [a0, a1] rfl (fun i hi => ?_) 9 Tryd.underlying9
  rw [Nat.zero_add, cell_of_row _ w.heap.size i _ _ _ (heap_alloc_new w (.cells #[.int .u8 a0, .int .u8 a1] 5))]
  exact conv_get [a0, a1] i hi
theorem conv3 (w : World) (a0 a1 a2 : Int) : (convert 101 9 (.slice (some ⟨w.heap.size, 0, none⟩) 3 3)).run Tryd.prog (w.alloc (.cells #[.int .u8 a0, .int .u8 a1, .int .u8 a2] 5)) = .ok (.string (strOfNums [a0, a1, a2])) (w.alloc (.cells #[.int .u8 a0, .int .u8 a1, .int .u8 a2] 5)) := by
  refine run_convert_bytes_arg (P := Tryd.prog) _ 101 5 Tryd.underlying101 Tryd.underlying5 w.heap.size 0 3 3 [a0, a1, a2] rfl (fun i hi => ?_) 9 Tryd.underlying9
  rw [Nat.zero_add, cell_of_row _ w.heap.size i _ _ _ (heap_alloc_new w (.cells #[.int .u8 a0, .int .u8 a1, .int .u8 a2] 5))]
  exact conv_get [a0, a1, a2] i hi
theorem conv4 (w : World) (a0 a1 a2 a3 : Int) : (convert 101 9 (.slice (some ⟨w.heap.size, 0, none⟩) 4 4)).run Tryd.prog (w.alloc (.cells #[.int .u8 a0, .int .u8 a1, .int .u8 a2, .int .u8 a3] 5)) = .ok (.string (strOfNums [a0, a1, a2, a3])) (w.alloc (.cells #[.int .u8 a0, .int .u8 a1, .int .u8 a2, .int .u8 a3] 5)) := by
  refine run_convert_bytes_arg (P := Tryd.prog) _ 101 5 Tryd.underlying101 Tryd.underlying5 w.heap.size 0 4 4 [a0, a1, a2, a3] rfl (fun i hi => ?_) 9 Tryd.underlying9
  rw [Nat.zero_add, cell_of_row _ w.heap.size i _ _ _ (heap_alloc_new w (.cells #[.int .u8 a0, .int .u8 a1, .int .u8 a2, .int .u8 a3] 5))]
  exact conv_get [a0, a1, a2, a3] i hi
theorem conv5 (w : World) (a0 a1 a2 a3 a4 : Int) : (convert 101 9 (.slice (some ⟨w.heap.size, 0, none⟩) 5 5)).run Tryd.prog (w.alloc (.cells #[.int .u8 a0, .int .u8 a1, .int .u8 a2, .int .u8 a3, .int .u8 a4] 5)) = .ok (.string (strOfNums [a0, a1, a2, a3, a4])) (w.alloc (.cells #[.int .u8 a0, .int .u8 a1, .int .u8 a2, .int .u8 a3, .int .u8 a4] 5)) := by
  refine run_convert_bytes_arg (P := Tryd.prog) _ 101 5 Tryd.underlying101 Tryd.underlying5 w.heap.size 0 5 5 [a0, a1, a2, a3, a4] rfl (fun i hi => ?_) 9 Tryd.underlying9
  rw [Nat.zero_add, cell_of_row _ w.heap.size i _ _ _ (heap_alloc_new w (.cells #[.int .u8 a0, .int .u8 a1, .int .u8 a2, .int .u8 a3, .int .u8 a4] 5))]
  exact conv_get [a0, a1, a2, a3, a4] i hi
theorem conv6 (w : World) (a0 a1 a2 a3 a4 a5 : Int) : (convert 101 9 (.slice (some ⟨w.heap.size, 0, none⟩) 6 6)).run Tryd.prog (w.alloc (.cells #[.int .u8 a0, .int .u8 a1, .int .u8 a2, .int .u8 a3, .int .u8 a4, .int .u8 a5] 5)) = .ok (.string (strOfNums [a0, a1, a2, a3, a4, a5])) (w.alloc (.cells #[.int .u8 a0, .int .u8 a1, .int .u8 a2, .int .u8 a3, .int .u8 a4, .int .u8 a5] 5)) := by
  refine run_convert_bytes_arg (P := Tryd.prog) _ 101 5 Tryd.underlying101 Tryd.underlying5 w.heap.size 0 6 6 [a0, a1, a2, a3, a4, a5] rfl (fun i hi => ?_) 9 Tryd.underlying9
  rw [Nat.zero_add, cell_of_row _ w.heap.size i _ _ _ (heap_alloc_new w (.cells #[.int .u8 a0, .int .u8 a1, .int .u8 a2, .int .u8 a3, .int .u8 a4, .int .u8 a5] 5))]
  exact conv_get [a0, a1, a2, a3, a4, a5] i hi
theorem conv8 (w : World) (a0 a1 a2 a3 a4 a5 a6 a7 : Int) : (convert 101 9 (.slice (some ⟨w.heap.size, 0, none⟩) 8 8)).run Tryd.prog (w.alloc (.cells #[.int .u8 a0, .int .u8 a1, .int .u8 a2, .int .u8 a3, .int .u8 a4, .int .u8 a5, .int .u8 a6, .int .u8 a7] 5)) = .ok (.string (strOfNums [a0, a1, a2, a3, a4, a5, a6, a7])) (w.alloc (.cells #[.int .u8 a0, .int .u8 a1, .int .u8 a2, .int .u8 a3, .int .u8 a4, .int .u8 a5, .int .u8 a6, .int .u8 a7] 5)) := by
  refine run_convert_bytes_arg (P := Tryd.prog) _ 101 5 Tryd.underlying101 Tryd.underlying5 w.heap.size 0 8 8 [a0, a1, a2, a3, a4, a5, a6, a7] rfl (fun i hi => ?_) 9 Tryd.underlying9
  rw [Nat.zero_add, cell_of_row _ w.heap.size i _ _ _ (heap_alloc_new w (.cells #[.int .u8 a0, .int .u8 a1, .int .u8 a2, .int .u8 a3, .int .u8 a4, .int .u8 a5, .int .u8 a6, .int .u8 a7] 5))]
  exact conv_get [a0, a1, a2, a3, a4, a5, a6, a7] i hi
theorem conv9 (w : World) (a0 a1 a2 a3 a4 a5 a6 a7 a8 : Int) : (convert 101 9 (.slice (some ⟨w.heap.size, 0, none⟩) 9 9)).run Tryd.prog (w.alloc (.cells #[.int .u8 a0, .int .u8 a1, .int .u8 a2, .int .u8 a3, .int .u8 a4, .int .u8 a5, .int .u8 a6, .int .u8 a7, .int .u8 a8] 5)) = .ok (.string (strOfNums [a0, a1, a2, a3, a4, a5, a6, a7, a8])) (w.alloc (.cells #[.int .u8 a0, .int .u8 a1, .int .u8 a2, .int .u8 a3, .int .u8 a4, .int .u8 a5, .int .u8 a6, .int .u8 a7, .int .u8 a8] 5)) := by
  refine run_convert_bytes_arg (P := Tryd.prog) _ 101 5 Tryd.underlying101 Tryd.underlying5 w.heap.size 0 9 9 [a0, a1, a2, a3, a4, a5, a6, a7, a8] rfl (fun i hi => ?_) 9 Tryd.underlying9
  rw [Nat.zero_add, cell_of_row _ w.heap.size i _ _ _ (heap_alloc_new w (.cells #[.int .u8 a0, .int .u8 a1, .int .u8 a2, .int .u8 a3, .int .u8 a4, .int .u8 a5, .int .u8 a6, .int .u8 a7, .int .u8 a8] 5))]
  exact conv_get [a0, a1, a2, a3, a4, a5, a6, a7, a8] i hi
attribute [local go_sem] conv2 conv3 conv4 conv5 conv6 conv8 conv9
set_option maxRecDepth 100000 in
set_option maxHeartbeats 1000000 in
theorem unless_any (n : Int) (at_ : Nat) (code : ByteArray) (w : World) (ha : at_ ≤ 120) (hc : code.size ≤ 12) :
    Calls Tryd.prog 69 #[.int .u8 n, .int .i64 at_, .string code] w fun e w' => e = .returned (.string (strOfNums [7, n, 12, 18, 20, (at_ : Int) + 6 + code.size] ++ code)) ∧ Below w.heap.size w w' := by
  have HB : Hid (Below w.heap.size w (w.alloc (.cells #[.int .u8 7, .int .u8 n, .int .u8 12, .int .u8 18, .int .u8 20, .int .u8 ((at_ : Int) + 6 + code.size)] 5))) := hid ((Below.refl _ _).alloc (Nat.le_refl _) _)
  have hsz : ¬ 9223372036854775807 < (strOfNums [7, n, 12, 18, 20, (at_ : Int) + 6 + code.size]).size + code.size := by rw [strOfNums_size]; simp only [List.length_cons, List.length_nil]; omega
  go_enter Tryd.func69, Tryd.ntmps69
  go_wp2_with fail
  go_ret
  exact ⟨rfl, HB.out⟩
set_option maxRecDepth 100000 in
set_option maxHeartbeats 1000000 in
theorem piece_0 (c at_ : Nat) (weak : Bool) (w : World) (hc : c < 256) (hk : c % 16 = 0) :
    Calls Tryd.prog 44 #[.int .i64 c, .int .i64 at_, .bool weak] w fun e w' => e = .returned (.string (strOfNums [13, 8, 1 + (c : Int) / 16 % 2])) ∧ Below w.heap.size w w' := by
  have k0 : (c : Int) % 16 = 0 := by omega
  have hb : Below w.heap.size w (w.alloc (.cells #[.int .u8 (13), .int .u8 (8), .int .u8 (1 + (c : Int) / 16 % 2)] 5)) := (Below.refl _ _).alloc (Nat.le_refl _) _
  have HB := hid hb
  clear hb
  go_enter Tryd.func44, Tryd.ntmps44
  go_wp2_with fail
  go_ret
  exact ⟨rfl, HB.out⟩
set_option maxRecDepth 100000 in
set_option maxHeartbeats 1000000 in
theorem piece_1 (c at_ : Nat) (weak : Bool) (w : World) (hc : c < 256) (hk : c % 16 = 1) :
    Calls Tryd.prog 44 #[.int .i64 c, .int .i64 at_, .bool weak] w fun e w' => e = .returned (.string (strOfNums [13, 8, 1 + (c : Int) / 16 % 2])) ∧ Below w.heap.size w w' := by
  have k0 : (c : Int) % 16 = 1 := by omega
  have hb : Below w.heap.size w (w.alloc (.cells #[.int .u8 (13), .int .u8 (8), .int .u8 (1 + (c : Int) / 16 % 2)] 5)) := (Below.refl _ _).alloc (Nat.le_refl _) _
  have HB := hid hb
  clear hb
  go_enter Tryd.func44, Tryd.ntmps44
  go_wp2_with fail
  go_ret
  exact ⟨rfl, HB.out⟩
set_option maxRecDepth 100000 in
set_option maxHeartbeats 1000000 in
theorem piece_2 (c at_ : Nat) (weak : Bool) (w : World) (hc : c < 256) (hk : c % 16 = 2) :
    Calls Tryd.prog 44 #[.int .i64 c, .int .i64 at_, .bool weak] w fun e w' => e = .returned (.string (strOfNums [13, 9, 7, 1 + (c : Int) / 16 % 2, 15, (c : Int) / 32 % 2, 8, 1 + (c : Int) / 16 % 2])) ∧ Below w.heap.size w w' := by
  have k0 : (c : Int) % 16 = 2 := by omega
  have hb : Below w.heap.size w (w.alloc (.cells #[.int .u8 (13), .int .u8 (9), .int .u8 (7), .int .u8 (1 + (c : Int) / 16 % 2), .int .u8 (15), .int .u8 ((c : Int) / 32 % 2), .int .u8 (8), .int .u8 (1 + (c : Int) / 16 % 2)] 5)) := (Below.refl _ _).alloc (Nat.le_refl _) _
  have HB := hid hb
  clear hb
  go_enter Tryd.func44, Tryd.ntmps44
  go_wp2_with fail
  go_ret
  exact ⟨rfl, HB.out⟩
set_option maxRecDepth 100000 in
set_option maxHeartbeats 1000000 in
theorem piece_3 (c at_ : Nat) (weak : Bool) (w : World) (hc : c < 256) (hk : c % 16 = 3) :
    Calls Tryd.prog 44 #[.int .i64 c, .int .i64 at_, .bool weak] w fun e w' => e = .returned (.string (strOfNums [13, 9, 7, 1 + (c : Int) / 16 % 2, 15, (c : Int) / 32 % 2, 8, 1 + (c : Int) / 16 % 2])) ∧ Below w.heap.size w w' := by
  have k0 : (c : Int) % 16 = 3 := by omega
  have hb : Below w.heap.size w (w.alloc (.cells #[.int .u8 (13), .int .u8 (9), .int .u8 (7), .int .u8 (1 + (c : Int) / 16 % 2), .int .u8 (15), .int .u8 ((c : Int) / 32 % 2), .int .u8 (8), .int .u8 (1 + (c : Int) / 16 % 2)] 5)) := (Below.refl _ _).alloc (Nat.le_refl _) _
  have HB := hid hb
  clear hb
  go_enter Tryd.func44, Tryd.ntmps44
  go_wp2_with fail
  go_ret
  exact ⟨rfl, HB.out⟩
set_option maxRecDepth 100000 in
set_option maxHeartbeats 1000000 in
theorem piece_4 (c at_ : Nat) (weak : Bool) (w : World) (hc : c < 256) (hk : c % 16 = 4) :
    Calls Tryd.prog 44 #[.int .i64 c, .int .i64 at_, .bool weak] w fun e w' => e = .returned (.string (strOfNums [13, 9, 7, 1 + (c : Int) / 16 % 2, 15, (c : Int) / 32 % 2, 8, 1 + (c : Int) / 16 % 2])) ∧ Below w.heap.size w w' := by
  have k0 : (c : Int) % 16 = 4 := by omega
  have hb : Below w.heap.size w (w.alloc (.cells #[.int .u8 (13), .int .u8 (9), .int .u8 (7), .int .u8 (1 + (c : Int) / 16 % 2), .int .u8 (15), .int .u8 ((c : Int) / 32 % 2), .int .u8 (8), .int .u8 (1 + (c : Int) / 16 % 2)] 5)) := (Below.refl _ _).alloc (Nat.le_refl _) _
  have HB := hid hb
  clear hb
  go_enter Tryd.func44, Tryd.ntmps44
  go_wp2_with fail
  go_ret
  exact ⟨rfl, HB.out⟩
set_option maxRecDepth 100000 in
set_option maxHeartbeats 1000000 in
theorem piece_5 (c at_ : Nat) (weak : Bool) (w : World) (hc : c < 256) (ha : at_ ≤ 120) (hk : c % 16 = 5) :
    Calls Tryd.prog 44 #[.int .i64 c, .int .i64 at_, .bool weak] w fun e w' => e = .returned (.string (strOfNums [7, 1 + (c : Int) / 16 % 2, 12, 18, 20, (at_ : Int) + 6 + (strOfNums [7, 1 + (c : Int) / 16 % 2, 14, (c : Int) / 32 % 2, 8, 1 + (c : Int) / 16 % 2]).size] ++ strOfNums [7, 1 + (c : Int) / 16 % 2, 14, (c : Int) / 32 % 2, 8, 1 + (c : Int) / 16 % 2])) ∧ Below w.heap.size w w' := by
  have k0 : (c : Int) % 16 = 5 := by omega
  have hb : Below w.heap.size w (w.alloc (.cells #[.int .u8 (7), .int .u8 (1 + (c : Int) / 16 % 2), .int .u8 (14), .int .u8 ((c : Int) / 32 % 2), .int .u8 (8), .int .u8 (1 + (c : Int) / 16 % 2)] 5)) := (Below.refl _ _).alloc (Nat.le_refl _) _
  have HB := hid hb
  have hu := hid (unless_any (1 + (c : Int) / 16 % 2) at_ (strOfNums [7, 1 + (c : Int) / 16 % 2, 14, (c : Int) / 32 % 2, 8, 1 + (c : Int) / 16 % 2]) (w.alloc (.cells #[.int .u8 (7), .int .u8 (1 + (c : Int) / 16 % 2), .int .u8 (14), .int .u8 ((c : Int) / 32 % 2), .int .u8 (8), .int .u8 (1 + (c : Int) / 16 % 2)] 5)) ha (by rw [strOfNums_size]; simp))
  clear hb
  go_enter Tryd.func44, Tryd.ntmps44
  go_wp2_with fail
  refine hu.out.mono ?_
  clear hu
  intro e w1 hp
  obtain ⟨hx, hb1⟩ := hp
  subst e
  have HB2 := hid (HB.out.trans (hb1.mono HB.out.size))
  clear hb1
  go_wp2_with fail
  go_ret
  exact ⟨rfl, HB2.out⟩
set_option maxRecDepth 100000 in
set_option maxHeartbeats 1000000 in
theorem piece_6 (c at_ : Nat) (weak : Bool) (w : World) (hc : c < 256) (ha : at_ ≤ 120) (hk : c % 16 = 6) :
    Calls Tryd.prog 44 #[.int .i64 c, .int .i64 at_, .bool weak] w fun e w' => e = .returned (.string (strOfNums [7, 1 + (c : Int) / 16 % 2, 12, 18, 20, (at_ : Int) + 6 + (strOfNums [7, 1 + (c : Int) / 16 % 2, 14, (c : Int) / 32 % 2, 8, 1 + (c : Int) / 16 % 2]).size] ++ strOfNums [7, 1 + (c : Int) / 16 % 2, 14, (c : Int) / 32 % 2, 8, 1 + (c : Int) / 16 % 2])) ∧ Below w.heap.size w w' := by
  have k0 : (c : Int) % 16 = 6 := by omega
  have hb : Below w.heap.size w (w.alloc (.cells #[.int .u8 (7), .int .u8 (1 + (c : Int) / 16 % 2), .int .u8 (14), .int .u8 ((c : Int) / 32 % 2), .int .u8 (8), .int .u8 (1 + (c : Int) / 16 % 2)] 5)) := (Below.refl _ _).alloc (Nat.le_refl _) _
  have HB := hid hb
  have hu := hid (unless_any (1 + (c : Int) / 16 % 2) at_ (strOfNums [7, 1 + (c : Int) / 16 % 2, 14, (c : Int) / 32 % 2, 8, 1 + (c : Int) / 16 % 2]) (w.alloc (.cells #[.int .u8 (7), .int .u8 (1 + (c : Int) / 16 % 2), .int .u8 (14), .int .u8 ((c : Int) / 32 % 2), .int .u8 (8), .int .u8 (1 + (c : Int) / 16 % 2)] 5)) ha (by rw [strOfNums_size]; simp))
  clear hb
  go_enter Tryd.func44, Tryd.ntmps44
  go_wp2_with fail
  refine hu.out.mono ?_
  clear hu
  intro e w1 hp
  obtain ⟨hx, hb1⟩ := hp
  subst e
  have HB2 := hid (HB.out.trans (hb1.mono HB.out.size))
  clear hb1
  go_wp2_with fail
  go_ret
  exact ⟨rfl, HB2.out⟩
set_option maxRecDepth 100000 in
set_option maxHeartbeats 1000000 in
theorem piece_7 (c at_ : Nat) (weak : Bool) (w : World) (hc : c < 256) (ha : at_ ≤ 120) (hk : c % 16 = 7) :
    Calls Tryd.prog 44 #[.int .i64 c, .int .i64 at_, .bool weak] w fun e w' => e = .returned (.string (strOfNums [7, 1 + (c : Int) / 16 % 2, 12, 18, 20, (at_ : Int) + 6 + (strOfNums [7, 1 + (c : Int) / 16 % 2, 21, 17]).size] ++ strOfNums [7, 1 + (c : Int) / 16 % 2, 21, 17])) ∧ Below w.heap.size w w' := by
  have k0 : (c : Int) % 16 = 7 := by omega
  have hb : Below w.heap.size w (w.alloc (.cells #[.int .u8 (7), .int .u8 (1 + (c : Int) / 16 % 2), .int .u8 (21), .int .u8 (17)] 5)) := (Below.refl _ _).alloc (Nat.le_refl _) _
  have HB := hid hb
  have hu := hid (unless_any (1 + (c : Int) / 16 % 2) at_ (strOfNums [7, 1 + (c : Int) / 16 % 2, 21, 17]) (w.alloc (.cells #[.int .u8 (7), .int .u8 (1 + (c : Int) / 16 % 2), .int .u8 (21), .int .u8 (17)] 5)) ha (by rw [strOfNums_size]; simp))
  clear hb
  go_enter Tryd.func44, Tryd.ntmps44
  go_wp2_with fail
  refine hu.out.mono ?_
  clear hu
  intro e w1 hp
  obtain ⟨hx, hb1⟩ := hp
  subst e
  have HB2 := hid (HB.out.trans (hb1.mono HB.out.size))
  clear hb1
  go_wp2_with fail
  go_ret
  exact ⟨rfl, HB2.out⟩
set_option maxRecDepth 100000 in
set_option maxHeartbeats 1000000 in
theorem piece_8 (c at_ : Nat) (weak : Bool) (w : World) (hc : c < 256) (ha : at_ ≤ 120) (hk : c % 16 = 8) :
    Calls Tryd.prog 44 #[.int .i64 c, .int .i64 at_, .bool weak] w fun e w' => e = .returned (.string (strOfNums [7, 1 + (c : Int) / 16 % 2, 12, 18, 20, (at_ : Int) + 6 + (strOfNums [7, 1 + (c : Int) / 16 % 2, 16, 22]).size] ++ strOfNums [7, 1 + (c : Int) / 16 % 2, 16, 22])) ∧ Below w.heap.size w w' := by
  have k0 : (c : Int) % 16 = 8 := by omega
  have hb : Below w.heap.size w (w.alloc (.cells #[.int .u8 (7), .int .u8 (1 + (c : Int) / 16 % 2), .int .u8 (16), .int .u8 (22)] 5)) := (Below.refl _ _).alloc (Nat.le_refl _) _
  have HB := hid hb
  have hu := hid (unless_any (1 + (c : Int) / 16 % 2) at_ (strOfNums [7, 1 + (c : Int) / 16 % 2, 16, 22]) (w.alloc (.cells #[.int .u8 (7), .int .u8 (1 + (c : Int) / 16 % 2), .int .u8 (16), .int .u8 (22)] 5)) ha (by rw [strOfNums_size]; simp))
  clear hb
  go_enter Tryd.func44, Tryd.ntmps44
  go_wp2_with fail
  refine hu.out.mono ?_
  clear hu
  intro e w1 hp
  obtain ⟨hx, hb1⟩ := hp
  subst e
  have HB2 := hid (HB.out.trans (hb1.mono HB.out.size))
  clear hb1
  go_wp2_with fail
  go_ret
  exact ⟨rfl, HB2.out⟩
set_option maxRecDepth 100000 in
set_option maxHeartbeats 1000000 in
theorem piece_9 (c at_ : Nat) (weak : Bool) (w : World) (hc : c < 256) (ha : at_ ≤ 120) (hk : c % 16 = 9) :
    Calls Tryd.prog 44 #[.int .i64 c, .int .i64 at_, .bool weak] w fun e w' => e = .returned (.string (strOfNums [7, 1 + (c : Int) / 16 % 2, 12, 18, 20, (at_ : Int) + 6 + (strOfNums [7, 1 + (c : Int) / 16 % 2, 16, 22]).size] ++ strOfNums [7, 1 + (c : Int) / 16 % 2, 16, 22])) ∧ Below w.heap.size w w' := by
  have k0 : (c : Int) % 16 = 9 := by omega
  have hb : Below w.heap.size w (w.alloc (.cells #[.int .u8 (7), .int .u8 (1 + (c : Int) / 16 % 2), .int .u8 (16), .int .u8 (22)] 5)) := (Below.refl _ _).alloc (Nat.le_refl _) _
  have HB := hid hb
  have hu := hid (unless_any (1 + (c : Int) / 16 % 2) at_ (strOfNums [7, 1 + (c : Int) / 16 % 2, 16, 22]) (w.alloc (.cells #[.int .u8 (7), .int .u8 (1 + (c : Int) / 16 % 2), .int .u8 (16), .int .u8 (22)] 5)) ha (by rw [strOfNums_size]; simp))
  clear hb
  go_enter Tryd.func44, Tryd.ntmps44
  go_wp2_with fail
  refine hu.out.mono ?_
  clear hu
  intro e w1 hp
  obtain ⟨hx, hb1⟩ := hp
  subst e
  have HB2 := hid (HB.out.trans (hb1.mono HB.out.size))
  clear hb1
  go_wp2_with fail
  go_ret
  exact ⟨rfl, HB2.out⟩
set_option maxRecDepth 100000 in
set_option maxHeartbeats 1000000 in
theorem piece_10 (c at_ : Nat) (weak : Bool) (w : World) (hc : c < 256) (ha : at_ ≤ 120) (hk : c % 16 = 10) :
    Calls Tryd.prog 44 #[.int .i64 c, .int .i64 at_, .bool weak] w fun e w' => e = .returned (.string (strOfNums [7, 1 + (c : Int) / 16 % 2, 12, 18, 20, (at_ : Int) + 6 + (strOfNums [7, 1 + (c : Int) / 16 % 2, 7, 3 - (1 + (c : Int) / 16 % 2), 15, (c : Int) / 32 % 2]).size] ++ strOfNums [7, 1 + (c : Int) / 16 % 2, 7, 3 - (1 + (c : Int) / 16 % 2), 15, (c : Int) / 32 % 2])) ∧ Below w.heap.size w w' := by
  have k0 : (c : Int) % 16 = 10 := by omega
  have hb : Below w.heap.size w (w.alloc (.cells #[.int .u8 (7), .int .u8 (1 + (c : Int) / 16 % 2), .int .u8 (7), .int .u8 (3 - (1 + (c : Int) / 16 % 2)), .int .u8 (15), .int .u8 ((c : Int) / 32 % 2)] 5)) := (Below.refl _ _).alloc (Nat.le_refl _) _
  have HB := hid hb
  have hu := hid (unless_any (1 + (c : Int) / 16 % 2) at_ (strOfNums [7, 1 + (c : Int) / 16 % 2, 7, 3 - (1 + (c : Int) / 16 % 2), 15, (c : Int) / 32 % 2]) (w.alloc (.cells #[.int .u8 (7), .int .u8 (1 + (c : Int) / 16 % 2), .int .u8 (7), .int .u8 (3 - (1 + (c : Int) / 16 % 2)), .int .u8 (15), .int .u8 ((c : Int) / 32 % 2)] 5)) ha (by rw [strOfNums_size]; simp))
  clear hb
  go_enter Tryd.func44, Tryd.ntmps44
  go_wp2_with fail
  refine hu.out.mono ?_
  clear hu
  intro e w1 hp
  obtain ⟨hx, hb1⟩ := hp
  subst e
  have HB2 := hid (HB.out.trans (hb1.mono HB.out.size))
  clear hb1
  go_wp2_with fail
  go_ret
  exact ⟨rfl, HB2.out⟩
set_option maxRecDepth 100000 in
set_option maxHeartbeats 1000000 in
theorem piece_11 (c at_ : Nat) (weak : Bool) (w : World) (hc : c < 256) (ha : at_ ≤ 120) (hk : c % 16 = 11) :
    Calls Tryd.prog 44 #[.int .i64 c, .int .i64 at_, .bool weak] w fun e w' => e = .returned (.string (strOfNums [7, 1 + (c : Int) / 16 % 2, 12, 18, 20, (at_ : Int) + 6 + (strOfNums [7, 1 + (c : Int) / 16 % 2, 7, 3 - (1 + (c : Int) / 16 % 2), 15, (c : Int) / 32 % 2]).size] ++ strOfNums [7, 1 + (c : Int) / 16 % 2, 7, 3 - (1 + (c : Int) / 16 % 2), 15, (c : Int) / 32 % 2])) ∧ Below w.heap.size w w' := by
  have k0 : (c : Int) % 16 = 11 := by omega
  have hb : Below w.heap.size w (w.alloc (.cells #[.int .u8 (7), .int .u8 (1 + (c : Int) / 16 % 2), .int .u8 (7), .int .u8 (3 - (1 + (c : Int) / 16 % 2)), .int .u8 (15), .int .u8 ((c : Int) / 32 % 2)] 5)) := (Below.refl _ _).alloc (Nat.le_refl _) _
  have HB := hid hb
  have hu := hid (unless_any (1 + (c : Int) / 16 % 2) at_ (strOfNums [7, 1 + (c : Int) / 16 % 2, 7, 3 - (1 + (c : Int) / 16 % 2), 15, (c : Int) / 32 % 2]) (w.alloc (.cells #[.int .u8 (7), .int .u8 (1 + (c : Int) / 16 % 2), .int .u8 (7), .int .u8 (3 - (1 + (c : Int) / 16 % 2)), .int .u8 (15), .int .u8 ((c : Int) / 32 % 2)] 5)) ha (by rw [strOfNums_size]; simp))
  clear hb
  go_enter Tryd.func44, Tryd.ntmps44
  go_wp2_with fail
  refine hu.out.mono ?_
  clear hu
  intro e w1 hp
  obtain ⟨hx, hb1⟩ := hp
  subst e
  have HB2 := hid (HB.out.trans (hb1.mono HB.out.size))
  clear hb1
  go_wp2_with fail
  go_ret
  exact ⟨rfl, HB2.out⟩
set_option maxRecDepth 100000 in
set_option maxHeartbeats 1000000 in
theorem piece_12 (c at_ : Nat) (weak : Bool) (w : World) (hc : c < 256) (hk : c % 16 = 12) :
    Calls Tryd.prog 44 #[.int .i64 c, .int .i64 at_, .bool weak] w fun e w' => e = .returned (.string (strOfNums [7, 1 + (c : Int) / 16 % 2, 7, 3 - (1 + (c : Int) / 16 % 2), 8, 1 + (c : Int) / 16 % 2, 8, 3 - (1 + (c : Int) / 16 % 2)])) ∧ Below w.heap.size w w' := by
  have k0 : (c : Int) % 16 = 12 := by omega
  have hb : Below w.heap.size w (w.alloc (.cells #[.int .u8 (7), .int .u8 (1 + (c : Int) / 16 % 2), .int .u8 (7), .int .u8 (3 - (1 + (c : Int) / 16 % 2)), .int .u8 (8), .int .u8 (1 + (c : Int) / 16 % 2), .int .u8 (8), .int .u8 (3 - (1 + (c : Int) / 16 % 2))] 5)) := (Below.refl _ _).alloc (Nat.le_refl _) _
  have HB := hid hb
  clear hb
  go_enter Tryd.func44, Tryd.ntmps44
  go_wp2_with fail
  go_ret
  exact ⟨rfl, HB.out⟩
set_option maxRecDepth 100000 in
set_option maxHeartbeats 1000000 in
theorem piece_13 (c at_ : Nat) (weak : Bool) (w : World) (hc : c < 256) (hk : c % 16 = 13) :
    Calls Tryd.prog 44 #[.int .i64 c, .int .i64 at_, .bool weak] w fun e w' => e = .returned (.string (strOfNums [7, 0, 1, (c : Int), 2, 9, 8, 0, 22])) ∧ Below w.heap.size w w' := by
  have k0 : (c : Int) % 16 = 13 := by omega
  have hb : Below w.heap.size w (w.alloc (.cells #[.int .u8 (7), .int .u8 (0), .int .u8 (1), .int .u8 ((c : Int)), .int .u8 (2), .int .u8 (9), .int .u8 (8), .int .u8 (0), .int .u8 (22)] 5)) := (Below.refl _ _).alloc (Nat.le_refl _) _
  have HB := hid hb
  clear hb
  go_enter Tryd.func44, Tryd.ntmps44
  go_wp2_with fail
  go_ret
  exact ⟨rfl, HB.out⟩
set_option maxRecDepth 100000 in
set_option maxHeartbeats 1000000 in
theorem piece_14f (c at_ : Nat) (w : World) (hc : c < 256) (hk : c % 16 = 14) :
    Calls Tryd.prog 44 #[.int .i64 c, .int .i64 at_, .bool false] w fun e w' => e = .returned (.string (strOfNums [7, 1 + (c : Int) / 16 % 2, 7, 3 - (1 + (c : Int) / 16 % 2), 18, 22])) ∧ Below w.heap.size w w' := by
  have k0 : (c : Int) % 16 = 14 := by omega
  have hb : Below w.heap.size w (w.alloc (.cells #[.int .u8 (7), .int .u8 (1 + (c : Int) / 16 % 2), .int .u8 (7), .int .u8 (3 - (1 + (c : Int) / 16 % 2)), .int .u8 (18), .int .u8 (22)] 5)) := (Below.refl _ _).alloc (Nat.le_refl _) _
  have HB := hid hb
  clear hb
  go_enter Tryd.func44, Tryd.ntmps44
  go_wp2_with fail
  go_ret
  exact ⟨rfl, HB.out⟩
set_option maxRecDepth 100000 in
set_option maxHeartbeats 1000000 in
theorem piece_15f (c at_ : Nat) (w : World) (hc : c < 256) (hk : c % 16 = 15) :
    Calls Tryd.prog 44 #[.int .i64 c, .int .i64 at_, .bool false] w fun e w' => e = .returned (.string (strOfNums [7, 1 + (c : Int) / 16 % 2, 7, 3 - (1 + (c : Int) / 16 % 2), 18, 22])) ∧ Below w.heap.size w w' := by
  have k0 : (c : Int) % 16 = 15 := by omega
  have hb : Below w.heap.size w (w.alloc (.cells #[.int .u8 (7), .int .u8 (1 + (c : Int) / 16 % 2), .int .u8 (7), .int .u8 (3 - (1 + (c : Int) / 16 % 2)), .int .u8 (18), .int .u8 (22)] 5)) := (Below.refl _ _).alloc (Nat.le_refl _) _
  have HB := hid hb
  clear hb
  go_enter Tryd.func44, Tryd.ntmps44
  go_wp2_with fail
  go_ret
  exact ⟨rfl, HB.out⟩
set_option maxRecDepth 100000 in
set_option maxHeartbeats 1000000 in
theorem piece_14t (c at_ : Nat) (w : World) (hc : c < 256) (hk : c % 16 = 14) :
    Calls Tryd.prog 44 #[.int .i64 c, .int .i64 at_, .bool true] w fun e w' => e = .returned (.string (strOfNums [7, 1 + (c : Int) / 16 % 2, 23, 8, 3])) ∧ Below w.heap.size w w' := by
  have k0 : (c : Int) % 16 = 14 := by omega
  have hb : Below w.heap.size w (w.alloc (.cells #[.int .u8 (7), .int .u8 (1 + (c : Int) / 16 % 2), .int .u8 (23), .int .u8 (8), .int .u8 (3)] 5)) := (Below.refl _ _).alloc (Nat.le_refl _) _
  have HB := hid hb
  clear hb
  go_enter Tryd.func44, Tryd.ntmps44
  go_wp2_with fail
  go_ret
  exact ⟨rfl, HB.out⟩
set_option maxRecDepth 100000 in
set_option maxHeartbeats 1000000 in
theorem piece_15t (c at_ : Nat) (w : World) (hc : c < 256) (ha : at_ ≤ 120) (hk : c % 16 = 15) :
    Calls Tryd.prog 44 #[.int .i64 c, .int .i64 at_, .bool true] w fun e w' => e = .returned (.string (strOfNums [7, 3, 12, 18, 20, (at_ : Int) + 6 + (strOfNums [7, 3, 24, 8, 1 + (c : Int) / 16 % 2]).size] ++ strOfNums [7, 3, 24, 8, 1 + (c : Int) / 16 % 2])) ∧ Below w.heap.size w w' := by
  have k0 : (c : Int) % 16 = 15 := by omega
  have hb : Below w.heap.size w (w.alloc (.cells #[.int .u8 (7), .int .u8 (3), .int .u8 (24), .int .u8 (8), .int .u8 (1 + (c : Int) / 16 % 2)] 5)) := (Below.refl _ _).alloc (Nat.le_refl _) _
  have HB := hid hb
  have hu := hid (unless_any (3) at_ (strOfNums [7, 3, 24, 8, 1 + (c : Int) / 16 % 2]) (w.alloc (.cells #[.int .u8 (7), .int .u8 (3), .int .u8 (24), .int .u8 (8), .int .u8 (1 + (c : Int) / 16 % 2)] 5)) ha (by rw [strOfNums_size]; simp))
  clear hb
  go_enter Tryd.func44, Tryd.ntmps44
  go_wp2_with fail
  refine hu.out.mono ?_
  clear hu
  intro e w1 hp
  obtain ⟨hx, hb1⟩ := hp
  subst e
  have HB2 := hid (HB.out.trans (hb1.mono HB.out.size))
  clear hb1
  go_wp2_with fail
  go_ret
  exact ⟨rfl, HB2.out⟩
end Go.Proofs.YtdmdpindonghdaaDoor
namespace Go.Proofs.YtdmdpindonghdaaDoor
open Go.RowKit
def strC (cs : List (Nat × Nat)) : ByteArray := ⟨(bytesC cs).toArray⟩
theorem strC_size (cs : List (Nat × Nat)) : (strC cs).size = csize cs := by
  rw [← bytesC_len]; rfl
theorem xN (c : Nat) : (1 + (c : Int) / 16 % 2).toNat = 1 + c / 16 % 2 := by omega
theorem yN (c : Nat) : (3 - (1 + (c : Int) / 16 % 2)).toNat = 3 - (1 + c / 16 % 2) := by omega
theorem fN (c : Nat) : ((c : Int) / 32 % 2).toNat = c / 32 % 2 := by omega
theorem strC_append (a b : List (Nat × Nat)) : strC (a ++ b) = strC a ++ strC b := by
  unfold strC
  rw [bytesC_append]
  apply ByteArray.ext
  simp
theorem unl_str (n at_ : Nat) (cs : List (Nat × Nat)) : strOfNums [7, (n : Int), 12, 18, 20, (at_ : Int) + 6 + ((strC cs).size : Nat)] ++ strC cs = strC (unlC n at_ cs) := by
  unfold unlC
  rw [strC_append, strC_size]
  congr 1
set_option maxRecDepth 100000 in
theorem piece_any (c at_ : Nat) (weak : Bool) (w : World) (hc : c < 256) (ha : at_ ≤ 120) :
    Calls Tryd.prog 44 #[.int .i64 c, .int .i64 at_, .bool weak] w fun e w' => e = .returned (.string (strC (pieceC c at_ weak))) ∧ Below w.heap.size w w' := by
  have fin : ∀ {s t : ByteArray}, s = t → (∀ (e : Ending) (w' : World), (e = .returned (.string s) ∧ Below w.heap.size w w') → (e = .returned (.string t) ∧ Below w.heap.size w w')) := fun h e w' q => by rw [← h]; exact q
  have hx := xN c
  have hy := yN c
  have hf := fN c
  have hX : (1 + (c : Int) / 16 % 2) = ((1 + c / 16 % 2 : Nat) : Int) := by omega
  rcases (by omega : c % 16 = 0 ∨ c % 16 = 1 ∨ c % 16 = 2 ∨ c % 16 = 3 ∨ c % 16 = 4 ∨ c % 16 = 5 ∨ c % 16 = 6 ∨ c % 16 = 7 ∨ c % 16 = 8 ∨ c % 16 = 9 ∨ c % 16 = 10 ∨ c % 16 = 11 ∨ c % 16 = 12 ∨ c % 16 = 13 ∨ c % 16 = 14 ∨ c % 16 = 15) with h | h | h | h | h | h | h | h | h | h | h | h | h | h | h | h
  · refine (piece_0 c at_ weak w hc h).mono (fin ?_)
    simp [strC, pieceC, bodyC, h, bytesC, encI, takesB, strOfNums, hx]
  · refine (piece_1 c at_ weak w hc h).mono (fin ?_)
    simp [strC, pieceC, bodyC, h, bytesC, encI, takesB, strOfNums, hx]
  · refine (piece_2 c at_ weak w hc h).mono (fin ?_)
    simp [strC, pieceC, bodyC, h, bytesC, encI, takesB, strOfNums, hx, hf]
  · refine (piece_3 c at_ weak w hc h).mono (fin ?_)
    simp [strC, pieceC, bodyC, h, bytesC, encI, takesB, strOfNums, hx, hf]
  · refine (piece_4 c at_ weak w hc h).mono (fin ?_)
    simp [strC, pieceC, bodyC, h, bytesC, encI, takesB, strOfNums, hx, hf]
  · refine (piece_5 c at_ weak w hc ha h).mono (fin ?_)
    have hb : strOfNums [7, 1 + (c : Int) / 16 % 2, 14, (c : Int) / 32 % 2, 8, 1 + (c : Int) / 16 % 2] = strC (bodyC c weak).2 := by simp [strC, bodyC, h, bytesC, encI, takesB, strOfNums, hx, hf]
    have h1 : (bodyC c weak).1 = 1 + c / 16 % 2 := by simp [bodyC, h]
    unfold pieceC
    rw [hb, hX, if_neg (by rw [h1]; omega), h1]
    exact unl_str _ _ _
  · refine (piece_6 c at_ weak w hc ha h).mono (fin ?_)
    have hb : strOfNums [7, 1 + (c : Int) / 16 % 2, 14, (c : Int) / 32 % 2, 8, 1 + (c : Int) / 16 % 2] = strC (bodyC c weak).2 := by simp [strC, bodyC, h, bytesC, encI, takesB, strOfNums, hx, hf]
    have h1 : (bodyC c weak).1 = 1 + c / 16 % 2 := by simp [bodyC, h]
    unfold pieceC
    rw [hb, hX, if_neg (by rw [h1]; omega), h1]
    exact unl_str _ _ _
  · refine (piece_7 c at_ weak w hc ha h).mono (fin ?_)
    have hb : strOfNums [7, 1 + (c : Int) / 16 % 2, 21, 17] = strC (bodyC c weak).2 := by simp [strC, bodyC, h, bytesC, encI, takesB, strOfNums, hx]
    have h1 : (bodyC c weak).1 = 1 + c / 16 % 2 := by simp [bodyC, h]
    unfold pieceC
    rw [hb, hX, if_neg (by rw [h1]; omega), h1]
    exact unl_str _ _ _
  · refine (piece_8 c at_ weak w hc ha h).mono (fin ?_)
    have hb : strOfNums [7, 1 + (c : Int) / 16 % 2, 16, 22] = strC (bodyC c weak).2 := by simp [strC, bodyC, h, bytesC, encI, takesB, strOfNums, hx]
    have h1 : (bodyC c weak).1 = 1 + c / 16 % 2 := by simp [bodyC, h]
    unfold pieceC
    rw [hb, hX, if_neg (by rw [h1]; omega), h1]
    exact unl_str _ _ _
  · refine (piece_9 c at_ weak w hc ha h).mono (fin ?_)
    have hb : strOfNums [7, 1 + (c : Int) / 16 % 2, 16, 22] = strC (bodyC c weak).2 := by simp [strC, bodyC, h, bytesC, encI, takesB, strOfNums, hx]
    have h1 : (bodyC c weak).1 = 1 + c / 16 % 2 := by simp [bodyC, h]
    unfold pieceC
    rw [hb, hX, if_neg (by rw [h1]; omega), h1]
    exact unl_str _ _ _
  · refine (piece_10 c at_ weak w hc ha h).mono (fin ?_)
    have hb : strOfNums [7, 1 + (c : Int) / 16 % 2, 7, 3 - (1 + (c : Int) / 16 % 2), 15, (c : Int) / 32 % 2] = strC (bodyC c weak).2 := by simp [strC, bodyC, h, bytesC, encI, takesB, strOfNums, hx, hy, hf]
    have h1 : (bodyC c weak).1 = 1 + c / 16 % 2 := by simp [bodyC, h]
    unfold pieceC
    rw [hb, hX, if_neg (by rw [h1]; omega), h1]
    exact unl_str _ _ _
  · refine (piece_11 c at_ weak w hc ha h).mono (fin ?_)
    have hb : strOfNums [7, 1 + (c : Int) / 16 % 2, 7, 3 - (1 + (c : Int) / 16 % 2), 15, (c : Int) / 32 % 2] = strC (bodyC c weak).2 := by simp [strC, bodyC, h, bytesC, encI, takesB, strOfNums, hx, hy, hf]
    have h1 : (bodyC c weak).1 = 1 + c / 16 % 2 := by simp [bodyC, h]
    unfold pieceC
    rw [hb, hX, if_neg (by rw [h1]; omega), h1]
    exact unl_str _ _ _
  · refine (piece_12 c at_ weak w hc h).mono (fin ?_)
    simp [strC, pieceC, bodyC, h, bytesC, encI, takesB, strOfNums, hx, hy]
  · refine (piece_13 c at_ weak w hc h).mono (fin ?_)
    simp [strC, pieceC, bodyC, h, bytesC, encI, takesB, strOfNums]
  · cases weak
    · refine (piece_14f c at_ w hc h).mono (fin ?_)
      simp [strC, pieceC, bodyC, h, bytesC, encI, takesB, strOfNums, hx, hy]
    · refine (piece_14t c at_ w hc h).mono (fin ?_)
      simp [strC, pieceC, bodyC, h, bytesC, encI, takesB, strOfNums, hx]
  · cases weak
    · refine (piece_15f c at_ w hc h).mono (fin ?_)
      simp [strC, pieceC, bodyC, h, bytesC, encI, takesB, strOfNums, hx, hy]
    · refine (piece_15t c at_ w hc ha h).mono (fin ?_)
      have hb : strOfNums [7, 3, 24, 8, 1 + (c : Int) / 16 % 2] = strC (bodyC c true).2 := by simp [strC, bodyC, h, bytesC, encI, takesB, strOfNums, hx]
      have h1 : (bodyC c true).1 = 3 := by simp [bodyC, h]
      unfold pieceC
      rw [hb, if_neg (by rw [h1]; omega), h1]
      exact unl_str _ _ _
attribute [local go_sem] conv2
theorem imgStr (cs : List (Nat × Nat)) : (⟨#[84, 4]⟩ : ByteArray) ++ strC cs ++ strOfNums [19, 9] = ⟨(imgC 4 (cs ++ [(19, 9)])).toArray⟩ := by
  apply ByteArray.ext
  simp [imgC, strC, bytesC, encI, takesB, strOfNums]
set_option maxRecDepth 100000 in
set_option maxHeartbeats 1000000 in
theorem built_any (raw : ByteArray) (weak : Bool) (w : World) (hr : raw.size ≤ maxLen) :
    Calls Tryd.prog 16 #[.string raw, .bool weak] w fun e w' => e = .returned (.string (builtS raw weak)) ∧ Below w.heap.size w w' := by
  have hmx : maxLen = 9223372036854775807 := rfl
  rw [hmx] at hr
  have HP := hid (fun (c at_ : Nat) (W : World) (h1 : c < 256) (h2 : at_ ≤ 120) => piece_any c at_ weak W h1 h2)
  clear hmx
  go_enter Tryd.func16, Tryd.ntmps16
  go_wp2_with fail
  go_loopg [6, 5] raw.size (fun gk x y w' => ∃ (j : Nat) (cs : List (Nat × Nat)), j ≤ raw.size ∧ gk = raw.size - j ∧ x = .int .i64 j ∧ y = .string (strC cs) ∧ bgo weak cs (raw.data.toList.drop j) = bgo weak proC raw.data.toList ∧ csize cs ≤ 112 ∧ Below w.heap.size w w')
  case atStart => exact ⟨0, proC, by omega, by omega, rfl, rfl, rfl, by decide, Below.refl _ _⟩
  case round =>
    obtain ⟨j, cs, hj, hgk, rfl, rfl, hbg, hcs, hB⟩ := hrel
    have HBG := hid hbg
    have HB := hid hB
    have hsz := strC_size cs
    clear hbg hB
    rcases Nat.lt_or_ge j raw.size with hlt | hge
    · have d0 : (0 : Int) ≤ (j : Int) := by omega
      have d1 : (j : Int) < (raw.size : Int) := by omega
      by_cases h100 : csize cs < 100
      · have e1 : ((strC cs).size : Int) < 100 := by omega
        have hbq := byteAt_eq raw j hlt
        have hb256 := byteAt_lt raw j
        obtain ⟨c, hc⟩ : ∃ c, c = byteAt raw j := ⟨_, rfl⟩
        rw [← hc] at hbq hb256
        have hp := hid (HP.out c (csize cs) wr hb256 (by omega))
        have HBG2 : Hid (bgo weak (cs ++ pieceC c (csize cs) weak) (raw.data.toList.drop (j + 1)) = bgo weak proC raw.data.toList) := hid (by
          rw [← HBG.out]
          have hl : j < raw.data.toList.length := by simpa using hlt
          rw [List.drop_eq_getElem_cons hl]
          simp only [bgo, if_pos h100]
          have : raw.data.toList[j].toNat = c := by
            rw [hc]; unfold byteAt; rw [List.getD_eq_getElem?_getD, List.getElem?_eq_getElem hl]; rfl
          rw [this])
        have hpz : csize (pieceC c (csize cs) weak) ≤ 12 := (piece_ok c hb256 (csize cs) (by omega) weak).size
        have HSZ : Hid ((strC (pieceC c (csize cs) weak)).size = csize (pieceC c (csize cs) weak)) := hid (strC_size _)
        have HAP : Hid (strC cs ++ strC (pieceC c (csize cs) weak) = strC (cs ++ pieceC c (csize cs) weak)) := hid (strC_append _ _).symm
        have HCS : Hid (csize (cs ++ pieceC c (csize cs) weak) ≤ 112) := hid (by rw [csize_append]; omega)
        have hs2 := HSZ.out
        clear HBG hc HSZ
        generalize pieceC c (csize cs) weak = pc at *
        have hle : (csize cs : Int) + (csize pc : Int) ≤ 118 := by omega
        have hcat : ¬ 9223372036854775807 < csize cs + csize pc := by omega
        go_wp2_with fail
        refine hp.out.mono ?_
        clear hp
        intro e w1 hq
        obtain ⟨hx, hb1⟩ := hq
        subst e
        have HB1 := hid (HB.out.trans (hb1.mono HB.out.size))
        clear hb1
        go_wp2_with fail
        go_roundg (raw.size - (j + 1))
        case measure => omega
        case rel => exact ⟨j + 1, cs ++ pc, by omega, rfl, by go_num, by rw [HAP.out], HBG2.out, HCS.out, HB1.out⟩
      · have e1 : ¬ ((strC cs).size : Int) < 100 := by omega
        have HBG2 : Hid (bgo weak proC raw.data.toList = cs) := hid (by
          rw [← HBG.out]
          have hl : j < raw.data.toList.length := by simpa using hlt
          rw [List.drop_eq_getElem_cons hl]
          simp only [bgo, if_neg h100])
        have HB1 := hid (HB.out.alloc (by have := HB.out.size; omega) (.cells #[.int .u8 19, .int .u8 9] 5))
        have hc1 : ¬ 9223372036854775807 < (⟨#[84, 4]⟩ : ByteArray).size + csize cs := by show ¬ 9223372036854775807 < 2 + csize cs; omega
        have hc2 : ¬ 9223372036854775807 < ((⟨#[84, 4]⟩ : ByteArray) ++ strC cs).size + (strOfNums [19, 9]).size := by
          rw [ByteArray.size_append, strC_size, strOfNums_size]
          show ¬ 9223372036854775807 < 2 + csize cs + 2
          omega
        go_wp2_with fail
        go_ret
        refine ⟨?_, HB1.out⟩
        have hfin : (⟨#[84, 4]⟩ : ByteArray) ++ strC cs ++ strOfNums [19, 9] = builtS raw weak := by
          unfold builtS builtC
          rw [HBG2.out]
          exact imgStr cs
        rw [← hfin]
        rfl
    · have d1 : ¬ (j : Int) < (raw.size : Int) := by omega
      have HBG2 : Hid (bgo weak proC raw.data.toList = cs) := hid (by
        rw [← HBG.out, List.drop_of_length_le (by simpa using hge)]
        rfl)
      have HB1 := hid (HB.out.alloc (by have := HB.out.size; omega) (.cells #[.int .u8 19, .int .u8 9] 5))
      have hc1 : ¬ 9223372036854775807 < (⟨#[84, 4]⟩ : ByteArray).size + csize cs := by show ¬ 9223372036854775807 < 2 + csize cs; omega
      have hc2 : ¬ 9223372036854775807 < ((⟨#[84, 4]⟩ : ByteArray) ++ strC cs).size + (strOfNums [19, 9]).size := by
        rw [ByteArray.size_append, strC_size, strOfNums_size]
        show ¬ 9223372036854775807 < 2 + csize cs + 2
        omega
      go_wp2_with fail
      go_ret
      refine ⟨?_, HB1.out⟩
      have hfin : (⟨#[84, 4]⟩ : ByteArray) ++ strC cs ++ strOfNums [19, 9] = builtS raw weak := by
        unfold builtS builtC
        rw [HBG2.out]
        exact imgStr cs
      rw [← hfin]
      rfl
end Go.Proofs.YtdmdpindonghdaaDoor
namespace Go.Proofs.YtdmdpindonghdaaDoor
open Go.RowKit
def CopyPost (zs : List Int) (w : World) (e : Ending) (w' : World) : Prop :=
  Below w.heap.size w w' ∧ ∃ v, e = .returned v ∧ w'.ownsRow w.heap.size 3 1 v zs.length (zs.map (.int .i64))
theorem ints_next {zs : List Int} {k : Nat} (h : k < zs.length) : (zs.take (k + 1)).map (Value.int .i64) = (zs.take k).map (Value.int .i64) ++ [Value.int .i64 zs[k]] := by
  rw [List.take_succ_eq_append_getElem h, List.map_append]
  rfl
set_option maxRecDepth 100000 in
set_option maxHeartbeats 1000000 in
theorem copied_any (zs : List Int) (v : Value) (w : World) (hv : ZsAt w v zs) (hl : zs.length ≤ 8796093022208) :
    Calls Tryd.prog 70 #[v] w (CopyPost zs w) := by
  obtain ⟨i0, hi0, hz0, hz1, hz2⟩ := info_parts intInfo
  obtain ⟨p0, c0, e0⟩ := hv.slice
  subst e0
  have HV := hid hv
  clear hv
  go_enter Tryd.func70, Tryd.ntmps70
  go_wp2_with fail
  go_loopg [3, 8] zs.length (fun g l x w' => ∃ k : Nat, k ≤ zs.length ∧ g = zs.length - k ∧ x = .int .i64 k ∧ w'.ownsRow w.heap.size 3 1 l k ((zs.take k).map (.int .i64)) ∧ Below w.heap.size w w')
  case atStart => exact ⟨0, by omega, by omega, rfl, World.ownsRow_nil _ _ _ _, Below.refl _ _⟩
  case round =>
    obtain ⟨k, hk, hg, rfl, hown, hbel⟩ := hrel
    have hz := hbel.size
    have HB := hid hbel
    clear hbel
    rcases Nat.lt_or_ge k zs.length with hlt | hge
    · have d1 : (k : Int) < (zs.length : Int) := by omega
      have d0 : (0 : Int) ≤ (k : Int) := by omega
      have d2 : (k : Int) + 1 ≤ 8796093022208 := by omega
      rcases HV.out with ⟨_, h0⟩ | ⟨a, ca, ea, hca⟩
      · rw [h0] at hlt; simp at hlt
      have x0 := hca k _ (List.getElem?_eq_getElem hlt)
      cases ea
      have hab := World.block_lt_of_cell? w _ x0
      rw [← HB.out.cell hab] at x0
      have HNX := hid (ints_next hlt)
      generalize zs[k] = x at *
      clear hca hab
      go_wp2_with (at_builtin; go_must (refine wpList_append_lies _ (by rfl) _ _ _ (by rfl) w.heap.size 3 i0 _ 1 8 Tryd.underlying33 hi0 hz0 hz1 hz2 rfl (by omega) _ k ((zs.take k).map (.int .i64)) (by rfl) (hown.alloc _) ⟨_, 0, none⟩ 1 1 [.int .i64 x] (by rfl) (by rfl) (World.news_of_block (cs := #[.int .i64 x]) (t := 3) (fr := (0, 0)) (heap_alloc_new _ _)) (by simp [Value.oneCell']) (by omega) (by unfold maxLen; omega) (by omega) (by simp; omega) _ rfl ?_); intro gg cap w3 hown3 hgrow hat hlt2)
      go_roundg (zs.length - (k + 1))
      case measure => omega
      case rel => exact ⟨k + 1, by omega, rfl, by go_num, by rw [HNX.out]; exact hown3, (HB.out.alloc (by omega) _).grown hgrow (by simp; omega) (fun k hk => (hown.lt k hk).1)⟩
    · have d1 : ¬ (k : Int) < (zs.length : Int) := by omega
      have hkl : k = zs.length := by omega
      go_wp2_with fail
      go_ret
      refine ⟨HB.out, _, rfl, ?_⟩
      rw [hkl, List.take_length] at hown
      exact hown
/-- What slots tells of a type and the numbers that are held. -/
def slotAt (held : List Int) (k t : Nat) : Nat × Int := (t, if t ≠ 2 ∧ k < held.length then held.getD k 0 else 0)
def slotsF (tl : List Nat) (held : List Int) : List (Nat × Int) := tl.mapIdx (fun k t => slotAt held k t)
theorem slotsF_next {tl : List Nat} {held : List Int} {k : Nat} (h : k < tl.length) : ((slotsF tl held).take (k + 1)).flatMap slCells = ((slotsF tl held).take k).flatMap slCells ++ slCells (slotAt held k tl[k]) := by
  have hk : k < (slotsF tl held).length := by simpa [slotsF] using h
  rw [List.take_succ_eq_append_getElem hk, List.flatMap_append]
  simp [slotsF]
def SlotsPost (q : List (Nat × Int)) (w : World) (e : Ending) (w' : World) : Prop :=
  Below w.heap.size w w' ∧ ∃ v, e = .returned v ∧ w'.ownsRow w.heap.size 148 2 v q.length (q.flatMap slCells)
set_option maxRecDepth 100000 in
set_option maxHeartbeats 1000000 in
theorem pslots_any (tl : List Nat) (held : List Int) (P : Nat → Prop) (v : Value) (b o cap : Nat) (w : World) (hv : IntsAt w P v tl) (hh : ∀ (j : Nat) (x : Int), held[j]? = some x → w.cell? ⟨b, o + j, none⟩ = some (.int .i64 x)) (hl : tl.length ≤ 1000) (hl2 : held.length ≤ 1000) :
    Calls Tryd.prog 56 #[v, .slice (some ⟨b, o, none⟩) held.length cap] w (SlotsPost (slotsF tl held) w) := by
  obtain ⟨i0, hi0, hz0, hz1, hz2⟩ := info_parts slotInfo
  obtain ⟨p0, c0, e0⟩ := hv.slice
  subst e0
  have HV := hid hv
  have HH := hid hh
  have hlen : (slotsF tl held).length = tl.length := by simp [slotsF]
  clear hv hh
  go_enter Tryd.func56, Tryd.ntmps56
  go_wp2_with fail
  go_loopg [5, 11] tl.length (fun g l x w' => ∃ k : Nat, k ≤ tl.length ∧ g = tl.length - k ∧ x = .int .i64 k ∧ w'.ownsRow w.heap.size 148 2 l k (((slotsF tl held).take k).flatMap slCells) ∧ Below w.heap.size w w')
  case atStart => exact ⟨0, by omega, by omega, rfl, World.ownsRow_nil _ _ _ _, Below.refl _ _⟩
  case round =>
    obtain ⟨k, hk, hg, rfl, hown, hbel⟩ := hrel
    have hz := hbel.size
    have HB := hid hbel
    clear hbel
    rcases Nat.lt_or_ge k tl.length with hlt | hge
    · have d1 : (k : Int) < (tl.length : Int) := by omega
      have d0 : (0 : Int) ≤ (k : Int) := by omega
      rcases HV.out with ⟨_, h0⟩ | ⟨g, ca, ea, _, hca⟩
      · rw [h0] at hlt; simp at hlt
      have x0 := hca k _ (List.getElem?_eq_getElem hlt)
      cases ea
      have hab := World.block_lt_of_cell? w _ x0
      rw [← HB.out.cell hab] at x0
      have HNX := hid (slotsF_next (held := held) hlt)
      generalize tl[k] = t at *
      unfold numV at x0
      clear hca hab
      by_cases ht : t = 2
      · subst ht
        have HE : Hid (slotAt held k 2 = (2, 0)) := hid (by simp [slotAt])
        go_wp2_with (at_builtin; go_must (refine wpList_append_lies _ (by rfl) _ _ _ (by rfl) w.heap.size 148 i0 _ 2 16 Tryd.underlying59 hi0 hz0 hz1 hz2 rfl (by omega) _ k (((slotsF tl held).take k).flatMap slCells) (by rfl) ((hown.alloc _).alloc _) ⟨wr.heap.size + 1, 0, none⟩ 1 1 [.int .i64 2, .int .i64 0] (by rfl) (by rfl) (World.news_of_block (cs := #[.int .i64 2, .int .i64 0]) (t := 148) (fr := (0, 0)) (heap_two_new wr _ _)) (by simp [Value.oneCell']) (by omega) (by unfold maxLen; omega) (by omega) (by simp; omega) _ rfl ?_); intro gg gcap w3 hown3 hgrow hat hlt2)
        go_roundg (tl.length - (k + 1))
        case measure => omega
        case rel => exact ⟨k + 1, by omega, rfl, by go_num, by rw [HNX.out, HE.out]; exact hown3, ((HB.out.alloc (by omega) _).alloc (by simp; omega) _).grown hgrow (by simp; omega) (fun k hk => (hown.lt k hk).1)⟩
      · have q2 : ((t : Int) != 2) = true := by simp; omega
        by_cases hkh : k < held.length
        · have d3 : (k : Int) < (held.length : Int) := by omega
          have y0 := HH.out k _ (List.getElem?_eq_getElem hkh)
          have hab2 := World.block_lt_of_cell? w _ y0
          rw [← HB.out.cell hab2] at y0
          have hab3 : b < wr.heap.size := World.block_lt_of_cell? wr _ y0
          have HE : Hid (slotAt held k t = (t, held[k])) := hid (by simp [slotAt, ht, hkh])
          generalize held[k] = x at *
          clear hab2
          go_wp2_with (at_builtin; go_must (refine wpList_append_lies _ (by rfl) _ _ _ (by rfl) w.heap.size 148 i0 _ 2 16 Tryd.underlying59 hi0 hz0 hz1 hz2 rfl (by omega) _ k (((slotsF tl held).take k).flatMap slCells) (by rfl) ((hown.alloc _).alloc _) ⟨wr.heap.size + 1, 0, none⟩ 1 1 [.int .i64 t, .int .i64 x] (by rfl) (by rfl) (World.news_of_block (cs := #[.int .i64 t, .int .i64 x]) (t := 148) (fr := (0, 0)) (heap_two_new wr _ _)) (by simp [Value.oneCell']) (by omega) (by unfold maxLen; omega) (by omega) (by simp; omega) _ rfl ?_); intro gg gcap w3 hown3 hgrow hat hlt2)
          go_roundg (tl.length - (k + 1))
          case measure => omega
          case rel => exact ⟨k + 1, by omega, rfl, by go_num, by rw [HNX.out, HE.out]; exact hown3, ((HB.out.alloc (by omega) _).alloc (by simp; omega) _).grown hgrow (by simp; omega) (fun k hk => (hown.lt k hk).1)⟩
        · have d3 : ¬ (k : Int) < (held.length : Int) := by omega
          have HE : Hid (slotAt held k t = (t, 0)) := hid (by simp [slotAt, hkh])
          go_wp2_with (at_builtin; go_must (refine wpList_append_lies _ (by rfl) _ _ _ (by rfl) w.heap.size 148 i0 _ 2 16 Tryd.underlying59 hi0 hz0 hz1 hz2 rfl (by omega) _ k (((slotsF tl held).take k).flatMap slCells) (by rfl) ((hown.alloc _).alloc _) ⟨wr.heap.size + 1, 0, none⟩ 1 1 [.int .i64 t, .int .i64 0] (by rfl) (by rfl) (World.news_of_block (cs := #[.int .i64 t, .int .i64 0]) (t := 148) (fr := (0, 0)) (heap_two_new wr _ _)) (by simp [Value.oneCell']) (by omega) (by unfold maxLen; omega) (by omega) (by simp; omega) _ rfl ?_); intro gg gcap w3 hown3 hgrow hat hlt2)
          go_roundg (tl.length - (k + 1))
          case measure => omega
          case rel => exact ⟨k + 1, by omega, rfl, by go_num, by rw [HNX.out, HE.out]; exact hown3, ((HB.out.alloc (by omega) _).alloc (by simp; omega) _).grown hgrow (by simp; omega) (fun k hk => (hown.lt k hk).1)⟩
    · have d1 : ¬ (k : Int) < (tl.length : Int) := by omega
      have hkl : k = tl.length := by omega
      go_wp2_with fail
      go_ret
      refine ⟨HB.out, _, rfl, ?_⟩
      rw [List.take_of_length_le (by omega)] at hown
      rw [hlen, ← hkl]
      exact hown
set_option maxRecDepth 100000 in
set_option maxHeartbeats 1000000 in
theorem pcells_any (b o : Nat) (cs : List Cl) (P : Nat → Prop) (v : Value) (w : World) (hv : w.cell? ⟨b, o, none⟩ = some v) (hls : LsAt w P v cs.length (cs.flatMap clCells)) (hl : cs.length ≤ 1000) :
    Calls Tryd.prog 79 #[.pointer (some ⟨b, o, none⟩)] w fun e w' => Below w.heap.size w w' ∧ ∃ v', e = .returned v' ∧ w'.ownsRow w.heap.size 77 5 v' cs.length (cs.flatMap clCells) := by
  obtain ⟨i0, hi0, hz0, hz1, hz2⟩ := info_parts cellInfo
  obtain ⟨p0, q0, e0⟩ := hls.slice
  subst e0
  have HLS := hid hls
  clear hls
  go_enter Tryd.func79, Tryd.ntmps79
  go_wp2_with fail
  go_loopg [3, 11] cs.length (fun g l x w' => ∃ k : Nat, k ≤ cs.length ∧ g = cs.length - k ∧ x = .int .i64 k ∧ w'.ownsRow w.heap.size 77 5 l k ((cs.take k).flatMap clCells) ∧ Below w.heap.size w w')
  case atStart => exact ⟨0, by omega, by omega, rfl, World.ownsRow_nil _ _ _ _, Below.refl _ _⟩
  case round =>
    obtain ⟨k, hk, hg, rfl, hown, hbel⟩ := hrel
    have hz := hbel.size
    have HB := hid hbel
    clear hbel
    rcases Nat.lt_or_ge k cs.length with hlt | hge
    · have d1 : (k : Int) < (cs.length : Int) := by omega
      have d0 : (0 : Int) ≤ (k : Int) := by omega
      obtain ⟨g, cap, eg, _, hc⟩ := HLS.out.some (by omega)
      cases eg
      have hgz : g < w.heap.size := World.block_lt_of_cell? w _ (hc 0 _ (by
        have := flat_at clCells 5 (fun _ => rfl) cs 0 0 (by omega) (by omega)
        simpa [clCells] using this))
      have hcell : ∀ j, j < 5 → ∀ u, (clCells cs[k])[j]? = some u → wr.cell? ⟨g, k * 5 + j, none⟩ = some u := fun j hj u hu => by
        rw [HB.out.cell (p := ⟨g, k * 5 + j, none⟩) hgz]
        exact hc _ _ ((flat_at clCells 5 (fun _ => rfl) cs k j hlt hj).trans hu)
      have c0 := hcell 0 (by omega) _ rfl
      have c1 := hcell 1 (by omega) _ rfl
      have c2 := hcell 2 (by omega) _ rfl
      have c3 := hcell 3 (by omega) _ rfl
      have c4 := hcell 4 (by omega) _ rfl
      rw [Nat.add_zero] at c0
      have HNX : Hid ((cs.take (k + 1)).flatMap clCells = (cs.take k).flatMap clCells ++ clCells cs[k]) := hid (by
        rw [List.take_succ_eq_append_getElem hlt, List.flatMap_append]
        simp)
      clear hc hcell
      generalize cs[k] = c at *
      obtain ⟨co, wk, a, b', n⟩ := c
      simp only at c0 c1 c2 c3 c4
      go_wp2_with (at_builtin; go_must (refine wpList_append_lies _ (by rfl) _ _ _ (by rfl) w.heap.size 77 i0 _ 5 40 Tryd.underlying70 hi0 hz0 hz1 hz2 rfl (by omega) _ k ((cs.take k).flatMap clCells) (by rfl) ((hown.alloc _).alloc _) ⟨wr.heap.size + 1, 0, none⟩ 1 1 [.int .i64 co, .bool wk, .int .i64 a, .int .i64 b', .int .i64 n] (by rfl) (by rfl) (World.news_of_block (cs := #[.int .i64 co, .bool wk, .int .i64 a, .int .i64 b', .int .i64 n]) (t := 77) (fr := (0, 0)) (heap_two_new wr _ _)) (by simp [Value.oneCell']) (by omega) (by unfold maxLen; omega) (by omega) (by simp; omega) _ rfl ?_); intro gg gcap w6 hown6 hgrow6 hat6 hlt6)
      go_roundg (cs.length - (k + 1))
      case measure => omega
      case rel =>
        refine ⟨k + 1, by omega, rfl, by go_num, ?_, ?_⟩
        · rw [HNX.out]
          exact hown6
        · exact ((HB.out.alloc (by omega) _).alloc (by simp; omega) _).grown hgrow6 (by simp; omega) (fun j hj => (hown.lt j hj).1)
    · have d1 : ¬ (k : Int) < (cs.length : Int) := by omega
      have hkl : k = cs.length := by omega
      go_wp2_with fail
      go_ret
      refine ⟨HB.out, _, rfl, ?_⟩
      rw [hkl, List.take_length] at hown
      exact hown
end Go.Proofs.YtdmdpindonghdaaDoor
namespace Go.Proofs.YtdmdpindonghdaaDoor
open Go.RowKit
/-- Where the program's machine lies: what no step changes. -/
structure PK where
  b : Nat
  g : Nat
  cap : Nat
  bf : Nat
  gC : Nat
  cC : Nat
  A : Nat
  B4 : Nat
  l : List Ins
  L : Nat
  fs : List Fr
  zs : List Int
def iv (x : Int) : Value := .int .i64 x
def PK.row (K : PK) (vI vO : Value) (lo4 st8 : List Int) (s : MS) : List Value :=
  [.int .i64 K.L, .slice (some ⟨K.g, 0, none⟩) K.l.length K.cap, .slice (some ⟨K.bf, 0, none⟩) K.l.length K.l.length, vI, vO, .int .i64 s.oc, .int .i64 s.va, .int .i64 s.at_] ++ (lo4.map (Value.int .i64) ++ (.int .i64 s.st.length :: (st8.map (Value.int .i64) ++ [.slice (some ⟨K.gC, 0, none⟩) s.hs.1.length K.cC, .int .i64 s.hs.2.1, .int .i64 s.hs.2.2])))
structure PM (w : World) (K : PK) (vI vO : Value) (lo4 st8 : List Int) (s : MS) : Prop where
  row : w.heap[K.b]? = some (.cells (K.row vI vO lo4 st8 s).toArray 113)
  l4 : lo4.length = 4
  l8 : st8.length = 8
  lol : s.lo.length = K.L
  lo : lo4.take K.L = s.lo.map (·.2)
  stl : s.st.length ≤ 8
  st : st8.take s.st.length = s.st.map (·.2)
  L4 : K.L ≤ 4
  b1 : K.A ≤ K.b
  b2 : K.b < K.B4
  g1 : K.A ≤ K.g
  g2 : K.g < K.B4
  f1 : K.A ≤ K.bf
  f2 : K.bf < K.B4
  c1 : K.A ≤ K.gC
  c2 : K.gC < K.B4
  z : K.B4 ≤ w.heap.size
  ne1 : K.b ≠ K.g
  ne2 : K.b ≠ K.bf
  ne3 : K.b ≠ K.gC
  ne4 : K.gC ≠ K.g
  ne5 : K.gC ≠ K.bf
  code : CiAt w K.g (aims K.l)
  frames : AllAt w K.bf K.fs
  fok : AllOk K.fs
  flen : K.fs.length = K.l.length
  llen : K.l.length ≤ 120
  cells : w.ownsRow K.A 77 5 (.slice (some ⟨K.gC, 0, none⟩) s.hs.1.length K.cC) s.hs.1.length ((s.hs.1.map toldC).flatMap clCells)
  inp : ZsAt w vI (K.zs.drop s.rd)
  inb : ∀ a n c, vI = .slice (some a) n c → K.A ≤ a.block ∧ a.block < K.B4 ∧ a.block ≠ K.b ∧ a.block ≠ K.gC ∧ n ≤ c ∧ ∃ g o, a = ⟨g, o, none⟩
  out : w.ownsRow K.B4 3 1 vO s.out.length (s.out.map (.int .i64))
/-- The blocks of the program's machine. -/
def PK.In (K : PK) (vO : Value) (k : Nat) : Prop := (K.A ≤ k ∧ k < K.B4) ∨ vO.ownBlock = some k
theorem ZsAt.same {w w' : World} {v : Value} {zs : List Int} (h : ZsAt w v zs) (hk : ∀ a n c, v = .slice (some a) n c → w'.heap[a.block]? = w.heap[a.block]?) : ZsAt w' v zs := by
  rcases h with h | ⟨a, cap, hv, hc⟩
  · exact .inl h
  · refine .inr ⟨a, cap, hv, fun j x hj => ?_⟩
    have hbl : (a.add j).block = a.block := by unfold Addr.add; split <;> rfl
    exact (World.cell?_of_block (a := a.add j) (by rw [hbl]; exact hk a _ _ hv)).trans (hc j x hj)
theorem PM.keep {w w' : World} {K : PK} {vI vO : Value} {lo4 st8 : List Int} {s : MS} (h : PM w K vI vO lo4 st8 s) (hz : w.heap.size ≤ w'.heap.size) (hk : ∀ k, k < w.heap.size → K.In vO k → w'.heap[k]? = w.heap[k]?) : PM w' K vI vO lo4 st8 s := by
  have z := h.z
  have hin : ∀ k, K.A ≤ k → k < K.B4 → w'.heap[k]? = w.heap[k]? := fun k h1 h2 => hk k (by omega) (.inl ⟨h1, h2⟩)
  exact { h with
    row := (hin _ h.b1 h.b2).trans h.row
    z := by omega
    code := h.code.same (hin _ h.g1 h.g2)
    frames := (hin _ h.f1 h.f2).trans h.frames
    cells := owns_keep h.cells (fun g hg => by
      simp only [Value.ownBlock, Option.some.injEq] at hg
      subst hg
      exact hin _ h.c1 h.c2)
    inp := h.inp.same (fun a n c e => hin _ (h.inb a n c e).1 (h.inb a n c e).2.1)
    out := owns_keep h.out (fun g hg => hk g (h.out.lt g hg).2 (.inr hg)) }
theorem PM.below {w w' : World} {K : PK} {vI vO : Value} {lo4 st8 : List Int} {s : MS} (h : PM w K vI vO lo4 st8 s) (hb : Below w.heap.size w w') : PM w' K vI vO lo4 st8 s := h.keep hb.size (fun k hk _ => hb.block k hk)
theorem fourZ {l : List Int} (h : l.length = 4) : ∃ a b c d, l = [a, b, c, d] := by
  match l, h with
  | [a, b, c, d], _ => exact ⟨a, b, c, d, rfl⟩
theorem eightZ {l : List Int} (h : l.length = 8) : ∃ a b c d e f g i, l = [a, b, c, d, e, f, g, i] := by
  match l, h with
  | [a, b, c, d, e, f, g, i], _ => exact ⟨a, b, c, d, e, f, g, i, rfl⟩
theorem PM.get {w : World} {K : PK} {vI vO : Value} {lo4 st8 : List Int} {s : MS} (h : PM w K vI vO lo4 st8 s) (j : Nat) : w.cell? ⟨K.b, j, none⟩ = (K.row vI vO lo4 st8 s)[j]? := by
  rw [cell_of_row w K.b j _ _ _ h.row, List.getElem?_toArray]
set_option maxRecDepth 100000 in
theorem pphase_any (b o : Nat) (ph : Int) (w : World) (h : w.cell? ⟨b, o + 1, none⟩ = some (.int .i64 ph)) : Calls Tryd.prog 53 #[.pointer (some ⟨b, o, none⟩)] w fun e w' => e = .returned (.int .i64 ph) ∧ w' = w := by
  go_enter Tryd.func53, Tryd.ntmps53
  go_wp2_with fail
  go_ret
  exact ⟨rfl, rfl⟩
set_option maxRecDepth 100000 in
theorem phand_any (b o : Nat) (ph : Int) (w : World) (h : w.cell? ⟨b, o + 2, none⟩ = some (.int .i64 ph)) : Calls Tryd.prog 54 #[.pointer (some ⟨b, o, none⟩)] w fun e w' => e = .returned (.int .i64 ph) ∧ w' = w := by
  go_enter Tryd.func54, Tryd.ntmps54
  go_wp2_with fail
  go_ret
  exact ⟨rfl, rfl⟩
def HeapPost (cs : List Cl) (w : World) (e : Ending) (w' : World) : Prop :=
  Below w.heap.size w w' ∧ ∃ v', e = .returned v' ∧ w'.ownsRow w.heap.size 77 5 v' cs.length (cs.flatMap clCells)
set_option maxRecDepth 100000 in
theorem pheap_any {w : World} {K : PK} {vI vO : Value} {lo4 st8 : List Int} {s : MS} (h : PM w K vI vO lo4 st8 s) (hn : s.hs.1.length ≤ 100) :
    Calls Tryd.prog 58 #[.pointer (some ⟨K.b, 0, none⟩)] w (HeapPost (s.hs.1.map toldC) w) := by
  have m21 := h.get 21
  obtain ⟨a0, a1, a2, a3, rfl⟩ := fourZ h.l4
  obtain ⟨t0, t1, t2, t3, t4, t5, t6, t7, rfl⟩ := eightZ h.l8
  simp only [PK.row, List.map_cons, List.map_nil, List.cons_append, List.nil_append, List.getElem?_cons_zero, List.getElem?_cons_succ] at m21
  have hls := LsAt.of_owns h.cells
  have hc := hid (pcells_any K.b 21 (s.hs.1.map toldC) _ _ w m21 (by simpa using hls) (by simp; omega))
  clear h hls
  go_enter Tryd.func58, Tryd.ntmps58
  go_wp2_with fail
  refine hc.out.mono ?_
  clear hc
  intro x w5 hh
  have HP := hid hh
  obtain ⟨_, v', hx, _⟩ := hh
  subst x
  go_wp2_with fail
  go_ret
  exact HP.out
theorem zs_of_owns {w : World} {base : Nat} {v : Value} {zs : List Int} (h : w.ownsRow base 3 1 v zs.length (zs.map (.int .i64))) : ZsAt w v zs := by
  have hh := h
  rcases h.2 with ⟨h1, h2⟩ | ⟨g, cap, cur, hv, hg, r⟩
  · exact .inl ⟨h1, List.length_eq_zero_iff.1 h2⟩
  · subst hv
    refine .inr ⟨⟨g, 0, none⟩, cap, rfl, fun j x hj => hh.cells (g := g) rfl j _ ?_⟩
    rw [List.getElem?_map, hj]
    rfl
set_option maxRecDepth 100000 in
theorem poutput_any {w : World} {K : PK} {vI vO : Value} {lo4 st8 : List Int} {s : MS} (h : PM w K vI vO lo4 st8 s) (hn : s.out.length ≤ 8796093022208) :
    Calls Tryd.prog 49 #[.pointer (some ⟨K.b, 0, none⟩)] w (CopyPost s.out w) := by
  have m4 := h.get 4
  simp only [PK.row, List.cons_append, List.nil_append, List.getElem?_cons_zero, List.getElem?_cons_succ] at m4
  have hc := hid (copied_any s.out vO w (zs_of_owns h.out) hn)
  clear h
  go_enter Tryd.func49, Tryd.ntmps49
  go_wp2_with fail
  refine hc.out.mono ?_
  clear hc
  intro x w5 hh
  have HP := hid hh
  obtain ⟨_, v', hx, _⟩ := hh
  subst x
  go_wp2_with fail
  go_ret
  exact HP.out
end Go.Proofs.YtdmdpindonghdaaDoor
