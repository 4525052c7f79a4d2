/- What the proof of news_card_holds stands on, part 5: PhA, HpK, MchA, MchB, MchC, MchD, MchF, TypH, MsB, MsC, MsD, MsE, PmD, PhB, PhD, PhE, PhF, PhG, PhH, PmG, PmH, MchG, MchH, MchM, MchN, TypI, MacE, RmA, LawC. -/
import Derived.Test.YtdmdpindonghdaaGreatDoorRows
import Derived.Test.YtdmdpindonghdaaGreatDoorOwn4
import Derived.WalkKit
import Derived.WalkSmall
import Derived.Deep.AppendLies
import Derived.Deep.DeepMust
import Derived.Deep.LoopGhost
import Derived.WalkSpells
import Derived.WalkLawsBesides
import Derived.BigRegion
import Derived.Deep.QuietTactic
import Derived.BigQuiet
import Derived.Deep.RegionHeld3
import Derived.OwnWalk
import Derived.Laws.StructEq
import Derived.Deep.RegionLaw
import Derived.Deep.DeepCutAuto
import Derived.Laws.MakeOwn
import Derived.Laws.IdiomCopy
namespace Go.Proofs.YtdmdpindonghdaaGreatDoor
open Go.RowKit
def blankL : Cl := ⟨0, false, -1, -1, 0⟩
/-- What holds of each cell, besides; no cell is grey in the phase Sweep. -/
structure CellOk (c : RC) : Prop where
  free : c.used = false → c.weak = false
  lowA : -1 ≤ c.a
  lowB : -1 ≤ c.b
  weak : c.weak = true → c.b = -1 ∧ c.num = 0
structure HpX (cs : List RC) (ph : Nat) : Prop where
  cell : ∀ c ∈ cs, CellOk c
  nogrey : ph = 2 → ∀ c ∈ cs, colR c ≠ 2
theorem CellOk.mark {c : RC} (h : CellOk c) : CellOk (markC c) := ⟨h.free, h.lowA, h.lowB, h.weak⟩
theorem CellOk.look {c : RC} (h : CellOk c) : CellOk (lookC c) := ⟨h.free, h.lowA, h.lowB, h.weak⟩
theorem CellOk.wipe {c : RC} (h : CellOk c) : CellOk (wipeC c) := ⟨h.free, h.lowA, h.lowB, h.weak⟩
theorem CellOk.blank : CellOk ⟨false, false, false, false, -1, -1, 0⟩ := ⟨fun _ => rfl, by simp, by simp, fun h => by (cases h)⟩
theorem CellOk.fg {cs : List RC} {c : RC} (h : CellOk c) : CellOk (fgC cs c) := by
  unfold fgC
  split
  · exact ⟨h.free, by simp, h.lowB, h.weak⟩
  · exact h
theorem firstP_none {p : RC → Bool} : ∀ (cs : List RC) (k : Nat), firstP p cs k < 0 → ∀ c ∈ cs, p c = false
  | [], _, _, c, hc => by simp at hc
  | a :: r, k, h, c, hc => by
    simp only [firstP] at h
    by_cases hp : p a = true
    · rw [if_pos hp] at h; omega
    · rw [if_neg hp] at h
      rcases List.mem_cons.1 hc with rfl | hc
      · simpa using hp
      · exact firstP_none r (k + 1) h c hc
theorem unitC_cell {cs : List RC} (ph hd : Nat) (rs : List Int) (h : ∀ c ∈ cs, CellOk c) : ∀ c ∈ (unitC cs ph hd rs).1, CellOk c := by
  have hr : ∀ (l : List RC) (rs : List Int), (∀ c ∈ l, CellOk c) → ∀ c ∈ reachC l rs, CellOk c := fun l rs hl => reachC_a (P := CellOk) (fun _ h => h.mark) rs l hl
  unfold unitC
  split
  · exact hr _ _ h
  split
  · have hs : ∀ c ∈ sweepC cs hd, CellOk c := by
      unfold sweepC
      split
      · intro c hc
        rcases List.mem_or_eq_of_mem_set hc with h1 | h1
        · exact h c h1
        · rw [h1]; exact .blank
      · exact modify_mem (P := CellOk) (f := wipeC) (fun _ h => h.wipe) h
    split <;> exact hs
  split
  · show ∀ c ∈ markStep cs _, _
    unfold markStep
    have hm : ∀ g, ∀ c ∈ cs.modify g lookC, CellOk c := fun g => modify_mem (P := CellOk) (f := lookC) (fun _ h => h.look) h
    split
    · exact hm _
    · exact hr _ _ (hm _)
  split
  · show ∀ c ∈ forgetC _, _
    intro c hc
    unfold forgetC at hc
    obtain ⟨d, hd', rfl⟩ := List.mem_map.1 hc
    exact (hr _ _ h d hd').fg
  · exact hr _ _ h
theorem wipe_col (c : RC) : colR (wipeC c) ≠ 2 := by
  obtain ⟨u, r, k, wk, a, b, n⟩ := c
  cases u <;> simp [wipeC, colR]
theorem HpX.unit {cs : List RC} {ph hd : Nat} (hx : HpX cs ph) (rs : List Int) : HpX (unitC cs ph hd rs).1 (unitC cs ph hd rs).2.1 := by
  refine ⟨unitC_cell ph hd rs hx.cell, ?_⟩
  intro e
  unfold unitC at e ⊢
  by_cases h0 : ph = 0
  · rw [if_pos h0] at e; simp at e
  rw [if_neg h0] at e ⊢
  by_cases h2 : ph = 2
  · rw [if_pos h2] at e ⊢
    have hn := hx.nogrey h2
    have hs : ∀ c ∈ sweepC cs hd, colR c ≠ 2 := by
      unfold sweepC
      split
      · intro c hc
        rcases List.mem_or_eq_of_mem_set hc with h1 | h1
        · exact hn c h1
        · rw [h1]; simp [colR]
      · intro c hc
        by_cases hl : hd < cs.length
        · rw [modify_set hl] at hc
          rcases List.mem_or_eq_of_mem_set hc with h1 | h1
          · exact hn c h1
          · rw [h1]; exact wipe_col _
        · rw [List.modify_eq_self (by omega)] at hc
          exact hn c hc
    split <;> exact hs
  rw [if_neg h2] at e ⊢
  by_cases hg : 0 ≤ greyC cs
  · rw [if_pos hg] at e; simp at e; omega
  rw [if_neg hg] at e ⊢
  by_cases hg2 : greyC (reachC cs rs) < 0
  · rw [if_pos hg2]
    intro c hc
    obtain ⟨d, hd', rfl⟩ := List.mem_map.1 (show c ∈ (reachC cs rs).map (fgC (reachC cs rs)) from hc)
    rw [fgC_col]
    have := firstP_none (p := fun c => colR c == 2) _ 0 hg2 d hd'
    simpa using this
  · rw [if_neg hg2] at e; simp at e; omega
end Go.Proofs.YtdmdpindonghdaaGreatDoor
namespace Go.Proofs.YtdmdpindonghdaaGreatDoor
open Go.RowKit
theorem RefsAt.two {w w' : World} {b gC : Nat} {v : Value} {rs : List Int} (h : RefsAt w gC v rs) (hb : ∀ a n c, v = .slice (some a) n c → a.block ≠ b) (ht : Two b gC w w') : RefsAt w' gC v rs := by
  rcases h with h | ⟨a, ca, e1, e2, e3, e4⟩
  · exact .inl h
  · refine .inr ⟨a, ca, e1, e2, Nat.lt_of_lt_of_le e3 ht.size, fun j x hj => ?_⟩
    have hbl : (a.add j).block = a.block := by unfold Addr.add; split <;> rfl
    exact (World.cell?_of_block (a := a.add j) (ht.block _ (by rw [hbl]; exact e3) (by rw [hbl]; exact hb a _ _ e1) (by rw [hbl]; exact e2))).trans (e4 j x hj)
/-- Where round k stands: the heap s at the beginning of round k, none free in the rounds ahead of it. -/
def Rnd (rs : List Int) (s0 s : HSt) (k : Nat) : Prop := (k = 0 ∧ s = s0) ∨ (k = 1 ∧ s = idleC rs s0 ∧ lowC s0 < 0) ∨ (k = 2 ∧ s = idleC rs (stepC rs (idleC rs s0)) ∧ lowC s0 < 0 ∧ lowC (idleC rs s0) < 0)
theorem Rnd.take {rs : List Int} {s0 s : HSt} {k : Nat} (h : Rnd rs s0 s k) (hl : 0 ≤ lowC s) : takeC rs s0 = beginC s := by
  unfold takeC
  rcases h with ⟨_, rfl⟩ | ⟨_, rfl, h1⟩ | ⟨_, rfl, h1, h2⟩
  · rw [if_pos hl]
  · rw [if_neg (by omega), if_pos hl]
  · rw [if_neg (by omega), if_neg (by omega), if_pos hl]
end Go.Proofs.YtdmdpindonghdaaGreatDoor
namespace Go.Proofs.YtdmdpindonghdaaGreatDoor
open Go.RowKit
/-- What an instruction makes of two words. -/
def sumC (op x y : Int) : Int :=
  if op = 2 then wrap64 (x + y) else if op = 3 then wrap64 (x - y) else if op = 4 then wrap64 (x * y) else if op = 5 then wrap64 (x.tdiv y)
  else if (if op = 6 then decide (x < y) else decide (x = y)) then 1 else 0
end Go.Proofs.YtdmdpindonghdaaGreatDoor
namespace Go.Proofs.YtdmdpindonghdaaGreatDoor
open Go.RowKit
/-- How the machine stands if the cell r must be a weak one, or a plain one. -/
def wantsC (cs : List RC) (r : Int) (weak : Bool) : Int :=
  if r < 0 then 2 else if (cs[r.toNat]?.map (·.weak)) = some weak then 0 else 4
end Go.Proofs.YtdmdpindonghdaaGreatDoor
namespace Go.Proofs.YtdmdpindonghdaaGreatDoor
open Go.RowKit
/-- A list of words in field o of block b, owned from base on. -/
structure WdsAt (w : World) (b o base : Nat) (v : Value) (ws : List (Bool × Int)) : Prop where
  cell : w.cell? ⟨b, o, none⟩ = some v
  thaw : w.frozen? ⟨b, o, none⟩ = false
  row : w.ownsRow base 116 2 v ws.length (ws.flatMap wdCells)
  far : some b ≠ v.ownBlock
/-- Block b turned in one cell, and the row of v may have turned, or was left for a new one: nothing else below. -/
structure Grew (b o : Nat) (v v' : Value) (w w' : World) : Prop where
  os : w'.os = w.os
  tape : w'.tape = w.tape
  output : w'.output = w.output
  size : w.heap.size ≤ w'.heap.size
  block : ∀ k, k < w.heap.size → k ≠ b → some k ≠ v.ownBlock → w'.heap[k]? = w.heap[k]?
  own : ∀ g, v'.ownBlock = some g → v.ownBlock = some g ∨ w.heap.size ≤ g
  home : ∀ r t, w.heap[b]? = some (.cells r t) → w'.heap[b]? = some (.cells (r.setIfInBounds o v') t)
def PushPost (b base : Nat) (v : Value) (ws : List (Bool × Int)) (w : World) (e : Ending) (w' : World) : Prop :=
  e = .returned (.tuple #[]) ∧ ∃ v', WdsAt w' b 9 base v' ws ∧ Grew b 9 v v' w w'
end Go.Proofs.YtdmdpindonghdaaGreatDoor
namespace Go.Proofs.YtdmdpindonghdaaGreatDoor
open Go.RowKit
/-- The references among the words that are told. -/
def rootsC (Q : List (Nat × Int)) : List Int := (Q.filter (fun x => x.1 == 1)).map (·.2)
end Go.Proofs.YtdmdpindonghdaaGreatDoor
namespace Go.Proofs.YtdmdpindonghdaaGreatDoor
open Go.RowKit
theorem run_fieldW (a b : Value) (w : World) : Sem.run Tryz.prog (Instr.field 116 (.agg #[a, b]) 1) w = .ok b w := by
  simp [Instr.field, asAgg, go_sem]
attribute [local go_sem] run_fieldW
/-- The word k below the top. -/
def lastW (st : List (Bool × Int)) (k : Nat) : Bool × Int := (st[st.length - 1 - k]?).getD (false, 0)
theorem lastW_at {st : List (Bool × Int)} {k : Nat} (h : k < st.length) : st[st.length - 1 - k]? = some (lastW st k) := by
  unfold lastW
  rw [List.getElem?_eq_getElem (by omega)]
  rfl
def endsC (cs : List RC) (st : List (Bool × Int)) (op : Int) : Int :=
  if op = 0 then 1 else if op = 5 then (if (lastW st 0).2 = 0 then 3 else 0) else if op = 14 ∨ op = 16 then wantsC cs (lastW st 0).2 false else if op = 24 then wantsC cs (lastW st 0).2 true
  else if op = 15 ∨ op = 17 then wantsC cs (lastW st 1).2 false else 0
end Go.Proofs.YtdmdpindonghdaaGreatDoor
namespace Go.Proofs.YtdmdpindonghdaaGreatDoor
open Go.RowKit
theorem lk_le (b : ByteArray) (j : Nat) : lk b j ≤ 1 := by unfold lk kindN; split <;> omega
theorem codes_lk {b : ByteArray} {j : Nat} (h : j < b.size) : (codes b).getD j 0 = lk b j := codes_get h
theorem zip_getL {a b : List Nat} {L j : Nat} (ha : a.length = L) (hb : b.length = L) (hj : j < L) : (List.zipWith joinN a b).getD j 0 = joinN (a.getD j 0) (b.getD j 0) := by
  have h1 : j < a.length := by omega
  have h2 : j < b.length := by omega
  simp [List.getD_eq_getElem?_getD, List.getElem?_zipWith, List.getElem?_eq_getElem h1, List.getElem?_eq_getElem h2]
theorem list_ext {a b : List Nat} {L : Nat} (ha : a.length = L) (hb : b.length = L) (h : ∀ j, j < L → a.getD j 0 = b.getD j 0) : a = b := by
  apply List.ext_getElem (by omega)
  intro j h1 h2
  have := h j (by omega)
  simpa [List.getD_eq_getElem?_getD, List.getElem?_eq_getElem h1, List.getElem?_eq_getElem h2] using this
structure TS (k L : Nat) (all : List Pt) (a : Ac) : Prop where
  no : a.r = false → ∀ p ∈ all, p.at_ ≠ k
  len : a.r = true → a.lo.length = L
  st : a.r = true → ∃ p ∈ all, p.at_ = k ∧ a.st = codes p.st
  wit : a.r = true → ∀ j, j < L → (∃ p ∈ all, p.at_ = k ∧ a.lo.getD j 0 = lk p.lo j) ∨ (a.lo.getD j 0 = 2 ∧ ∃ p ∈ all, ∃ q ∈ all, p.at_ = k ∧ q.at_ = k ∧ lk p.lo j ≠ lk q.lo j)
  cov : a.r = true → ∀ j, j < L → ∀ p ∈ all, p.at_ = k → a.lo.getD j 0 = lk p.lo j ∨ a.lo.getD j 0 = 2
theorem TS.step {k L : Nat} {all : List Pt} {a : Ac} (h : TS k L all a) {p : Pt} (hp : p.lo.size = L) : TS k L (all ++ [p]) (toldS k a p) := by
  unfold toldS
  by_cases e : p.at_ = k
  · rw [if_pos e]
    have hcl : (codes p.lo).length = L := by rw [codes_len, hp]
    unfold baseA
    cases hr : a.r
    · rw [if_neg (by simp)]
      have hno := h.no hr
      have hg : ∀ j, j < L → (List.zipWith joinN (codes p.lo) (codes p.lo)).getD j 0 = lk p.lo j := fun j hj => by
        rw [zip_getL hcl hcl hj, joinN_eq rfl, codes_lk (by omega)]
      refine ⟨fun h => by (cases h), fun _ => by simp [hcl], fun _ => ⟨p, by simp, e, rfl⟩, fun _ j hj => .inl ⟨p, by simp, e, hg j hj⟩, fun _ j hj q hq hqk => ?_⟩
      rw [List.mem_append, List.mem_singleton] at hq
      rcases hq with hq | rfl
      · exact absurd hqk (hno q hq)
      · exact .inl (hg j hj)
    · rw [if_pos rfl]
      have hal := h.len hr
      have hg : ∀ j, j < L → (List.zipWith joinN a.lo (codes p.lo)).getD j 0 = joinN (a.lo.getD j 0) (lk p.lo j) := fun j hj => by
        rw [zip_getL hal hcl hj, codes_lk (by omega)]
      refine ⟨fun h => by (cases h), fun _ => by simp [hcl, hal], fun _ => ?_, fun _ j hj => ?_, fun _ j hj q hq hqk => ?_⟩
      · obtain ⟨q, hq, h1, h2⟩ := h.st hr
        exact ⟨q, by simp [hq], h1, h2⟩
      · simp only
        rw [hg j hj]
        by_cases ej : a.lo.getD j 0 = lk p.lo j
        · rw [joinN_eq ej]
          exact .inl ⟨p, by simp, e, ej⟩
        · rw [joinN_ne ej]
          refine .inr ⟨rfl, ?_⟩
          rcases h.wit hr j hj with ⟨q, hq, h1, h2⟩ | ⟨_, q, hq, q', hq', h1, h2, h3⟩
          · exact ⟨q, by simp [hq], p, by simp, h1, e, by rw [← h2]; exact ej⟩
          · exact ⟨q, by simp [hq], q', by simp [hq'], h1, h2, h3⟩
      · simp only
        rw [hg j hj]
        rw [List.mem_append, List.mem_singleton] at hq
        by_cases ej : a.lo.getD j 0 = lk p.lo j
        · rw [joinN_eq ej]
          rcases hq with hq | rfl
          · exact h.cov hr j hj q hq hqk
          · exact .inl ej
        · rw [joinN_ne ej]; exact .inr rfl
  · rw [if_neg e]
    refine ⟨fun hr q hq => ?_, h.len, fun hr => ?_, fun hr j hj => ?_, fun hr j hj q hq hqk => ?_⟩
    · rw [List.mem_append, List.mem_singleton] at hq
      rcases hq with hq | rfl
      · exact h.no hr q hq
      · exact e
    · obtain ⟨q, hq, h1, h2⟩ := h.st hr
      exact ⟨q, by simp [hq], h1, h2⟩
    · rcases h.wit hr j hj with ⟨q, hq, h1, h2⟩ | ⟨h0, q, hq, q', hq', h1, h2, h3⟩
      · exact .inl ⟨q, by simp [hq], h1, h2⟩
      · exact .inr ⟨h0, q, by simp [hq], q', by simp [hq'], h1, h2, h3⟩
    · rw [List.mem_append, List.mem_singleton] at hq
      rcases hq with hq | rfl
      · exact h.cov hr j hj q hq hqk
      · exact absurd hqk e
theorem ts_all {k L : Nat} (all : List Pt) (h : ∀ p ∈ all, p.lo.size = L) : TS k L all (toldF k all) := by
  suffices hs : ∀ (rest pre : List Pt) (a : Ac), (∀ p ∈ rest, p.lo.size = L) → TS k L pre a → TS k L (pre ++ rest) (rest.foldl (toldS k) a) from by
    have := hs all [] ⟨false, [], []⟩ h ⟨fun _ p hp => by simp at hp, fun h => by (cases h), fun h => by (cases h), fun h => by (cases h), fun h => by (cases h)⟩
    rw [List.nil_append] at this
    exact this
  intro rest
  induction rest with
  | nil => intro pre a _ h; simpa using h
  | cons p r ih =>
    intro pre a hp h
    have := ih (pre ++ [p]) (toldS k a p) (fun q hq => hp q (by simp [hq])) (h.step (hp p (by simp)))
    simpa using this
theorem stk_codes {f : Fr} {st : ByteArray} (h : Stk f (tl st)) : f.stk.take f.depth = codes st := by
  rw [h.stk, h.depth, List.take_append_of_le_length (by simp), List.take_of_length_le (by simp)]
  rfl
theorem told_same {l : List Ins} {L : Nat} (hw : Wf l L) {fs : List Fr} (hinv : SetInv l L fs) (hst : Still l fs) (hwt : WT l L) {all : List Pt} (hall : ∀ p, Reach l L p ↔ p ∈ all) {k : Nat} {i : Ins} {f : Fr} (hi : l[k]? = some i) (hf : fs[k]? = some f) (pl : Nat) :
    ptF pl f L = ⟨pl, (toldF k all).r, (toldF k all).lo, (toldF k all).st⟩ := by
  have hts : TS k L all (toldF k all) := ts_all all (fun p hp => (reach_ok hw ((hall p).2 hp)).lo)
  have hnone := toldF_none k all
  have hfo := hinv.ok f (List.mem_of_getElem? hf)
  have hL := hw.loc
  have hcov : ∀ lo st, At l L k lo st → Cov f lo st := fun lo st h => by
    obtain ⟨f', h1, h2⟩ := still_all hw hinv.ok hst hinv.cov h
    have : some f' = some f := h1.symm.trans hf
    cases this
    exact h2
  have hin : ∀ p ∈ all, p.at_ = k → At l L k p.lo p.st := fun p hp e => by
    have := (hall p).2 hp
    obtain ⟨a, b, c⟩ := p
    simp only at e
    subst e
    exact this
  have hout : ∀ lo st, At l L k lo st → (⟨k, lo, st⟩ : Pt) ∈ all := fun lo st h => (hall _).1 h
  generalize toldF k all = A at *
  unfold ptF
  cases hr : f.reached
  · rw [if_neg (by simp)]
    have har : A.r = false := by
      cases e : A.r
      · rfl
      · obtain ⟨p, hp, h1, _⟩ := hts.st e
        have := (hcov _ _ (hin p hp h1)).reached
        rw [hr] at this; cases this
    obtain ⟨e1, e2⟩ := hnone har
    rw [har, e1, e2]
  · rw [if_pos rfl]
    have hwit := hinv.sound hwt k f hf hr
    obtain ⟨lo0, st0, h0, hs0⟩ := hwit.one
    have har : A.r = true := by
      cases e : A.r
      · exact absurd rfl (hts.no e _ (hout _ _ h0))
      · rfl
    have est : f.stk.take f.depth = A.st := by
      obtain ⟨p, hp, h1, h2⟩ := hts.st har
      rw [h2, stk_codes hs0]
      have := (calm_st (p := ⟨k, lo0, st0⟩) (q := ⟨k, p.lo, p.st⟩) (hwt.2 _ _ i h0 (hin p hp h1) rfl hi) rfl).1
      simp only at this
      rw [this]
    have elo : f.lo.take L = A.lo := by
      refine list_ext (L := L) (by rw [List.length_take, hfo.lo]; omega) (hts.len har) (fun j hj => ?_)
      have e0 : (f.lo.take L).getD j 0 = f.lo.getD j 0 := by simp [List.getD_eq_getElem?_getD, hj]
      rw [e0]
      rcases hwit.lo j (by omega) with ⟨lo1, st1, h1, e1⟩ | ⟨e1, lo1, st1, lo2, st2, h1, h2, e2⟩
      · rcases hts.cov har j hj _ (hout _ _ h1) rfl with h | h
        · rw [e1]; exact h.symm
        · exfalso
          have l1 := lk_le lo1 j
          rcases hts.wit har j hj with ⟨p, _, _, h3⟩ | ⟨_, p, hp, q, hq, hpk, hqk, h3⟩
          · have := lk_le p.lo j; omega
          · apply h3
            have cp := (hcov _ _ (hin p hp hpk)).lo j (by omega)
            have cq := (hcov _ _ (hin q hq hqk)).lo j (by omega)
            rcases cp with cp | cp
            · rcases cq with cq | cq
              · rw [← cp, ← cq]
              · omega
            · omega
      · rw [e1]
        rcases hts.cov har j hj _ (hout _ _ h1) rfl with h | h
        · rcases hts.cov har j hj _ (hout _ _ h2) rfl with h' | h'
          · exact absurd (h.symm.trans h') e2
          · exact h'.symm
        · exact h.symm
    rw [har, est, elo]
theorem maps_same {l : List Ins} {L : Nat} (hw : Wf l L) {fs : List Fr} (hinv : SetInv l L fs) (hst : Still l fs) (hwt : WT l L) {all : List Pt} (hall : ∀ p, Reach l L p ↔ p ∈ all) : mapsF l fs L = toldAll l all := by
  have hlen := hinv.len
  apply List.ext_getElem
  · simp [mapsF, toldAll]; omega
  · intro k h1 h2
    have hk : k < l.length := by simpa [toldAll] using h2
    have hk2 : k < fs.length := by omega
    simp only [mapsF, List.getElem_zipWith, toldAll, List.getElem_map, List.getElem_range, toldM]
    rw [told_same hw hinv hst hwt hall (List.getElem?_eq_getElem hk) (List.getElem?_eq_getElem hk2) l[k].place]
    simp [List.getD_eq_getElem?_getD, hk]
end Go.Proofs.YtdmdpindonghdaaGreatDoor
namespace Go.Proofs.YtdmdpindonghdaaGreatDoor
open Go.RowKit
/-- What a machine has that no step changes: its code, what Maps tells, its inputs, its number of cells. -/
structure Env where
  l : List Ins
  L : Nat
  ms : List MP
  zs : List Int
  n : Nat
def tysAt (E : Env) (k : Nat) : List Nat × List Nat := match E.ms[k]? with | some m => (m.lo, m.st) | none => ([], [])
def slotsC (tys : List Nat) (ws : List (Bool × Int)) : List (Nat × Int) := List.zipWith (fun t (x : Bool × Int) => (t, slotV t x.2)) tys ws
def locsS (E : Env) (s : MS) : List (Nat × Int) := slotsC (tysAt E s.at_).1 s.lo
def stkS (E : Env) (s : MS) : List (Nat × Int) := slotsC (tysAt E s.at_).2 s.st
def rootsS (E : Env) (s : MS) : List Int := rootsC (locsS E s ++ stkS E s)
def noRC : RC := ⟨false, false, false, false, -1, -1, 0⟩
def cellAt (cs : List RC) (r : Int) : RC := cs.getD r.toNat noRC
def cutS (s : MS) (k : Nat) : List (Bool × Int) := s.st.take (s.st.length - k)
def weakS (a : Int) (c : RC) : RC := { c with weak := true, a := a }
def noteS (v : Int) (c : RC) : RC := { c with num := v }
/-- What an instruction on cells does. -/
def touchS (i : Ins) (cell : Int) (s : MS) : MS :=
  if i.op = 13 then { s with st := s.st ++ [(true, cell)] }
  else if i.op = 23 then { s with hs := (s.hs.1.modify cell.toNat (weakS (lastW s.st 0).2), s.hs.2), st := cutS s 1 ++ [(true, cell)] }
  else if i.op = 14 ∨ i.op = 24 then { s with st := cutS s 1 ++ [(true, if i.n = 0 then (cellAt s.hs.1 (lastW s.st 0).2).a else (cellAt s.hs.1 (lastW s.st 0).2).b)] }
  else if i.op = 16 then { s with st := cutS s 1 ++ [(false, (cellAt s.hs.1 (lastW s.st 0).2).num)] }
  else if i.op = 17 then { s with hs := (s.hs.1.modify (lastW s.st 1).2.toNat (noteS (lastW s.st 0).2), s.hs.2), st := cutS s 2 }
  else if i.op = 15 then { s with hs := (storeC s.hs.1 s.hs.2.1 (lastW s.st 1).2.toNat i.n (lastW s.st 0).2, s.hs.2), st := cutS s 2 }
  else s
/-- What an instruction does to locals, stack, cells, inputs, output. -/
def doesS (E : Env) (i : Ins) (cell : Int) (s : MS) : MS :=
  if i.op = 1 then { s with st := s.st ++ [(false, ((i.n : Int) + 128) % 256 - 128)] }
  else if i.op = 2 ∨ i.op = 3 ∨ i.op = 4 ∨ i.op = 5 ∨ i.op = 6 ∨ i.op = 18 then { s with st := cutS s 2 ++ [(false, sumC i.op (lastW s.st 1).2 (lastW s.st 0).2)] }
  else if i.op = 7 then { s with st := s.st ++ [s.lo.getD i.n (false, 0)] }
  else if i.op = 8 then { s with lo := s.lo.set i.n (lastW s.st 0), st := cutS s 1 }
  else if i.op = 9 then { s with st := s.st ++ [lastW s.st 0] }
  else if i.op = 10 ∨ i.op = 20 then { s with st := cutS s 1 }
  else if i.op = 11 then { s with st := cutS s 2 ++ [lastW s.st 0, lastW s.st 1] }
  else if i.op = 12 then { s with st := s.st ++ [(true, -1)] }
  else if i.op = 21 then (if s.rd < E.zs.length then { s with rd := s.rd + 1, st := s.st ++ [(false, E.zs.getD s.rd 0)] } else { s with st := s.st ++ [(false, 0)] })
  else if i.op = 22 then { s with out := s.out ++ [(lastW s.st 0).2], st := cutS s 1 }
  else touchS i cell s
def toS (E : Env) (i : Ins) (s : MS) : Nat := if i.op = 19 ∨ i.op = 20 ∧ (lastW s.st 0).2 ≠ 0 then (findP i.n E.l 0).toNat else s.at_ + 1
def goS (E : Env) (i : Ins) (cell : Int) (s : MS) : MS := { doesS E i cell s with at_ := toS E i s }
/-- A step at an instruction. -/
def stepI (E : Env) (i : Ins) (s : MS) : MS :=
  if endsC s.hs.1 s.st i.op = 1 then { s with oc := 1, va := (lastW s.st 0).2 }
  else if endsC s.hs.1 s.st i.op ≠ 0 then { s with oc := (endsC s.hs.1 s.st i.op).toNat }
  else if i.op = 13 ∨ i.op = 23 then
    (if (takeC (rootsS E s) s.hs).1 < 0 then { s with oc := 5, hs := (takeC (rootsS E s) s.hs).2 }
     else goS E i (takeC (rootsS E s) s.hs).1 { s with hs := (takeC (rootsS E s) s.hs).2 })
  else goS E i (-1) s
def stepS (E : Env) (s : MS) : MS := match E.l[s.at_]? with | none => s | some i => stepI E i s
/-- The point at which a machine stands. -/
def letB (b : Bool) : UInt8 := if b = true then 114 else 105
def flagB (ws : List (Bool × Int)) : ByteArray := ⟨(ws.map (fun x => letB x.1)).toArray⟩
def ptOf (s : MS) : Pt := ⟨s.at_, flagB s.lo, flagB s.st⟩
theorem tl_flag (ws : List (Bool × Int)) : tl (flagB ws) = ws.map (fun x => letB x.1) := rfl
theorem size_flag (ws : List (Bool × Int)) : (flagB ws).size = ws.length := by
  have := tl_len (flagB ws)
  rw [tl_flag, List.length_map] at this
  exact this.symm
theorem code_let (b : Bool) : code8 (letB b) = if b = true then 1 else 0 := by cases b <;> rfl
def kindB (b : Bool) : Nat := if b = true then 1 else 0
theorem codes_flag (ws : List (Bool × Int)) : codes (flagB ws) = ws.map (fun x => kindB x.1) := by
  unfold codes
  rw [tl_flag, List.map_map]
  apply List.map_congr_left
  intro x _
  exact code_let x.1
structure EnvOk (E : Env) : Prop where
  wf : Wf E.l E.L
  wt : WT E.l E.L
  n0 : ∀ i ∈ E.l, takesB i.op = false → i.n = 0
  len : E.ms.length = E.l.length
  place : ∀ (k : Nat) (i : Ins) (m : MP), E.l[k]? = some i → E.ms[k]? = some m → m.place = i.place
  tys : ∀ p, Reach E.l E.L p → ∃ m : MP, E.ms[p.at_]? = some m ∧ m.reached = true ∧ m.st = codes p.st ∧ m.lo.length = E.L ∧ ∀ j, j < E.L → m.lo.getD j 0 = lk p.lo j ∨ m.lo.getD j 0 = 2
  n1 : 1 ≤ E.n
  n32 : E.n ≤ 32
structure MInv (E : Env) (s : MS) : Prop where
  reach : Reach E.l E.L (ptOf s)
  refs : ∀ x ∈ s.lo ++ s.st, x.1 = true → -1 ≤ x.2 ∧ x.2 < (E.n : Int)
  hok : OkS s.hs
  hx : HpX s.hs.1 s.hs.2.1
  n : s.hs.1.length = E.n
  rd : s.rd ≤ E.zs.length
  oc : s.oc ≤ 5
theorem MInv.okp {E : Env} (he : EnvOk E) {s : MS} (h : MInv E s) : Okp E.l E.L (ptOf s) := reach_ok he.wf h.reach
theorem MInv.lo {E : Env} (he : EnvOk E) {s : MS} (h : MInv E s) : s.lo.length = E.L := by
  have := (h.okp he).lo
  rw [show (ptOf s).lo = flagB s.lo from rfl, size_flag] at this
  exact this
theorem MInv.st {E : Env} (he : EnvOk E) {s : MS} (h : MInv E s) : s.st.length ≤ 8 := by
  have := (h.okp he).st
  rw [show (ptOf s).st = flagB s.st from rfl, size_flag] at this
  exact this
theorem MInv.lt {E : Env} (he : EnvOk E) {s : MS} (h : MInv E s) : s.at_ < E.l.length := (h.okp he).at_
/-- The types at the instruction. -/
structure TysOk (E : Env) (s : MS) (m : MP) : Prop where
  get : E.ms[s.at_]? = some m
  st : m.st = s.st.map (fun x => kindB x.1)
  lol : m.lo.length = s.lo.length
  lo : ∀ j (h : j < s.lo.length), m.lo.getD j 0 = kindB s.lo[j].1 ∨ m.lo.getD j 0 = 2
  reached : m.reached = true
theorem MInv.tys {E : Env} (he : EnvOk E) {s : MS} (h : MInv E s) : ∃ m, TysOk E s m := by
  obtain ⟨m, h1, h2, h3, h4, h5⟩ := he.tys _ h.reach
  have hl := h.lo he
  refine ⟨m, h1, ?_, by rw [h4, hl], ?_, h2⟩
  · rw [h3]; exact codes_flag s.st
  · intro j hj
    rcases h5 j (by omega) with e | e
    · left
      rw [e, ← codes_lk (show j < (ptOf s).lo.size by show j < (flagB s.lo).size; rw [size_flag]; exact hj)]
      show (codes (flagB s.lo)).getD j 0 = _
      rw [codes_flag, List.getD_eq_getElem?_getD, List.getElem?_map, List.getElem?_eq_getElem hj]
      rfl
    · exact .inr e
end Go.Proofs.YtdmdpindonghdaaGreatDoor
namespace Go.Proofs.YtdmdpindonghdaaGreatDoor
open Go.RowKit
structure HOk (n : Nat) (h : HSt) : Prop where
  ok : OkS h
  x : HpX h.1 h.2.1
  len : h.1.length = n
theorem HOk.unit {n : Nat} {h : HSt} (k : HOk n h) (rs : List Int) : HOk n (stepC rs h) := ⟨k.ok.step rs, k.x.unit rs, by show (unitC _ _ _ _).1.length = n; rw [unitC_len]; exact k.len⟩
theorem toIdle_ind {rs : List Int} {P : HSt → Prop} (hP : ∀ h, P h → P (stepC rs h)) : ∀ (m : Nat) (h : HSt), P h → P (toIdle rs m h)
  | 0, _, k => k
  | m + 1, h, k => by
    simp only [toIdle]
    split
    · exact k
    · exact toIdle_ind hP m _ (hP h k)
theorem idleC_ind {rs : List Int} {P : HSt → Prop} (hP : ∀ h, P h → P (stepC rs h)) {h : HSt} (k : P h) : P (idleC rs h) := toIdle_ind hP _ h k
theorem HOk.idle {n : Nat} {h : HSt} (k : HOk n h) (rs : List Int) : HOk n (idleC rs h) := idleC_ind (P := HOk n) (fun _ k => k.unit rs) k
theorem fresh_ok (d : Bool) : CellOk (freshC d) := ⟨fun h => by (cases h), by simp [freshC], by simp [freshC], fun h => by (cases h)⟩
theorem fresh_col (d : Bool) : colR (freshC d) = if d = true then 3 else 1 := by cases d <;> rfl
theorem lowC_at {h : HSt} (k : 0 ≤ lowC h) : ∃ hl : (lowC h).toNat < h.1.length, h.1[(lowC h).toNat].used = false := by
  rcases firstP_spec (fun c => !c.used) h.1 0 with e | ⟨j, hj, e, hq⟩
  · unfold lowC at k; omega
  · have e' : lowC h = (j : Int) := by unfold lowC; rw [e]; simp
    have : (lowC h).toNat = j := by omega
    refine ⟨by omega, ?_⟩
    simp only [this]
    simpa using hq
theorem HOk.set {n : Nat} {h : HSt} (k : HOk n h) (j : Nat) (c : RC) (hc : CellOk c) (hr : c.a < (n : Int) ∧ c.b < (n : Int)) (h2 : h.2.1 = 2 → colR c ≠ 2) : HOk n (h.1.set j c, h.2) := by
  refine ⟨?_, ⟨?_, ?_⟩, by simp [k.len]⟩
  · refine ⟨by simpa using k.ok.pos, by simpa using k.ok.len, ?_, k.ok.phz, by simpa using k.ok.hand, k.ok.nohand⟩
    intro d hd
    simp only [List.length_set]
    rcases List.mem_or_eq_of_mem_set hd with e | e
    · exact k.ok.refs d e
    · subst e; rw [k.len]; exact hr
  · intro d hd
    rcases List.mem_or_eq_of_mem_set hd with e | e
    · exact k.x.cell d e
    · subst e; exact hc
  · intro e2 d hd
    rcases List.mem_or_eq_of_mem_set hd with e | e
    · exact k.x.nogrey e2 d e
    · subst e; exact h2 e2
theorem HOk.modify {n : Nat} {h : HSt} (k : HOk n h) (j : Nat) (f : RC → RC) (hf : ∀ c ∈ h.1, c.a < (n : Int) → c.b < (n : Int) → CellOk c → h.1[j]? = some c → CellOk (f c) ∧ (f c).a < (n : Int) ∧ (f c).b < (n : Int) ∧ colR (f c) = colR c) : HOk n (h.1.modify j f, h.2) := by
  by_cases hj : j < h.1.length
  · rw [modify_set hj]
    have hm := List.getElem_mem hj
    have hr := k.ok.refs _ hm
    rw [k.len] at hr
    obtain ⟨a1, a2, a3, a4⟩ := hf _ hm hr.1 hr.2 (k.x.cell _ hm) (List.getElem?_eq_getElem hj)
    exact k.set j _ a1 ⟨a2, a3⟩ (fun e => by rw [a4]; exact k.x.nogrey e _ hm)
  · rw [List.modify_eq_self (by omega)]; exact k
theorem HOk.begin {n : Nat} {h : HSt} (k : HOk n h) : HOk n (beginC h).2 :=
  k.set _ _ (fresh_ok _) (by have := k.ok.pos; have := k.len; simp only [freshC]; omega) (fun _ => by rw [fresh_col]; split <;> omega)
theorem HOk.take {n : Nat} {h : HSt} (k : HOk n h) (rs : List Int) : HOk n (takeC rs h).2 ∧ (takeC rs h).1 < (n : Int) ∧ -1 ≤ (takeC rs h).1 := by
  have hb : ∀ {q : HSt}, HOk n q → 0 ≤ lowC q → HOk n (beginC q).2 ∧ (beginC q).1 < (n : Int) ∧ -1 ≤ (beginC q).1 := fun {q} kq hq => ⟨kq.begin, by
    obtain ⟨hl, _⟩ := lowC_at hq
    rw [kq.len] at hl
    show lowC q < _
    omega, by show -1 ≤ lowC q; omega⟩
  unfold takeC
  split
  · exact hb k (by assumption)
  split
  · exact hb (k.idle rs) (by assumption)
  split
  · exact hb (((k.idle rs).unit rs).idle rs) (by assumption)
  · exact ⟨((k.idle rs).unit rs).idle rs, by have := k.ok.pos; have := k.len; simp only; omega, by simp⟩
theorem reachC_one (cs : List RC) (r : Int) : reachC cs [r] = if 0 ≤ r then cs.modify r.toNat markC else cs := rfl
theorem HOk.reach1 {n : Nat} {h : HSt} (k : HOk n h) (h1 : h.2.1 ≠ 2) (r : Int) : HOk n (reachC h.1 [r], h.2) := by
  rw [reachC_one]
  split
  · by_cases hj : r.toNat < h.1.length
    · rw [modify_set hj]
      have hm := List.getElem_mem hj
      have hr := k.ok.refs _ hm
      rw [k.len] at hr
      exact k.set _ _ (k.x.cell _ hm).mark hr (fun e => absurd e h1)
    · rw [List.modify_eq_self (by omega)]; exact k
  · exact k
theorem setAB_fix (m : Nat) (v : Int) (c : RC) : colR (setAB m v c) = colR c ∧ (setAB m v c).used = c.used ∧ (setAB m v c).weak = c.weak ∧ (setAB m v c).num = c.num := by
  unfold setAB; split <;> exact ⟨rfl, rfl, rfl, rfl⟩
theorem HOk.store {n : Nat} {h : HSt} (k : HOk n h) (r m : Nat) (v : Int) (hv : -1 ≤ v ∧ v < (n : Int)) (hc : ∀ c, h.1[r]? = some c → c.weak = false) : HOk n (storeC h.1 h.2.1 r m v, h.2) := by
  have k1 : HOk n (h.1.modify r (setAB m v), h.2) := k.modify r _ (fun c _ ha hb ho hg => by
    obtain ⟨e1, _, e3, _⟩ := setAB_fix m v c
    have u2 := hc c hg
    refine ⟨⟨fun _ => by rw [e3, u2], ?_, ?_, fun e => by (rw [e3, u2] at e; cases e)⟩, ?_, ?_, e1⟩
    · unfold setAB; split
      · exact hv.1
      · exact ho.lowA
    · unfold setAB; split
      · exact ho.lowB
      · exact hv.1
    · unfold setAB; split
      · exact hv.2
      · exact ha
    · unfold setAB; split
      · exact hb
      · exact hv.2)
  unfold storeC
  split
  · rename_i e
    exact k1.reach1 (by simp only; omega) v
  · exact k1
theorem HOk.weak {n : Nat} {h : HSt} (k : HOk n h) (r : Nat) (v : Int) (hv : -1 ≤ v ∧ v < (n : Int)) (hc : ∀ c, h.1[r]? = some c → c.used = true ∧ c.b = -1 ∧ c.num = 0) : HOk n (h.1.modify r (weakS v), h.2) :=
  k.modify r _ (fun c _ _ hb _ hg => by
    obtain ⟨u1, u2, u3⟩ := hc c hg
    exact ⟨⟨fun e => by (exact absurd (u1.symm.trans e) (by simp)), hv.1, by show -1 ≤ c.b; omega, fun _ => ⟨u2, u3⟩⟩, hv.2, hb, rfl⟩)
theorem HOk.note {n : Nat} {h : HSt} (k : HOk n h) (r : Nat) (v : Int) (hc : ∀ c, h.1[r]? = some c → c.weak = false) : HOk n (h.1.modify r (noteS v), h.2) :=
  k.modify r _ (fun c _ ha hb ho hg => by
    have u2 := hc c hg
    exact ⟨⟨fun _ => u2, ho.lowA, ho.lowB, fun e => by (exact absurd (u2.symm.trans e) (by simp))⟩, ha, hb, rfl⟩)
end Go.Proofs.YtdmdpindonghdaaGreatDoor
namespace Go.Proofs.YtdmdpindonghdaaGreatDoor
open Go.RowKit
theorem afterV_std {lo st : ByteArray} {op n : Nat} (h : op ≠ 7 ∧ op ≠ 8 ∧ op ≠ 9 ∧ op ≠ 10 ∧ op ≠ 11) (ht : (afterV lo st op n).2.2 = true) :
    (afterV lo st op n).1 = lo ∧ tl (afterV lo st op n).2.1 = (tl st).take (st.size - (popsL op).length) ++ pushesL op ∧ (popsL op).length ≤ st.size ∧ (tl st).drop (st.size - (popsL op).length) = popsL op := by
  obtain ⟨h7, h8, h9, h10, h11⟩ := h
  have hs : (popsS op).size = (popsL op).length := rfl
  unfold afterV at ht ⊢
  simp only [if_neg h7, if_neg h8, if_neg h9, if_neg h10, if_neg h11] at ht ⊢
  by_cases hk : st.size < (popsS op).size
  · rw [if_pos hk] at ht; cases ht
  rw [if_neg hk] at ht ⊢
  by_cases hx : st.extract (st.size - (popsS op).size) st.size = popsS op
  · rw [if_pos hx]
    have e := congrArg tl hx
    rw [tl_extract] at e
    refine ⟨rfl, ?_, by omega, ?_⟩
    · show tl (_ ++ _) = _
      rw [tl_append, tl_extract]
      simp only [List.drop_zero, Nat.sub_zero]
      rfl
    · rw [List.take_of_length_le (by rw [List.length_drop, tl_len]; omega)] at e
      exact e
  · rw [if_neg hx] at ht; cases ht
/-- The instruction at which a machine stands can be done. -/
structure CanI (E : Env) (s : MS) (i : Ins) : Prop where
  get : E.l[s.at_]? = some i
  ok : (afterV (flagB s.lo) (flagB s.st) i.op i.n).2.2 = true
  le : (afterV (flagB s.lo) (flagB s.st) i.op i.n).2.1.size ≤ 8
theorem MInv.can {E : Env} (he : EnvOk E) {s : MS} (h : MInv E s) : ∃ i, CanI E s i := by
  have hlt := h.lt he
  have hi : E.l[(ptOf s).at_]? = some E.l[s.at_] := List.getElem?_eq_getElem hlt
  have hs := he.wt.1 _ h.reach
  rw [stepP_eq hi] at hs
  have hn : ¬ ((afterV (flagB s.lo) (flagB s.st) E.l[s.at_].op E.l[s.at_].n).2.2 = false ∨ 8 < (afterV (flagB s.lo) (flagB s.st) E.l[s.at_].op E.l[s.at_].n).2.1.size) := by
    intro hc
    exact hs (if_pos hc)
  simp only [not_or, Bool.not_eq_false, Nat.not_lt] at hn
  exact ⟨_, hi, hn.1, hn.2⟩
theorem CanI.mem {E : Env} {s : MS} {i : Ins} (h : CanI E s i) : i ∈ E.l := List.mem_of_getElem? h.get
/-- The words that an instruction pops, and their flags. -/
structure Std (s : MS) (op : Nat) : Prop where
  len : (popsL op).length ≤ s.st.length
  flags : (s.st.drop (s.st.length - (popsL op).length)).map (fun x => letB x.1) = popsL op
theorem CanI.std {E : Env} {s : MS} {i : Ins} (h : CanI E s i) (hn : i.op ≠ 7 ∧ i.op ≠ 8 ∧ i.op ≠ 9 ∧ i.op ≠ 10 ∧ i.op ≠ 11) : Std s i.op := by
  obtain ⟨_, _, h3, h4⟩ := afterV_std hn h.ok
  rw [size_flag] at h3
  rw [tl_flag, size_flag, ← List.map_drop] at h4
  exact ⟨h3, h4⟩
theorem drop_lastW {st : List (Bool × Int)} {k : Nat} (h : k < st.length) : st.drop (st.length - 1 - k) = lastW st k :: st.drop (st.length - k) := by
  have e := lastW_at h
  have hl := (List.getElem?_eq_some_iff.1 e).1
  rw [List.drop_eq_getElem_cons hl, (List.getElem?_eq_some_iff.1 e).2]
  congr 2
  omega
theorem letB_r {b : Bool} (h : letB b = 114) : b = true := by cases b; · exact absurd h (by decide)
                                                              · rfl
theorem Std.one {s : MS} {op : Nat} {c : UInt8} (h : Std s op) (e : popsL op = [c]) : 0 < s.st.length ∧ letB (lastW s.st 0).1 = c := by
  have h1 := h.len
  have h2 := h.flags
  rw [e] at h1 h2
  simp only [List.length_cons, List.length_nil] at h1 h2
  have hp : 0 < s.st.length := by omega
  refine ⟨hp, ?_⟩
  rw [show s.st.length - (0 + 1) = s.st.length - 1 - 0 by omega, drop_lastW hp] at h2
  simpa using h2
theorem Std.two {s : MS} {op : Nat} {c d : UInt8} (h : Std s op) (e : popsL op = [c, d]) : 1 < s.st.length ∧ letB (lastW s.st 1).1 = c ∧ letB (lastW s.st 0).1 = d := by
  have h1 := h.len
  have h2 := h.flags
  rw [e] at h1 h2
  simp only [List.length_cons, List.length_nil] at h1 h2
  have hp : 1 < s.st.length := by omega
  refine ⟨hp, ?_⟩
  rw [show s.st.length - (0 + 1 + 1) = s.st.length - 1 - 1 by omega, drop_lastW hp, show s.st.length - 1 = s.st.length - 1 - 0 by omega, drop_lastW (by omega)] at h2
  simpa using h2
theorem lastW_mem {st : List (Bool × Int)} {k : Nat} (h : k < st.length) : lastW st k ∈ st := List.mem_of_getElem? (lastW_at h)
theorem flag_ext {ws : List (Bool × Int)} {b : ByteArray} (h : ws.map (fun x => letB x.1) = tl b) : flagB ws = b := tl_inj (by rw [tl_flag]; exact h)
theorem flags_last {ws : List (Bool × Int)} {k : Nat} (h : k < ws.length) : tl ((flagB ws).extract ((flagB ws).size - 1 - k) ((flagB ws).size - k)) = [letB (lastW ws k).1] := by
  rw [tl_extract, size_flag, tl_flag, ← List.map_drop, ← List.map_take, drop_lastW h, show ws.length - k - (ws.length - 1 - k) = 1 by omega]
  simp
/-- The flags behind an instruction are its types behind it. -/
theorem does_flags {E : Env} (he : EnvOk E) {s : MS} (h : MInv E s) {i : Ins} (hc : CanI E s i) (h0 : i.op ≠ 0) (cell : Int) :
    flagB (doesS E i cell s).lo = (afterV (flagB s.lo) (flagB s.st) i.op i.n).1 ∧ flagB (doesS E i cell s).st = (afterV (flagB s.lo) (flagB s.st) i.op i.n).2.1 := by
  have hlo := h.lo he
  have hok := hc.ok
  have hsz := size_flag s.st
  by_cases e7 : i.op = 7
  · have hn := he.wf.arg i hc.mem (.inl e7)
    have hnl : i.n < s.lo.length := by omega
    unfold afterV doesS
    simp only [e7, if_pos]
    simp only [reduceIte, show (7 : Nat) ≠ 1 by decide, show ¬ ((7 : Nat) = 2 ∨ (7 : Nat) = 3 ∨ (7 : Nat) = 4 ∨ (7 : Nat) = 5 ∨ (7 : Nat) = 6 ∨ (7 : Nat) = 18) by decide]
    refine ⟨trivial, flag_ext ?_⟩
    rw [tl_append, tl_extract, tl_flag, tl_flag, List.map_append, show i.n + 1 - i.n = 1 by omega, List.drop_eq_getElem_cons (by simpa using hnl)]
    simp [List.getElem?_eq_getElem hnl]
  by_cases e8 : i.op = 8
  · have hn := he.wf.arg i hc.mem (.inr e8)
    have hnl : i.n < s.lo.length := by omega
    unfold afterV at hok ⊢
    unfold doesS
    simp only [e8] at hok ⊢
    simp only [reduceIte, show (8 : Nat) ≠ 1 by decide, show (8 : Nat) ≠ 7 by decide, show ¬ ((8 : Nat) = 2 ∨ (8 : Nat) = 3 ∨ (8 : Nat) = 4 ∨ (8 : Nat) = 5 ∨ (8 : Nat) = 6 ∨ (8 : Nat) = 18) by decide] at hok ⊢
    by_cases hk : (flagB s.st).size < 1
    · rw [if_pos hk] at hok; cases hok
    rw [if_neg hk]
    have hp : 0 < s.st.length := by omega
    have hfl := flags_last hp
    simp only [Nat.sub_zero] at hfl
    refine ⟨flag_ext ?_, flag_ext ?_⟩
    · show (s.lo.set i.n (lastW s.st 0)).map _ = _
      rw [tl_append, tl_append, hfl, tl_extract, tl_extract, tl_flag, List.map_set, Nat.sub_zero, List.drop_zero, size_flag]
      rw [List.take_of_length_le (l := List.drop _ _) (by simp)]
      rw [List.set_eq_take_append_cons_drop, if_pos (by simpa using hnl)]
      simp
    · show (cutS s 1).map _ = _
      rw [tl_extract, tl_flag, size_flag, List.drop_zero, Nat.sub_zero, ← List.map_take]
      rfl
  by_cases e9 : i.op = 9
  · unfold afterV at hok ⊢
    unfold doesS
    simp only [e9] at hok ⊢
    simp only [reduceIte, show (9 : Nat) ≠ 1 by decide, show (9 : Nat) ≠ 7 by decide, show (9 : Nat) ≠ 8 by decide, show ¬ ((9 : Nat) = 2 ∨ (9 : Nat) = 3 ∨ (9 : Nat) = 4 ∨ (9 : Nat) = 5 ∨ (9 : Nat) = 6 ∨ (9 : Nat) = 18) by decide] at hok ⊢
    by_cases hk : (flagB s.st).size < 1
    · rw [if_pos hk] at hok; cases hok
    rw [if_neg hk]
    have hp : 0 < s.st.length := by omega
    have hfl := flags_last hp
    simp only [Nat.sub_zero] at hfl
    refine ⟨rfl, flag_ext ?_⟩
    rw [tl_append, hfl, tl_flag, List.map_append]
    rfl
  by_cases e10 : i.op = 10
  · unfold afterV at hok ⊢
    unfold doesS
    simp only [e10] at hok ⊢
    simp only [reduceIte, show (10 : Nat) ≠ 1 by decide, show (10 : Nat) ≠ 7 by decide, show (10 : Nat) ≠ 8 by decide, show (10 : Nat) ≠ 9 by decide, show ¬ ((10 : Nat) = 2 ∨ (10 : Nat) = 3 ∨ (10 : Nat) = 4 ∨ (10 : Nat) = 5 ∨ (10 : Nat) = 6 ∨ (10 : Nat) = 18) by decide, true_or] at hok ⊢
    by_cases hk : (flagB s.st).size < 1
    · rw [if_pos hk] at hok; cases hok
    rw [if_neg hk]
    refine ⟨rfl, flag_ext ?_⟩
    show (cutS s 1).map _ = _
    rw [tl_extract, tl_flag, size_flag, List.drop_zero, Nat.sub_zero, ← List.map_take]
    rfl
  by_cases e11 : i.op = 11
  · unfold afterV at hok ⊢
    unfold doesS
    simp only [e11] at hok ⊢
    simp only [reduceIte, show (11 : Nat) ≠ 1 by decide, show (11 : Nat) ≠ 7 by decide, show (11 : Nat) ≠ 8 by decide, show (11 : Nat) ≠ 9 by decide, show (11 : Nat) ≠ 10 by decide, show ¬ ((11 : Nat) = 2 ∨ (11 : Nat) = 3 ∨ (11 : Nat) = 4 ∨ (11 : Nat) = 5 ∨ (11 : Nat) = 6 ∨ (11 : Nat) = 18) by decide] at hok ⊢
    by_cases hk : (flagB s.st).size < 2
    · rw [if_pos hk] at hok; cases hok
    rw [if_neg hk]
    have f0 := flags_last (ws := s.st) (k := 0) (by omega)
    have f1 := flags_last (ws := s.st) (k := 1) (by omega)
    simp only [Nat.sub_zero] at f0
    rw [show (flagB s.st).size - 1 - 1 = (flagB s.st).size - 2 by omega] at f1
    refine ⟨rfl, flag_ext ?_⟩
    rw [tl_append, tl_append, f0, f1, tl_extract, tl_flag, size_flag, List.drop_zero, Nat.sub_zero, ← List.map_take]
    show (cutS s 2 ++ [lastW s.st 0, lastW s.st 1]).map _ = _
    simp [cutS]
  obtain ⟨a1, a2, a3, a4⟩ := afterV_std ⟨e7, e8, e9, e10, e11⟩ hok
  rw [size_flag, tl_flag, ← List.map_take] at a2
  have hop := he.wf.op i hc.mem
  suffices hs : (doesS E i cell s).lo = s.lo ∧ (doesS E i cell s).st.map (fun x => letB x.1) = (s.st.take (s.st.length - (popsL i.op).length)).map (fun x => letB x.1) ++ pushesL i.op by
    exact ⟨by rw [hs.1, a1], flag_ext (by rw [hs.2, a2])⟩
  unfold doesS touchS cutS
  have hcases : i.op = 1 ∨ i.op = 2 ∨ i.op = 3 ∨ i.op = 4 ∨ i.op = 5 ∨ i.op = 6 ∨ i.op = 12 ∨ i.op = 13 ∨ i.op = 14 ∨ i.op = 15 ∨ i.op = 16 ∨ i.op = 17 ∨ i.op = 18 ∨ i.op = 19 ∨ i.op = 20 ∨ i.op = 21 ∨ i.op = 22 ∨ i.op = 23 ∨ i.op = 24 := by omega
  rcases hcases with e | e | e | e | e | e | e | e | e | e | e | e | e | e | e | e | e | e | e
  all_goals
    simp only [e, popsL, pushesL]
    simp only [Nat.reduceEqDiff, or_false, or_true, or_self, true_and, if_true, if_false]
  case inr.inr.inr.inr.inr.inr.inr.inr.inr.inr.inr.inr.inr.inr.inr.inl => split <;> simp [letB]
  all_goals simp [letB]
theorem endsC_range {cs : List RC} {st : List (Bool × Int)} {op : Int} : 0 ≤ endsC cs st op ∧ endsC cs st op ≤ 4 := by
  have hw : ∀ r b, 0 ≤ wantsC cs r b ∧ wantsC cs r b ≤ 4 := by
    intro r b
    unfold wantsC
    split
    · omega
    split <;> omega
  unfold endsC
  split
  · omega
  split
  · split <;> omega
  split
  · exact hw _ _
  split
  · exact hw _ _
  split
  · exact hw _ _
  · omega
theorem endsC_halt {cs : List RC} {st : List (Bool × Int)} {op : Int} (h : endsC cs st op ≠ 1) : op ≠ 0 := by
  intro e
  apply h
  unfold endsC
  rw [if_pos e]
theorem wantsC_zero {cs : List RC} {r : Int} {b : Bool} (h : wantsC cs r b = 0) (hr : r < (cs.length : Int)) : 0 ≤ r ∧ ∃ hl : r.toNat < cs.length, cs[r.toNat].weak = b := by
  unfold wantsC at h
  by_cases h0 : r < 0
  · rw [if_pos h0] at h; omega
  rw [if_neg h0] at h
  have hl : r.toNat < cs.length := by omega
  refine ⟨by omega, hl, ?_⟩
  rw [List.getElem?_eq_getElem hl] at h
  by_cases e : cs[r.toNat].weak = b
  · exact e
  · rw [if_neg (by simpa using e)] at h; omega
theorem low_used {h : HSt} (hl : 0 ≤ lowC h) : (beginC h).2.1[(beginC h).1.toNat]? = some (freshC (doneB h.2.1 h.2.2 (lowC h).toNat)) := by
  obtain ⟨hlt, _⟩ := lowC_at hl
  show (h.1.set (lowC h).toNat _)[(lowC h).toNat]? = _
  rw [List.getElem?_set_self hlt]
/-- The cell that is taken is a fresh one. -/
theorem take_fresh {h : HSt} (rs : List Int) (hc : ¬ (takeC rs h).1 < 0) : ∃ d, (takeC rs h).2.1[(takeC rs h).1.toNat]? = some (freshC d) := by
  unfold takeC at hc ⊢
  split
  · exact ⟨_, low_used (by assumption)⟩
  rename_i h1
  rw [if_neg h1] at hc
  split
  · exact ⟨_, low_used (by assumption)⟩
  rename_i h2
  rw [if_neg h2] at hc
  split
  · exact ⟨_, low_used (by assumption)⟩
  rename_i h3
  rw [if_neg h3] at hc
  simp at hc
theorem MInv.hh {E : Env} {s : MS} (h : MInv E s) : HOk E.n s.hs := ⟨h.hok, h.hx, h.n⟩
theorem cut_sub {s : MS} {k : Nat} {x : Bool × Int} (h : x ∈ cutS s k) : x ∈ s.st := List.mem_of_mem_take h
/-- What an instruction leaves: references in range, a heap in order. -/
structure DoneOk (E : Env) (s : MS) : Prop where
  refs : ∀ x ∈ s.lo ++ s.st, x.1 = true → -1 ≤ x.2 ∧ x.2 < (E.n : Int)
  hh : HOk E.n s.hs
  rd : s.rd ≤ E.zs.length
theorem does_ok {E : Env} (he : EnvOk E) {s : MS} {i : Ins} (hlen : s.lo.length = E.L) (hd : DoneOk E s) (hc : CanI E s i) (hends : endsC s.hs.1 s.st i.op = 0) (cell : Int) (hcell : i.op = 13 ∨ i.op = 23 → 0 ≤ cell ∧ cell < (E.n : Int) ∧ ∃ d, s.hs.1[cell.toNat]? = some (freshC d)) : DoneOk E (doesS E i cell s) := by
  have hop := he.wf.op i hc.mem
  have hlo : ∀ {x}, x ∈ s.lo → x.1 = true → -1 ≤ x.2 ∧ x.2 < (E.n : Int) := fun hx => hd.refs _ (List.mem_append_left _ hx)
  have hst : ∀ {x}, x ∈ s.st → x.1 = true → -1 ≤ x.2 ∧ x.2 < (E.n : Int) := fun hx => hd.refs _ (List.mem_append_right _ hx)
  have push : ∀ (k : Nat) (ws : List (Bool × Int)), (∀ x ∈ ws, x.1 = true → -1 ≤ x.2 ∧ x.2 < (E.n : Int)) → ∀ x ∈ s.lo ++ (cutS s k ++ ws), x.1 = true → -1 ≤ x.2 ∧ x.2 < (E.n : Int) := by
    intro k ws hws x hx
    rcases List.mem_append.1 hx with hx | hx
    · exact hlo hx
    rcases List.mem_append.1 hx with hx | hx
    · exact hst (cut_sub hx)
    · exact hws x hx
  have push0 : ∀ (ws : List (Bool × Int)), (∀ x ∈ ws, x.1 = true → -1 ≤ x.2 ∧ x.2 < (E.n : Int)) → ∀ x ∈ s.lo ++ (s.st ++ ws), x.1 = true → -1 ≤ x.2 ∧ x.2 < (E.n : Int) := by
    intro ws hws x hx
    have := push 0 ws hws x
    unfold cutS at this
    rw [Nat.sub_zero, List.take_length] at this
    exact this hx
  have cut : ∀ (k : Nat), ∀ x ∈ s.lo ++ cutS s k, x.1 = true → -1 ≤ x.2 ∧ x.2 < (E.n : Int) := by
    intro k x hx
    exact push k [] (by simp) x (by simpa using hx)
  have hlen8 : ∀ {k : Nat}, k < s.st.length → (lastW s.st k).1 = true → -1 ≤ (lastW s.st k).2 ∧ (lastW s.st k).2 < (E.n : Int) := fun hk => hst (lastW_mem hk)
  have hpos : (0 : Int) < (E.n : Int) := by have := he.n1; omega
  have hN := hd.hh.len
  have crefs : ∀ r, -1 ≤ (cellAt s.hs.1 r).a ∧ (cellAt s.hs.1 r).a < (E.n : Int) ∧ -1 ≤ (cellAt s.hs.1 r).b ∧ (cellAt s.hs.1 r).b < (E.n : Int) := by
    intro r
    unfold cellAt
    rw [List.getD_eq_getElem?_getD]
    by_cases hr : r.toNat < s.hs.1.length
    · rw [List.getElem?_eq_getElem hr]
      have h1 := hd.hh.ok.refs _ (List.getElem_mem hr)
      have h2 := hd.hh.x.cell _ (List.getElem_mem hr)
      rw [hN] at h1
      exact ⟨h2.lowA, h1.1, h2.lowB, h1.2⟩
    · rw [List.getElem?_eq_none (by omega)]
      simp only [Option.getD_none, noRC]
      omega
  by_cases e1 : i.op = 1
  · simp only [doesS, e1, if_true]
    exact ⟨push0 _ (by simp), hd.hh, hd.rd⟩
  by_cases e2 : i.op = 2 ∨ i.op = 3 ∨ i.op = 4 ∨ i.op = 5 ∨ i.op = 6 ∨ i.op = 18
  · simp only [doesS, if_neg e1, if_pos e2]
    exact ⟨push _ _ (by simp), hd.hh, hd.rd⟩
  by_cases e7 : i.op = 7
  · simp only [doesS, if_neg e1, if_neg e2, if_pos e7]
    refine ⟨push0 _ ?_, hd.hh, hd.rd⟩
    have hn := he.wf.arg i hc.mem (.inl e7)
    have hnl : i.n < s.lo.length := by omega
    rw [List.getD_eq_getElem?_getD, List.getElem?_eq_getElem hnl]
    simpa using hlo (List.getElem_mem hnl)
  by_cases e8 : i.op = 8
  · simp only [doesS, if_neg e1, if_neg e2, if_neg e7, if_pos e8]
    have hp : 0 < s.st.length := by
      have := hc.ok
      unfold afterV at this
      rw [if_neg e7, if_pos e8, size_flag] at this
      by_cases hk : s.st.length < 1
      · rw [if_pos hk] at this; cases this
      · omega
    refine ⟨?_, hd.hh, hd.rd⟩
    intro x hx
    rcases List.mem_append.1 hx with hx | hx
    · rcases List.mem_or_eq_of_mem_set hx with hx | hx
      · exact hlo hx
      · rw [hx]; exact hlen8 hp
    · exact hst (cut_sub hx)
  by_cases e9 : i.op = 9
  · simp only [doesS, if_neg e1, if_neg e2, if_neg e7, if_neg e8, if_pos e9]
    have hp : 0 < s.st.length := by
      have := hc.ok
      unfold afterV at this
      rw [if_neg e7, if_neg e8, if_pos e9, size_flag] at this
      by_cases hk : s.st.length < 1
      · rw [if_pos hk] at this; cases this
      · omega
    refine ⟨push0 _ ?_, hd.hh, hd.rd⟩
    simpa using hlen8 hp
  by_cases e10 : i.op = 10 ∨ i.op = 20
  · simp only [doesS, if_neg e1, if_neg e2, if_neg e7, if_neg e8, if_neg e9, if_pos e10]
    exact ⟨cut 1, hd.hh, hd.rd⟩
  by_cases e11 : i.op = 11
  · simp only [doesS, if_neg e1, if_neg e2, if_neg e7, if_neg e8, if_neg e9, if_neg e10, if_pos e11]
    have hp : 1 < s.st.length := by
      have := hc.ok
      unfold afterV at this
      rw [if_neg e7, if_neg e8, if_neg e9, if_neg (fun e => e10 (.inl e)), if_pos e11, size_flag] at this
      by_cases hk : s.st.length < 2
      · rw [if_pos hk] at this; cases this
      · omega
    refine ⟨push _ _ ?_, hd.hh, hd.rd⟩
    intro x hx
    rcases List.mem_cons.1 hx with rfl | hx
    · exact hlen8 (by omega)
    · rw [List.mem_singleton.1 hx]; exact hlen8 hp
  by_cases e12 : i.op = 12
  · simp only [doesS, if_neg e1, if_neg e2, if_neg e7, if_neg e8, if_neg e9, if_neg e10, if_neg e11, if_pos e12]
    refine ⟨push0 _ ?_, hd.hh, hd.rd⟩
    intro x hx
    rw [List.mem_singleton.1 hx]
    simp only
    omega
  by_cases e21 : i.op = 21
  · simp only [doesS, if_neg e1, if_neg e2, if_neg e7, if_neg e8, if_neg e9, if_neg e10, if_neg e11, if_neg e12, if_pos e21]
    split
    · exact ⟨push0 _ (by simp), hd.hh, by simp only; omega⟩
    · exact ⟨push0 _ (by simp), hd.hh, hd.rd⟩
  by_cases e22 : i.op = 22
  · simp only [doesS, if_neg e1, if_neg e2, if_neg e7, if_neg e8, if_neg e9, if_neg e10, if_neg e11, if_neg e12, if_neg e21, if_pos e22]
    exact ⟨cut 1, hd.hh, hd.rd⟩
  have hstd := hc.std ⟨e7, e8, e9, fun e => e10 (.inl e), e11⟩
  simp only [doesS, if_neg e1, if_neg e2, if_neg e7, if_neg e8, if_neg e9, if_neg e10, if_neg e11, if_neg e12, if_neg e21, if_neg e22]
  have hi : ∀ k : Nat, i.op = k → (i.op : Int) = (k : Int) := fun k e => by rw [e]
  by_cases e13 : i.op = 13
  · simp only [touchS, if_pos e13]
    obtain ⟨c1, c2, _⟩ := hcell (.inl e13)
    refine ⟨push0 _ ?_, hd.hh, hd.rd⟩
    intro x hx
    rw [List.mem_singleton.1 hx]
    simp only
    omega
  by_cases e23 : i.op = 23
  · simp only [touchS, if_neg e13, if_pos e23]
    obtain ⟨c1, c2, d, c3⟩ := hcell (.inr e23)
    obtain ⟨hp, hf⟩ := hstd.one (c := 114) (by rw [e23]; rfl)
    refine ⟨push _ _ ?_, hd.hh.weak _ _ (hlen8 hp (letB_r hf)) ?_, hd.rd⟩
    · intro x hx
      rw [List.mem_singleton.1 hx]
      simp only
      omega
    · intro c hcc
      rw [c3] at hcc
      cases hcc
      exact ⟨rfl, rfl, rfl⟩
  by_cases e14 : i.op = 14 ∨ i.op = 24
  · simp only [touchS, if_neg e13, if_neg e23, if_pos e14]
    refine ⟨push _ _ ?_, hd.hh, hd.rd⟩
    have := crefs (lastW s.st 0).2
    intro x hx
    rw [List.mem_singleton.1 hx]
    simp only
    split <;> omega
  by_cases e16 : i.op = 16
  · simp only [touchS, if_neg e13, if_neg e23, if_neg e14, if_pos e16]
    exact ⟨push _ _ (by simp), hd.hh, hd.rd⟩
  by_cases e17 : i.op = 17
  · simp only [touchS, if_neg e13, if_neg e23, if_neg e14, if_neg e16, if_pos e17]
    obtain ⟨hp, hf, _⟩ := hstd.two (c := 114) (d := 105) (by rw [e17]; rfl)
    have hr := hlen8 hp (letB_r hf)
    have hw : wantsC s.hs.1 (lastW s.st 1).2 false = 0 := by rw [← hends, hi 17 e17]; rfl
    obtain ⟨_, hl, hwk⟩ := wantsC_zero hw (by rw [hN]; exact hr.2)
    refine ⟨cut 2, hd.hh.note _ _ ?_, hd.rd⟩
    intro c hcc
    rw [List.getElem?_eq_getElem hl] at hcc
    cases hcc
    exact hwk
  by_cases e15 : i.op = 15
  · simp only [touchS, if_neg e13, if_neg e23, if_neg e14, if_neg e16, if_neg e17, if_pos e15]
    obtain ⟨hp, hf, hf2⟩ := hstd.two (c := 114) (d := 114) (by rw [e15]; rfl)
    have hr := hlen8 hp (letB_r hf)
    have hw : wantsC s.hs.1 (lastW s.st 1).2 false = 0 := by rw [← hends, hi 15 e15]; rfl
    obtain ⟨_, hl, hwk⟩ := wantsC_zero hw (by rw [hN]; exact hr.2)
    refine ⟨cut 2, hd.hh.store _ _ _ (hlen8 (by omega) (letB_r hf2)) ?_, hd.rd⟩
    intro c hcc
    rw [List.getElem?_eq_getElem hl] at hcc
    cases hcc
    exact hwk
  simp only [touchS, if_neg e13, if_neg e23, if_neg e14, if_neg e16, if_neg e17, if_neg e15]
  exact hd
theorem does_oc (E : Env) (i : Ins) (cell : Int) (s : MS) : (doesS E i cell s).oc = s.oc ∧ (doesS E i cell s).va = s.va := by
  unfold doesS touchS
  exact ⟨by simp only [apply_ite MS.oc, ite_self], by simp only [apply_ite MS.va, ite_self]⟩
theorem go_ok {E : Env} (he : EnvOk E) {s s' : MS} {i : Ins} (h : MInv E s) (hc : CanI E s i) (h0 : i.op ≠ 0) (hd : DoneOk E s') (hs : s' = { s with hs := s'.hs }) (hends : endsC s'.hs.1 s'.st i.op = 0) (cell : Int) (hcell : i.op = 13 ∨ i.op = 23 → 0 ≤ cell ∧ cell < (E.n : Int) ∧ ∃ d, s'.hs.1[cell.toNat]? = some (freshC d)) : MInv E (goS E i cell s') := by
  have hlo : s'.lo = s.lo := by rw [hs]
  have hst : s'.st = s.st := by rw [hs]
  have hat : s'.at_ = s.at_ := by rw [hs]
  have hoc : s'.oc = s.oc := by rw [hs]
  have hc' : CanI E s' i := ⟨by rw [hat]; exact hc.get, by rw [hlo, hst]; exact hc.ok, by rw [hlo, hst]; exact hc.le⟩
  have hd' := does_ok he (by rw [hlo]; exact h.lo he) hd hc' hends cell hcell
  have hm : MInv E s' := ⟨by
    have e : ptOf s' = ptOf s := by unfold ptOf; rw [hlo, hst, hat]
    rw [e]; exact h.reach, hd.refs, hd.hh.ok, hd.hh.x, hd.hh.len, hd.rd, by rw [hoc]; exact h.oc⟩
  obtain ⟨f1, f2⟩ := does_flags he hm hc' h0 cell
  refine ⟨?_, hd'.refs, hd'.hh.ok, hd'.hh.x, hd'.hh.len, hd'.rd, by
    show (doesS E i cell s').oc ≤ 5
    rw [(does_oc E i cell s').1, hoc]; exact h.oc⟩
  have hi : E.l[(ptOf s').at_]? = some i := hc'.get
  have hsp := stepP_eq (l := E.l) (p := ptOf s') hi
  rw [if_neg (show ¬ ((afterV (ptOf s').lo (ptOf s').st i.op i.n).2.2 = false ∨ 8 < (afterV (ptOf s').lo (ptOf s').st i.op i.n).2.1.size) by
    simp only [not_or, Bool.not_eq_false, Nat.not_lt]
    exact ⟨hc'.ok, hc'.le⟩)] at hsp
  refine hm.reach.step hsp ?_
  have ept : ptOf (goS E i cell s') = ⟨toS E i s', (afterV (ptOf s').lo (ptOf s').st i.op i.n).1, (afterV (ptOf s').lo (ptOf s').st i.op i.n).2.1⟩ := by
    show (⟨toS E i s', flagB (doesS E i cell s').lo, flagB (doesS E i cell s').st⟩ : Pt) = _
    rw [f1, f2]
    rfl
  rw [ept, List.mem_append]
  unfold toS
  by_cases hj : i.op = 19 ∨ i.op = 20 ∧ (lastW s'.st 0).2 ≠ 0
  · left
    rw [if_pos hj, if_pos (by unfold isJump; rcases hj with e | ⟨e, _⟩ <;> simp [e])]
    exact List.mem_singleton.2 rfl
  · right
    rw [if_neg hj, if_pos ⟨h0, fun e => hj (.inl e)⟩]
    exact List.mem_singleton.2 rfl
theorem endsC_take {cs cs' : List RC} {st : List (Bool × Int)} {op : Nat} (h : op = 13 ∨ op = 23) : endsC cs st op = endsC cs' st op := by
  rcases h with rfl | rfl <;> rfl
theorem MInv.step {E : Env} (he : EnvOk E) {s : MS} (h : MInv E s) : MInv E (stepS E s) := by
  obtain ⟨i, hc⟩ := h.can he
  unfold stepS
  rw [hc.get]
  simp only
  unfold stepI
  have hr := endsC_range (cs := s.hs.1) (st := s.st) (op := i.op)
  by_cases h1 : endsC s.hs.1 s.st i.op = 1
  · rw [if_pos h1]
    exact ⟨h.reach, h.refs, h.hok, h.hx, h.n, h.rd, by simp⟩
  rw [if_neg h1]
  by_cases h2' : endsC s.hs.1 s.st i.op ≠ 0
  · rw [if_pos h2']
    exact ⟨h.reach, h.refs, h.hok, h.hx, h.n, h.rd, by simp only; omega⟩
  rw [if_neg h2']
  have h2 : endsC s.hs.1 s.st i.op = 0 := by omega
  have h0 : i.op ≠ 0 := by
    have := endsC_halt h1
    omega
  by_cases ht : i.op = 13 ∨ i.op = 23
  · rw [if_pos ht]
    obtain ⟨t1, t2, t3⟩ := h.hh.take (rootsS E s)
    by_cases hn : (takeC (rootsS E s) s.hs).1 < 0
    · rw [if_pos hn]
      exact ⟨h.reach, h.refs, t1.ok, t1.x, t1.len, h.rd, by simp⟩
    · rw [if_neg hn]
      refine go_ok he (s := s) (s' := { s with hs := (takeC (rootsS E s) s.hs).2 }) h hc h0 ⟨h.refs, t1, h.rd⟩ rfl ?_ _ (fun _ => ⟨by omega, t2, take_fresh _ hn⟩)
      rw [← h2]
      exact endsC_take ht
  · rw [if_neg ht]
    exact go_ok he h hc h0 ⟨h.refs, h.hh, h.rd⟩ rfl h2 _ (fun e => absurd e ht)
end Go.Proofs.YtdmdpindonghdaaGreatDoor
namespace Go.Proofs.YtdmdpindonghdaaGreatDoor
open Go.RowKit
theorem decGo_n0 (t : ByteArray) (locals : Nat) : ∀ f p l, decGo t locals f p = some l → ∀ i ∈ l, takesB i.op = false → i.n = 0 := by
  intro f
  induction f with
  | zero => intro p l h; simp [decGo] at h; subst h; intro i hi; simp at hi
  | succ f ih =>
    intro p l h
    simp only [decGo] at h
    by_cases hp : p < t.size
    · rw [if_pos hp] at h
      by_cases hq : (behindP t p locals).1 = 0
      · rw [if_pos hq] at h; cases h
      · rw [if_neg hq] at h
        cases hr : decGo t locals f (behindP t p locals).1 with
        | none => rw [hr] at h; cases h
        | some r =>
          rw [hr] at h
          simp only [Option.map_some, Option.some.injEq] at h
          subst h
          intro i hi ht
          simp only [List.mem_cons] at hi
          rcases hi with rfl | hi
          · show (behindP t p locals).2 = 0
            simp only at ht
            by_cases h24 : 24 < byteAt t p
            · exfalso; apply hq; simp [behindP, behindQ, h24]
            · simp [behindP, behindQ, h24, ht]
          · exact ih _ _ hr i hi ht
    · rw [if_neg hp] at h; simp at h; subst h; intro i hi; simp at hi
theorem code_n0 {s : ByteArray} (h : errOf s = 0) : ∀ i ∈ codeOf s, takesB i.op = false → i.n = 0 := by
  obtain ⟨_, hd, _, _⟩ := errOf_zero h
  exact decGo_n0 _ _ _ _ _ hd
/-- The surroundings of a machine of the image. -/
def envOf (s : ByteArray) (fs : List Fr) (zs : List Int) (n : Nat) : Env := ⟨codeOf s, byteAt s 1, mapsF (codeOf s) fs (byteAt s 1), zs, n⟩
theorem cov_tys {l : List Ins} {L : Nat} {fs : List Fr} (hw : Wf l L) (hinv : SetInv l L fs) (hst : Still l fs) {p : Pt} (hp : Reach l L p) : ∃ m : MP, (mapsF l fs L)[p.at_]? = some m ∧ m.reached = true ∧ m.st = codes p.st ∧ m.lo.length = L ∧ ∀ j, j < L → m.lo.getD j 0 = lk p.lo j ∨ m.lo.getD j 0 = 2 := by
  have hok := reach_ok hw hp
  obtain ⟨f, hf, hc⟩ := still_all hw hinv.ok hst hinv.cov hp
  have hlt := hok.at_
  have hfok := hinv.ok f (List.mem_of_getElem? hf)
  have h4 := hw.loc
  obtain ⟨i, hi⟩ : ∃ i, l[p.at_]? = some i := ⟨_, List.getElem?_eq_getElem hlt⟩
  refine ⟨ptF i.place f L, ?_, ?_, ?_, ?_, ?_⟩
  · unfold mapsF
    rw [List.getElem?_zipWith, hi, hf]
  · unfold ptF; rw [if_pos hc.reached]
  · unfold ptF; rw [if_pos hc.reached]; exact stk_codes hc.sk
  · unfold ptF; rw [if_pos hc.reached]
    have := hfok.lo
    simp only [List.length_take]
    omega
  · intro j hj
    unfold ptF; rw [if_pos hc.reached]
    have := hc.lo j (by omega)
    rw [List.getD_eq_getElem?_getD, List.getElem?_take, if_pos hj, ← List.getD_eq_getElem?_getD]
    exact this
theorem env_okL {l : List Ins} {L : Nat} {fs : List Fr} {zs : List Int} {n : Nat} (hw : Wf l L) (hwt : WT l L) (hn0 : ∀ i ∈ l, takesB i.op = false → i.n = 0) (hinv : SetInv l L fs) (hst : Still l fs) (h1 : 1 ≤ n) (h2 : n ≤ 32) : EnvOk ⟨l, L, mapsF l fs L, zs, n⟩ := by
  have hlen := hinv.len
  refine ⟨hw, hwt, hn0, by simp [mapsF]; omega, ?_, fun p hp => cov_tys hw hinv hst hp, h1, h2⟩
  intro k i m hi hm
  simp only [mapsF] at hi hm
  rw [List.getElem?_zipWith, hi] at hm
  cases hf : fs[k]? with
  | none => rw [hf] at hm; simp at hm
  | some f =>
    rw [hf] at hm
    simp only [Option.some.injEq] at hm
    subst hm
    unfold ptF
    split <;> rfl
theorem env_ok {s : ByteArray} {fs : List Fr} {zs : List Int} {n : Nat} (he : errOf s = 0) (hwt : WT (codeOf s) (byteAt s 1)) (hinv : SetInv (codeOf s) (byteAt s 1) fs) (hst : Still (codeOf s) fs) (h1 : 1 ≤ n) (h2 : n ≤ 32) : EnvOk (envOf s fs zs n) :=
  env_okL (wf_of he) hwt (code_n0 he) hinv hst h1 h2
theorem start_pt {L n : Nat} (h : L ≤ 4) : ptOf (startS L n) = initP L := by
  have hl : flagB (List.replicate L (false, 0)) = (initP L).lo := by
    apply flag_ext
    show _ = tl ((⟨#[105, 105, 105, 105]⟩ : ByteArray).extract 0 L)
    rw [tl_extract]
    match L, h with
    | 0, _ => rfl
    | 1, _ => rfl
    | 2, _ => rfl
    | 3, _ => rfl
    | 4, _ => rfl
  unfold ptOf startS
  rw [hl]
  rfl
theorem start_inv_m {E : Env} (he : EnvOk E) : MInv E (startS E.L E.n) := by
  have h1 := he.n1
  have h2 := he.n32
  refine ⟨?_, ?_, ⟨?_, ?_, ?_, ?_, ?_, ?_⟩, ⟨?_, ?_⟩, ?_, Nat.zero_le _, Nat.zero_le _⟩
  · rw [start_pt he.wf.loc]; exact Reach.init _ _
  · intro x hx hb
    simp only [startS, List.append_nil] at hx
    rw [List.eq_of_mem_replicate hx] at hb
    cases hb
  · simp only [startS, List.length_replicate]; omega
  · simp only [startS, List.length_replicate]; omega
  · intro c hc
    simp only [startS] at hc
    rw [List.eq_of_mem_replicate hc]
    simp only [startS, List.length_replicate]
    omega
  · simp [startS]
  · intro e; simp [startS] at e
  · intro _; rfl
  · intro c hc
    simp only [startS] at hc
    rw [List.eq_of_mem_replicate hc]
    exact .blank
  · intro e; simp [startS] at e
  · simp [startS]
end Go.Proofs.YtdmdpindonghdaaGreatDoor
namespace Go.Proofs.YtdmdpindonghdaaGreatDoor
open Go.RowKit
/-- The surroundings of the program's machine. -/
structure KE (K : PK) (E : Env) : Prop where
  l : K.l = E.l
  L : K.L = E.L
  zs : K.zs = E.zs
  ms : mapsF K.l K.fs K.L = E.ms
/-- Nothing but the blocks of F, and new ones, has turned. -/
structure Touch (F : Nat → Prop) (w w' : World) : Prop where
  os : w'.os = w.os
  tape : w'.tape = w.tape
  output : w'.output = w.output
  size : w.heap.size ≤ w'.heap.size
  block : ∀ k, k < w.heap.size → ¬ F k → w'.heap[k]? = w.heap[k]?
theorem Touch.refl (F : Nat → Prop) (w : World) : Touch F w w := ⟨rfl, rfl, rfl, Nat.le_refl _, fun _ _ _ => rfl⟩
theorem Touch.trans {F G : Nat → Prop} {w1 w2 w3 : World} (h : Touch F w1 w2) (g : Touch G w2 w3) (hg : ∀ k, k < w1.heap.size → G k → F k) : Touch F w1 w3 :=
  ⟨g.os.trans h.os, g.tape.trans h.tape, g.output.trans h.output, Nat.le_trans h.size g.size, fun k hk hf => (g.block k (Nat.lt_of_lt_of_le hk h.size) (fun e => hf (hg k hk e))).trans (h.block k hk hf)⟩
theorem Touch.below {F : Nat → Prop} {w w' : World} (h : Below w.heap.size w w') : Touch F w w' := ⟨h.os, h.tape, h.output, h.size, fun k hk _ => h.block k hk⟩
theorem Touch.two {F : Nat → Prop} {a b : Nat} {w w' : World} (h : Two a b w w') (ha : F a) (hb : F b) : Touch F w w' := ⟨h.os, h.tape, h.output, h.size, fun k hk hf => h.block k hk (fun e => hf (e ▸ ha)) (fun e => hf (e ▸ hb))⟩
theorem Touch.mono {F G : Nat → Prop} {w w' : World} (h : Touch F w w') (hg : ∀ k, k < w.heap.size → F k → G k) : Touch G w w' := ⟨h.os, h.tape, h.output, h.size, fun k hk hf => h.block k hk (fun e => hf (hg k hk e))⟩
/-- The program's machine in memory; its blocks are among F's. -/
def PX (w : World) (K : PK) (F : Nat → Prop) (s : MS) : Prop := ∃ vI vO lo4 st8, PM w K vI vO lo4 st8 s ∧ ∀ k, K.In vO k → F k
theorem PX.keep {w w' : World} {K : PK} {F : Nat → Prop} {s : MS} (h : PX w K F s) (hz : w.heap.size ≤ w'.heap.size) (hk : ∀ k, k < w.heap.size → F k → w'.heap[k]? = w.heap[k]?) : PX w' K F s := by
  obtain ⟨vI, vO, lo4, st8, h1, h2⟩ := h
  exact ⟨vI, vO, lo4, st8, h1.keep hz (fun k hk1 hk2 => hk k hk1 (h2 k hk2)), h2⟩
theorem PX.below {w w' : World} {K : PK} {F : Nat → Prop} {s : MS} (h : PX w K F s) (hb : Below w.heap.size w w') : PX w' K F s := h.keep hb.size (fun k hk _ => hb.block k hk)
theorem PX.mono {w : World} {K : PK} {F G : Nat → Prop} {s : MS} (h : PX w K F s) (hg : ∀ k, F k → G k) : PX w K G s := by
  obtain ⟨vI, vO, lo4, st8, h1, h2⟩ := h
  exact ⟨vI, vO, lo4, st8, h1, fun k hk => hg k (h2 k hk)⟩
theorem slotsF_eq {tys : List Nat} {held : List Int} {ws : List (Bool × Int)} (hl : tys.length = ws.length) (hh : held.take ws.length = ws.map (·.2)) (hle : ws.length ≤ held.length) : slotsF tys held = slotsC tys ws := by
  apply List.ext_getElem
  · simp [slotsF, slotsC]; omega
  · intro k h1 h2
    have hk : k < tys.length := by simpa [slotsF] using h1
    have hkw : k < ws.length := by omega
    have hg : held.getD k 0 = ws[k].2 := by
      have e := congrArg (fun l => l[k]?) hh
      simp only [List.getElem?_take, if_pos hkw, List.getElem?_map, List.getElem?_eq_getElem hkw, Option.map_some] at e
      rw [List.getD_eq_getElem?_getD, e]
      rfl
    simp only [slotsF, slotsC, List.getElem_mapIdx, List.getElem_zipWith]
    unfold slotAt slotV
    rw [hg]
    by_cases e2 : tys[k] = 2
    · rw [if_pos e2, if_neg (by simp [e2])]
    · rw [if_neg e2, if_pos ⟨e2, by omega⟩]
theorem ptF_of {l : List Ins} {fs : List Fr} {L k : Nat} {m : MP} (h : (mapsF l fs L)[k]? = some m) (hr : m.reached = true) : ∃ i f, l[k]? = some i ∧ fs[k]? = some f ∧ m.place = i.place ∧ m.lo = f.lo.take L ∧ m.st = f.stk.take f.depth := by
  unfold mapsF at h
  rw [List.getElem?_zipWith] at h
  cases hi : l[k]? with
  | none => rw [hi] at h; simp at h
  | some i =>
    cases hf : fs[k]? with
    | none => rw [hi, hf] at h; simp at h
    | some f =>
      rw [hi, hf] at h
      simp only [Option.some.injEq] at h
      subst h
      by_cases e : f.reached = true
      · unfold ptF
        rw [if_pos e]
        exact ⟨i, f, rfl, rfl, rfl, rfl, rfl⟩
      · unfold ptF at hr
        rw [if_neg e] at hr
        cases hr
theorem pstate_m {w : World} {K : PK} {E : Env} {vI vO : Value} {lo4 st8 : List Int} {s : MS} (h : PM w K vI vO lo4 st8 s) (hke : KE K E) (he : EnvOk E) (hi : MInv E s) {i : Ins} (hg : E.l[s.at_]? = some i) :
    Calls Tryz.prog 60 #[.pointer (some ⟨K.b, 0, none⟩)] w (PStatePost s.oc s.va i.place s.hs.2.1 s.hs.2.2 (locsS E s) (stkS E s) w) := by
  obtain ⟨m, hm⟩ := hi.tys he
  have hm' := hm.get
  rw [← hke.ms] at hm'
  obtain ⟨i', f, e1, e2, e3, e4, e5⟩ := ptF_of hm' hm.reached
  rw [hke.l, hg] at e1
  cases e1
  have hfo := h.fok f (List.mem_of_getElem? e2)
  have hst := pstate_any h (i := i) (f := f) (by rw [hke.l]; exact hg) e2
  have q1 : slotsF (f.lo.take K.L) lo4 = locsS E s := by
    unfold locsS tysAt
    rw [hm.get]
    simp only
    rw [← e4]
    refine slotsF_eq hm.lol ?_ ?_
    · rw [h.lol]; exact h.lo
    · rw [h.lol, h.l4]; exact h.L4
  have q2 : slotsF (f.stk.take f.depth) st8 = stkS E s := by
    unfold stkS tysAt
    rw [hm.get]
    simp only
    rw [← e5]
    refine slotsF_eq ?_ h.st ?_
    · rw [hm.st, List.length_map]
    · rw [h.l8]; exact h.stl
  rw [q1, q2] at hst
  exact hst
end Go.Proofs.YtdmdpindonghdaaGreatDoor
namespace Go.Proofs.YtdmdpindonghdaaGreatDoor
open Go.RowKit
/-- The room of a list; a row of a block, its type. -/
structure CK where
  cap : Nat
  row : Array Value
  ty : TypeId
/-- The program's heap: its cells in block gC, phase and hand in block b. -/
structure PH (w : World) (b gC : Nat) (cC : CK) (base : Nat) (cs : List Cl) (ph hd : Nat) : Prop where
  c0 : w.cell? ⟨b, 21, none⟩ = some (.slice (some ⟨gC, 0, none⟩) cs.length cC.cap)
  c1 : w.cell? ⟨b, 22, none⟩ = some (.int .i64 ph)
  c2 : w.cell? ⟨b, 23, none⟩ = some (.int .i64 hd)
  f1 : w.frozen? ⟨b, 22, none⟩ = false
  f2 : w.frozen? ⟨b, 23, none⟩ = false
  row : w.ownsRow base 100 5 (.slice (some ⟨gC, 0, none⟩) cs.length cC.cap) cs.length (cs.flatMap clCells)
  ne : b ≠ gC
  blk : w.heap[b]? = some (.cells ((cC.row.setIfInBounds 22 (.int .i64 ph)).setIfInBounds 23 (.int .i64 hd)) cC.ty)
theorem PH.cell {w : World} {b gC : Nat} {cC : CK} {base ph hd : Nat} {cs : List Cl} (h : PH w b gC cC base cs ph hd) {k j : Nat} (hk : k < cs.length) (hj : j < 5) : w.cell? ⟨gC, k * 5 + j, none⟩ = (clCells cs[k])[j]? := by
  rw [World.ownsRow.cellAt h.row (k * 5 + j) (by omega)]
  exact flat_at clCells 5 (fun _ => rfl) cs k j hk hj
theorem PH.frozen {w : World} {b gC : Nat} {cC : CK} {base ph hd : Nat} {cs : List Cl} (h : PH w b gC cC base cs ph hd) (j : Nat) : w.frozen? ⟨gC, j, none⟩ = false := World.ownsRow.frozenAt h.row j
/-- A field of a cell is written. -/
theorem PH.upd {w : World} {b gC : Nat} {cC : CK} {base ph hd k j : Nat} {cs : List Cl} {c : Cl} {v : Value} (h : PH w b gC cC base cs ph hd) (hk : k < cs.length) (hj : j < 5) (e : clCells c = (clCells cs[k]).set j v) : PH (w.setCell ⟨gC, k * 5 + j, none⟩ v) b gC cC base (cs.set k c) ph hd := by
  have hb : (w.setCell ⟨gC, k * 5 + j, none⟩ v).heap[b]? = w.heap[b]? := Below.heap_setCell _ _ _ _ h.ne
  have hc : ∀ o, (w.setCell ⟨gC, k * 5 + j, none⟩ v).cell? ⟨b, o, none⟩ = w.cell? ⟨b, o, none⟩ := fun o => World.cell?_of_block (a := ⟨b, o, none⟩) hb
  have hf : ∀ o, (w.setCell ⟨gC, k * 5 + j, none⟩ v).frozen? ⟨b, o, none⟩ = w.frozen? ⟨b, o, none⟩ := fun o => World.frozen?_of_block (a := ⟨b, o, none⟩) hb
  have hr := owns_cell (n := k * 5 + j) h.row v
  rw [flat_set clCells 5 (fun _ => rfl) cs k j c v hk hj e] at hr
  refine ⟨?_, (hc _).trans h.c1, (hc _).trans h.c2, (hf _).trans h.f1, (hf _).trans h.f2, ?_, h.ne, hb.trans h.blk⟩
  · rw [hc, List.length_set]; exact h.c0
  · rw [List.length_set]; exact hr
theorem PH.below {w w' : World} {b gC : Nat} {cC : CK} {base ph hd : Nat} {cs : List Cl} (h : PH w b gC cC base cs ph hd) (hb : Below w.heap.size w w') : PH w' b gC cC base cs ph hd := by
  have h1 := World.block_lt_of_cell? w _ h.c0
  simp only at h1
  exact ⟨(hb.cell (p := ⟨b, 21, none⟩) h1).trans h.c0, (hb.cell (p := ⟨b, 22, none⟩) h1).trans h.c1, (hb.cell (p := ⟨b, 23, none⟩) h1).trans h.c2, (hb.frozen (p := ⟨b, 22, none⟩) h1).trans h.f1, (hb.frozen (p := ⟨b, 23, none⟩) h1).trans h.f2, owns_keep h.row (fun g hg => hb.block g (h.row.lt g hg).2), h.ne, (hb.block b h1).trans h.blk⟩
theorem PH.drew {w : World} {b gC : Nat} {cC : CK} {base ph hd : Nat} {cs : List Cl} (h : PH w b gC cC base cs ph hd) : PH w.drew b gC cC base cs ph hd := h.below ⟨rfl, rfl, rfl, Nat.le_refl _, fun _ _ => rfl⟩
theorem row_23 (r : Array Value) (a b c : Value) : ((r.setIfInBounds 22 a).setIfInBounds 23 b).setIfInBounds 23 c = (r.setIfInBounds 22 a).setIfInBounds 23 c := by
  apply Array.toList_inj.1
  simp only [Array.toList_setIfInBounds]
  rw [List.set_set]
theorem PH.hand {w : World} {b gC : Nat} {cC : CK} {base ph hd : Nat} {cs : List Cl} (h : PH w b gC cC base cs ph hd) (p : Nat) : PH (w.setCell ⟨b, 23, none⟩ (.int .i64 p)) b gC cC base cs ph p := by
  have hg : (w.setCell ⟨b, 23, none⟩ (.int .i64 (p : Int))).heap[gC]? = w.heap[gC]? := Below.heap_setCell _ _ _ _ (fun e => h.ne e.symm)
  exact ⟨(World.cell?_setCell_other _ _ _ _ (by simp)).trans h.c0, (World.cell?_setCell_other _ _ _ _ (by simp)).trans h.c1, World.cell?_setCell_same _ _ _ h.c2, (World.frozen?_setCell _ _ _ _).trans h.f1, (World.frozen?_setCell _ _ _ _).trans h.f2, owns_keep h.row (fun g e => by
    have : gC = g := by simpa [Value.ownBlock] using e
    subst this; exact hg), h.ne, by rw [← row_23 cC.row (.int .i64 ph) (.int .i64 hd) (.int .i64 p)]; exact setCell_row 23 _ h.blk⟩
end Go.Proofs.YtdmdpindonghdaaGreatDoor
namespace Go.Proofs.YtdmdpindonghdaaGreatDoor
open Go.RowKit
/-- A whole cell is written. -/
theorem PH.put {w : World} {b gC : Nat} {cC : CK} {base ph hd k : Nat} {cs : List Cl} (h : PH w b gC cC base cs ph hd) (hk : k < cs.length) (co : Nat) (wk : Bool) (a e n : Int) : PH (((((w.setCell ⟨gC, k * 5, none⟩ (.int .i64 co)).setCell ⟨gC, k * 5 + 1, none⟩ (.bool wk)).setCell ⟨gC, k * 5 + 2, none⟩ (.int .i64 a)).setCell ⟨gC, k * 5 + 3, none⟩ (.int .i64 e)).setCell ⟨gC, k * 5 + 4, none⟩ (.int .i64 n)) b gC cC base (cs.set k ⟨co, wk, a, e, n⟩) ph hd := by
  have h0 := h.upd (k := k) (j := 0) (c := ⟨co, cs[k].weak, cs[k].a, cs[k].b, cs[k].num⟩) (v := .int .i64 co) hk (by omega) rfl
  have h1 := h0.upd (k := k) (j := 1) (c := ⟨co, wk, cs[k].a, cs[k].b, cs[k].num⟩) (v := .bool wk) (by simpa using hk) (by omega) (by simp [clCells])
  have h2 := h1.upd (k := k) (j := 2) (c := ⟨co, wk, a, cs[k].b, cs[k].num⟩) (v := .int .i64 a) (by simpa using hk) (by omega) (by simp [clCells])
  have h3 := h2.upd (k := k) (j := 3) (c := ⟨co, wk, a, e, cs[k].num⟩) (v := .int .i64 e) (by simpa using hk) (by omega) (by simp [clCells])
  have h4 := h3.upd (k := k) (j := 4) (c := ⟨co, wk, a, e, n⟩) (v := .int .i64 n) (by simpa using hk) (by omega) (by simp [clCells])
  rw [List.set_set, List.set_set, List.set_set, List.set_set, Nat.add_zero] at h4
  exact h4
theorem Only.put {gC k : Nat} {w W : World} (h : Only gC w W) (v0 v1 v2 v3 v4 : Value) : Only gC w (((((W.setCell ⟨gC, k * 5, none⟩ v0).setCell ⟨gC, k * 5 + 1, none⟩ v1).setCell ⟨gC, k * 5 + 2, none⟩ v2).setCell ⟨gC, k * 5 + 3, none⟩ v3).setCell ⟨gC, k * 5 + 4, none⟩ v4) := ((((h.set _ _).set _ _).set _ _).set _ _).set _ _
theorem Two.put {b gC k : Nat} {w W : World} (h : Two b gC w W) (v0 v1 v2 v3 v4 : Value) : Two b gC w (((((W.setCell ⟨gC, k * 5, none⟩ v0).setCell ⟨gC, k * 5 + 1, none⟩ v1).setCell ⟨gC, k * 5 + 2, none⟩ v2).setCell ⟨gC, k * 5 + 3, none⟩ v3).setCell ⟨gC, k * 5 + 4, none⟩ v4) := ((((h.setB _ _).setB _ _).setB _ _).setB _ _).setB _ _
set_option maxRecDepth 100000 in
theorem plainCell_any (w : World) : Calls Tryz.prog 72 #[] w fun e w' => e = .returned (.agg #[.int .i64 0, .bool false, .int .i64 (-1), .int .i64 (-1), .int .i64 0]) ∧ Below w.heap.size w w' := by
  go_enter Tryz.func72, Tryz.ntmps72
  go_wp2_with fail
  refine bodyPost_ret (v := .agg #[.int .i64 0, .bool false, .int .i64 (-1), .int .i64 (-1), .int .i64 0]) (by simp [results, Tryz.results72, go_sem]) rfl ⟨rfl, ?_⟩
  exact (Below.refl _ _).alloc (Nat.le_refl _) _
end Go.Proofs.YtdmdpindonghdaaGreatDoor
namespace Go.Proofs.YtdmdpindonghdaaGreatDoor
open Go.RowKit
theorem RefsAt.only {w w' : World} {gC : Nat} {v : Value} {rs : List Int} (h : RefsAt w gC v rs) (ho : Only gC w w') : RefsAt w' gC v rs := by
  rcases h with h | ⟨a, ca, hv, hne, hlt, hc⟩
  · exact .inl h
  · refine .inr ⟨a, ca, hv, hne, by rw [ho.size]; exact hlt, fun j x hj => ?_⟩
    have hbl : (a.add j).block = a.block := by unfold Addr.add; split <;> rfl
    exact (World.cell?_of_block (a := a.add j) (ho.block _ (by rw [hbl]; exact hne))).trans (hc j x hj)
end Go.Proofs.YtdmdpindonghdaaGreatDoor
namespace Go.Proofs.YtdmdpindonghdaaGreatDoor
open Go.RowKit
/-- The program's heap in memory, in the words of the reference's cells. -/
def PHR (w : World) (b gC : Nat) (cC : CK) (base : Nat) (h : HSt) : Prop := PH w b gC cC base (h.1.map toldC) h.2.1 h.2.2
end Go.Proofs.YtdmdpindonghdaaGreatDoor
namespace Go.Proofs.YtdmdpindonghdaaGreatDoor
open Go.RowKit
theorem PHR.of {w : World} {b gC : Nat} {cC : CK} {base : Nat} {cs : List Cl} {cs' : List RC} {ph hd : Nat} (h : PH w b gC cC base cs ph hd) (e : cs = cs'.map toldC) : PHR w b gC cC base (cs', ph, hd) := by
  subst e; exact h
end Go.Proofs.YtdmdpindonghdaaGreatDoor
namespace Go.Proofs.YtdmdpindonghdaaGreatDoor
open Go.RowKit
theorem PHR.cell {w : World} {b gC : Nat} {cC : CK} {base : Nat} {hs : HSt} (h : PHR w b gC cC base hs) {k j : Nat} (hk : k < hs.1.length) (hj : j < 5) : w.cell? ⟨gC, k * 5 + j, none⟩ = (clCells (toldC hs.1[k]))[j]? := by
  have := PH.cell h (k := k) (j := j) (by simpa using hk) hj
  rw [List.getElem_map] at this
  exact this
theorem PHR.c0 {w : World} {b gC : Nat} {cC : CK} {base : Nat} {hs : HSt} (h : PHR w b gC cC base hs) : w.cell? ⟨b, 21, none⟩ = some (.slice (some ⟨gC, 0, none⟩) hs.1.length cC.cap) := by
  have := PH.c0 h
  rw [List.length_map] at this
  exact this
end Go.Proofs.YtdmdpindonghdaaGreatDoor
namespace Go.Proofs.YtdmdpindonghdaaGreatDoor
open Go.RowKit
def HNewPost (n : Nat) (w : World) (e : Ending) (w' : World) : Prop :=
  Below w.heap.size w w' ∧ ∃ v, e = .returned (.agg #[v, .int .i64 0, .int .i64 0]) ∧ w'.ownsRow w.heap.size 100 5 v n ((List.replicate n blankL).flatMap clCells)
set_option maxRecDepth 100000 in
set_option maxHeartbeats 4000000 in
theorem hnew_any (n : Nat) (w : World) (hn : n ≤ 32) : Calls Tryz.prog 42 #[.int .i64 n] w (HNewPost n w) := by
  obtain ⟨i0, hi0, hz0, hz1, hz2⟩ := info_parts cellInfo
  have hpc := hid (fun W => plainCell_any W)
  go_enter Tryz.func42, Tryz.ntmps42
  go_wp2_with fail
  go_loopg [4] n (fun g x w' => ∃ (k : Nat) (v : Value), k ≤ n ∧ g = n - k ∧ x = .int .i64 k ∧ w'.heap[w.heap.size + 1]? = some (.cells #[v, .int .i64 0, .int .i64 0] 72) ∧ w'.heap[w.heap.size]? = some (.cells #[.slice none 0 0, .int .i64 0, .int .i64 0] 72) ∧ Below w.heap.size w w' ∧ w'.ownsRow (w.heap.size + 2) 100 5 v k ((List.replicate k blankL).flatMap clCells))
  case atStart => exact ⟨0, .slice none 0 0, by omega, by omega, rfl, heap_two_new w _ _, heap_two_first w _ _, ((Below.refl _ _).alloc (Nat.le_refl _) _).alloc (by simp) _, World.ownsRow_nil _ _ _ _⟩
  case round =>
    obtain ⟨k, v, hk, hg, rfl, hrow, hres, hbel, hown⟩ := hrel
    obtain ⟨pv, cv, ev⟩ := (LsAt.of_owns hown).slice
    subst ev
    have hz : w.heap.size + 1 < wr.heap.size := (Array.getElem?_eq_some_iff.1 hrow).1
    have HB := hid hbel
    rcases Nat.lt_or_ge k n with hlt | hge
    · have d1 : (k : Int) < (n : Int) := by omega
      have c0 := cell_of_row wr (w.heap.size + 1) 0 _ _ _ hrow
      simp only [List.getElem?_toArray, List.getElem?_cons_zero] at c0
      have hp := hid (hpc.out wr.drew)
      have KEEP : Hid (∀ w9, Below wr.drew.heap.size wr.drew w9 → w9.cell? ⟨w.heap.size + 1, 0, none⟩ = some (.slice pv k cv) ∧ w9.frozen? ⟨w.heap.size + 1, 0, none⟩ = false ∧ w9.ownsRow (w.heap.size + 2) 100 5 (.slice pv k cv) k ((List.replicate k blankL).flatMap clCells) ∧ w.heap.size + 1 < w9.heap.size ∧ w9.heap[w.heap.size + 1]? = some (.cells #[.slice pv k cv, .int .i64 0, .int .i64 0] 72) ∧ w9.heap[w.heap.size]? = some (.cells #[.slice none 0 0, .int .i64 0, .int .i64 0] 72) ∧ Below w.heap.size w w9) := hid (fun w9 hb => by
        have r9 := (hb.block (w.heap.size + 1) (show w.heap.size + 1 < wr.heap.size from hz)).trans hrow
        refine ⟨cell_of_row w9 _ 0 _ _ _ r9, frozen_of_row w9 _ 0 _ _ r9, owns_keep hown (fun g hg => hb.block g (hown.lt g hg).2), (Array.getElem?_eq_some_iff.1 r9).1, r9, (hb.block w.heap.size (show w.heap.size < wr.heap.size by omega)).trans hres, (show Below w.heap.size w wr.drew from ⟨hbel.os, hbel.tape, hbel.output, hbel.size, hbel.block⟩).trans (hb.mono (show w.heap.size ≤ wr.heap.size by omega))⟩)
      have hfar : some (w.heap.size + 1) ≠ (Value.slice pv k cv).ownBlock := fun e => by
        have := (hown.lt _ e.symm).1
        omega
      go_wp2_with fail
      go_region_law
        ((first
          | (refine step_append_lies _ (by rfl) _ _ _ (by rfl) (w.heap.size + 2) 100 i0 _ 5 40 Tryz.underlying70 hi0 hz0 hz1 hz2 rfl (by omega) _ k ((List.replicate k blankL).flatMap clCells) (by rfl) (o9.alloc _)
              ⟨w9.heap.size, 0, none⟩ 1 1 [.int .i64 0, .bool false, .int .i64 (-1), .int .i64 (-1), .int .i64 0] (by rfl) (by rfl) (World.news_of_block (cs := #[.int .i64 0, .bool false, .int .i64 (-1), .int .i64 (-1), .int .i64 0]) (t := 100) (fr := (0, 0)) (heap_alloc_new w9 _)) (by simp [Value.oneCell'])
              (by omega) (by unfold maxLen; omega) (by omega) (by simp; omega) (w9.heap.size + 1) (by simp) ?_; intro gg gcap w6 hown6 hgrow6 hat6 hlt6; obtain ⟨c6, f6⟩ := cell6b hgrow6 (b := w.heap.size + 1) (by omega) hfar 0; rw [a9] at c6; rw [f9] at f6)
          | (go_simp; go_at_call 72; refine hp.out.mono ?_; intro x w9 hh9; obtain ⟨hx9, hB9⟩ := hh9; subst hx9; obtain ⟨a9, f9, o9, z9, r9, q9, b9⟩ := KEEP.out w9 hB9; have R9 := hid r9; have Q9 := hid q9; have B9 := hid b9; clear r9 q9 b9; dsimp only)
          | fail))
      all_goals
        have HO6 := hid hown6
        have HG6 := hid hgrow6
        have HZ9 := hid z9
        have HLO := hid (fun g hg => (hown.lt g hg).1)
        have ROW6 : Hid (w6.heap[w.heap.size + 1]? = some (.cells #[.slice pv k cv, .int .i64 0, .int .i64 0] 72)) := hid ((hgrow6.block (w.heap.size + 1) (by simp; omega) hfar).trans ((Below.heap_alloc _ _ _ z9).trans R9.out))
        have RES6 : Hid (w6.heap[w.heap.size]? = some (.cells #[.slice none 0 0, .int .i64 0, .int .i64 0] 72)) := hid ((hgrow6.block w.heap.size (by simp; omega) (fun e => by have := (hown.lt _ e.symm).1; omega)).trans ((Below.heap_alloc _ _ _ (by omega)).trans Q9.out))
        clear hown6 hgrow6 hat6 hlt6 c6 f6 a9 f9 o9 KEEP hp hbel hrow hres c0 hown
        go_wp2_with fail
        go_roundg (n - (k + 1))
        case measure => omega
        case rel =>
          refine ⟨k + 1, .slice (some ⟨gg, 0, none⟩) (k + 1) gcap, by omega, rfl, by go_num, ?_, ?_, ?_, ?_⟩
          · have := setCell_row 0 (.slice (some ⟨gg, 0, none⟩) (k + 1) gcap) ROW6.out
            simpa using this
          · rw [Below.heap_setCell _ _ _ _ (by simp)]
            exact RES6.out
          · exact (((B9.out.alloc (by have := HZ9.out; omega) _).grown HG6.out (by simp; have := HZ9.out; omega) (fun g hg => by have := HLO.out g hg; omega)).setCell (by simp only; omega) _)
          · have h6 := HO6.out
            have e : (List.replicate (k + 1) blankL).flatMap clCells = (List.replicate k blankL).flatMap clCells ++ [.int .i64 0, .bool false, .int .i64 (-1), .int .i64 (-1), .int .i64 0] := by
              rw [List.replicate_succ', List.flatMap_append]
              rfl
            rw [e]
            exact owns_set h6 (fun e => by have := (h6.lt _ e).1; simp only at this; omega) _
    · have d1 : ¬ (k : Int) < (n : Int) := by omega
      have hkn : k = n := by omega
      subst hkn
      have c0 := cell_of_row wr (w.heap.size + 1) 0 _ _ _ hrow
      have c1 := cell_of_row wr (w.heap.size + 1) 1 _ _ _ hrow
      have c2 := cell_of_row wr (w.heap.size + 1) 2 _ _ _ hrow
      have e0 := cell_of_row wr w.heap.size 0 _ _ _ hres
      have e1 := cell_of_row wr w.heap.size 1 _ _ _ hres
      have e2 := cell_of_row wr w.heap.size 2 _ _ _ hres
      have f0 := frozen_of_row wr w.heap.size 0 _ _ hres
      have f1 := frozen_of_row wr w.heap.size 1 _ _ hres
      have f2 := frozen_of_row wr w.heap.size 2 _ _ hres
      simp only [List.getElem?_toArray, List.getElem?_cons_zero, List.getElem?_cons_succ] at c0 c1 c2 e0 e1 e2
      have HO := hid hown
      clear hown hbel hrow hres
      go_wp2_with fail
      refine bodyPost_ret (v := .agg #[.slice pv k cv, .int .i64 0, .int .i64 0]) (by simp [results, Tryz.results42, go_sem, e0, e1, e2]) rfl ⟨((HB.out.setCell (Nat.le_refl _) _).setCell (Nat.le_refl _) _).setCell (Nat.le_refl _) _, _, rfl, ?_⟩
      have hne : ∀ j : Nat, (Value.slice pv k cv).ownBlock ≠ some (⟨w.heap.size, j, none⟩ : Addr).block := fun j e => by have := (HO.out.lt _ e).1; simp only at this; omega
      exact owns_mono (owns_set (owns_set (owns_set HO.out (hne 0) _) (hne 1) _) (hne 2) _) (by omega)
end Go.Proofs.YtdmdpindonghdaaGreatDoor
namespace Go.Proofs.YtdmdpindonghdaaGreatDoor
open Go.RowKit
set_option maxRecDepth 100000 in
set_option maxHeartbeats 1000000 in
theorem pnew_bad (s : ByteArray) (vi : Value) (zs : List Int) (cells : Int) (w : World) (hs : s.size ≤ maxLen) (ht : FlowTab w) (hv : ZsAt w vi zs) (r : Nat) (hr : r ≠ 0) (he : NewErr s zs.length cells r) :
    Calls Tryz.prog 21 #[.string s, vi, .int .i64 cells] w fun e w' => e = .returned (.tuple #[.pointer none, .int .i64 r]) ∧ Below w.heap.size w w' := by
  obtain ⟨p0, c0, e0⟩ := hv.slice
  subst e0
  have hld := hid (tload_any s w hs ht)
  clear hs ht hv
  go_enter Tryz.func21, Tryz.ntmps21
  go_wp2_with fail
  refine hld.out.mono ?_
  clear hld
  intro x w1 hp
  obtain ⟨hb, hp⟩ := hp
  have HB := hid hb
  clear hb
  rcases hp with ⟨r1, hr1, he1, hx⟩ | ⟨g, cap, bf, fs, hx, hL⟩
  · subst x
    have e : r1 = r := by
      rcases he with ⟨_, h2⟩ | ⟨h1, _⟩ | ⟨h1, _⟩ | ⟨h1, _⟩
      · exact he1.unique h2
      · exact absurd (he1.unique h1) hr1
      · exact absurd (he1.unique h1) hr1
      · exact absurd (he1.unique h1) hr1
    subst e
    have hne : ((r1 : Int) != 0) = true := by simp; omega
    clear he he1
    go_wp2_with fail
    exact bodyPost_ret (v := .tuple #[.pointer none, .int .i64 r1]) (by simp [results, Tryz.results21, go_sem]) rfl ⟨rfl, HB.out.alloc HB.out.size _⟩
  · subst x
    have he1 : IsErr s 0 := .inr (.inl ⟨hL.err, hL.wt, rfl⟩)
    clear hL
    rcases he with ⟨_, h2⟩ | ⟨h1, h2, h3⟩ | ⟨h1, h2, h3, h4, h5⟩ | ⟨h1, h2, h3, h4, h5⟩
    · exact absurd (h2.unique he1) hr
    · subst h3
      clear he1 h1 hr
      by_cases h2' : cells < 1
      · go_wp2_with fail
        exact bodyPost_ret (v := .tuple #[.pointer none, .int .i64 6]) (by simp [results, Tryz.results21, go_sem]) rfl ⟨rfl, HB.out.alloc HB.out.size _⟩
      · have h3 : 32 < cells := by omega
        clear h2
        go_wp2_with fail
        exact bodyPost_ret (v := .tuple #[.pointer none, .int .i64 6]) (by simp [results, Tryz.results21, go_sem]) rfl ⟨rfl, HB.out.alloc HB.out.size _⟩
    · subst h5
      have h2' : ¬ cells < 1 := by omega
      have h3' : ¬ 32 < cells := by omega
      have h4' : (64 : Int) < (zs.length : Int) := by omega
      clear he1 h1 hr
      go_wp2_with fail
      exact bodyPost_ret (v := .tuple #[.pointer none, .int .i64 7]) (by simp [results, Tryz.results21, go_sem]) rfl ⟨rfl, HB.out.alloc HB.out.size _⟩
    · exact absurd h5 hr
/-- What New answers where it makes a machine. -/
structure PNew (s : ByteArray) (zs : List Int) (n : Nat) (w w' : World) (K : PK) : Prop where
  below : Below w.heap.size w w'
  A : K.A = w.heap.size
  B4 : K.B4 = w'.heap.size
  l : K.l = codeOf s
  L : K.L = byteAt s 1
  z : K.zs = zs
  err : errOf s = 0
  wt : WT (codeOf s) (byteAt s 1)
  inv : SetInv (codeOf s) (byteAt s 1) K.fs
  still : Still (codeOf s) K.fs
  m : ∃ vI, PM w' K vI (.slice none 0 0) [0, 0, 0, 0] [0, 0, 0, 0, 0, 0, 0, 0] (startS (byteAt s 1) n)
def PNewPost (s : ByteArray) (zs : List Int) (n : Nat) (w : World) (e : Ending) (w' : World) : Prop := ∃ K, e = .returned (.tuple #[.pointer (some ⟨K.b, 0, none⟩), .int .i64 0]) ∧ PNew s zs n w w' K
theorem told_blank (n : Nat) : (List.replicate n (⟨false, false, false, false, -1, -1, 0⟩ : RC)).map toldC = List.replicate n blankL := by rw [List.map_replicate]; rfl
theorem CiAt.keep {w w' : World} {g : Nat} {l : List CI} (h : CiAt w g l) (hb : Below w.heap.size w w') (hg : g < w.heap.size) : CiAt w' g l := h.same (hb.block g hg)
def newRow (L g len cap bf : Nat) (pI : Option Addr) (zl cI : Nat) (pC : Option Addr) (n cC : Nat) : Array Value := #[.int .i64 L, .slice (some ⟨g, 0, none⟩) len cap, .slice (some ⟨bf, 0, none⟩) len len, .slice pI zl cI, .slice none 0 0, .int .i64 0, .int .i64 0, .int .i64 0, .int .i64 0, .int .i64 0, .int .i64 0, .int .i64 0, .int .i64 0, .int .i64 0, .int .i64 0, .int .i64 0, .int .i64 0, .int .i64 0, .int .i64 0, .int .i64 0, .int .i64 0, .slice pC n cC, .int .i64 0, .int .i64 0]
theorem pnew_make {s : ByteArray} {zs : List Int} {n : Nat} {w w1 w2 w9 : World} {g cap bf cI cC : Nat} {fs : List Fr} {pI pC : Option Addr} {o : Obj} (hL : Loaded s w w1 g cap bf fs) (hb : Below w.heap.size w w1) (hb2 : Below (w1.alloc o).heap.size (w1.alloc o) w2) (hoI : w2.ownsRow (w1.alloc o).heap.size 3 1 (.slice pI zs.length cI) zs.length (zs.map (.int .i64)))
    (hb9 : Below w2.drew.heap.size w2.drew w9) (ho9 : w9.ownsRow w2.drew.heap.size 100 5 (.slice pC n cC) n ((List.replicate n blankL).flatMap clCells)) (hn : 1 ≤ n) :
    ∃ K : PK, K.b = w9.heap.size ∧ PNew s zs n w (w9.alloc (.cells (newRow (byteAt s 1) g (codeOf s).length cap bf pI zs.length cI pC n cC) 74)) K := by
  have hw := wf_of hL.err
  have z1 : (w1.alloc o).heap.size = w1.heap.size + 1 := alloc_size _ _
  have z2 := hb2.size
  have z9 : w2.heap.size ≤ w9.heap.size := hb9.size
  have z0 := hb.size
  have hbf : bf < w1.heap.size := (Array.getElem?_eq_some_iff.1 hL.all).1
  have hg2 := hL.g2
  have hg1 := hL.g1
  have hbf1 := hL.b1
  obtain ⟨gC, hgC, hgClt⟩ : ∃ gC, pC = some ⟨gC, 0, none⟩ ∧ w2.heap.size ≤ gC := by
    rcases ho9.2 with ⟨_, e⟩ | ⟨gC, cap', cur, hv, hg, _⟩
    · omega
    · injection hv with a1 a2 a3
      exact ⟨gC, a1, hg⟩
  subst hgC
  have hgC9 := (ho9.lt gC rfl).2
  have hB1 : Below w1.heap.size w1 (w1.alloc o) := (Below.refl _ _).alloc (Nat.le_refl _) _
  have hB12 : Below w1.heap.size w1 w2 := hB1.trans (hb2.mono (by omega))
  have hB2d : Below w1.heap.size w1 w2.drew := ⟨hB12.os, hB12.tape, hB12.output, hB12.size, hB12.block⟩
  have hB19 : Below w1.heap.size w1 w9 := hB2d.trans (hb9.mono (by show w1.heap.size ≤ w2.heap.size; omega))
  have hB1W : Below w1.heap.size w1 (w9.alloc (.cells (newRow (byteAt s 1) g (codeOf s).length cap bf pI zs.length cI (some ⟨gC, 0, none⟩) n cC) 74)) := hB19.alloc (by omega) _
  have hB9W : Below w9.heap.size w9 (w9.alloc (.cells (newRow (byteAt s 1) g (codeOf s).length cap bf pI zs.length cI (some ⟨gC, 0, none⟩) n cC) 74)) := (Below.refl _ _).alloc (Nat.le_refl _) _
  have hzW : (w9.alloc (.cells (newRow (byteAt s 1) g (codeOf s).length cap bf pI zs.length cI (some ⟨gC, 0, none⟩) n cC) 74)).heap.size = w9.heap.size + 1 := alloc_size _ _
  have hrow := heap_alloc_new w9 (.cells (newRow (byteAt s 1) g (codeOf s).length cap bf pI zs.length cI (some ⟨gC, 0, none⟩) n cC) 74)
  generalize w9.alloc (.cells (newRow (byteAt s 1) g (codeOf s).length cap bf pI zs.length cI (some ⟨gC, 0, none⟩) n cC) 74) = W at *
  have hIo : W.ownsRow (w1.alloc o).heap.size 3 1 (.slice pI zs.length cI) zs.length (zs.map (.int .i64)) := owns_keep hoI (fun g' hg' => by
    have h2 := (hoI.lt g' hg').2
    exact (hB9W.block g' (by omega)).trans (hb9.block g' h2))
  refine ⟨⟨w9.heap.size, g, cap, bf, gC, cC, w.heap.size, W.heap.size, codeOf s, byteAt s 1, fs, zs⟩, rfl, ⟨hb.trans (hB1W.mono hb.size), rfl, rfl, rfl, rfl, rfl, hL.err, hL.wt, hL.inv, hL.still, .slice pI zs.length cI, ?_⟩⟩
  refine ⟨?_, rfl, rfl, by simp [startS], ?_, by simp [startS], rfl, hw.loc, by simp only; omega, by simp only; omega, hg1, by simp only; omega, hbf1, by simp only; omega, by simp only; omega, by simp only; omega, Nat.le_refl _, by simp only; omega, by simp only; omega, by simp only; omega, by simp only; omega, by simp only; omega, ?_, ?_, hL.inv.ok, hL.inv.len, hw.len, ?_, ?_, ?_, World.ownsRow_nil _ _ _ _⟩
  · simp only [PK.row, startS, List.map_cons, List.map_nil, List.length_nil, List.cons_append, List.nil_append, List.length_replicate]
    exact hrow
  · have h4 := hw.loc
    simp only [startS, List.map_replicate]
    match byteAt s 1, h4 with
    | 0, _ => rfl
    | 1, _ => rfl
    | 2, _ => rfl
    | 3, _ => rfl
    | 4, _ => rfl
  · exact hL.ci.keep hB1W hg2
  · exact (hB1W.block bf hbf).trans hL.all
  · simp only [startS, List.length_replicate, told_blank]
    exact owns_mono (owns_keep ho9 (fun g' hg' => hB9W.block g' (ho9.lt g' hg').2)) (show w.heap.size ≤ w2.heap.size by omega)
  · simp only [startS, List.drop_zero]
    exact zs_of_owns hIo
  · intro a n' c e
    injection e with e1 e2 e3
    subst e1
    rcases hIo.2 with ⟨e, _⟩ | ⟨g', cap', cur, hv, hg', r⟩
    · cases e
    · injection hv with a1 a2 a3
      injection a1 with a1
      subst a1
      have h2 := (hoI.lt g' rfl).2
      have h3 := r.2.1
      simp only
      exact ⟨by omega, by omega, by omega, by omega, by omega, g', 0, rfl⟩
set_option maxRecDepth 100000 in
set_option maxHeartbeats 4000000 in
theorem pnew_ok (s : ByteArray) (vi : Value) (zs : List Int) (n : Nat) (w : World) (hs : s.size ≤ maxLen) (ht : FlowTab w) (hv : ArgInts w vi zs) (he : NewErr s zs.length (n : Int) 0) :
    Calls Tryz.prog 21 #[.string s, vi, .int .i64 n] w (PNewPost s zs n w) := by
  obtain ⟨h1, h2, h3, h4⟩ : IsErr s 0 ∧ 1 ≤ (n : Int) ∧ (n : Int) ≤ 32 ∧ zs.length ≤ 64 := by
    rcases he with ⟨h, _⟩ | ⟨_, _, h⟩ | ⟨_, _, _, _, h⟩ | ⟨h1, h2, h3, h4, _⟩
    · exact absurd rfl h
    · cases h
    · cases h
    · exact ⟨h1, h2, h3, h4⟩
  have h2' : ¬ (n : Int) < 1 := by omega
  have h3' : ¬ 32 < (n : Int) := by omega
  have h4' : ¬ (64 : Int) < (zs.length : Int) := by omega
  have hld := hid (tload_any s w hs ht)
  have hcp := hid (fun (W : World) (hb : Below w.heap.size w W) => copied_any zs vi W (hv.zs hb) (by omega))
  have hhn := hid (fun (W : World) => hnew_any n W (by omega))
  obtain ⟨p0, c0, e0⟩ := hv.slice
  subst e0
  clear hs ht hv he h2 h3
  go_enter Tryz.func21, Tryz.ntmps21
  go_wp2_with fail
  refine hld.out.mono ?_
  clear hld
  intro x w1 hp
  obtain ⟨hb, hp⟩ := hp
  rcases hp with ⟨r1, hr1, he1, hx⟩ | ⟨g, cap, bf, fs, hx, hL⟩
  · exact absurd (he1.unique h1) hr1
  subst x
  have hb1 : Below w.heap.size w (w1.alloc (.cells #[.int .i64 (byteAt s 1 : Nat), .slice (some ⟨g, 0, none⟩) (codeOf s).length cap] 64)) := hb.alloc hb.size _
  have hc1 := hid (hcp.out _ hb1)
  have hq0 := cell_of_row _ w1.heap.size 0 _ _ _ (heap_alloc_new w1 (.cells #[.int .i64 (byteAt s 1 : Nat), .slice (some ⟨g, 0, none⟩) (codeOf s).length cap] 64))
  have HL := hid hL
  have HB := hid hb
  have HB1 := hid hb1
  clear hcp hb hb1 hL
  generalize hlen : (codeOf s).length = len at *
  generalize hLL : byteAt s 1 = L at *
  have HLEN := hid hlen
  have HLL := hid hLL
  clear hlen hLL
  go_wp2_with fail
  refine hc1.out.mono ?_
  clear hc1
  intro x w2 hp
  obtain ⟨hb2, vI, hx, hoI⟩ := hp
  subst x
  have hW : Hid (∀ o : Obj, (w1.alloc o).heap.size = w1.heap.size + 1) := hid (fun o => alloc_size _ _)
  have hsz := hW.out (.cells #[.int .i64 (L : Nat), .slice (some ⟨g, 0, none⟩) len cap] 64)
  have q0 := (hb2.cell (p := ⟨w1.heap.size, 0, none⟩) (by simp only; omega)).trans hq0
  have q1 := (hb2.cell (p := ⟨w1.heap.size, 1, none⟩) (by simp only; omega)).trans (cell_of_row _ w1.heap.size 1 _ _ _ (heap_alloc_new w1 (.cells #[.int .i64 (L : Nat), .slice (some ⟨g, 0, none⟩) len cap] 64)))
  obtain ⟨pI, cI, eI⟩ := (LsAt.of_owns hoI).slice
  subst eI
  have hh := hid (hhn.out w2.drew)
  have HO := hid hoI
  have HB2 := hid hb2
  simp only [List.getElem?_toArray, List.getElem?_cons_zero, List.getElem?_cons_succ] at q0 q1
  have hw12 : w1.heap.size < w2.heap.size := by have := hb2.size; omega
  have KEEP : Hid (∀ w9, Below w2.drew.heap.size w2.drew w9 → w9.cell? ⟨w1.heap.size, 0, none⟩ = some (.int .i64 L) ∧ w9.cell? ⟨w1.heap.size, 1, none⟩ = some (.slice (some ⟨g, 0, none⟩) len cap)) := hid (fun w9 hb => ⟨(hb.cell (p := ⟨w1.heap.size, 0, none⟩) (show w1.heap.size < w2.heap.size from hw12)).trans q0, (hb.cell (p := ⟨w1.heap.size, 1, none⟩) (show w1.heap.size < w2.heap.size from hw12)).trans q1⟩)
  clear hhn hoI hb2 hq0
  go_wp2_with fail
  go_region_law ((go_simp; go_at_call 42; refine hh.out.mono ?_; intro x w9 hp; obtain ⟨hB9, vC, hx9, ho9⟩ := hp; subst hx9; obtain ⟨pC, cC, eC⟩ := (LsAt.of_owns ho9).slice; subst eC; obtain ⟨k0, k1⟩ := KEEP.out w9 hB9; dsimp only))
  all_goals
    have HO9 := hid ho9
    have HB9 := hid hB9
    clear ho9 hB9 k0 k1 q0 q1 KEEP hh
    go_wp2_with fail
    have hlen := HLEN.out
    have hLL := HLL.out
    subst hlen
    subst hLL
    obtain ⟨K, hK, hP⟩ := pnew_make HL.out HB.out HB2.out HO.out HB9.out HO9.out (by omega)
    refine bodyPost_ret (v := .tuple #[.pointer (some ⟨w9.heap.size, 0, none⟩), .int .i64 0]) (by simp [results, Tryz.results21, go_sem]) rfl ⟨K, by rw [hK], hP⟩
end Go.Proofs.YtdmdpindonghdaaGreatDoor
namespace Go.Proofs.YtdmdpindonghdaaGreatDoor
open Go.RowKit
theorem Grew.trans {b o : Nat} {v v1 v2 : Value} {w w1 w2 : World} (h : Grew b o v v1 w w1) (g : Grew b o v1 v2 w1 w2) : Grew b o v v2 w w2 where
  os := g.os.trans h.os
  tape := g.tape.trans h.tape
  output := g.output.trans h.output
  size := Nat.le_trans h.size g.size
  block k hk h1 h2 := by
    have hs := h.size
    rw [g.block k (by omega) h1 (fun e => ?_), h.block k hk h1 h2]
    rcases h.own k e.symm with e' | e'
    · exact h2 e'.symm
    · omega
  own x hx := by
    rcases g.own x hx with e | e
    · exact h.own x e
    · exact .inr (Nat.le_trans h.size e)
  home r t hr := by
    rw [g.home _ t (h.home r t hr)]
    rw [Array.setIfInBounds_setIfInBounds]
end Go.Proofs.YtdmdpindonghdaaGreatDoor
namespace Go.Proofs.YtdmdpindonghdaaGreatDoor
open Go.RowKit
attribute [local go_sem] run_fieldW
theorem WdsAt.lt {w : World} {b o base : Nat} {v : Value} {ws : List (Bool × Int)} (h : WdsAt w b o base v ws) : b < w.heap.size := by
  have := World.block_lt_of_cell? w _ h.cell
  simpa using this
theorem WdsAt.below {w w' : World} {b o base : Nat} {v : Value} {ws : List (Bool × Int)} (h : WdsAt w b o base v ws) (hb : Below w.heap.size w w') : WdsAt w' b o base v ws :=
  ⟨(hb.cell (p := ⟨b, o, none⟩) h.lt).trans h.cell, (hb.frozen (p := ⟨b, o, none⟩) h.lt).trans h.thaw, owns_keep h.row (fun g hg => hb.block g (h.row.lt g hg).2), h.far⟩
theorem PushPost.trans {b base : Nat} {v v1 : Value} {ws : List (Bool × Int)} {w w1 w2 : World} {e : Ending} (h : Grew b 9 v v1 w w1) (g : PushPost b base v1 ws w1 e w2) : PushPost b base v ws w e w2 := by
  obtain ⟨he, v', h1, h2⟩ := g
  exact ⟨he, v', h1, h.trans h2⟩
end Go.Proofs.YtdmdpindonghdaaGreatDoor
namespace Go.Proofs.YtdmdpindonghdaaGreatDoor
open Go.RowKit
attribute [local go_sem] run_fieldW
theorem WdsAt.two {w w' : World} {b o base g : Nat} {v : Value} {ws : List (Bool × Int)} (h : WdsAt w b o base v ws) (ht : Two g g w w') (hb : b ≠ g) (hg : some g ≠ v.ownBlock) : WdsAt w' b o base v ws := by
  have e := ht.block b h.lt hb hb
  refine ⟨(World.cell?_of_block (a := ⟨b, o, none⟩) e).trans h.cell, (World.frozen?_of_block (a := ⟨b, o, none⟩) e).trans h.thaw, owns_keep h.row (fun g' hg' => ?_), h.far⟩
  have hne : g' ≠ g := fun e => hg (by rw [← e]; exact hg'.symm)
  exact ht.block g' (h.row.lt g' hg').2 hne hne
end Go.Proofs.YtdmdpindonghdaaGreatDoor
namespace Go.Proofs.YtdmdpindonghdaaGreatDoor
open Go.RowKit
attribute [local go_sem] run_fieldW
/-- A list of numbers in field o of block b, owned from base on. -/
structure NumsAt (w : World) (b o base : Nat) (v : Value) (zs : List Int) : Prop where
  cell : w.cell? ⟨b, o, none⟩ = some v
  thaw : w.frozen? ⟨b, o, none⟩ = false
  row : w.ownsRow base 3 1 v zs.length (zs.map (.int .i64))
  far : some b ≠ v.ownBlock
theorem NumsAt.lt {w : World} {b o base : Nat} {v : Value} {zs : List Int} (h : NumsAt w b o base v zs) : b < w.heap.size := by
  have := World.block_lt_of_cell? w _ h.cell
  simpa using this
theorem NumsAt.below {w w' : World} {b o base : Nat} {v : Value} {zs : List Int} (h : NumsAt w b o base v zs) (hb : Below w.heap.size w w') : NumsAt w' b o base v zs :=
  ⟨(hb.cell (p := ⟨b, o, none⟩) h.lt).trans h.cell, (hb.frozen (p := ⟨b, o, none⟩) h.lt).trans h.thaw, owns_keep h.row (fun g hg => hb.block g (h.row.lt g hg).2), h.far⟩
/-- The words of one field where another field's list has grown. -/
theorem WdsAt.grown {w w' : World} {b o o2 base : Nat} {v v2 v2' : Value} {ws : List (Bool × Int)} {r : Array Value} {t : TypeId} (h : WdsAt w b o base v ws) (hr : w.heap[b]? = some (.cells r t)) (hg : Grew b o2 v2 v2' w w') (ho : o2 ≠ o) (hv : v.ownBlock = none ∨ v.ownBlock ≠ v2.ownBlock) : WdsAt w' b o base v ws := by
  have hr' := hg.home r t hr
  have hc := h.cell
  have hf := h.thaw
  refine ⟨?_, ?_, owns_keep h.row (fun g' hg' => ?_), h.far⟩
  · unfold World.cell? at hc ⊢
    simp only [hr, hr'] at hc ⊢
    rw [Array.getElem?_setIfInBounds_ne ho]
    exact hc
  · unfold World.frozen? at hf ⊢
    simp only [hr, hr'] at hf ⊢
    exact hf
  · refine hg.block g' (h.row.lt g' hg').2 (fun e => h.far (by rw [hg', e])) (fun e => ?_)
    rcases hv with e2 | e2
    · rw [e2] at hg'; cases hg'
    · exact e2 (hg'.trans e)
end Go.Proofs.YtdmdpindonghdaaGreatDoor
namespace Go.Proofs.YtdmdpindonghdaaGreatDoor
open Go.RowKit
theorem pts_slice {w : World} {base : Nat} {v : Value} {ms : List MP} (h : OwnPts w base v ms) : ∃ p cap, v = .slice p ms.length cap := by
  obtain ⟨cs, h1, _⟩ := h
  exact owns_slice h1
theorem IntsAt.heap {w W : World} {P : Nat → Prop} {v : Value} {l : List Nat} (h : IntsAt w P v l) (e : W.heap = w.heap) : IntsAt W P v l := h.keep (fun _ hg => ⟨hg, by rw [e]⟩)
theorem OwnPts.heap {w W : World} {base : Nat} {v : Value} {ms : List MP} (h : OwnPts w base v ms) (e : W.heap = w.heap) : OwnPts W base v ms := by
  obtain ⟨cs, h1, h2⟩ := h
  exact ⟨cs, owns_keep h1 (fun _ _ => by rw [e]), PtsIn.keep (fun g hg => ⟨⟨hg.1, by rw [e]; exact hg.2.1, hg.2.2⟩, by rw [e]⟩) _ _ h2⟩
end Go.Proofs.YtdmdpindonghdaaGreatDoor
namespace Go.Proofs.YtdmdpindonghdaaGreatDoor
open Go.RowKit
/-- A list of points in blocks from lo on and below hi. -/
def OwnIn (w : World) (lo hi : Nat) (v : Value) (ms : List MP) : Prop :=
  ∃ cs, w.ownsRow lo 102 4 v ms.length cs ∧ (∀ g, v.ownBlock = some g → g < hi) ∧ PtsIn w (fun g => lo ≤ g ∧ g < hi ∧ v.ownBlock ≠ some g) cs ms
theorem OwnIn.of {w : World} {base : Nat} {v : Value} {ms : List MP} (h : OwnPts w base v ms) : OwnIn w base w.heap.size v ms := by
  obtain ⟨cs, h1, h2⟩ := h
  exact ⟨cs, h1, fun g hg => (h1.lt g hg).2, h2⟩
theorem OwnIn.keep {w w' : World} {lo hi : Nat} {v : Value} {ms : List MP} (h : OwnIn w lo hi v ms) (hk : ∀ g, lo ≤ g → g < hi → w'.heap[g]? = w.heap[g]?) : OwnIn w' lo hi v ms := by
  obtain ⟨cs, h1, h2, h3⟩ := h
  exact ⟨cs, owns_keep h1 (fun g hg => hk g (h1.lt g hg).1 (h2 g hg)), h2, PtsIn.keep (fun g hg => ⟨hg, hk g hg.1 hg.2.1⟩) _ _ h3⟩
theorem OwnIn.slice {w : World} {lo hi : Nat} {v : Value} {ms : List MP} (h : OwnIn w lo hi v ms) : ∃ p cap, v = .slice p ms.length cap := by
  obtain ⟨cs, h1, _⟩ := h
  exact owns_slice h1
/-- The reference's machine at its beginning. -/
structure RNew (s : ByteArray) (zs : List Int) (cells : Int) (w w' : World) (b : Nat) : Prop where
  below : Below w.heap.size w w'
  ex : ∃ (gL cL gLo : Nat) (vM vI vC : Value) (all : List Pt) (B1 B2 B3 : Nat),
    w'.heap[b]? = some (.cells #[.slice (some ⟨gL, 0, none⟩) (codeOf s).length cL, vM, vI, .int .i64 0, .slice none 0 0, .int .i64 0, .int .i64 0, .int .i64 0, .slice (some ⟨gLo, 0, none⟩) (byteAt s 1) (byteAt s 1), .slice none 0 0, vC, .int .i64 0, .int .i64 0] 82) ∧
    (w.heap.size ≤ gL ∧ gL < gLo ∧ gLo < b ∧ b < B1 ∧ B1 ≤ B2 ∧ B2 ≤ B3 ∧ B3 ≤ w'.heap.size) ∧ InsAt w' gL (codeOf s) ∧ errOf s = 0 ∧ WT (codeOf s) (byteAt s 1) ∧ (∀ p, Reach (codeOf s) (byteAt s 1) p ↔ p ∈ all) ∧
    OwnIn w' B1 B2 vM (toldAll (codeOf s) all) ∧ w'.ownsRow B2 3 1 vI zs.length (zs.map (.int .i64)) ∧ (∀ g, vI.ownBlock = some g → g < B3) ∧
    w'.ownsRow B3 109 7 vC cells.toNat ((List.replicate cells.toNat (⟨false, false, false, false, -1, -1, 0⟩ : RC)).flatMap rcCells) ∧
    w'.heap[gLo]? = some (.cells ((List.replicate (byteAt s 1) (false, (0 : Int))).flatMap wdCells).toArray 116)
theorem run_append_zero {P : Program} (w : World) (t ty e : TypeId) (i : TypeInfo) (ht : P.underlying t = some (.slice e)) (hi : P.info? e = some i) (p : Option Addr) (c : Nat) :
    (Builtin.append_ #[t, t] ty #[.slice none 0 0, .slice p 0 c]).run P w = .ok (.slice none 0 0) w := by
  cases p <;> simp [Builtin.append_, run_underlying ht, sizeOf, typeInfo, hi, Builtin.lenOf, Builtin.firstCells, loadCells, loadCellsFrom]
theorem wpList_append_zero {P : Program} {w : World} {ops : Array Oper} {rest : List Oper} {o : Oper} {a : Act} {Q : Exit → Act → World → Prop} (hgd : o.guard = none) (s x : Operand) (t : TypeId)
    (ho : o.op = .call { callee := .builtin .append, args := #[s, x], argTypes := #[t, t] }) (e : TypeId) (i : TypeInfo) (ht : P.underlying t = some (.slice e)) (hi : P.info? e = some i)
    (p : Option Addr) (c : Nat) (hs : a.eval s = .slice none 0 0) (hx : a.eval x = .slice p 0 c) (h : wpList P ops Q rest (a.put o.dst (.slice none 0 0)) w) : wpList P ops Q (o :: rest) a w := by
  refine wpList_plain hgd fun K hK => ?_
  have hrun := run_append_zero (P := P) w t o.type e i ht hi p c
  unfold Oper.wp
  simp [execOp, ho, resolve, invoke, builtin, hs, hx, hrun, Result.andThen]
  exact hK _ _ h
theorem InsAt.same2 {w w' : World} {g : Nat} {l : List Ins} (h : InsAt w g l) (hb : w'.heap[g]? = w.heap[g]?) : InsAt w' g l := by
  have hc : ∀ o, w'.cell? ⟨g, o, none⟩ = w.cell? ⟨g, o, none⟩ := fun o => World.cell?_of_block (a := ⟨g, o, none⟩) hb
  intro i hi
  obtain ⟨h0, h1, h2⟩ := h i hi
  exact ⟨(hc _).trans h0, (hc _).trans h1, (hc _).trans h2⟩
set_option maxRecDepth 100000 in
set_option maxHeartbeats 1000000 in
theorem rnew_ok (s : ByteArray) (vi : Value) (zs : List Int) (cells : Int) (w : World) (hs : s.size ≤ maxLen) (ht : TakesTab w) (htt : TypeTab w) (hv : ArgInts w vi zs) (he : NewErr s zs.length cells 0) :
    Calls Tryz.prog 22 #[.string s, vi, .int .i64 cells] w fun e w' => ∃ b, e = .returned (.tuple #[.pointer (some ⟨b, 0, none⟩), .int .i64 0]) ∧ RNew s zs cells w w' b := by
  obtain ⟨i0, hi0, hz0, hz1, hz2⟩ := info_parts rcInfo
  obtain ⟨j0, hj0, hy0, hy1, hy2⟩ := info_parts intInfo
  obtain ⟨h0, h1, h2, h3⟩ : IsErr s 0 ∧ 1 ≤ cells ∧ cells ≤ 32 ∧ zs.length ≤ 64 := by
    rcases he with ⟨h, _⟩ | ⟨_, _, h⟩ | ⟨_, _, _, _, h⟩ | ⟨h, h1, h2, h3, _⟩
    · exact absurd rfl h
    · cases h
    · cases h
    · exact ⟨h, h1, h2, h3⟩
  obtain ⟨herr, hwt⟩ : errOf s = 0 ∧ WT (codeOf s) (byteAt s 1) := by
    rcases h0 with ⟨h, h'⟩ | ⟨h, h', _⟩ | ⟨_, _, h⟩
    · exact absurd h'.symm h
    · exact ⟨h, h'⟩
    · cases h
  have hL := (wf_of herr).loc
  have hck := hid (refCheck_any s w hs ht htt)
  have hcd := hid (fun W (hb : Below w.heap.size w W) => code_any s W hs (ht.below hb))
  have hmp := hid (fun W (hb : Below w.heap.size w W) => refMaps_any s W hs (ht.below hb) (htt.below hb))
  have hmk := make_words (byteAt s 1) hL
  have HV := hid hv
  obtain ⟨p0, c0, e0⟩ := hv.slice
  subst e0
  have HERR := hid herr
  have HWT := hid hwt
  have H0 := hid h0
  have g1 : ¬ cells < 1 := by omega
  have g2 : ¬ 32 < cells := by omega
  have g3 : ¬ (64 : Int) < (zs.length : Int) := by omega
  clear hs ht htt hv he herr hwt h0
  go_enter Tryz.func22, Tryz.ntmps22
  go_wp2_with fail
  refine hck.out.mono ?_
  clear hck
  intro x w1 hp
  obtain ⟨hb1, r1, hx, he1⟩ := hp
  have e : r1 = 0 := he1.unique H0.out
  subst e
  subst x
  have HB1 := hid hb1
  have hcd1 := hid (hcd.out w1 hb1)
  clear hb1 he1 hcd
  go_wp2_with fail
  refine hcd1.out.mono ?_
  clear hcd1
  intro x w2 hp
  obtain ⟨hb2, hp⟩ := hp
  rcases hp with ⟨hne, _⟩ | ⟨_, gL, cL, hx, hgL1, hgL2, hins⟩
  · exact absurd HERR.out hne
  subst x
  have HB2 : Hid (Below w.heap.size w w2) := hid (HB1.out.trans (hb2.mono HB1.out.size))
  have HINS := hid hins
  have hgLw : w.heap.size ≤ gL := Nat.le_trans HB1.out.size hgL1
  generalize hLL : byteAt s 1 = L at *
  have HLL := hid hLL
  generalize hl : codeOf s = l at *
  have HLc := hid hl
  clear hb2 hins hLL hl
  go_wp2_with fail
  have hbW : Below w.heap.size w ((w2.alloc (.cells ((List.replicate L (false, (0 : Int))).flatMap wdCells).toArray 116)).alloc (.cells #[.slice (some ⟨gL, 0, none⟩) l.length cL, .slice none 0 0, .slice none 0 0, .int .i64 0, .slice none 0 0, .int .i64 0, .int .i64 0, .int .i64 0, .slice (some ⟨w2.heap.size, 0, none⟩) L L, .slice none 0 0, .slice none 0 0, .int .i64 0, .int .i64 0] 82)) :=
    (HB2.out.alloc HB2.out.size _).alloc (by rw [alloc_size]; have := HB2.out.size; omega) _
  refine (hmp.out _ hbW).mono ?_
  clear hmp hmk hbW
  intro x w4 hp
  obtain ⟨hb4, hp⟩ := hp
  rcases hp with ⟨r, hr, he, _⟩ | ⟨vM, all, hx, _, _, hall, hown⟩
  · exact absurd (he.unique H0.out) hr
  subst x
  rw [HLc.out, HLL.out] at hall
  rw [HLc.out] at hown
  obtain ⟨pM, cM, eM⟩ := pts_slice hown
  have hz4 := hb4.size
  rw [alloc_size, alloc_size] at hz4 hown
  have hrow : w4.heap[w2.heap.size + 1]? = some (.cells #[.slice (some ⟨gL, 0, none⟩) l.length cL, .slice none 0 0, .slice none 0 0, .int .i64 0, .slice none 0 0, .int .i64 0, .int .i64 0, .int .i64 0, .slice (some ⟨w2.heap.size, 0, none⟩) L L, .slice none 0 0, .slice none 0 0, .int .i64 0, .int .i64 0] 82) := by
    rw [hb4.block _ (by rw [alloc_size, alloc_size]; omega)]; exact heap_two_new w2 _ _
  have hwr : w4.heap[w2.heap.size]? = some (.cells ((List.replicate L (false, (0 : Int))).flatMap wdCells).toArray 116) := by
    rw [hb4.block _ (by rw [alloc_size, alloc_size]; omega)]; exact heap_two_first w2 _ _
  have hins4 : InsAt w4 gL l := (HINS.out.same2 ((Below.heap_alloc _ _ _ (by rw [alloc_size]; omega)).trans (Below.heap_alloc _ _ _ hgL2))).same2 (hb4.block gL (by rw [alloc_size, alloc_size]; omega))
  have hbw4 : Below w.heap.size w w4 := ((HB2.out.alloc HB2.out.size _).alloc (by rw [alloc_size]; have := HB2.out.size; omega) _).trans (hb4.mono (by rw [alloc_size, alloc_size]; have := HB2.out.size; omega))
  have m1 := cell_of_row w4 (w2.heap.size + 1) 1 _ _ _ hrow
  have m2 := cell_of_row w4 (w2.heap.size + 1) 2 _ _ _ hrow
  have f1 := frozen_of_row w4 (w2.heap.size + 1) 1 _ _ hrow
  have f2 := frozen_of_row w4 (w2.heap.size + 1) 2 _ _ hrow
  simp only [List.getElem?_toArray, List.getElem?_cons_zero, List.getElem?_cons_succ] at m1 m2
  have HROW := hid hrow
  have HWR := hid hwr
  have HINS4 := hid hins4
  have HB4 := hid hbw4
  have HOWN := hid hown
  have HALL := hid hall
  have h2w := HB2.out.size
  subst eM
  clear hrow hwr hins4 hbw4 hown hall hb4 HINS HB1
  have hblk1 : Hid (∀ k, k ≠ w2.heap.size + 1 → (w4.setCell ⟨w2.heap.size + 1, 1, none⟩ (.slice pM (toldAll l all).length cM)).heap[k]? = w4.heap[k]?) := hid (fun k hk => Below.heap_setCell _ _ _ _ hk)
  have hrow1 : Hid ((w4.setCell ⟨w2.heap.size + 1, 1, none⟩ (.slice pM (toldAll l all).length cM)).heap[w2.heap.size + 1]? = some (.cells #[.slice (some ⟨gL, 0, none⟩) l.length cL, .slice pM (toldAll l all).length cM, .slice none 0 0, .int .i64 0, .slice none 0 0, .int .i64 0, .int .i64 0, .int .i64 0, .slice (some ⟨w2.heap.size, 0, none⟩) L L, .slice none 0 0, .slice none 0 0, .int .i64 0, .int .i64 0] 82)) := hid (setCell_row 1 _ HROW.out)
  have hbel1 : Hid (Below w.heap.size w (w4.setCell ⟨w2.heap.size + 1, 1, none⟩ (.slice pM (toldAll l all).length cM))) := hid (HB4.out.setCell (by simp only; omega) _)
  have hsz1 : (w4.setCell ⟨w2.heap.size + 1, 1, none⟩ (.slice pM (toldAll l all).length cM)).heap.size = w4.heap.size := by simp [World.setCell]
  have HSZ1 := hid hsz1
  clear hsz1
  go_upto_region 11 with fail
  go_cut [] (fun wc => ∃ vI, wc.heap[w2.heap.size + 1]? = some (.cells #[.slice (some ⟨gL, 0, none⟩) l.length cL, .slice pM (toldAll l all).length cM, vI, .int .i64 0, .slice none 0 0, .int .i64 0, .int .i64 0, .int .i64 0, .slice (some ⟨w2.heap.size, 0, none⟩) L L, .slice none 0 0, .slice none 0 0, .int .i64 0, .int .i64 0] 82) ∧
    wc.ownsRow w4.heap.size 3 1 vI zs.length (zs.map (.int .i64)) ∧ (∀ k, k < w4.heap.size → k ≠ w2.heap.size + 1 → wc.heap[k]? = w4.heap[k]?) ∧ Below w.heap.size w wc ∧ w4.heap.size ≤ wc.heap.size)
  case first =>
    by_cases hzs : zs.length = 0
    · have hz0' : zs = [] := List.length_eq_zero_iff.1 hzs
      subst hz0'
      go_wp2_with (at_builtin; go_must (refine wpList_append_zero (by rfl) _ _ _ (by rfl) 3 j0 Tryz.underlying22 hj0 p0 c0 (by rfl) (by rfl) ?_))
      go_meet
      refine ⟨.slice none 0 0, setCell_row 2 _ hrow1.out, World.ownsRow_nil _ _ _ _, fun k _ hk => (Below.heap_setCell _ _ _ _ hk).trans (hblk1.out k hk), hbel1.out.setCell (by simp only; omega) _, by simp [World.setCell]⟩
    · obtain ⟨a, cap, ea, hcell, hab⟩ : ∃ a cap, (Value.slice p0 zs.length c0) = .slice (some a) zs.length cap ∧ (∀ (j : Nat) (x : Int), zs[j]? = some x → w.cell? (a.add j) = some (.int .i64 x)) ∧ a.block < w.heap.size := by
        rcases HV.out with ⟨_, h⟩ | ⟨a, cap, h1, h2, h3⟩
        · exact absurd (by rw [h]; rfl) hzs
        · exact ⟨a, cap, h1, h2, h3 (by omega)⟩
      cases ea
      have hnews : ∀ (j : Nat) (u : Value), (zs.map (Value.int .i64))[j]? = some u → (w4.setCell ⟨w2.heap.size + 1, 1, none⟩ (.slice pM (toldAll l all).length cM)).cell? (a.add j) = some u := fun j u hu => by
        rw [List.getElem?_map] at hu
        cases hj : zs[j]? with
        | none => rw [hj] at hu; cases hu
        | some x =>
          rw [hj] at hu
          simp only [Option.map_some, Option.some.injEq] at hu
          subst hu
          have hbl : (a.add j).block = a.block := by unfold Addr.add; split <;> rfl
          rw [hbel1.out.cell (by rw [hbl]; exact hab)]
          exact hcell j x hj
      have HNEWS := hid hnews
      clear hnews hcell
      have hsz2 := HSZ1.out
      go_wp2_with (at_builtin; go_must (refine wpList_append_lies _ (by rfl) _ _ _ (by rfl) w4.heap.size 3 j0 _ 1 8 Tryz.underlying22 hj0 hy0 hy1 hy2 rfl (by omega) _ 0 [] (by rfl) (World.ownsRow_nil _ _ _ _) a zs.length c0 (zs.map (Value.int .i64)) (by rfl) (by simp) HNEWS.out (by simp [Value.oneCell']) (by omega) (by unfold maxLen; omega) (by omega) (by simp [World.setCell]) _ rfl ?_); intro gg gcap w6 hown6 hgrow6 hat6 hlt6; have r6 := (hgrow6.block (w2.heap.size + 1) (by rw [HSZ1.out]; omega) (by simp [Value.ownBlock])).trans hrow1.out; have c6 := cell_of_row w6 _ 2 _ _ _ r6; have f6 := frozen_of_row w6 _ 2 _ _ r6; simp only [List.getElem?_toArray, List.getElem?_cons_zero, List.getElem?_cons_succ] at c6; have HR6 := hid r6; have HO6 := hid hown6; have HG6 := hid hgrow6; clear r6 hown6 hgrow6)
      go_meet
      have hz6 := HG6.out.size
      rw [HSZ1.out] at hz6
      have hgg := (HO6.out.lt gg rfl).1
      refine ⟨_, setCell_row 2 _ HR6.out, ?_, fun k hk hkb => ?_, ?_, by simp [World.setCell]; omega⟩
      · have h := owns_keep (w' := w6.setCell ⟨w2.heap.size + 1, 2, none⟩ (.slice (some ⟨gg, 0, none⟩) (0 + zs.length) gcap)) HO6.out (fun g hg => by
          have e : gg = g := by simpa [Value.ownBlock] using hg
          exact Below.heap_setCell _ _ _ _ (by simp only; omega))
        simpa using h
      · rw [Below.heap_setCell _ _ _ _ hkb, HG6.out.block k (by rw [HSZ1.out]; exact hk) (by simp [Value.ownBlock]), hblk1.out k hkb]
      · exact (hbel1.out.trans ⟨HG6.out.os, HG6.out.tape, HG6.out.output, HG6.out.size, fun k hk => HG6.out.block k (by rw [HSZ1.out]; omega) (by simp [Value.ownBlock])⟩).setCell (by simp only; omega) _
  case rest =>
    obtain ⟨vI, hrw, howI, hblk, hbl, hsz⟩ := hcut
    obtain ⟨B3, hB3⟩ : ∃ B, B = wc.heap.size := ⟨_, rfl⟩
    have HB3 := hid hB3
    have hsz3 : w4.heap.size ≤ B3 := by rw [hB3]; exact hsz
    have HRW := hid hrw
    have HOI := hid howI
    have HBK := hid hblk
    have HBL := hid hbl
    clear hB3 hrw howI hblk hbl hsz m1 m2 f1 f2
    obtain ⟨cn, hcn⟩ : ∃ cn : Nat, cells = (cn : Int) := ⟨cells.toNat, by omega⟩
    subst hcn
    go_wp2_with fail
    go_loopg [13] cn (fun gk x w' => ∃ (k : Nat) (vC : Value), k ≤ cn ∧ gk = cn - k ∧ x = .int .i64 k ∧ w'.heap[w2.heap.size + 1]? = some (.cells #[.slice (some ⟨gL, 0, none⟩) l.length cL, .slice pM (toldAll l all).length cM, vI, .int .i64 0, .slice none 0 0, .int .i64 0, .int .i64 0, .int .i64 0, .slice (some ⟨w2.heap.size, 0, none⟩) L L, .slice none 0 0, vC, .int .i64 0, .int .i64 0] 82) ∧
      w'.ownsRow B3 109 7 vC k ((List.replicate k (⟨false, false, false, false, -1, -1, 0⟩ : RC)).flatMap rcCells) ∧ (∀ j, j < B3 → j ≠ w2.heap.size + 1 → w'.heap[j]? = wc.heap[j]?) ∧ Below w.heap.size w w' ∧ B3 ≤ w'.heap.size)
    case atStart => exact ⟨0, .slice none 0 0, by omega, by omega, rfl, HRW.out, World.ownsRow_nil _ _ _ _, fun _ _ _ => rfl, HBL.out, by rw [HB3.out]; exact Nat.le_refl _⟩
    case round =>
      obtain ⟨k, vC, hk, hgk, rfl, hrw, how, hblk, hbl, hsz⟩ := hrel
      have HR := hid hrw
      have HK := hid hblk
      have HL := hid hbl
      have m10 := cell_of_row wr _ 10 _ _ _ hrw
      have f10 := frozen_of_row wr _ 10 _ _ hrw
      simp only [List.getElem?_toArray, List.getElem?_cons_zero, List.getElem?_cons_succ] at m10
      have hbz : w2.heap.size + 1 < wr.heap.size := by omega
      clear hrw hblk hbl
      rcases Nat.lt_or_ge k cn with hlt | hge
      · have d1 : (k : Int) < (cn : Int) := by omega
        go_wp2_with (at_builtin; go_must (refine wpList_append_lies _ (by rfl) _ _ _ (by rfl) B3 109 i0 _ 7 32 Tryz.underlying78 hi0 hz0 hz1 hz2 rfl (by omega) _ k ((List.replicate k (⟨false, false, false, false, -1, -1, 0⟩ : RC)).flatMap rcCells) (by rfl) (how.alloc _) ⟨_, 0, none⟩ 1 1 [.bool false, .bool false, .bool false, .bool false, .int .i64 (-1), .int .i64 (-1), .int .i64 0] (by rfl) (by rfl) (World.news_of_block (cs := #[.bool false, .bool false, .bool false, .bool false, .int .i64 (-1), .int .i64 (-1), .int .i64 0]) (t := 109) (fr := (0, 0)) (heap_alloc_new _ _)) (by simp [Value.oneCell']) (by omega) (by unfold maxLen; omega) (by omega) (by simp; omega) _ rfl ?_); intro gg gcap w6 hown6 hgrow6 hat6 hlt6; have hfar : ∀ j, j < B3 → some j ≠ vC.ownBlock := (fun j hj e => by have := (how.lt j e.symm).1; omega); have r6 := (hgrow6.block (w2.heap.size + 1) (by simp; omega) (hfar _ (by omega))).trans ((Below.heap_alloc wr _ _ hbz).trans HR.out); have c6 := cell_of_row w6 _ 10 _ _ _ r6; have f6 := frozen_of_row w6 _ 10 _ _ r6; simp only [List.getElem?_toArray, List.getElem?_cons_zero, List.getElem?_cons_succ] at c6; have HR6 := hid r6; have HO6 := hid hown6; have HG6 := hid hgrow6; have HFAR := hid hfar; clear r6 hown6 hgrow6 hfar)
        go_roundg (cn - (k + 1))
        case measure => omega
        case rel =>
          have hgg := (HO6.out.lt gg rfl).1
          have hz6 := HG6.out.size
          rw [alloc_size] at hz6
          refine ⟨k + 1, _, by omega, rfl, by go_num, setCell_row 10 _ HR6.out, ?_, fun j hj hjb => ?_, ?_, by simp [World.setCell]; omega⟩
          · rw [show List.replicate (k + 1) (⟨false, false, false, false, -1, -1, 0⟩ : RC) = List.replicate k ⟨false, false, false, false, -1, -1, 0⟩ ++ [⟨false, false, false, false, -1, -1, 0⟩] from List.replicate_succ', List.flatMap_append]
            exact owns_keep HO6.out (fun g hg => by
              have e : gg = g := by simpa [Value.ownBlock] using hg
              exact Below.heap_setCell _ _ _ _ (by simp only; omega))
          · rw [Below.heap_setCell _ _ _ _ hjb, HG6.out.block j (by rw [alloc_size]; omega) (HFAR.out j hj), Below.heap_alloc _ _ _ (by omega), HK.out j hj hjb]
          · have hb0 : Below w.heap.size w (wr.alloc (.cells #[.bool false, .bool false, .bool false, .bool false, .int .i64 (-1), .int .i64 (-1), .int .i64 0] 109)) := HL.out.alloc HL.out.size _
            exact (hb0.trans ⟨HG6.out.os, HG6.out.tape, HG6.out.output, HG6.out.size, fun j hj => HG6.out.block j (by rw [alloc_size]; omega) (HFAR.out j (by omega))⟩).setCell (by simp only; omega) _
      · have d1 : ¬ (k : Int) < (cn : Int) := by omega
        have hkc : k = cn := by omega
        subst hkc
        go_wp2_with fail
        refine bodyPost_ret (v := .tuple #[.pointer (some ⟨w2.heap.size + 1, 0, none⟩), .int .i64 0]) (by simp [results, Tryz.results22, go_sem]) rfl ⟨w2.heap.size + 1, rfl, HL.out, gL, cL, w2.heap.size, .slice pM (toldAll l all).length cM, vI, vC, all, w2.heap.size + 1 + 1, w4.heap.size, B3, ?_⟩
        rw [HLc.out, HLL.out]
        have hk4 : ∀ j, j < w4.heap.size → j ≠ w2.heap.size + 1 → wr.heap[j]? = w4.heap[j]? := fun j hj hjb => (HK.out j (by omega) hjb).trans (HBK.out j hj hjb)
        refine ⟨HR.out, ⟨hgLw, hgL2, by omega, by omega, hz4, hsz3, hsz⟩, HINS4.out.same2 (hk4 gL (by omega) (by omega)), HERR.out, HWT.out, HALL.out, (OwnIn.of HOWN.out).keep (fun g h1 h2 => hk4 g h2 (by omega)), owns_keep HOI.out (fun g hg => HK.out g (by rw [HB3.out]; exact (HOI.out.lt g hg).2) (by have := (HOI.out.lt g hg).1; omega)), fun g hg => by rw [HB3.out]; exact (HOI.out.lt g hg).2, by simpa using how, (hk4 _ (by omega) (by omega)).trans HWR.out⟩
end Go.Proofs.YtdmdpindonghdaaGreatDoor
namespace Go.Proofs.YtdmdpindonghdaaGreatDoor
open Go.RowKit
/-- Where the reference's machine lies: what no step changes. -/
structure RK where
  b : Nat
  gL : Nat
  cL : Nat
  gLo : Nat
  vM : Value
  vI : Value
  gC : Nat
  cC : Nat
  A : Nat
  B1 : Nat
  B2 : Nat
  B3 : Nat
  B4 : Nat
  l : List Ins
  ms : List MP
  zs : List Int
def RK.row (K : RK) (vO vS : Value) (s : MS) : Array Value :=
  #[.slice (some ⟨K.gL, 0, none⟩) K.l.length K.cL, K.vM, K.vI, .int .i64 s.rd, vO, .int .i64 s.oc, .int .i64 s.va, .int .i64 s.at_, .slice (some ⟨K.gLo, 0, none⟩) s.lo.length s.lo.length, vS, .slice (some ⟨K.gC, 0, none⟩) s.hs.1.length K.cC, .int .i64 s.hs.2.1, .int .i64 s.hs.2.2]
structure RM (w : World) (K : RK) (vO vS : Value) (s : MS) : Prop where
  row : w.heap[K.b]? = some (.cells (K.row vO vS s) 82)
  o1 : K.A ≤ K.gL
  o2 : K.gL < K.gLo
  o3 : K.gLo < K.b
  o4 : K.b < K.B1
  o5 : K.B1 ≤ K.B2
  o6 : K.B2 ≤ K.B3
  o7 : K.B3 ≤ K.gC
  o8 : K.gC < K.B4
  o9 : K.B4 ≤ w.heap.size
  ins : InsAt w K.gL K.l
  maps : OwnIn w K.B1 K.B2 K.vM K.ms
  inp : w.ownsRow K.B2 3 1 K.vI K.zs.length (K.zs.map (.int .i64))
  inb : ∀ g, K.vI.ownBlock = some g → g < K.B3
  loc : w.heap[K.gLo]? = some (.cells (s.lo.flatMap wdCells).toArray 116)
  cells : w.ownsRow K.B3 109 7 (.slice (some ⟨K.gC, 0, none⟩) s.hs.1.length K.cC) s.hs.1.length (s.hs.1.flatMap rcCells)
  stk : w.ownsRow K.B4 116 2 vS s.st.length (s.st.flatMap wdCells)
  out : w.ownsRow K.B4 3 1 vO s.out.length (s.out.map (.int .i64))
  apart : ∀ g, vS.ownBlock = some g → vO.ownBlock ≠ some g
/-- The blocks of the reference's machine. -/
def RK.In (K : RK) (vO vS : Value) (k : Nat) : Prop := (K.A ≤ k ∧ k < K.B4) ∨ vS.ownBlock = some k ∨ vO.ownBlock = some k
theorem RM.keep {w w' : World} {K : RK} {vO vS : Value} {s : MS} (h : RM w K vO vS s) (hz : w.heap.size ≤ w'.heap.size) (hk : ∀ k, k < w.heap.size → K.In vO vS k → w'.heap[k]? = w.heap[k]?) : RM w' K vO vS s := by
  have o1 := h.o1
  have o2 := h.o2
  have o3 := h.o3
  have o4 := h.o4
  have o5 := h.o5
  have o6 := h.o6
  have o7 := h.o7
  have o8 := h.o8
  have o9 := h.o9
  have hin : ∀ k, K.A ≤ k → k < K.B4 → w'.heap[k]? = w.heap[k]? := fun k h1 h2 => hk k (by omega) (.inl ⟨h1, h2⟩)
  refine ⟨(hin _ (by omega) (by omega)).trans h.row, o1, o2, o3, o4, o5, o6, o7, o8, by omega, h.ins.same2 (hin _ (by omega) (by omega)), h.maps.keep (fun g h1 h2 => hin g (by omega) (by omega)), owns_keep h.inp (fun g hg => hin g (by have := (h.inp.lt g hg).1; omega) (by have := h.inb g hg; omega)), h.inb, (hin _ (by omega) (by omega)).trans h.loc, owns_keep h.cells (fun g hg => ?_), owns_keep h.stk (fun g hg => hk g (h.stk.lt g hg).2 (.inr (.inl hg))), owns_keep h.out (fun g hg => hk g (h.out.lt g hg).2 (.inr (.inr hg))), h.apart⟩
  simp only [Value.ownBlock, Option.some.injEq] at hg
  subst hg
  exact hin _ (by omega) (by omega)
theorem RM.below {w w' : World} {K : RK} {vO vS : Value} {s : MS} (h : RM w K vO vS s) (hb : Below w.heap.size w w') : RM w' K vO vS s := h.keep hb.size (fun k hk _ => hb.block k hk)
theorem RM.of_new {s : ByteArray} {zs : List Int} {cells : Int} {w w' : World} {b : Nat} (h : RNew s zs cells w w' b) (hc : 1 ≤ cells) :
    ∃ K all, K.b = b ∧ K.A = w.heap.size ∧ K.l = codeOf s ∧ K.zs = zs ∧ K.ms = toldAll (codeOf s) all ∧ (∀ p, Reach (codeOf s) (byteAt s 1) p ↔ p ∈ all) ∧ errOf s = 0 ∧ WT (codeOf s) (byteAt s 1) ∧ RM w' K (.slice none 0 0) (.slice none 0 0) (startS (byteAt s 1) cells.toNat) := by
  obtain ⟨hb, gL, cL, gLo, vM, vI, vC, all, B1, B2, B3, hrow, ⟨h1, h2, h3, h4, h5, h6, h7⟩, hins, herr, hwt, hall, hm, hi, hib, hcs, hlo⟩ := h
  have hcs' := hcs
  rcases hcs.2 with ⟨_, e⟩ | ⟨gC, cC, cur, hv, hg, r⟩
  · omega
  subst hv
  have hgz := (hcs.lt gC rfl).2
  refine ⟨⟨b, gL, cL, gLo, vM, vI, gC, cC, w.heap.size, B1, B2, B3, w'.heap.size, codeOf s, toldAll (codeOf s) all, zs⟩, all, rfl, rfl, rfl, rfl, rfl, hall, herr, hwt, ?_⟩
  exact ⟨by simpa [RK.row, startS] using hrow, h1, h2, h3, h4, h5, h6, hg, hgz, Nat.le_refl _, hins, hm, hi, hib, hlo, by simpa [startS] using hcs', World.ownsRow_nil _ _ _ _, World.ownsRow_nil _ _ _ _, fun g hg => by (cases hg)⟩
end Go.Proofs.YtdmdpindonghdaaGreatDoor
namespace Go.Proofs.YtdmdpindonghdaaGreatDoor
open Go.RowKit
/-- New's error is one of these. -/
theorem newErr_all (s : ByteArray) (n : Nat) (cells : Int) : ∃ r : Nat, NewErr s n cells r := by
  obtain ⟨r, hr⟩ : ∃ r, IsErr s r := by
    by_cases h : errOf s = 0
    · by_cases hw : WT (codeOf s) (byteAt s 1)
      · exact ⟨0, .inr (.inl ⟨h, hw, rfl⟩)⟩
      · exact ⟨5, .inr (.inr ⟨h, hw, rfl⟩)⟩
    · exact ⟨errOf s, .inl ⟨h, rfl⟩⟩
  by_cases h0 : r = 0
  · subst h0
    by_cases h1 : cells < 1 ∨ 32 < cells
    · exact ⟨6, .inr (.inl ⟨hr, h1, rfl⟩)⟩
    · by_cases h2 : 64 < n
      · exact ⟨7, .inr (.inr (.inl ⟨hr, by omega, by omega, h2, rfl⟩))⟩
      · exact ⟨0, .inr (.inr (.inr ⟨hr, by omega, by omega, by omega, rfl⟩))⟩
  · exact ⟨r, .inl ⟨h0, hr⟩⟩
/-- The law's world at its beginning: both machines, nothing kept. -/
def lawRow (kb rb : Nat) (s : ByteArray) (mark : Int) (v4 v5 v6 v7 v8 v9 v10 v11 : Value) : Array Value := #[.pointer (some ⟨kb, 0, none⟩), .pointer (some ⟨rb, 0, none⟩), .string s, .int .i64 mark, v4, v5, v6, v7, v8, v9, v10, v11]
structure Begun (s : ByteArray) (zs : List Int) (n : Nat) (w w' : World) (q : Nat) (K : PK) (R : RK) : Prop where
  below : Below w.heap.size w w'
  lq : q < w'.heap.size
  row : w'.heap[q]? = some (.cells (lawRow K.b R.b s (-1000) (.slice none 0 0) (.slice none 0 0) (.slice none 0 0) (.slice none 0 0) (.slice none 0 0) (.slice none 0 0) (.slice none 0 0) (.slice none 0 0)) 58)
  err : errOf s = 0
  wt : WT (codeOf s) (byteAt s 1)
  inv : SetInv (codeOf s) (byteAt s 1) K.fs
  still : Still (codeOf s) K.fs
  kl : K.l = codeOf s
  kL : K.L = byteAt s 1
  kz : K.zs = zs
  rl : R.l = codeOf s
  rz : R.zs = zs
  rms : ∃ all, R.ms = toldAll (codeOf s) all ∧ ∀ p, Reach (codeOf s) (byteAt s 1) p ↔ p ∈ all
  apart : K.B4 ≤ R.A
  qa : R.B4 ≤ q
  ka : w.heap.size ≤ K.A
  pm : ∃ vI, PM w' K vI (.slice none 0 0) [0, 0, 0, 0] [0, 0, 0, 0, 0, 0, 0, 0] (startS (byteAt s 1) n)
  rm : RM w' R (.slice none 0 0) (.slice none 0 0) (startS (byteAt s 1) n)
def BeginPost (s : ByteArray) (zs : List Int) (cells : Int) (w : World) (e : Ending) (w' : World) : Prop :=
  (∃ r : Nat, r ≠ 0 ∧ NewErr s zs.length cells r ∧ e = .returned (.tuple #[.pointer none, .bool true]) ∧ Below w.heap.size w w') ∨
  (∃ n q K R, cells = ((n : Nat) : Int) ∧ NewErr s zs.length cells 0 ∧ e = .returned (.tuple #[.pointer (some ⟨q, 0, none⟩), .bool true]) ∧ Begun s zs n w w' q K R)
set_option maxRecDepth 100000 in
set_option maxHeartbeats 4000000 in
theorem begin_bad (s : ByteArray) (vi : Value) (zs : List Int) (cells : Int) (w : World) (hs : s.size ≤ maxLen) (t1 : TakesTab w) (t2 : TypeTab w) (t3 : FlowTab w) (hv : ArgInts w vi zs) (hlen : zs.length ≤ 17592186044416) (r : Nat) (hr : r ≠ 0) (he : NewErr s zs.length cells r) :
    Calls Tryz.prog 9 #[.string s, vi, .int .i64 cells] w (BeginPost s zs cells w) := by
  have hsp := hid (spare_any vi zs w hv hlen)
  have hpn := hid (fun (W : World) (hb : Below w.heap.size w W) (v : Value) (hv : ZsAt W v zs) => pnew_bad s v zs cells W hs (t3.below hb) hv r hr he)
  have hrn := hid (fun (W : World) (hb : Below w.heap.size w W) (v : Value) (hv : ArgInts W v zs) => rnew_bad s v zs cells W hs (t1.below hb) (t2.below hb) hv (by omega) r hr he)
  have hst := hid (fun (W : World) (v : Value) (g : Nat) (hv : ZsAt W v zs) (hr : W.heap[g]? = some (.cells (zs.map (Value.int .i64) ++ [Value.int .i64 7, Value.int .i64 7]).toArray 3)) => still_any v zs g W hv hlen hr)
  have hnm := hid (fun (r : Nat) (W : World) => num_any r W)
  have HV := hid hv
  obtain ⟨p0, c0, e0⟩ := hv.slice
  subst e0
  clear hv hs t1 t2 t3
  go_enter Tryz.func9, Tryz.ntmps9
  go_wp2_with fail
  refine hsp.out.mono ?_
  clear hsp
  intro x w1 hp
  obtain ⟨hb1, g, hg, hx, hrow⟩ := hp
  subst x
  have hgz : g < w1.heap.size := (Array.getElem?_eq_some_iff.1 hrow).1
  have hp1 := hid (hpn.out w1 hb1 _ (ZsAt.of_row (cap := zs.length + 2) hrow))
  clear hpn
  go_wp2_with fail
  refine hp1.out.mono ?_
  clear hp1
  intro x w2 hp
  obtain ⟨hx, hb2⟩ := hp
  subst x
  have hb02 : Below w.heap.size w w2 := hb1.trans (hb2.mono hb1.size)
  have hrow2 := (hb2.block g hgz).trans hrow
  have hv2 : ArgInts w2 (.slice p0 zs.length c0) zs := by
    rcases HV.out with h | ⟨a, ca, ea, hc, hl⟩
    · exact .inl h
    · refine .inr ⟨a, ca, ea, fun j x hj => ?_, fun hp => Nat.lt_of_lt_of_le (hl hp) hb02.size⟩
      have hbl : (a.add j).block = a.block := by unfold Addr.add; split <;> rfl
      have hp : 0 < zs.length := Nat.lt_of_le_of_lt (Nat.zero_le _) (List.getElem?_eq_some_iff.1 hj).1
      exact (World.cell?_of_block (a := a.add j) (by rw [hbl]; exact hb02.block _ (hl hp))).trans (hc j x hj)
  have hr1 := hid (hrn.out w2 hb02 _ hv2)
  clear hrn
  go_wp2_with fail
  refine hr1.out.mono ?_
  clear hr1
  intro x w3 hp
  obtain ⟨hx, hb3⟩ := hp
  subst x
  have hgz2 : g < w2.heap.size := (Array.getElem?_eq_some_iff.1 hrow2).1
  have hrow3 := (hb3.block g hgz2).trans hrow2
  have hs1 := hid (hst.out w3 _ g (hv2.zs hb3) hrow3)
  have hb03 : Below w.heap.size w w3 := hb02.trans (hb3.mono hb02.size)
  clear hst
  go_wp2_with fail
  refine hs1.out.mono ?_
  clear hs1
  intro x w4 hp
  obtain ⟨hx, nd, hw4⟩ := hp
  subst x
  have hb04 : Below w.heap.size w w4 := by rw [hw4]; exact ⟨hb03.os, hb03.tape, hb03.output, hb03.size, hb03.block⟩
  have hrow4 : w4.heap[g]? = some (.cells (zs.map (Value.int .i64) ++ [Value.int .i64 7, Value.int .i64 7]).toArray 3) := by rw [hw4]; exact hrow3
  have HB04 := hid hb04
  clear hw4 hb1 hb2 hb02 hb3 hb03 hrow hrow2 hrow3 hv2 hb04 HV
  go_wp2_with fail
  have hr0 : ∃ r : Array Value, w4.heap[g]? = some (.cells r 3) ∧ r.size = zs.length + 2 := ⟨_, hrow4, by simp⟩
  have HR0 := hid hr0
  clear hrow4 hr0
  go_loopg [14] zs.length (fun k x w' => ∃ j : Nat, j ≤ zs.length ∧ k = zs.length - j ∧ x = .int .i64 j ∧ Only g w4 w' ∧ ∃ r : Array Value, w'.heap[g]? = some (.cells r 3) ∧ r.size = zs.length + 2)
  case atStart => exact ⟨0, by omega, by omega, rfl, Only.refl _ _, HR0.out⟩
  case round =>
    obtain ⟨j, hj, hgk, rfl, ho, r5, hr5, hz5⟩ := hrel
    have HO := hid ho
    clear ho
    rcases Nat.lt_or_ge j zs.length with hlt | hge
    · have d0 : (0 : Int) ≤ (j : Int) := by omega
      have d1 : (j : Int) < (zs.length : Int) := by omega
      have c0 := cell_of_row wr g j _ _ _ hr5
      rw [Array.getElem?_eq_getElem (by omega)] at c0
      have f0 := frozen_of_row wr g j _ _ hr5
      have hr6 := setCell_row j (.int .i64 (-7)) hr5
      have HR6 : Hid (∃ r : Array Value, (wr.setCell ⟨g, j, none⟩ (.int .i64 (-7))).heap[g]? = some (.cells r 3) ∧ r.size = zs.length + 2) := hid ⟨_, hr6, by simpa using hz5⟩
      generalize r5[j] = z at *
      clear hr6 hr5
      go_wp2_with fail
      go_roundg (zs.length - (j + 1))
      case measure => omega
      case rel => exact ⟨j + 1, by omega, rfl, by go_num, HO.out.set _ _, HR6.out⟩
    · have d1 : ¬ (j : Int) < (zs.length : Int) := by omega
      have hn1 := hid (hnm.out r wr)
      have HBR := hid (HB04.out.trans (HO.out.below hg))
      clear hr5 hnm
      go_wp2_with fail
      refine hn1.out.mono ?_
      clear hn1
      intro x w6 hp
      obtain ⟨hx, hw⟩ := hp
      subst x
      subst w6
      go_wp2_with fail
      exact bodyPost_ret (v := .tuple #[.pointer none, .bool true]) (by simp [results, Tryz.results9, go_sem]) rfl (.inl ⟨r, hr, he, rfl, HBR.out⟩)
set_option maxRecDepth 100000 in
set_option maxHeartbeats 4000000 in
theorem begin_ok (s : ByteArray) (vi : Value) (zs : List Int) (cells : Int) (w : World) (hs : s.size ≤ maxLen) (t1 : TakesTab w) (t2 : TypeTab w) (t3 : FlowTab w) (hv : ArgInts w vi zs) (hlen : zs.length ≤ 17592186044416) (n : Nat) (hcn : cells = (n : Int)) (he : NewErr s zs.length cells 0) :
    Calls Tryz.prog 9 #[.string s, vi, .int .i64 cells] w (BeginPost s zs cells w) := by
  subst hcn
  have hsp := hid (spare_any vi zs w hv hlen)
  have hpn := hid (fun (W : World) (hb : Below w.heap.size w W) (v : Value) (hv : ArgInts W v zs) => pnew_ok s v zs n W hs (t3.below hb) hv he)
  have hrn := hid (fun (W : World) (hb : Below w.heap.size w W) (v : Value) (hv : ArgInts W v zs) => rnew_ok s v zs (n : Int) W hs (t1.below hb) (t2.below hb) hv he)
  have hst := hid (fun (W : World) (v : Value) (g : Nat) (hv : ZsAt W v zs) (hr : W.heap[g]? = some (.cells (zs.map (Value.int .i64) ++ [Value.int .i64 7, Value.int .i64 7]).toArray 3)) => still_any v zs g W hv hlen hr)
  have hnm := hid (fun (r : Nat) (W : World) => num_any r W)
  have HV := hid hv
  obtain ⟨p0, c0, e0⟩ := hv.slice
  subst e0
  clear hv hs t1 t2 t3
  go_enter Tryz.func9, Tryz.ntmps9
  go_wp2_with fail
  refine hsp.out.mono ?_
  clear hsp
  intro x w1 hp
  obtain ⟨hb1, g, hg, hx, hrow⟩ := hp
  subst x
  have hgz : g < w1.heap.size := (Array.getElem?_eq_some_iff.1 hrow).1
  have hp1 := hid (hpn.out w1 hb1 _ (.inr ⟨⟨g, 0, none⟩, zs.length + 2, rfl, fun j x hj => by
    rw [addr_add, cell_of_row w1 g j _ _ _ hrow, List.getElem?_toArray, List.getElem?_append_left (by simpa using (List.getElem?_eq_some_iff.1 hj).1), List.getElem?_map, hj]; rfl, fun _ => hgz⟩))
  clear hpn
  go_wp2_with fail
  refine hp1.out.mono ?_
  clear hp1
  intro x w2 hp
  obtain ⟨K, hx, hPN⟩ := hp
  subst x
  have hb2 := hPN.below
  have hb02 : Below w.heap.size w w2 := hb1.trans (hb2.mono hb1.size)
  have hrow2 := (hb2.block g hgz).trans hrow
  have hv2 : ArgInts w2 (.slice p0 zs.length c0) zs := by
    rcases HV.out with h | ⟨a, ca, ea, hc, hl⟩
    · exact .inl h
    · refine .inr ⟨a, ca, ea, fun j x hj => ?_, fun hp => Nat.lt_of_lt_of_le (hl hp) hb02.size⟩
      have hbl : (a.add j).block = a.block := by unfold Addr.add; split <;> rfl
      have hp : 0 < zs.length := Nat.lt_of_le_of_lt (Nat.zero_le _) (List.getElem?_eq_some_iff.1 hj).1
      exact (World.cell?_of_block (a := a.add j) (by rw [hbl]; exact hb02.block _ (hl hp))).trans (hc j x hj)
  have hr1 := hid (hrn.out w2 hb02 _ hv2)
  clear hrn
  go_wp2_with fail
  refine hr1.out.mono ?_
  clear hr1
  intro x w3 hp
  obtain ⟨rb, hx, hRN⟩ := hp
  subst x
  have hb3 := hRN.below
  have hgz2 : g < w2.heap.size := (Array.getElem?_eq_some_iff.1 hrow2).1
  have hrow3 := (hb3.block g hgz2).trans hrow2
  have hs1 := hid (hst.out w3 _ g (hv2.zs hb3) hrow3)
  have hb03 : Below w.heap.size w w3 := hb02.trans (hb3.mono hb02.size)
  clear hst
  go_wp2_with fail
  refine hs1.out.mono ?_
  clear hs1
  intro x w4 hp
  obtain ⟨hx, nd, hw4⟩ := hp
  subst x
  have hb04 : Below w.heap.size w w4 := by rw [hw4]; exact ⟨hb03.os, hb03.tape, hb03.output, hb03.size, hb03.block⟩
  have hrow4 : w4.heap[g]? = some (.cells (zs.map (Value.int .i64) ++ [Value.int .i64 7, Value.int .i64 7]).toArray 3) := by rw [hw4]; exact hrow3
  obtain ⟨R, all, eb, eA, el, ez, ems, hall, herr, hwt, hRM⟩ := RM.of_new hRN (by
    rcases he with ⟨h, _⟩ | ⟨_, _, h⟩ | ⟨_, _, _, _, h⟩ | ⟨_, h2, _⟩
    · exact absurd rfl h
    · cases h
    · cases h
    · exact h2)
  rw [Int.toNat_natCast] at hRM
  subst eb
  obtain ⟨vI, hPM⟩ := hPN.m
  have hh4 : ∀ k : Nat, w4.heap[k]? = w3.heap[k]? := fun k => by rw [hw4]; rfl
  have hz4 : w4.heap.size = w3.heap.size := by rw [hw4]; rfl
  have hA := hPN.A
  have hB4 := hPN.B4
  have HPM4 := hid (hPM.keep (w' := w4) (by rw [hz4]; exact hb3.size) (fun k hk _ => (hh4 k).trans (hb3.block k hk)))
  have HRM4 := hid (hRM.keep (w' := w4) (by rw [hz4]; exact Nat.le_refl _) (fun k _ _ => hh4 k))
  have HPN := hid hPN
  have HB04 := hid hb04
  have hRz := hRM.o9
  have hRA1 := hRM.o1
  have hRA2 := hRM.o2
  have hRA3 := hRM.o3
  have hRA4 := hRM.o4
  have hz23 := hb3.size
  clear hw4 hb1 hb2 hb02 hb3 hb03 hrow hrow2 hrow3 hv2 hb04 HV hRM hPM hRN hPN hh4
  go_wp2_with fail
  have hr0 : ∃ r : Array Value, w4.heap[g]? = some (.cells r 3) ∧ r.size = zs.length + 2 := ⟨_, hrow4, by simp⟩
  have HR0 := hid hr0
  clear hrow4 hr0
  go_loopg [14] zs.length (fun k x w' => ∃ j : Nat, j ≤ zs.length ∧ k = zs.length - j ∧ x = .int .i64 j ∧ Only g w4 w' ∧ ∃ r : Array Value, w'.heap[g]? = some (.cells r 3) ∧ r.size = zs.length + 2)
  case atStart => exact ⟨0, by omega, by omega, rfl, Only.refl _ _, HR0.out⟩
  case round =>
    obtain ⟨j, hj, hgk, rfl, ho, r5, hr5, hz5⟩ := hrel
    have HO := hid ho
    clear ho
    rcases Nat.lt_or_ge j zs.length with hlt | hge
    · have d0 : (0 : Int) ≤ (j : Int) := by omega
      have d1 : (j : Int) < (zs.length : Int) := by omega
      have c0 := cell_of_row wr g j _ _ _ hr5
      rw [Array.getElem?_eq_getElem (by omega)] at c0
      have f0 := frozen_of_row wr g j _ _ hr5
      have hr6 := setCell_row j (.int .i64 (-7)) hr5
      have HR6 : Hid (∃ r : Array Value, (wr.setCell ⟨g, j, none⟩ (.int .i64 (-7))).heap[g]? = some (.cells r 3) ∧ r.size = zs.length + 2) := hid ⟨_, hr6, by simpa using hz5⟩
      generalize r5[j] = z at *
      clear hr6 hr5
      go_wp2_with fail
      go_roundg (zs.length - (j + 1))
      case measure => omega
      case rel => exact ⟨j + 1, by omega, rfl, by go_num, HO.out.set _ _, HR6.out⟩
    · have d1 : ¬ (j : Int) < (zs.length : Int) := by omega
      have hn1 := hid (fun W => hnm.out 0 W)
      have HBR := hid (HB04.out.trans (HO.out.below hg))
      clear hr5 hnm
      go_wp2_with fail
      refine (hn1.out _).mono ?_
      clear hn1
      intro x w6 hp
      obtain ⟨hx, hw6⟩ := hp
      subst x
      have HW6 := hid hw6
      clear hw6
      go_wp2_with fail
      refine bodyPost_ret (v := .tuple #[.pointer (some ⟨wr.heap.size, 0, none⟩), .bool true]) (by simp [results, Tryz.results9, go_sem]) rfl (.inr ⟨n, wr.heap.size, K, R, rfl, he, rfl, ?_⟩)
      have hw6 := HW6.out
      have hzr : wr.heap.size = w4.heap.size := HO.out.size
      have hP := HPN.out
      subst hw6
      have hkeep : ∀ k : Nat, k < w4.heap.size → k ≠ g → (wr.alloc (.cells #[.pointer (some ⟨K.b, 0, none⟩), .pointer (some ⟨R.b, 0, none⟩), .string s, .int .i64 (-1000), .slice none 0 0, .slice none 0 0, .slice none 0 0, .slice none 0 0, .slice none 0 0, .slice none 0 0, .slice none 0 0, .slice none 0 0] 58)).heap[k]? = w4.heap[k]? := fun k hk hne => (Below.heap_alloc _ _ _ (by omega)).trans (HO.out.block k hne)
      have hKin : ∀ k, K.In (.slice none 0 0) k → k ≠ g := fun k hk => by
        rcases hk with ⟨h1, _⟩ | h
        · omega
        · cases h
      have hRin : ∀ k, R.In (.slice none 0 0) (.slice none 0 0) k → k ≠ g := fun k hk => by
        rcases hk with ⟨h1, _⟩ | h | h
        · omega
        · cases h
        · cases h
      refine ⟨HBR.out.alloc (by omega) _, by simp, heap_alloc_new _ _, hP.err, hP.wt, hP.inv, hP.still, hP.l, hP.L, hP.z, el, ez, ⟨all, ems, hall⟩, by omega, by omega, by omega, ⟨vI, HPM4.out.keep (by simp; omega) (fun k hk h => hkeep k hk (hKin k h))⟩, HRM4.out.keep (by simp; omega) (fun k hk h => hkeep k hk (hRin k h))⟩
theorem begin_any (s : ByteArray) (vi : Value) (zs : List Int) (cells : Int) (w : World) (hs : s.size ≤ maxLen) (t1 : TakesTab w) (t2 : TypeTab w) (t3 : FlowTab w) (hv : ArgInts w vi zs) (hlen : zs.length ≤ 17592186044416) :
    Calls Tryz.prog 9 #[.string s, vi, .int .i64 cells] w (BeginPost s zs cells w) := by
  obtain ⟨r, hr⟩ := newErr_all s zs.length cells
  by_cases h0 : r = 0
  · subst h0
    have hc : 1 ≤ cells := by
      rcases hr with ⟨h, _⟩ | ⟨_, _, h⟩ | ⟨_, _, _, _, h⟩ | ⟨_, h2, _⟩
      · exact absurd rfl h
      · cases h
      · cases h
      · exact h2
    exact begin_ok s vi zs cells w hs t1 t2 t3 hv hlen cells.toNat (by omega) hr
  · exact begin_bad s vi zs cells w hs t1 t2 t3 hv hlen r h0 hr
end Go.Proofs.YtdmdpindonghdaaGreatDoor
