/- tintkeep.Filled is true of all raw bytes, lists of inputs, numbers of cells, lists of units and numbers of steps: a step of a built image's machine finds the heap full just if it wants to take a cell and all cells can be reached, and the machine ends in nothing else; conditions: the two listed variables hold what the program's text lays in them. -/
import Derived.Test.YtdmdpindonghdaaDoorRows
import Derived.Test.YtdmdpindonghdaaDoorTie
import Derived.Test.YtdmdpindonghdaaDoorCards
import Derived.Test.YtdmdpindonghdaaDoorOwn7
import Derived.WalkKit
import Derived.WalkSmall
import Derived.Deep.AppendLies
import Derived.Deep.DeepMust
import Derived.Deep.LoopGhost
import Derived.WalkSpells
import Derived.WalkLawsBesides
import Derived.BigRegion
import Derived.Deep.QuietTactic
import Derived.BigQuiet
import Derived.Deep.RegionHeld3
import Derived.OwnWalk
import Derived.Laws.StructEq
import Derived.Deep.RegionLaw
import Derived.Deep.DeepCutAuto
import Derived.Laws.MakeOwn
import Derived.Laws.IdiomCopy
import Derived.Laws.BytesArg
import Derived.ProofKit
import Derived.OpenShut
import Derived.Lay
import Derived.SevenTiedAt
import Derived.Stop.Joined
import Derived.Carry
import Derived.Deep.SlicePairs
namespace Go.Proofs.YtdmdpindonghdaaDoor
open Go.RowKit
set_option maxRecDepth 100000 in
set_option maxHeartbeats 1000000 in
theorem sameK_any (l : List Int) (va vb : Value) (w : World) (ha : ZsAt w va l) (hb : ZsAt w vb l) (hl : l.length ≤ 17592186044416) :
    Calls Tryd.prog 26 #[va, vb] w fun e w' => e = .returned (.bool true) ∧ ∃ n, w' = w.drewN n := by
  obtain ⟨pa, ca, ea⟩ := ha.slice
  obtain ⟨pb, cb, eb⟩ := hb.slice
  subst ea
  subst eb
  have HA := hid ha
  have HB := hid hb
  clear ha hb
  go_enter Tryd.func26, Tryd.ntmps26
  go_wp2_with fail
  go_loopg [5] l.length (fun gk x w' => ∃ k : Nat, k ≤ l.length ∧ gk = l.length - k ∧ x = .int .i64 k ∧ ∃ n, w' = w.drewN n)
  case atStart => exact ⟨0, by omega, by omega, rfl, 0, rfl⟩
  case round =>
    obtain ⟨k, hk, hgk, rfl, n, rfl⟩ := hrel
    rcases Nat.lt_or_ge k l.length with hlt | hge
    · have d0 : (0 : Int) ≤ (k : Int) := by omega
      have d1 : (k : Int) < (l.length : Int) := by omega
      have d2 : (k : Int) + 1 ≤ 17592186044416 := by omega
      have hk2 : l[k]? = some l[k] := List.getElem?_eq_getElem hlt
      rcases HA.out with ⟨_, h0⟩ | ⟨ga, c1, e1, hca⟩
      · rw [h0] at hlt; simp at hlt
      rcases HB.out with ⟨_, h0⟩ | ⟨gb, c2, e2, hcb⟩
      · rw [h0] at hlt; simp at hlt
      have x1 := hca k _ hk2
      have x2 := hcb k _ hk2
      cases e1
      cases e2
      generalize l[k] = c at *
      have hne : (c != c) = false := by simp
      clear hca hcb hk2
      go_wp2_with fail
      go_quiet (fail)
      go_wp2_with fail
      go_roundg (l.length - (k + 1))
      case measure => omega
      case rel => exact ⟨k + 1, by omega, rfl, by go_num, ⟨_, rfl⟩⟩
    · have d1 : ¬ (k : Int) < (l.length : Int) := by omega
      go_wp2_with fail
      go_ret
      exact ⟨rfl, n, rfl⟩
def clipN (us : List Int) : List Int := us.map (fun u => (pickN u 100 : Int))
set_option maxRecDepth 100000 in
set_option maxHeartbeats 1000000 in
theorem clipped_any (vu : Value) (us : List Int) (w : World) (hu : ArgInts w vu us) (hl : us.length ≤ 17592186043904) (hr : ∀ u ∈ us, -9223372036854775808 ≤ u ∧ u ≤ 9223372036854775807) :
    Calls Tryd.prog 24 #[vu] w fun e w' => Below w.heap.size w w' ∧ ∃ v, e = .returned v ∧ w'.ownsRow w.heap.size 3 1 v us.length ((clipN us).map (.int .i64)) := by
  obtain ⟨i0, hi0, hz0, hz1, hz2⟩ := info_parts intInfo
  have HU := hid hu
  obtain ⟨p0, c0, e0⟩ := hu.slice
  subst e0
  have HR := hid hr
  clear hu hr
  go_enter Tryd.func24, Tryd.ntmps24
  go_wp2_with fail
  go_loopg [3, 4] us.length (fun g l x w' => ∃ k : Nat, k ≤ us.length ∧ g = us.length - k ∧ x = .int .i64 k ∧ w'.ownsRow w.heap.size 3 1 l k ((clipN (us.take k)).map (.int .i64)) ∧ Below w.heap.size w w')
  case atStart => exact ⟨0, by omega, by omega, rfl, World.ownsRow_nil _ _ _ _, Below.refl _ _⟩
  case round =>
    obtain ⟨k, hk, hg, rfl, hown, hbel⟩ := hrel
    have hz := hbel.size
    have HB := hid hbel
    rcases Nat.lt_or_ge k us.length with hlt | hge
    · have d1 : (k : Int) < (us.length : Int) := by omega
      have d0 : (0 : Int) ≤ (k : Int) := by omega
      have d2 : (k : Int) + 1 ≤ 17592186044416 := by omega
      rcases (HU.out.keep hbel) with ⟨_, h0⟩ | ⟨a, cap, hv, hcell, _⟩
      · rw [h0] at hlt; simp at hlt
      cases hv
      have y0 := hcell k us[k] (List.getElem?_eq_getElem hlt)
      obtain ⟨m1, m2⟩ := HR.out us[k] (List.getElem_mem hlt)
      have hp := hid (pick_any us[k] 100 wr m1 m2 (by omega) (by omega))
      have HNX : Hid ((clipN (us.take (k + 1))).map (Value.int .i64) = (clipN (us.take k)).map (Value.int .i64) ++ [.int .i64 (pickN us[k] 100)]) := hid (by
        unfold clipN
        rw [List.take_succ_eq_append_getElem hlt, List.map_append, List.map_append]
        rfl)
      clear hcell hbel m1 m2
      generalize us[k] = u at *
      generalize (clipN (us.take k)).map (Value.int .i64) = R at *
      go_wp2_with fail
      refine hp.out.mono ?_
      clear hp
      intro e w5 hh
      obtain ⟨hx, hw⟩ := hh
      subst e
      subst w5
      generalize ((pickN u 100 : Nat) : Int) = qv at *
      go_wp2_with (at_builtin; go_must (refine wpList_append_lies _ (by rfl) _ _ _ (by rfl) w.heap.size 3 i0 _ 1 8 Tryd.underlying33 hi0 hz0 hz1 hz2 rfl (by omega) _ k R (by rfl) (hown.alloc _) ⟨wr.heap.size, 0, none⟩ 1 1 [.int .i64 qv] (by rfl) (by rfl) (World.news_of_block (cs := #[.int .i64 qv]) (t := 3) (fr := (0, 0)) (heap_alloc_new wr _)) (by simp [Value.oneCell']) (by omega) (by unfold maxLen; omega) (by omega) (by simp; omega) _ rfl ?_); intro gg gcap w6 hown6 hgrow6 hat6 hlt6)
      go_roundg (us.length - (k + 1))
      case measure => omega
      case rel =>
        refine ⟨k + 1, by omega, rfl, by go_num, ?_, ?_⟩
        · rw [HNX.out]
          exact hown6
        · exact (HB.out.alloc hz _).grown hgrow6 (by simp; omega) (fun j hj => (hown.lt j hj).1)
    · have d1 : ¬ (k : Int) < (us.length : Int) := by omega
      have hke : k = us.length := by omega
      have HO : Hid (wr.ownsRow w.heap.size 3 1 u3 us.length ((clipN us).map (.int .i64))) := hid (by
        rw [List.take_of_length_le (by omega), hke] at hown
        exact hown)
      clear hown hbel hke
      go_wp2_with fail
      go_ret
      exact ⟨HB.out, _, rfl, HO.out⟩
end Go.Proofs.YtdmdpindonghdaaDoor
namespace Go.Proofs.YtdmdpindonghdaaDoor
open Go.RowKit
theorem clip_fits (us : List Int) : (clipN us).all fitsB = true := by
  rw [List.all_eq_true]
  intro x hx
  obtain ⟨u, _, rfl⟩ := List.mem_map.1 hx
  have := pickN_lt u (n := 100) (by omega)
  unfold fitsB
  simp only [Bool.and_eq_true, decide_eq_true_eq]
  omega
theorem clip_len (us : List Int) : (clipN us).length = us.length := by simp [clipN]
theorem zsK_owns {w : World} {base : Nat} {v : Value} {o : List Int} (h : w.ownsRow base 3 1 v o.length (o.map (.int .i64))) : ZsAt w v o := by
  rcases h.2 with ⟨h1, h2⟩ | ⟨g, cap, cur, hv, hg, hh, h3, h4, h5, h6⟩
  · exact .inl ⟨h1, List.length_eq_zero_iff.1 h2⟩
  · refine .inr ⟨⟨g, 0, none⟩, cap, hv, fun j x hj => ?_⟩
    have hjl := (List.getElem?_eq_some_iff.1 hj).1
    rw [addr_add, cell_of_row w g j _ _ _ hh]
    rw [Nat.mul_one] at h6
    have : (cur.toList.take o.length)[j]? = (o.map (Value.int .i64))[j]? := by rw [h6]
    rw [List.getElem?_take, if_pos hjl, List.getElem?_map, hj, Array.getElem?_toList] at this
    exact this
theorem zsK_below {w w' : World} {v : Value} {zs : List Int} (h : ZsAt w v zs) (hb : Below w.heap.size w w') : ZsAt w' v zs := by
  rcases h with h | ⟨a, cap, hv, hc⟩
  · exact .inl h
  · exact .inr ⟨a, cap, hv, fun j x hj => (hb.cell (p := a.add j) (World.block_lt_of_cell? w _ (hc j x hj))).trans (hc j x hj)⟩
theorem argsK_owns {w : World} {base : Nat} {v : Value} {o : List Int} (h : w.ownsRow base 3 1 v o.length (o.map (.int .i64))) : ArgInts w v o := by
  rcases zsK_owns h with h1 | ⟨a, cap, hv, hc⟩
  · exact .inl h1
  · refine .inr ⟨a, cap, hv, hc, fun hp => ?_⟩
    have hx : o[0]? = some o[0] := List.getElem?_eq_getElem hp
    have := World.block_lt_of_cell? w _ (hc 0 _ hx)
    rw [addK_block] at this
    exact this
/-- The program's machine lies above B, and not where n2 ≤ k < N. -/
def PN (B n2 N : Nat) (W : World) (K : PK) (t : MS) : Prop := ∃ F, PX W K F t ∧ (∀ k, F k → B ≤ k ∧ (k < n2 ∨ N ≤ k)) ∧ B ≤ n2 ∧ n2 ≤ N ∧ N ≤ W.heap.size
def KeepN (n2 N : Nat) (w w' : World) : Prop := ∀ k, n2 ≤ k → k < N → w'.heap[k]? = w.heap[k]?
theorem PN.next {B n2 N : Nat} {w w' : World} {K : PK} {F : Nat → Prop} {t : MS} (hF : ∀ k, F k → B ≤ k ∧ (k < n2 ∨ N ≤ k)) (h1 : B ≤ n2) (h2 : n2 ≤ N) (h3 : N ≤ w.heap.size) (hp : PX w' K (Grown F w w') t) (ht : Touch F w w') : PN B n2 N w' K t ∧ KeepN n2 N w w' ∧ Below B w w' := by
  refine ⟨⟨_, hp, ?_, h1, h2, Nat.le_trans h3 ht.size⟩, fun k hk1 hk2 => ht.block k (by omega) (fun hf => by have := (hF k hf).2; omega), ht.sub (fun k hk => (hF k hk).1) (by omega)⟩
  rintro k (h | h)
  · exact hF k h
  · exact ⟨by omega, .inr (by omega)⟩
theorem pn_step {B n2 N : Nat} {w : World} {K : PK} {E : Env} {s : MS} (h : PN B n2 N w K s) (hke : KE K E) (he : EnvOk E) (hi : MInv E s) (hoc : s.oc = 0) (hz : E.zs.length ≤ 64) (hlen : s.out.length ≤ 8796093022208) :
    Calls Tryd.prog 50 #[.pointer (some ⟨K.b, 0, none⟩)] w fun e w' => e = .returned (.tuple #[.int .i64 (stepS E s).oc, .int .i64 0]) ∧ PN B n2 N w' K (stepS E s) ∧ KeepN n2 N w w' ∧ Below B w w' := by
  obtain ⟨F, h1, h2, h3, h4, h5⟩ := h
  refine (pstep_x h1 hke he hi hoc hz hlen).mono ?_
  rintro e w' ⟨a, b, c⟩
  exact ⟨a, PN.next h2 h3 h4 h5 b c⟩
theorem pn_coll {B n2 N : Nat} {w : World} {K : PK} {E : Env} {s : MS} (h : PN B n2 N w K s) (hke : KE K E) (he : EnvOk E) (hi : MInv E s) (n : Nat) (hn : n ≤ 1000) :
    Calls Tryd.prog 52 #[.pointer (some ⟨K.b, 0, none⟩), .int .i64 n] w fun e w' => e = .returned (.tuple #[.int .i64 (collS E n s).hs.2.1, .int .i64 0]) ∧ PN B n2 N w' K (collS E n s) ∧ KeepN n2 N w w' ∧ Below B w w' := by
  obtain ⟨F, h1, h2, h3, h4, h5⟩ := h
  refine (pcollect_x h1 hke he hi n hn).mono ?_
  rintro e w' ⟨a, b, c⟩
  exact ⟨a, PN.next h2 h3 h4 h5 (b.mono (fun _ h => .inl h)) c⟩
theorem PN.of {B : Nat} {w W : World} {K : PK} {s : MS} (h : PR B w K s) (hb : Below w.heap.size w W) : PN B w.heap.size W.heap.size W K s := by
  obtain ⟨F, h1, h2, h3⟩ := h
  exact ⟨_, h1.bound.below hb, fun k hk => ⟨h2 k hk.1, .inl hk.2⟩, h3, hb.size, Nat.le_refl _⟩
/-- Numbers in memory between n2 and N. -/
def ArgN (n2 N : Nat) (w : World) (v : Value) (zs : List Int) : Prop := ArgInts w v zs ∧ ∀ a n c, v = .slice (some a) n c → 0 < n → n2 ≤ a.block ∧ a.block < N
theorem ArgN.keep {n2 N : Nat} {w w' : World} {v : Value} {zs : List Int} (h : ArgN n2 N w v zs) (hk : KeepN n2 N w w') (hz : w.heap.size ≤ w'.heap.size) : ArgN n2 N w' v zs := by
  refine ⟨?_, h.2⟩
  rcases h.1 with h1 | ⟨a, cap, hv, hc, hl⟩
  · exact .inl h1
  · refine .inr ⟨a, cap, hv, fun j x hj => ?_, fun hp => Nat.lt_of_lt_of_le (hl hp) hz⟩
    have hz : 0 < zs.length := by have := (List.getElem?_eq_some_iff.1 hj).1; omega
    obtain ⟨g1, g2⟩ := h.2 a _ _ hv hz
    exact (World.cell?_of_block (a := a.add j) (by rw [addK_block]; exact hk _ g1 g2)).trans (hc j x hj)
theorem KeepN.trans {n2 N : Nat} {w w' w'' : World} (h : KeepN n2 N w w') (h' : KeepN n2 N w' w'') : KeepN n2 N w w'' := fun k a b => (h' k a b).trans (h k a b)
/-- What the loop of steps by hand comes to. -/
theorem run_done (E : Env) (us : List Int) (f k : Nat) (t : MS) (h : t.oc ≠ 0) : runS E us f k t = (k, t) := by
  cases f with
  | zero => rfl
  | succ f => simp only [runS, if_neg h]
end Go.Proofs.YtdmdpindonghdaaDoor
namespace Go.Proofs.YtdmdpindonghdaaDoor
open Go.RowKit
/-- What is met so far: which cells, in which order, whether every reference was sound. -/
structure Sn where
  ins : List Bool
  todo : List Nat
  sound : Bool
def meetS (v : Int) (S : Sn) : Sn :=
  if v = -1 then S else if v < 0 ∨ (S.ins.length : Int) ≤ v then { S with sound := false }
  else if S.ins.getD v.toNat false = false then { S with ins := S.ins.set v.toNat true, todo := S.todo ++ [v.toNat] } else S
def meetsS (rs : List Int) (S : Sn) : Sn := rs.foldl (fun S v => meetS v S) S
def lookS (cs : List Cl) (k : Nat) (S : Sn) : Sn := match cs[k]? with | none => S | some c => if c.weak = true then S else meetS c.b (meetS c.a S)
/-- What is always so while it goes on. -/
structure SnOk (n : Nat) (S : Sn) : Prop where
  len : S.ins.length = n
  cnt : S.todo.length = S.ins.countP (fun b => b)
  mem : ∀ k, S.ins[k]? = some true ↔ k ∈ S.todo
  sound : S.sound = true
theorem SnOk.todo_le {n : Nat} {S : Sn} (h : SnOk n S) : S.todo.length ≤ n := by
  rw [h.cnt, ← h.len]; exact List.countP_le_length
theorem SnOk.lt {n : Nat} {S : Sn} (h : SnOk n S) {k : Nat} (hk : k ∈ S.todo) : k < n := by
  have := (List.getElem?_eq_some_iff.1 ((h.mem k).2 hk)).1
  rw [h.len] at this
  exact this
theorem count_set : ∀ (l : List Bool) (k : Nat), l[k]? = some false → (l.set k true).countP (fun b => b) = l.countP (fun b => b) + 1
  | [], k, h => by simp at h
  | a :: r, 0, h => by
    simp only [List.getElem?_cons_zero, Option.some.injEq] at h
    subst h
    simp
  | a :: r, k + 1, h => by
    simp only [List.getElem?_cons_succ] at h
    simp only [List.set_cons_succ, List.countP_cons, count_set r k h]
    omega
theorem SnOk.meet {n : Nat} {S : Sn} (h : SnOk n S) (v : Int) (hv : -1 ≤ v ∧ v < (n : Int)) :
    SnOk n (meetS v S) ∧ (∀ k, k ∈ (meetS v S).todo ↔ k ∈ S.todo ∨ v = (k : Int)) ∧ ∃ e, (meetS v S).todo = S.todo ++ e := by
  unfold meetS
  by_cases h1 : v = -1
  · rw [if_pos h1]
    refine ⟨h, fun k => ⟨.inl, ?_⟩, [], by simp⟩
    rintro (h | h)
    · exact h
    · omega
  rw [if_neg h1, if_neg (by rw [h.len]; omega)]
  have hlt : v.toNat < S.ins.length := by rw [h.len]; omega
  by_cases hf : S.ins.getD v.toNat false = false
  · rw [if_pos hf]
    have hg : S.ins[v.toNat]? = some false := by
      rw [List.getD_eq_getElem?_getD, List.getElem?_eq_getElem hlt] at hf
      rw [List.getElem?_eq_getElem hlt]
      simpa using hf
    refine ⟨⟨by simp [h.len], ?_, ?_, h.sound⟩, ?_, [v.toNat], rfl⟩
    · rw [List.length_append, List.length_singleton, h.cnt]
      exact (count_set S.ins v.toNat hg).symm
    · intro k
      simp only [List.mem_append, List.mem_singleton]
      rw [List.getElem?_set]
      by_cases e : v.toNat = k
      · subst e; simp [hlt]
      · rw [if_neg e, h.mem k]
        constructor
        · exact .inl
        · rintro (h | h)
          · exact h
          · exact absurd h.symm e
    · intro k
      simp only [List.mem_append, List.mem_singleton]
      constructor
      · rintro (h | h)
        · exact .inl h
        · exact .inr (by omega)
      · rintro (h | h)
        · exact .inl h
        · exact .inr (by omega)
  · rw [if_neg hf]
    refine ⟨h, fun k => ⟨.inl, ?_⟩, [], by simp⟩
    rintro (hk | hk)
    · exact hk
    · refine (h.mem k).1 ?_
      have : v.toNat = k := by omega
      subst this
      rw [List.getElem?_eq_getElem hlt]
      rw [List.getD_eq_getElem?_getD, List.getElem?_eq_getElem hlt] at hf
      simpa using hf
/-- What is known once the first i of those to do are done. -/
structure SnInv (cs : List Cl) (rs : List Int) (i : Nat) (S : Sn) : Prop where
  ok : SnOk cs.length S
  rch : ∀ k ∈ S.todo, Rch cs rs k
  root : ∀ k : Nat, (k : Int) ∈ rs → k ∈ S.todo
  done : ∀ (j k : Nat) (c : Cl), j < i → S.todo[j]? = some k → cs[k]? = some c → c.weak = false → ∀ q : Nat, (c.a = (q : Int) ∨ c.b = (q : Int)) → q ∈ S.todo
theorem meets_ok {n : Nat} : ∀ (rs : List Int) (S : Sn), SnOk n S → (∀ r ∈ rs, -1 ≤ r ∧ r < (n : Int)) → SnOk n (meetsS rs S) ∧ ∀ k, k ∈ (meetsS rs S).todo ↔ k ∈ S.todo ∨ (k : Int) ∈ rs
  | [], S, h, _ => ⟨h, fun k => by simp [meetsS]⟩
  | r :: rs, S, h, hr => by
    obtain ⟨h1, h2, _⟩ := h.meet r (hr r (List.mem_cons_self))
    obtain ⟨h3, h4⟩ := meets_ok rs (meetS r S) h1 (fun x hx => hr x (List.mem_cons_of_mem _ hx))
    refine ⟨h3, fun k => ?_⟩
    show k ∈ (meetsS rs (meetS r S)).todo ↔ _
    rw [h4, h2, List.mem_cons]
    constructor
    · rintro ((h | h) | h)
      · exact .inl h
      · exact .inr (.inl h.symm)
      · exact .inr (.inr h)
    · rintro (h | h | h)
      · exact .inl (.inl h)
      · exact .inl (.inr h.symm)
      · exact .inr h
def startSn (n : Nat) : Sn := ⟨List.replicate n false, [], true⟩
theorem start_ok (n : Nat) : SnOk n (startSn n) := by
  refine ⟨by simp [startSn], ?_, ?_, rfl⟩
  · simp [startSn, List.countP_replicate]
  · intro k
    simp only [startSn, List.not_mem_nil, iff_false]
    intro h
    have := List.mem_of_getElem? h
    rw [List.mem_replicate] at this
    exact absurd this.2 (by simp)
theorem SnInv.start {cs : List Cl} {rs : List Int} (hr : ∀ r ∈ rs, -1 ≤ r ∧ r < (cs.length : Int)) : SnInv cs rs 0 (meetsS rs (startSn cs.length)) := by
  obtain ⟨h1, h2⟩ := meets_ok rs _ (start_ok cs.length) hr
  refine ⟨h1, ?_, fun k hk => (h2 k).2 (.inr hk), fun j k c hj => by omega⟩
  intro k hk
  rcases (h2 k).1 hk with h | h
  · simp [startSn] at h
  · exact .root k h
theorem SnInv.next {cs : List Cl} {rs : List Int} {i k : Nat} {S : Sn} (h : SnInv cs rs i S) (hrefs : ∀ c ∈ cs, -1 ≤ c.a ∧ c.a < (cs.length : Int) ∧ -1 ≤ c.b ∧ c.b < (cs.length : Int)) (hi : S.todo[i]? = some k) : SnInv cs rs (i + 1) (lookS cs k S) := by
  have hk := List.mem_of_getElem? hi
  have hkl := h.ok.lt hk
  have hc : cs[k]? = some cs[k] := List.getElem?_eq_getElem hkl
  unfold lookS
  rw [hc]
  simp only
  by_cases hw : cs[k].weak = true
  · rw [if_pos hw]
    refine ⟨h.ok, h.rch, h.root, ?_⟩
    intro j k' c hj hjk hck hcw q hq
    by_cases e : j = i
    · subst e
      obtain rfl := Option.some.inj (hi.symm.trans hjk)
      obtain rfl := Option.some.inj (hc.symm.trans hck)
      rw [hw] at hcw; cases hcw
    · exact h.done j k' c (by omega) hjk hck hcw q hq
  · rw [if_neg hw]
    have hw' : cs[k].weak = false := by simpa using hw
    obtain ⟨r1, r2, r3, r4⟩ := hrefs cs[k] (List.getElem_mem hkl)
    obtain ⟨a1, a2, e1, a3⟩ := h.ok.meet cs[k].a ⟨r1, r2⟩
    obtain ⟨b1, b2, e2, b3⟩ := a1.meet cs[k].b ⟨r3, r4⟩
    have hsub : ∀ q, q ∈ S.todo → q ∈ (meetS cs[k].b (meetS cs[k].a S)).todo := fun q hq => (b2 q).2 (.inl ((a2 q).2 (.inl hq)))
    refine ⟨b1, ?_, fun q hq => hsub q (h.root q hq), ?_⟩
    · intro q hq
      rcases (b2 q).1 hq with hq | hq
      · rcases (a2 q).1 hq with hq | hq
        · exact h.rch q hq
        · exact .ref k q cs[k] (h.rch k hk) hc hw' (.inl hq)
      · exact .ref k q cs[k] (h.rch k hk) hc hw' (.inr hq)
    · intro j k' c hj hjk hck hcw q hq
      have hil := (List.getElem?_eq_some_iff.1 hi).1
      have hjl : j < S.todo.length := by omega
      rw [b3, a3, List.append_assoc, List.getElem?_append_left hjl] at hjk
      by_cases e : j = i
      · subst e
        obtain rfl := Option.some.inj (hi.symm.trans hjk)
        obtain rfl := Option.some.inj (hc.symm.trans hck)
        rcases hq with hq | hq
        · exact (b2 q).2 (.inl ((a2 q).2 (.inr hq)))
        · exact (b2 q).2 (.inr hq)
      · exact hsub q (h.done j k' c (by omega) hjk hck hcw q hq)
/-- At the end just what can be reached has been met. -/
theorem SnInv.fin {cs : List Cl} {rs : List Int} {i : Nat} {S : Sn} (h : SnInv cs rs i S) (hi : S.todo.length ≤ i) (k : Nat) : S.ins[k]? = some true ↔ Rch cs rs k := by
  rw [h.ok.mem]
  constructor
  · exact h.rch k
  · intro hr
    induction hr using Rch.ind with
    | root k hk => exact h.root k hk
    | ref k q c _ hc hw hq ih =>
      obtain ⟨j, hj, e⟩ := List.mem_iff_getElem.1 ih
      exact h.done j k c (by omega) (by rw [List.getElem?_eq_getElem hj, e]) hc hw q hq
end Go.Proofs.YtdmdpindonghdaaDoor
namespace Go.Proofs.YtdmdpindonghdaaDoor
open Go.RowKit
/-- Where what is seen lies. -/
structure SK where
  b : Nat
  gc : Nat
  kc : Nat
  gi : Nat
  base : Nat
def SK.row (k : SK) (n : Nat) (vT : Value) (snd : Bool) : Array Value := #[.slice (some ⟨k.gc, 0, none⟩) n k.kc, .slice (some ⟨k.gi, 0, none⟩) n n, vT, .bool snd]
structure SeenAt (W : World) (k : SK) (n : Nat) (vT : Value) (S : Sn) : Prop where
  row : W.heap[k.b]? = some (.cells (k.row n vT S.sound) 73)
  ins : W.heap[k.gi]? = some (.cells (S.ins.map Value.bool).toArray 4)
  len : S.ins.length = n
  todo : W.ownsRow k.base 3 1 vT S.todo.length (S.todo.map (fun (j : Nat) => Value.int .i64 j))
  tb : vT.ownBlock ≠ some k.b
  ti : vT.ownBlock ≠ some k.gi
  ne : k.b ≠ k.gi
  bb : k.base ≤ k.b
  bi : k.base ≤ k.gi
/-- What may turn. -/
def SK.In (k : SK) (vT : Value) (j : Nat) : Prop := j = k.b ∨ j = k.gi ∨ vT.ownBlock = some j
def MeetPost (k : SK) (n : Nat) (vT : Value) (S : Sn) (w : World) (e : Ending) (w' : World) : Prop :=
  e = .returned (.tuple #[]) ∧ ∃ vT', SeenAt w' k n vT' S ∧ Touch (k.In vT) w w' ∧ ∀ j, vT'.ownBlock = some j → vT.ownBlock = some j ∨ w.heap.size ≤ j
set_option maxRecDepth 100000 in
set_option maxHeartbeats 1000000 in
theorem meet_none (k : SK) (n : Nat) (vT : Value) (S : Sn) (w : World) (h : SeenAt w k n vT S) :
    Calls Tryd.prog 60 #[.pointer (some ⟨k.b, 0, none⟩), .int .i64 (-1)] w (MeetPost k n vT S w) := by
  have HF : Hid (MeetPost k n vT S w (.returned (.tuple #[])) w) := hid ⟨rfl, vT, h, Touch.refl _ _, fun j hj => .inl hj⟩
  clear h
  go_enter Tryd.func60, Tryd.ntmps60
  go_wp2_with fail
  go_end0
  exact HF.out
theorem meet_fin {k : SK} {n v : Nat} {vT : Value} {S : Sn} {w w6 : World} {o : Obj} {gg gcap : Nat} (hh : SeenAt w k n vT S) (hiz : k.gi < w.heap.size) (hbz : k.b < w.heap.size)
    (hgrow : ((w.setCell ⟨k.gi, v, none⟩ (.bool true)).alloc o).grownBy w6 vT.ownBlock) (hown : w6.ownsRow k.base 3 1 (.slice (some ⟨gg, 0, none⟩) (S.todo.length + 1) gcap) (S.todo.length + 1) (S.todo.map (fun (j : Nat) => Value.int .i64 j) ++ [.int .i64 v])) (hat : vT.ownBlock = some gg ∨ gg = ((w.setCell ⟨k.gi, v, none⟩ (.bool true)).alloc o).heap.size) :
    MeetPost k n vT { S with ins := S.ins.set v true, todo := S.todo ++ [v] } w (.returned (.tuple #[])) (w6.setCell ⟨k.b, 2, none⟩ (.slice (some ⟨gg, 0, none⟩) (S.todo.length + 1) gcap)) := by
  have ho : Only k.gi w (w.setCell ⟨k.gi, v, none⟩ (.bool true)) := (Only.refl _ _).set _ _
  have hz1 : ((w.setCell ⟨k.gi, v, none⟩ (.bool true)).alloc o).heap.size = w.heap.size + 1 := by rw [alloc_size, ho.size]
  have hz6 := hgrow.size
  have ho7 : Only k.b w6 (w6.setCell ⟨k.b, 2, none⟩ (.slice (some ⟨gg, 0, none⟩) (S.todo.length + 1) gcap)) := (Only.refl _ _).set _ _
  have hblk : ∀ j, j < w.heap.size → vT.ownBlock ≠ some j → w6.heap[j]? = (w.setCell ⟨k.gi, v, none⟩ (.bool true)).heap[j]? := fun j hj hne => by
    rw [hgrow.block j (by omega) (fun e => hne e.symm)]
    exact heap_alloc_old _ _ (by rw [ho.size]; exact hj)
  have hr6 : w6.heap[k.b]? = some (.cells (k.row n vT S.sound) 73) := (hblk k.b hbz hh.tb).trans ((ho.block k.b hh.ne).trans hh.row)
  have hi6 : w6.heap[k.gi]? = _ := (hblk k.gi hiz hh.ti).trans (setCell_row v (.bool true) hh.ins)
  have hgb : gg ≠ k.b := fun e => by
    rcases hat with h | h
    · exact hh.tb (by rw [h, e])
    · omega
  have hgi : gg ≠ k.gi := fun e => by
    rcases hat with h | h
    · exact hh.ti (by rw [h, e])
    · omega
  refine ⟨rfl, .slice (some ⟨gg, 0, none⟩) (S.todo.length + 1) gcap, ⟨?_, ?_, ?_, ?_, ?_, ?_, hh.ne, hh.bb, hh.bi⟩, ?_, ?_⟩
  · have := setCell_row 2 (.slice (some ⟨gg, 0, none⟩) (S.todo.length + 1) gcap) hr6
    rw [this]
    simp [SK.row]
  · rw [ho7.block k.gi (Ne.symm hh.ne), hi6]
    simp [List.map_set]
  · simp [hh.len]
  · have h1 := owns_keep hown (w' := w6.setCell ⟨k.b, 2, none⟩ (.slice (some ⟨gg, 0, none⟩) (S.todo.length + 1) gcap)) (fun g hg => ho7.block g (by
      simp only [Value.ownBlock, Option.some.injEq] at hg
      rw [← hg]; exact hgb))
    simpa using h1
  · simp only [Value.ownBlock, ne_eq, Option.some.injEq]; exact hgb
  · simp only [Value.ownBlock, ne_eq, Option.some.injEq]; exact hgi
  · have t1 : Touch (k.In vT) w (w.setCell ⟨k.gi, v, none⟩ (.bool true)) := ⟨ho.os, ho.tape, ho.output, by rw [ho.size]; exact Nat.le_refl _, fun j _ hj => ho.block j (fun e => hj (.inr (.inl e)))⟩
    refine ⟨?_, ?_, ?_, ?_, ?_⟩
    · rw [ho7.os, hgrow.os]; exact ho.os
    · rw [ho7.tape, hgrow.tape]; exact ho.tape
    · rw [ho7.output, hgrow.output]; exact ho.output
    · rw [ho7.size]; omega
    · intro j hj hn
      rw [ho7.block j (fun e => hn (.inl e)), hblk j hj (fun e => hn (.inr (.inr e)))]
      exact t1.block j hj hn
  · intro j hj
    simp only [Value.ownBlock, Option.some.injEq] at hj
    subst hj
    rcases hat with h | h
    · exact .inl h
    · exact .inr (by omega)
set_option maxRecDepth 100000 in
set_option maxHeartbeats 1000000 in
theorem meet_new (k : SK) (n v : Nat) (vT : Value) (S : Sn) (w : World) (h : SeenAt w k n vT S) (hv : v < n) (hn : n ≤ 100) (ht : S.todo.length ≤ n) (hf : S.ins[v]? = some false) :
    Calls Tryd.prog 60 #[.pointer (some ⟨k.b, 0, none⟩), .int .i64 v] w (MeetPost k n vT { S with ins := S.ins.set v true, todo := S.todo ++ [v] } w) := by
  obtain ⟨pt, ct, et⟩ := owns_slice h.todo
  subst et
  have r0 := cell_of_row w k.b 0 _ _ _ h.row
  have r1 := cell_of_row w k.b 1 _ _ _ h.row
  have r2 := cell_of_row w k.b 2 _ _ _ h.row
  have f2 := frozen_of_row w k.b 2 _ _ h.row
  unfold SK.row at r0 r1 r2
  simp only [List.getElem?_toArray, List.getElem?_cons_zero, List.getElem?_cons_succ] at r0 r1 r2
  have i0 := cell_of_row w k.gi v _ _ _ h.ins
  rw [List.getElem?_toArray, List.getElem?_map, hf] at i0
  simp only [Option.map_some] at i0
  have fi := frozen_of_row w k.gi v _ _ h.ins
  have d0 : (0 : Int) ≤ (v : Int) := by omega
  have d1 : (v : Int) < (n : Int) := by omega
  have d2 : ¬ (v : Int) < 0 := by omega
  have d3 : ¬ (n : Int) ≤ (v : Int) := by omega
  have d4 : ((v : Int) == -1) = false := by simp
  have hne := h.ne
  have ho : Only k.gi w (w.setCell ⟨k.gi, v, none⟩ (.bool true)) := (Only.refl _ _).set _ _
  have hown : (w.setCell ⟨k.gi, v, none⟩ (.bool true)).ownsRow k.base 3 1 (.slice pt S.todo.length ct) S.todo.length (S.todo.map (fun (j : Nat) => Value.int .i64 j)) := owns_keep h.todo (fun g hg => ho.block g (fun e => h.ti (by rw [hg, e])))
  have hbz : k.b < w.heap.size := World.block_lt_of_cell? w _ r0
  have hiz : k.gi < w.heap.size := World.block_lt_of_cell? w _ i0
  have hbb := h.bb
  have hsz : (w.setCell ⟨k.gi, v, none⟩ (.bool true)).heap.size = w.heap.size := ho.size
  have hfar : some k.b ≠ (Value.slice pt S.todo.length ct).ownBlock := fun e => h.tb e.symm
  have rW : (w.setCell ⟨k.gi, v, none⟩ (.bool true)).heap[k.b]? = _ := (ho.block k.b hne).trans h.row
  have iW := setCell_row v (.bool true) h.ins
  have RW := hid rW
  have IW := hid iW
  have HOO := hid ho
  obtain ⟨i0', hi0, hz0, hz1, hz2⟩ := info_parts intInfo
  have HH := hid h
  clear h rW iW ho
  go_enter Tryd.func60, Tryd.ntmps60
  go_wp2_with (at_builtin; go_must (refine wpList_append_lies _ (by rfl) _ _ _ (by rfl) k.base 3 i0' _ 1 8 Tryd.underlying33 hi0 hz0 hz1 hz2 rfl (by omega) _ S.todo.length (S.todo.map (fun (j : Nat) => Value.int .i64 j)) (by rfl) (hown.alloc _) ⟨w.heap.size, 0, none⟩ 1 1 [.int .i64 v] (by rfl) (by rfl) (World.news_of_block (cs := #[.int .i64 v]) (t := 3) (fr := (0, 0)) (by rw [← hsz]; exact heap_alloc_new _ _)) (by simp [Value.oneCell']) (by omega) (by unfold maxLen; omega) (by omega) (by simp; omega) _ rfl ?_); intro gg gcap w6 hown6 hgrow6 hat6 hlt6; have s2 := (hgrow6.cell_far ⟨k.b, 2, none⟩ (by simp; omega) hfar); have s3 := (hgrow6.frozen_far ⟨k.b, 2, none⟩ (by simp; omega) hfar))
  have HFN := hid (meet_fin HH.out hiz hbz hgrow6 hown6 hat6)
  go_end0
  exact HFN.out
set_option maxRecDepth 100000 in
set_option maxHeartbeats 1000000 in
theorem meet_old (k : SK) (n v : Nat) (vT : Value) (S : Sn) (w : World) (h : SeenAt w k n vT S) (hv : v < n) (hf : S.ins[v]? = some true) :
    Calls Tryd.prog 60 #[.pointer (some ⟨k.b, 0, none⟩), .int .i64 v] w (MeetPost k n vT S w) := by
  have r0 := cell_of_row w k.b 0 _ _ _ h.row
  have r1 := cell_of_row w k.b 1 _ _ _ h.row
  unfold SK.row at r0 r1
  simp only [List.getElem?_toArray, List.getElem?_cons_zero, List.getElem?_cons_succ] at r0 r1
  have i0 := cell_of_row w k.gi v _ _ _ h.ins
  rw [List.getElem?_toArray, List.getElem?_map, hf] at i0
  simp only [Option.map_some] at i0
  have d0 : (0 : Int) ≤ (v : Int) := by omega
  have d1 : (v : Int) < (n : Int) := by omega
  have d2 : ¬ (v : Int) < 0 := by omega
  have d3 : ¬ (n : Int) ≤ (v : Int) := by omega
  have d4 : ((v : Int) == -1) = false := by simp
  have HF : Hid (MeetPost k n vT S w (.returned (.tuple #[])) w) := hid ⟨rfl, vT, h, Touch.refl _ _, fun j hj => .inl hj⟩
  clear h
  go_enter Tryd.func60, Tryd.ntmps60
  go_wp2_with fail
  go_end0
  exact HF.out
theorem meet_any (k : SK) (n : Nat) (v : Int) (vT : Value) (S : Sn) (w : World) (h : SeenAt w k n vT S) (hs : SnOk n S) (hn : n ≤ 100) (hv : -1 ≤ v ∧ v < (n : Int)) :
    Calls Tryd.prog 60 #[.pointer (some ⟨k.b, 0, none⟩), .int .i64 v] w (MeetPost k n vT (meetS v S) w) := by
  by_cases h1 : v = -1
  · subst h1
    have : meetS (-1) S = S := by unfold meetS; rw [if_pos rfl]
    rw [this]
    exact meet_none k n vT S w h
  obtain ⟨q, rfl⟩ : ∃ q : Nat, v = (q : Int) := ⟨v.toNat, by omega⟩
  have hq : q < S.ins.length := by rw [hs.len]; omega
  unfold meetS
  rw [if_neg h1, if_neg (by rw [hs.len]; omega), Int.toNat_natCast]
  cases hb : S.ins[q] with
  | false =>
    have hg : S.ins[q]? = some false := by rw [List.getElem?_eq_getElem hq, hb]
    rw [if_pos (by rw [List.getD_eq_getElem?_getD, hg]; rfl)]
    exact meet_new k n q vT S w h (by omega) hn hs.todo_le hg
  | true =>
    have hg : S.ins[q]? = some true := by rw [List.getElem?_eq_getElem hq, hb]
    rw [if_neg (by rw [List.getD_eq_getElem?_getD, hg]; simp)]
    exact meet_old k n q vT S w h (by omega) hg
end Go.Proofs.YtdmdpindonghdaaDoor
namespace Go.Proofs.YtdmdpindonghdaaDoor
open Go.RowKit
/-- What was seen has gone on from S to S'. -/
structure SeenTo (k : SK) (n : Nat) (vT : Value) (w : World) (vT' : Value) (S' : Sn) (w' : World) : Prop where
  at_ : SeenAt w' k n vT' S'
  touch : Touch (k.In vT) w w'
  own : ∀ j, vT'.ownBlock = some j → vT.ownBlock = some j ∨ w.heap.size ≤ j
theorem SeenTo.refl {k : SK} {n : Nat} {vT : Value} {S : Sn} {w : World} (h : SeenAt w k n vT S) : SeenTo k n vT w vT S w := ⟨h, Touch.refl _ _, fun _ h => .inl h⟩
theorem SeenTo.trans {k : SK} {n : Nat} {vT vT1 vT2 : Value} {S1 S2 : Sn} {w w1 w2 : World} (h : SeenTo k n vT w vT1 S1 w1) (h' : SeenTo k n vT1 w1 vT2 S2 w2) : SeenTo k n vT w vT2 S2 w2 := by
  refine ⟨h'.at_, h.touch.trans h'.touch (fun j hj hi => ?_), fun j hj => ?_⟩
  · rcases hi with hi | hi | hi
    · exact .inl hi
    · exact .inr (.inl hi)
    · rcases h.own j hi with e | e
      · exact .inr (.inr e)
      · omega
  · rcases h'.own j hj with e | e
    · exact h.own j e
    · exact .inr (Nat.le_trans h.touch.size e)
theorem SeenAt.below {k : SK} {n : Nat} {vT : Value} {S : Sn} {w w' : World} (h : SeenAt w k n vT S) (hb : Below w.heap.size w w') : SeenAt w' k n vT S :=
  ⟨(hb.block k.b (Array.getElem?_eq_some_iff.1 h.row).1).trans h.row, (hb.block k.gi (Array.getElem?_eq_some_iff.1 h.ins).1).trans h.ins, h.len, owns_keep h.todo (fun g hg => hb.block g (h.todo.lt g hg).2), h.tb, h.ti, h.ne, h.bb, h.bi⟩
theorem SeenTo.below {k : SK} {n : Nat} {vT vT' : Value} {S' : Sn} {w w' w'' : World} (h : SeenTo k n vT w vT' S' w') (hb : Below w'.heap.size w' w'') : SeenTo k n vT w vT' S' w'' :=
  ⟨h.at_.below hb, h.touch.trans (Touch.below (F := k.In vT) hb) (fun _ _ h => h), h.own⟩
/-- A block that what is seen leaves alone. -/
def SK.Off (k : SK) (vT : Value) (w : World) (g : Nat) : Prop := g < w.heap.size ∧ ¬ k.In vT g
theorem LsAt.off {k : SK} {n : Nat} {vT vT' : Value} {S' : Sn} {w w' : World} {v : Value} {m : Nat} {cs : List Value} (h : LsAt w (k.Off vT w) v m cs) (ht : SeenTo k n vT w vT' S' w') : LsAt w' (k.Off vT w) v m cs := by
  rcases h with h | ⟨g, cap, hv, hp, hc⟩
  · exact .inl h
  · exact .inr ⟨g, cap, hv, hp, fun j u hj => (World.cell?_of_block (a := ⟨g, j, none⟩) (ht.touch.block g hp.1 hp.2)).trans (hc j u hj)⟩
theorem rootsC_take {Q : List (Nat × Int)} {j : Nat} (h : j < Q.length) : rootsC (Q.take (j + 1)) = rootsC (Q.take j) ++ (if Q[j].1 = 1 then [Q[j].2] else []) := rootsC_next h
theorem meetsS_snoc (rs : List Int) (v : Int) (S : Sn) : meetsS (rs ++ [v]) S = meetS v (meetsS rs S) := by unfold meetsS; rw [List.foldl_append]; rfl
set_option maxRecDepth 100000 in
set_option maxHeartbeats 1000000 in
theorem meets_any (k : SK) (n : Nat) (vQ vT : Value) (Q : List (Nat × Int)) (S : Sn) (w : World) (h : SeenAt w k n vT S) (hs : SnOk n S) (hn : n ≤ 100) (hQ : LsAt w (k.Off vT w) vQ Q.length (Q.flatMap slCells)) (hql : Q.length ≤ 100) (hr : ∀ r ∈ rootsC Q, -1 ≤ r ∧ r < (n : Int)) :
    Calls Tryd.prog 59 #[.pointer (some ⟨k.b, 0, none⟩), vQ] w fun e w' => e = .returned (.tuple #[]) ∧ ∃ vT', SeenTo k n vT w vT' (meetsS (rootsC Q) S) w' := by
  obtain ⟨pq, cq, eq⟩ := hQ.slice
  subst eq
  have HQ := hid hQ
  have HH := hid h
  have HS := hid hs
  have HR := hid hr
  clear h hQ hs hr
  go_enter Tryd.func59, Tryd.ntmps59
  go_wp2_with fail
  go_loopg [4] Q.length (fun gk x w' => ∃ j : Nat, j ≤ Q.length ∧ gk = Q.length - j ∧ x = .int .i64 j ∧ ∃ vT', SeenTo k n vT w vT' (meetsS (rootsC (Q.take j)) S) w' ∧ SnOk n (meetsS (rootsC (Q.take j)) S))
  case atStart => exact ⟨0, by omega, by omega, rfl, vT, SeenTo.refl HH.out, HS.out⟩
  case round =>
    obtain ⟨j, hj, hgk, rfl, vT1, hT, hok⟩ := hrel
    rcases Nat.lt_or_ge j Q.length with hlt | hge
    · have d0 : (0 : Int) ≤ (j : Int) := by omega
      have d1 : (j : Int) < (Q.length : Int) := by omega
      obtain ⟨g, cap, eg, hgs, hc⟩ := (HQ.out.off hT).some (by omega)
      cases eg
      have y0 := hc _ _ (flat_at slCells 2 (fun _ => rfl) Q j 0 hlt (by omega))
      have y1 := hc _ _ (flat_at slCells 2 (fun _ => rfl) Q j 1 hlt (by omega))
      rw [Nat.add_zero] at y0
      have HNX := hid (rootsC_take hlt)
      have hrv : Q[j].1 = 1 → -1 ≤ Q[j].2 ∧ Q[j].2 < (n : Int) := fun e => HR.out _ (by
        unfold rootsC
        exact List.mem_map.2 ⟨Q[j], List.mem_filter.2 ⟨List.getElem_mem hlt, by simp [e]⟩, rfl⟩)
      have hme := hid (fun (e : Q[j].1 = 1) => meet_any k n Q[j].2 vT1 _ wr hT.at_ hok hn (hrv e))
      have HME2 := hid (fun (e : Q[j].1 = 1) => (hok.meet Q[j].2 (hrv e)).1)
      have HT := hid hT
      have HOK := hid hok
      clear hc hT hok hrv
      generalize Q[j] = q at *
      obtain ⟨qt, qv⟩ := q
      simp only at y0 y1
      by_cases hq : qt = 1
      · subst hq
        have hm1 := hid (hme.out rfl)
        have HO2 := hid (HME2.out rfl)
        clear hme HME2
        go_wp2_with fail
        refine hm1.out.mono ?_
        clear hm1
        intro e w5 hh
        obtain ⟨hx, vT2, a1, a2, a3⟩ := hh
        subst e
        have HT2 := hid (HT.out.trans ⟨a1, a2, a3⟩)
        clear a1 a2 a3 y0 y1
        go_wp2_with fail
        go_roundg (Q.length - (j + 1))
        case measure => omega
        case rel =>
          refine ⟨j + 1, by omega, rfl, by go_num, vT2, ?_, ?_⟩
          · rw [HNX.out, if_pos trivial, meetsS_snoc]; exact HT2.out
          · rw [HNX.out, if_pos trivial, meetsS_snoc]; exact HO2.out
      · have hq1 : ((qt : Int) == 1) = false := by simp; omega
        clear hme HME2
        go_wp2_with fail
        go_roundg (Q.length - (j + 1))
        case measure => omega
        case rel =>
          refine ⟨j + 1, by omega, rfl, by go_num, vT1, ?_, ?_⟩
          · rw [HNX.out, if_neg hq, List.append_nil]; exact HT.out
          · rw [HNX.out, if_neg hq, List.append_nil]; exact HOK.out
    · have d1 : ¬ (j : Int) < (Q.length : Int) := by omega
      rw [List.take_of_length_le (by omega)] at hT
      have HT := hid hT
      clear hT hok
      go_wp2_with fail
      go_end0
      exact ⟨rfl, vT1, HT.out⟩
theorem boolInfo : (Tryd.prog.info? 4).map (fun i => (i.zero, i.size, i.bytes)) = some (some (.bool false), 1, 1) := by kernel_rfl
theorem make_bools (n : Nat) (h : n ≤ 100) (w : World) : Sem.run Tryd.prog (Instr.makeSlice 71 (.int .i64 (n : Int)) (.int .i64 (n : Int))) w = .ok (.slice (some ⟨w.heap.size, 0, none⟩) n n) (w.alloc (.cells (Array.replicate n (Value.bool false)) 4)) := by
  obtain ⟨i0, hi, hz0, hz1, hz2⟩ := info_parts boolInfo
  have := run_make (P := Tryd.prog) w 71 4 i0 _ Tryd.underlying71 hi hz0 .i64 .i64 (n : Int) (n : Int) (by omega) (by omega) (by rw [hz2]; omega) (by omega)
  rw [this, hz1, show Value.cells (.bool false) = #[.bool false] from rfl, Int.toNat_natCast, Nat.mul_one]
  rw [show madeCells #[Value.bool false] n = Array.replicate n (Value.bool false) from Array.toList_inj.1 (by rw [toList_madeCells_one]; simp)]
/-- What seen leaves. -/
structure Saw (cs : List Cl) (rs : List Int) (k : SK) (vT : Value) (S : Sn) (w w' : World) : Prop where
  at_ : SeenAt w' k cs.length vT S
  below : Below w.heap.size w w'
  base : k.base = w.heap.size
  ok : SnOk cs.length S
  ins : ∀ j, S.ins[j]? = some true ↔ Rch cs rs j
  cells : LsAt w' (fun g => w.heap.size ≤ g ∧ g < w'.heap.size) (.slice (some ⟨k.gc, 0, none⟩) cs.length k.kc) cs.length (cs.flatMap clCells)
set_option maxRecDepth 100000 in
set_option maxHeartbeats 2000000 in
theorem seen_any {w : World} {K : PK} {E : Env} {F : Nat → Prop} {s : MS} (h : PX w K F s) (hke : KE K E) (he : EnvOk E) (hi : MInv E s) :
    Calls Tryd.prog 31 #[.pointer (some ⟨K.b, 0, none⟩)] w fun e w' => ∃ k vT S, e = .returned (.pointer (some ⟨k.b, 0, none⟩)) ∧ Saw (s.hs.1.map toldC) (rootsS E s) k vT S w w' := by
  have hn := hi.n
  have hn1 := he.n1
  have hn2 := he.n32
  have hhp := hid (show Calls Tryd.prog 58 #[.pointer (some ⟨K.b, 0, none⟩)] w (HeapPost (s.hs.1.map toldC) w) from by
    obtain ⟨vI, vO, lo4, st8, hm, _⟩ := h
    exact pheap_any hm (by omega))
  have hst := hid (fun (W : World) (hb : Below w.heap.size w W) => px_state (h.below hb) hke he hi)
  clear h
  go_enter Tryd.func31, Tryd.ntmps31
  go_wp2_with fail
  refine hhp.out.mono ?_
  clear hhp
  intro e w1 hh
  obtain ⟨hb1, vh, hx, oh⟩ := hh
  subst e
  have hcl : (s.hs.1.map toldC).length = E.n := by rw [List.length_map]; exact hn
  obtain ⟨gc, kc, ec⟩ : ∃ gc kc, vh = .slice (some ⟨gc, 0, none⟩) (s.hs.1.map toldC).length kc := by
    rcases oh.2 with ⟨_, h2⟩ | ⟨g, cap, cur, h1, _⟩
    · omega
    · exact ⟨g, cap, h1⟩
  subst ec
  have hs1 := hid (hst.out w1 hb1)
  have HB1 := hid hb1
  have OH := hid oh
  have HGC := hid (oh.lt gc rfl).1
  clear hst hb1 oh
  go_wp2_with fail
  refine hs1.out.mono ?_
  clear hs1
  intro e w2 hh
  obtain ⟨pl, hb2, v1, v2, hx, o1, o2, _⟩ := hh
  subst e
  obtain ⟨q1, k1, e1⟩ := owns_slice o1
  obtain ⟨q2, k2, e2⟩ := owns_slice o2
  subst e1
  subst e2
  have hmk := fun (W : World) => make_bools E.n (by omega) W
  obtain ⟨cs, hcs⟩ : ∃ cs, cs = s.hs.1.map toldC := ⟨_, rfl⟩
  have hrs : ∀ r ∈ rootsS E s, -1 ≤ r ∧ r < (E.n : Int) := hi.roots he
  have hrf : ∀ c ∈ cs, -1 ≤ c.a ∧ c.a < (cs.length : Int) ∧ -1 ≤ c.b ∧ c.b < (cs.length : Int) := by
    intro c hc
    rw [hcs] at hc ⊢
    obtain ⟨d, hd, rfl⟩ := List.mem_map.1 hc
    have a1 := hi.hok.refs d hd
    have a2 := hi.hx.cell d hd
    rw [List.length_map]
    exact ⟨a2.lowA, a1.1, a2.lowB, a1.2⟩
  have hl1 : (locsS E s).length ≤ 100 := by
    have := hi.lo he
    have := he.wf.loc
    unfold locsS slotsC; rw [List.length_zipWith]; omega
  have hl2 : (stkS E s).length ≤ 100 := by
    have := hi.st he
    unfold stkS slotsC; rw [List.length_zipWith]; omega
  have hrE : rootsS E s = rootsC (locsS E s) ++ rootsC (stkS E s) := by unfold rootsS; exact rootsC_append _ _
  rw [← hcs] at OH hcl
  have HCS := hid hcs
  generalize locsS E s = Q1 at *
  generalize stkS E s = Q2 at *
  obtain ⟨rs, hrs0⟩ : ∃ rs, rs = rootsS E s := ⟨_, rfl⟩
  rw [← hrs0] at hrs hrE
  have HRS0 := hid hrs0
  clear hrs0
  obtain ⟨oS, hoS⟩ : ∃ oS : Obj, oS = .cells #[.int .i64 s.oc, .int .i64 s.va, .int .i64 pl, .int .i64 s.hs.2.1, .int .i64 s.hs.2.2, .slice q1 Q1.length k1, .slice q2 Q2.length k2] 61 := ⟨_, rfl⟩
  obtain ⟨oI, hoI⟩ : ∃ oI : Obj, oI = .cells (Array.replicate E.n (Value.bool false)) 4 := ⟨_, rfl⟩
  obtain ⟨oR, hoR⟩ : ∃ oR : Obj, oR = .cells #[.slice (some ⟨gc, 0, none⟩) E.n kc, .slice (some ⟨w2.heap.size + 1, 0, none⟩) E.n E.n, .slice none 0 0, .bool true] 73 := ⟨_, rfl⟩
  obtain ⟨k, hk⟩ : ∃ k : SK, k = ⟨w2.heap.size + 1 + 1, gc, kc, w2.heap.size + 1, w.heap.size⟩ := ⟨_, rfl⟩
  have hb3 : Below w2.heap.size w2 (((w2.alloc oS).alloc oI).alloc oR) := (((Below.refl _ _).alloc (Nat.le_refl _) _).alloc (by simp) _).alloc (by simp; omega) _
  have hz3 : (((w2.alloc oS).alloc oI).alloc oR).heap.size = w2.heap.size + 3 := by simp
  have hz12 := hb2.size
  have hz01 := HB1.out.size
  have hA0 : SeenAt (((w2.alloc oS).alloc oI).alloc oR) k E.n (.slice none 0 0) (startSn E.n) := by
    subst hk
    refine ⟨?_, ?_, by simp [startSn], ⟨rfl, .inl ⟨rfl, rfl⟩⟩, by simp [Value.ownBlock], by simp [Value.ownBlock], by simp, by simp only; omega, by simp only; omega⟩
    · rw [hoR]; exact heap_three_third w2 oS oI _
    · have h1 : (((w2.alloc oS).alloc oI).alloc oR).heap[w2.heap.size + 1]? = some oI := by
        have := heap_alloc_new (w2.alloc oS) oI
        rw [alloc_size] at this
        rw [heap_alloc_old _ _ (by simp)]
        exact this
      rw [h1, hoI]
      simp [startSn]
  have hoff : ∀ g, g < w2.heap.size + 1 → k.Off (.slice none 0 0) (((w2.alloc oS).alloc oI).alloc oR) g := fun g hg => by
    subst hk
    refine ⟨by omega, ?_⟩
    rintro (h | h | h)
    · simp only at h; omega
    · simp only at h; omega
    · cases h
  have L1 : LsAt (((w2.alloc oS).alloc oI).alloc oR) (k.Off (.slice none 0 0) (((w2.alloc oS).alloc oI).alloc oR)) (.slice q1 Q1.length k1) Q1.length (Q1.flatMap slCells) := by
    rcases LsAt.of_owns o1 with h | ⟨g, cap, hv, hp, hc⟩
    · exact .inl h
    · exact .inr ⟨g, cap, hv, hoff g (by omega), fun j u hj => (hb3.cell (p := ⟨g, j, none⟩) hp.2).trans (hc j u hj)⟩
  have L2 : LsAt (((w2.alloc oS).alloc oI).alloc oR) (k.Off (.slice none 0 0) (((w2.alloc oS).alloc oI).alloc oR)) (.slice q2 Q2.length k2) Q2.length (Q2.flatMap slCells) := by
    rcases LsAt.of_owns o2 with h | ⟨g, cap, hv, hp, hc⟩
    · exact .inl h
    · exact .inr ⟨g, cap, hv, hoff g (by omega), fun j u hj => (hb3.cell (p := ⟨g, j, none⟩) hp.2).trans (hc j u hj)⟩
  have LC : LsAt (((w2.alloc oS).alloc oI).alloc oR) (k.Off (.slice none 0 0) (((w2.alloc oS).alloc oI).alloc oR)) (.slice (some ⟨gc, 0, none⟩) cs.length kc) cs.length (cs.flatMap clCells) := by
    have h13 : Below w1.heap.size w1 (((w2.alloc oS).alloc oI).alloc oR) := hb2.trans (hb3.mono hb2.size)
    rcases LsAt.of_owns OH.out with h | ⟨g, cap, hv, hp, hc⟩
    · exact .inl h
    · exact .inr ⟨g, cap, hv, hoff g (by omega), fun j u hj => (h13.cell (p := ⟨g, j, none⟩) hp.2).trans (hc j u hj)⟩
  have rS3 : (((w2.alloc oS).alloc oI).alloc oR).heap[w2.heap.size]? = some oS := heap_three_first w2 oS oI oR
  have hm1 := hid (meets_any k E.n _ _ Q1 _ _ hA0 (start_ok E.n) (by omega) L1 hl1 (fun r hr => hrs r (by rw [hrE]; exact List.mem_append_left _ hr)))
  have HL2 := hid L2
  have HLC := hid LC
  have HRS := hid rS3
  have HOFS := hid (hoff w2.heap.size (by omega))
  have HB3 := hid ((HB1.out.trans (hb2.mono hz01)).trans (hb3.mono (by omega)))
  have HOK1 := hid (meets_ok (n := E.n) (rootsC Q1) _ (start_ok E.n) (fun r hr => hrs r (by rw [hrE]; exact List.mem_append_left _ hr))).1
  have HA0 := hid hA0
  have HKB : Hid (k.base = w.heap.size ∧ k.gc = gc ∧ k.kc = kc ∧ k.b = w2.heap.size + 1 + 1) := hid (by subst hk; exact ⟨rfl, rfl, rfl, rfl⟩)
  clear hA0 L1 L2 LC rS3 hoff hb2 hb3 o1 o2 OH HB1 hcs
  have hkb := HKB.out.2.2.2
  rw [hoS, hoI, hoR] at hm1
  rw [hkb] at hm1
  go_wp2_with fail
  refine hm1.out.mono ?_
  clear hm1
  rw [← hoS, ← hoI, ← hoR]
  intro e w4 hh
  obtain ⟨hx, vT4, hT4⟩ := hh
  subst e
  generalize (((w2.alloc oS).alloc oI).alloc oR) = W3 at *
  have hz4 := hT4.touch.size
  have rS4 := (hT4.touch.block w2.heap.size HOFS.out.1 HOFS.out.2).trans HRS.out
  rw [hoS] at rS4
  have c6 := cell_of_row w4 w2.heap.size 6 _ _ _ rS4
  simp only [List.getElem?_toArray, List.getElem?_cons_zero, List.getElem?_cons_succ] at c6
  have hL2 : LsAt w4 (k.Off vT4 w4) (.slice q2 Q2.length k2) Q2.length (Q2.flatMap slCells) := by
    rcases HL2.out.off hT4 with h | ⟨g, cap, hv, hp, hc⟩
    · exact .inl h
    · refine .inr ⟨g, cap, hv, ⟨Nat.lt_of_lt_of_le hp.1 hz4, ?_⟩, hc⟩
      rintro (h | h | h)
      · exact hp.2 (.inl h)
      · exact hp.2 (.inr (.inl h))
      · rcases hT4.own g h with e | e
        · exact hp.2 (.inr (.inr e))
        · have := hp.1; omega
  have hm2 := hid (meets_any k E.n _ vT4 Q2 _ w4 hT4.at_ HOK1.out (by omega) hL2 hl2 (fun r hr => hrs r (by rw [hrE]; exact List.mem_append_right _ hr)))
  have HT4 := hid hT4
  rw [hkb] at hm2
  clear hT4 rS4 hL2 HL2
  go_wp2_with fail
  refine hm2.out.mono ?_
  clear hm2
  intro e w5 hh
  obtain ⟨hx, vT5, hT5⟩ := hh
  subst e
  have hT5' := HT4.out.trans hT5
  have hms : meetsS (rootsC Q2) (meetsS (rootsC Q1) (startSn E.n)) = meetsS rs (startSn cs.length) := by
    rw [hrE, hcl]
    unfold meetsS
    rw [List.foldl_append]
  rw [hms] at hT5'
  have HT5 := hid hT5'
  have HIN0 := hid (SnInv.start (cs := cs) (rs := rs) (fun r hr => by rw [hcl]; exact hrs r hr))
  clear hT5 hT5' hms HT4 c6 HOK1 HOFS HRS hz4
  have hclE : cs.length = E.n := hcl
  go_wp2_with fail
  go_loopg [6] cs.length (fun gk x w' => ∃ (i : Nat) (S : Sn) (vT : Value), i ≤ S.todo.length ∧ gk = cs.length - i ∧ x = .int .i64 i ∧ SeenTo k E.n (.slice none 0 0) W3 vT S w' ∧ SnInv cs rs i S)
  case atStart => exact ⟨0, _, vT5, by omega, by omega, rfl, HT5.out, HIN0.out⟩
  case round =>
    obtain ⟨i, S, vT, hi', hgk, rfl, hT, hI⟩ := hrel
    obtain ⟨pt, ct, et⟩ := owns_slice hT.at_.todo
    subst et
    have r2 := cell_of_row wr k.b 2 _ _ _ hT.at_.row
    unfold SK.row at r2
    simp only [List.getElem?_toArray, List.getElem?_cons_zero, List.getElem?_cons_succ] at r2
    rw [hkb] at r2
    have htl := hI.ok.todo_le
    rcases Nat.lt_or_ge i S.todo.length with hlt | hge
    · have d0 : (0 : Int) ≤ (i : Int) := by omega
      have d1 : (i : Int) < (S.todo.length : Int) := by omega
      obtain ⟨q, hq⟩ : ∃ q, S.todo[i]? = some q := ⟨_, List.getElem?_eq_getElem hlt⟩
      have hql := hI.ok.lt (List.mem_of_getElem? hq)
      obtain ⟨gt, et⟩ : ∃ gt, pt = some ⟨gt, 0, none⟩ := by
        rcases hT.at_.todo.2 with ⟨_, h2⟩ | ⟨g, cap, cur, h1, _⟩
        · omega
        · cases h1; exact ⟨g, rfl⟩
      subst et
      have t0 := hT.at_.todo.cells (g := gt) rfl i (.int .i64 q) (by rw [List.getElem?_map, hq]; rfl)
      rw [addr_add] at t0
      have e0 : (0 : Int) ≤ (q : Int) := by omega
      have e1' : (q : Int) < (E.n : Int) := by omega
      obtain ⟨g, cap, eg, hgs, hc⟩ := (HLC.out.off hT).some (by omega)
      cases eg
      have x0 := hc _ _ (flat_at clCells 5 (fun _ => rfl) cs q 0 hql (by omega))
      have x1 := hc _ _ (flat_at clCells 5 (fun _ => rfl) cs q 1 hql (by omega))
      have x2 := hc _ _ (flat_at clCells 5 (fun _ => rfl) cs q 2 hql (by omega))
      have x3 := hc _ _ (flat_at clCells 5 (fun _ => rfl) cs q 3 hql (by omega))
      have x4 := hc _ _ (flat_at clCells 5 (fun _ => rfl) cs q 4 hql (by omega))
      rw [Nat.add_zero] at x0
      have hnext := hI.next hrf hq
      have hrq := hrf cs[q] (List.getElem_mem hql)
      have hlk : lookS cs q S = if cs[q].weak = true then S else meetS cs[q].b (meetS cs[q].a S) := by
        unfold lookS; rw [List.getElem?_eq_getElem hql]
      rw [hlk] at hnext
      have HNEXT := hid hnext
      have HTT := hid hT
      have HII := hid hI
      clear hc hnext hlk hT hI hq
      generalize cs[q] = c at *
      obtain ⟨co, wk, ra, rb, nn⟩ := c
      simp only at x0 x1 x2 x3 x4
      simp only at hrq
      obtain ⟨oC, hoC⟩ : ∃ oC : Obj, oC = .cells #[.int .i64 co, .bool wk, .int .i64 ra, .int .i64 rb, .int .i64 nn] 77 := ⟨_, rfl⟩
      have hbC : Below wr.heap.size wr (wr.alloc oC) := (Below.refl _ _).alloc (Nat.le_refl _) _
      have hTC := HTT.out.below hbC
      have rC := heap_alloc_new wr oC
      cases wk
      · have hok1 : SnOk E.n S := by rw [← hclE]; exact HII.out.ok
        have hm1 := hid (meet_any k E.n ra _ S _ hTC.at_ hok1 (by omega) (by rw [← hclE]; exact ⟨hrq.1, hrq.2.1⟩))
        have HOK2 := hid (hok1.meet ra (by rw [← hclE]; exact ⟨hrq.1, hrq.2.1⟩)).1
        have HTC := hid hTC
        have hcr : ¬ k.In (.slice (some ⟨gt, 0, none⟩) S.todo.length ct) wr.heap.size := by
          have hat := HTT.out.at_
          rintro (h | h | h)
          · have := (Array.getElem?_eq_some_iff.1 hat.row).1; omega
          · have := (Array.getElem?_eq_some_iff.1 hat.ins).1; omega
          · have := (hat.todo.lt _ h).2; omega
        have HCR := hid hcr
        have HRC := hid rC
        have hzC : (wr.alloc oC).heap.size = wr.heap.size + 1 := by simp
        rw [hkb] at hm1
        clear hTC rC hbC hcr hok1
        rw [hoC] at hm1
        have b1 := cell_of_row _ wr.heap.size 1 _ _ _ (show (wr.alloc oC).heap[wr.heap.size]? = _ from by rw [HRC.out, hoC])
        go_wp2_with fail
        refine hm1.out.mono ?_
        clear hm1 b1
        rw [← hoC]
        intro e w6 hh
        obtain ⟨hx, vT6, a1, a2, a3⟩ := hh
        subst e
        have hT6 : SeenTo k E.n (.slice none 0 0) W3 vT6 _ w6 := HTC.out.trans ⟨a1, a2, a3⟩
        have rC6 := (a2.block wr.heap.size (by omega) HCR.out).trans HRC.out
        rw [hoC] at rC6
        have b3 := cell_of_row w6 wr.heap.size 3 _ _ _ rC6
        simp only [List.getElem?_toArray, List.getElem?_cons_zero, List.getElem?_cons_succ] at b3
        have hm2 := hid (meet_any k E.n rb _ _ w6 a1 HOK2.out (by omega) (by rw [← hclE]; exact ⟨hrq.2.2.1, hrq.2.2.2⟩))
        have HT6 := hid hT6
        rw [hkb] at hm2
        clear a1 a2 a3 hT6 rC6 HTC HCR HRC
        go_wp2_with fail
        refine hm2.out.mono ?_
        clear hm2
        intro e w7 hh
        obtain ⟨hx, vT7, a1, a2, a3⟩ := hh
        subst e
        have HT7 := hid (HT6.out.trans ⟨a1, a2, a3⟩)
        clear a1 a2 a3 b3 HT6
        go_wp2_with fail
        go_roundg (cs.length - (i + 1))
        case measure => omega
        case rel =>
          have hn2 := HNEXT.out
          rw [if_neg (by simp)] at hn2
          refine ⟨i + 1, _, vT7, ?_, rfl, by go_num, HT7.out, hn2⟩
          have hok := HII.out.ok
          obtain ⟨p1, _, e1, p2⟩ := hok.meet ra ⟨hrq.1, hrq.2.1⟩
          obtain ⟨_, _, e2, p3⟩ := p1.meet rb ⟨hrq.2.2.1, hrq.2.2.2⟩
          rw [p3, p2]
          simp only [List.length_append]
          omega
      · have HTC := hid hTC
        rw [hoC] at HTC
        clear hTC rC hbC hoC
        simp only at HNEXT
        go_wp2_with fail
        go_roundg (cs.length - (i + 1))
        case measure => omega
        case rel =>
          have hn2 := HNEXT.out
          rw [if_pos trivial] at hn2
          exact ⟨i + 1, S, _, by omega, rfl, by go_num, HTC.out, hn2⟩
    · have d1 : ¬ (i : Int) < (S.todo.length : Int) := by omega
      have hfin := hI.fin hge
      have HSAW : Hid (∃ k vT S, Ending.returned (Value.pointer (some ⟨w2.heap.size + 1 + 1, 0, none⟩)) = .returned (.pointer (some ⟨k.b, 0, none⟩)) ∧ Saw cs rs k vT S w wr) := hid (by
        have hb3w : Below w.heap.size w wr := HB3.out.trans (hT.touch.sub (B := w.heap.size) (fun j hj => by
          rcases hj with h | h | h
          · have := HA0.out.bb; have := HKB.out.1; omega
          · have := HA0.out.bi; have := HKB.out.1; omega
          · cases h) HB3.out.size)
        refine ⟨k, _, S, by rw [hkb], ⟨by rw [hclE]; exact hT.at_, hb3w, HKB.out.1, hI.ok, hfin, ?_⟩⟩
        rw [HKB.out.2.1, HKB.out.2.2.1]
        rcases HLC.out.off hT with ⟨h1, _⟩ | ⟨g, cap, hv, hp, hc⟩
        · cases h1
        · cases hv
          exact .inr ⟨gc, kc, rfl, ⟨HGC.out, Nat.lt_of_lt_of_le hp.1 hT.touch.size⟩, hc⟩)
      rw [HCS.out, HRS0.out] at HSAW
      clear hT hI hfin
      go_wp2_with fail
      obtain ⟨k', vT', S', g1, g2⟩ := HSAW.out
      exact bodyPost_ret (v := .pointer (some ⟨w2.heap.size + 1 + 1, 0, none⟩)) (by simp [results, Tryd.results31, go_sem]) rfl ⟨k', g1, vT', S', g2⟩
end Go.Proofs.YtdmdpindonghdaaDoor
namespace Go.Proofs.YtdmdpindonghdaaDoor
open Go.RowKit
/-- A cell as refs wants it. -/
structure CGood (n : Nat) (c : Cl) : Prop where
  a1 : -1 ≤ c.a
  a2 : c.a < (n : Int)
  b1 : -1 ≤ c.b
  b2 : c.b < (n : Int)
  col : c.col ≤ 3
  free : c.col = 0 → c = blankL
  weak : c.weak = true → c.b = -1 ∧ c.num = 0
set_option maxRecDepth 100000 in
set_option maxHeartbeats 1000000 in
theorem refs_any (cs : List Cl) (v : Value) (P : Nat → Prop) (w : World) (h : LsAt w P v cs.length (cs.flatMap clCells)) (hp : ∀ g, P g → g < w.heap.size) (hl : cs.length ≤ 100) (hg : ∀ c ∈ cs, CGood cs.length c) :
    Calls Tryd.prog 35 #[v] w fun e w' => e = .returned (.bool true) ∧ Below w.heap.size w w' := by
  obtain ⟨p0, c0, e0⟩ := h.slice
  subst e0
  have HH := hid h
  have HG := hid hg
  have HP := hid hp
  clear h hg hp
  go_enter Tryd.func35, Tryd.ntmps35
  go_wp2_with fail
  go_loopg [3] cs.length (fun gk x w' => ∃ i : Nat, i ≤ cs.length ∧ gk = cs.length - i ∧ x = .int .i64 i ∧ Below w.heap.size w w')
  case atStart => exact ⟨0, by omega, by omega, rfl, Below.refl _ _⟩
  case round =>
    obtain ⟨i, hi, hgk, rfl, hB⟩ := hrel
    have HB := hid hB
    rcases Nat.lt_or_ge i cs.length with hlt | hge
    · have d0 : (0 : Int) ≤ (i : Int) := by omega
      have d1 : (i : Int) < (cs.length : Int) := by omega
      obtain ⟨g, cap, eg, hgs, hc⟩ := HH.out.some (by omega)
      cases eg
      have hgz := HP.out g hgs
      have x0 := (hB.cell (p := ⟨g, i * 5, none⟩) hgz).trans (hc _ _ (by have := flat_at clCells 5 (fun _ => rfl) cs i 0 hlt (by omega); rw [Nat.add_zero] at this; exact this))
      have x1 := (hB.cell (p := ⟨g, i * 5 + 1, none⟩) hgz).trans (hc _ _ (flat_at clCells 5 (fun _ => rfl) cs i 1 hlt (by omega)))
      have x2 := (hB.cell (p := ⟨g, i * 5 + 2, none⟩) hgz).trans (hc _ _ (flat_at clCells 5 (fun _ => rfl) cs i 2 hlt (by omega)))
      have x3 := (hB.cell (p := ⟨g, i * 5 + 3, none⟩) hgz).trans (hc _ _ (flat_at clCells 5 (fun _ => rfl) cs i 3 hlt (by omega)))
      have x4 := (hB.cell (p := ⟨g, i * 5 + 4, none⟩) hgz).trans (hc _ _ (flat_at clCells 5 (fun _ => rfl) cs i 4 hlt (by omega)))
      have hgd := HG.out cs[i] (List.getElem_mem hlt)
      generalize cs[i] = c at *
      have a1 := hgd.a1
      have a2 := hgd.a2
      have b1 := hgd.b1
      have b2 := hgd.b2
      have hcol := hgd.col
      have hfr := hgd.free
      have hwk := hgd.weak
      obtain ⟨co, wk, ra, rb, nn⟩ := c
      simp only at x0 x1 x2 x3 x4 a1 a2 b1 b2 hcol hfr hwk
      have HBC := hid (HB.out.alloc HB.out.size (.cells #[.int .i64 co, .bool wk, .int .i64 ra, .int .i64 rb, .int .i64 nn] 77))
      have n1 : ¬ ra < -1 := by omega
      have n2 : ¬ (cs.length : Int) ≤ ra := by omega
      have n3 : ¬ rb < -1 := by omega
      have n4 : ¬ (cs.length : Int) ≤ rb := by omega
      have n5 : ¬ (co : Int) < 0 := by omega
      have n6 : ¬ (3 : Int) < (co : Int) := by omega
      clear hc hB HG HH hgd a1 a2 b1 b2
      by_cases h0 : co = 0
      · have hbl := hfr h0
        simp only [blankL, Cl.mk.injEq] at hbl
        obtain ⟨rfl, rfl, rfl, rfl, rfl⟩ := hbl
        clear hfr hwk h0
        go_wp2_with fail
        go_roundg (cs.length - (i + 1))
        case measure => omega
        case rel => exact ⟨i + 1, by omega, rfl, by go_num, HBC.out⟩
      · have y0 : ((co : Int) == 0) = false := by simp; omega
        cases wk
        · clear hfr hwk
          go_wp2_with fail
          go_roundg (cs.length - (i + 1))
          case measure => omega
          case rel => exact ⟨i + 1, by omega, rfl, by go_num, HBC.out⟩
        · obtain ⟨rfl, rfl⟩ := hwk rfl
          clear hfr hwk
          go_wp2_with fail
          go_roundg (cs.length - (i + 1))
          case measure => omega
          case rel => exact ⟨i + 1, by omega, rfl, by go_num, HBC.out⟩
    · have d1 : ¬ (i : Int) < (cs.length : Int) := by omega
      clear hB
      go_wp2_with fail
      go_ret
      exact ⟨rfl, HB.out⟩
end Go.Proofs.YtdmdpindonghdaaDoor
namespace Go.Proofs.YtdmdpindonghdaaDoor
open Go.RowKit
/-- Cell k is there, weak, and looks at a; cell j is there. -/
def Stay (T : List Cl) (k j : Nat) (a : Int) : Prop := (∃ c, T[k]? = some c ∧ c.weak = true ∧ c.a = a ∧ c.col ≠ 0) ∧ colL T j ≠ 0
theorem Stay.paint {T T' : List Cl} {k j : Nat} {a : Int} (h : Stay T k j a) (hp : Paint T T') (h0 : ∀ q, colL T q ≠ 0 → colL T' q ≠ 0) : Stay T' k j a := by
  obtain ⟨⟨c, g1, g2, g3, g4⟩, g5⟩ := h
  obtain ⟨c', e1, e2⟩ := hp.back k c g1
  refine ⟨⟨c', e1, by rw [e2]; exact g2, by rw [e2]; exact g3, ?_⟩, h0 j g5⟩
  have := h0 k (by rw [colL_some g1]; exact g4)
  rw [colL_some e1] at this
  exact this
theorem Stay.modify {T : List Cl} {k j : Nat} {a : Int} (h : Stay T k j a) (r : Nat) (f : Cl → Cl) (hcol : ∀ c, (f c).col = c.col) (hk : r = k → ∀ c, T[k]? = some c → (f c).weak = c.weak ∧ (f c).a = c.a) : Stay (T.modify r f) k j a := by
  obtain ⟨⟨c, g1, g2, g3, g4⟩, g5⟩ := h
  have hc : ∀ q, colL (T.modify r f) q = colL T q := by
    intro q
    unfold colL
    rw [List.getElem?_modify]
    cases T[q]? with
    | none => rfl
    | some d =>
      by_cases e : r = q
      · simp [e, hcol]
      · simp [e]
  refine ⟨?_, by rw [hc]; exact g5⟩
  by_cases e : r = k
  · obtain ⟨e1, e2⟩ := hk e c g1
    refine ⟨f c, ?_, e1.trans g2, e2.trans g3, by rw [hcol]; exact g4⟩
    rw [List.getElem?_modify, g1, e]
    simp
  · refine ⟨c, ?_, g2, g3, g4⟩
    rw [List.getElem?_modify, g1]
    simp [e]
theorem Stay.set {T : List Cl} {k j : Nat} {a : Int} (h : Stay T k j a) {r : Nat} {d : Cl} (x : Cl) (hd : T[r]? = some d) (h0 : d.col = 0) : Stay (T.set r x) k j a := by
  obtain ⟨⟨c, g1, g2, g3, g4⟩, g5⟩ := h
  have hrk : r ≠ k := fun e => by
    subst e
    obtain rfl := Option.some.inj (hd.symm.trans g1)
    exact g4 h0
  have hrj : r ≠ j := fun e => by
    subst e
    rw [colL_some hd] at g5
    exact g5 h0
  refine ⟨⟨c, by rw [List.getElem?_set, if_neg hrk]; exact g1, g2, g3, g4⟩, ?_⟩
  unfold colL
  rw [List.getElem?_set, if_neg hrj]
  exact g5
/-- What was seen of the two cells. -/
structure Looks (T : List Cl) (rs : List Int) (k j : Nat) (c : Cl) : Prop where
  rk : Rch T rs k
  ck : T[k]? = some c
  weak : c.weak = true
  a : c.a = (j : Int)
  rj : Rch T rs j
theorem Looks.kept {T T' : List Cl} {rs : List Int} {k j : Nat} {c : Cl} {ph hd : Nat} (h : Looks T rs k j c) (hk : Kept T T' rs) (hg : GInv T' ph hd rs) : Stay T' k j c.a := by
  obtain ⟨c', g1, g2, g3, g4, g5, g6⟩ := hk.cell k c h.rk h.ck
  refine ⟨⟨c', g1, g2.trans h.weak, ?_, ?_⟩, (hg.alive (hk.on h.rj)).1⟩
  · rcases g6 h.weak with e | ⟨_, e⟩
    · exact e
    · exact absurd h.rj (e j h.a)
  · have := (hg.alive (hk.on h.rk)).1
    rw [colL_some g1] at this
    exact this
theorem begin_stay {h : HSt} {k j : Nat} {a : Int} (hs : Stay (h.1.map toldC) k j a) (hl : 0 ≤ lowC h) : Stay ((beginC h).2.1.map toldC) k j a := by
  obtain ⟨hlt, hu⟩ := lowC_at hl
  have hc : (h.1.map toldC)[(lowC h).toNat]? = some (toldC h.1[(lowC h).toNat]) := told_at (List.getElem?_eq_getElem hlt)
  have h0 : (toldC h.1[(lowC h).toNat]).col = 0 := by
    show colR _ = 0
    unfold colR
    rw [if_pos hu]
  have e : (beginC h).2.1.map toldC = (h.1.map toldC).set (lowC h).toNat (toldC (freshC (doneB h.2.1 h.2.2 (lowC h).toNat))) := by
    show (h.1.set _ _).map toldC = _
    rw [List.map_set]
  rw [e]
  exact hs.set _ hc h0
theorem take_stay {n : Nat} {h : HSt} {rs : List Int} (g : GH n h rs) {k j : Nat} {c : Cl} (hl : Looks (h.1.map toldC) rs k j c) : Stay ((takeC rs h).2.1.map toldC) k j c.a := by
  have kr := g.room
  have kp := g.keptRoom
  have hs := hl.kept kp kr.g
  rw [takeC_room]
  split
  · rename_i e
    exact begin_stay hs e
  · exact hs
theorem does_stay {E : Env} {s : MS} {i : Ins} {k j : Nat} {a : Int} (hst : Stay (s.hs.1.map toldC) k j a) (hends : endsC s.hs.1 s.st i.op = 0) (hr : (lastW s.st 1).2 < (s.hs.1.length : Int)) (cell : Int) (hcell : i.op = 23 → ∃ d, s.hs.1[cell.toNat]? = some (freshC d)) : Stay ((doesS E i cell s).hs.1.map toldC) k j a := by
  have hi : ∀ q : Nat, i.op = q → (i.op : Int) = (q : Int) := fun q e => by rw [e]
  by_cases e23 : i.op = 23
  · have e : (doesS E i cell s).hs.1 = s.hs.1.modify cell.toNat (weakS (lastW s.st 0).2) := by
      unfold doesS touchS
      simp [e23]
    rw [e, told_modify (g := weakL (lastW s.st 0).2) (fun _ => rfl)]
    refine hst.modify _ _ (fun _ => rfl) (fun ek c hc => ?_)
    obtain ⟨d, hd⟩ := hcell e23
    obtain ⟨⟨c0, g1, g2, _⟩, _⟩ := hst
    rw [← ek, told_at hd] at g1
    obtain rfl := Option.some.inj g1
    cases g2
  by_cases e17 : i.op = 17
  · have e : (doesS E i cell s).hs.1 = s.hs.1.modify (lastW s.st 1).2.toNat (noteS (lastW s.st 0).2) := by
      unfold doesS touchS
      simp [e17]
    rw [e, told_modify (g := noteL (lastW s.st 0).2) (fun _ => rfl)]
    exact hst.modify _ _ (fun _ => rfl) (fun _ c _ => ⟨rfl, rfl⟩)
  by_cases e15 : i.op = 15
  · have e : (doesS E i cell s).hs.1 = storeC s.hs.1 s.hs.2.1 (lastW s.st 1).2.toNat i.n (lastW s.st 0).2 := by
      unfold doesS touchS
      simp [e15]
    have hw : wantsC s.hs.1 (lastW s.st 1).2 false = 0 := by rw [← hends, hi 15 e15]; rfl
    obtain ⟨_, hl, hwk⟩ := wantsC_zero hw hr
    rw [e, told_store]
    have hfa : ∀ c : Cl, (setABL i.n (lastW s.st 0).2 c).col = c.col := fun c => by unfold setABL; split <;> rfl
    have hne : (lastW s.st 1).2.toNat ≠ k := fun ek => by
      obtain ⟨⟨c0, g1, g2, _⟩, _⟩ := hst
      rw [← ek, told_at (List.getElem?_eq_getElem hl)] at g1
      obtain rfl := Option.some.inj g1
      exact absurd (hwk.symm.trans g2) (by simp)
    by_cases e1 : s.hs.2.1 = 1
    · rw [if_pos e1]
      refine (hst.paint (shade_paint _ (lastW s.st 0).2) (fun q hq => ?_)).modify _ _ hfa (fun ek => absurd ek hne)
      rw [shade_colL]
      split
      · omega
      · exact hq
    · rw [if_neg e1]
      exact hst.modify _ _ hfa (fun ek => absurd ek hne)
  have e : (doesS E i cell s).hs.1 = s.hs.1 := by
    unfold doesS touchS
    simp only [apply_ite MS.hs, if_neg e23, if_neg e17, if_neg e15, ite_self]
  rw [e]
  exact hst
theorem step_stay {E : Env} (he : EnvOk E) (hn : NoMix E) {s : MS} (h : MInv E s) (hg : GS s) {k j : Nat} {c : Cl} (hl : Looks (s.hs.1.map toldC) (rootsS E s) k j c) : Stay ((stepS E s).hs.1.map toldC) k j c.a := by
  obtain ⟨i, hc⟩ := h.can he
  have hrt := rootsS_flag hn h
  have k0 : GH E.n s.hs (rootsS E s) := ⟨h.hh, by rw [hrt]; exact hg.flag⟩
  have hs0 : Stay (s.hs.1.map toldC) k j c.a := hl.kept (Kept.refl _ _) k0.g
  unfold stepS
  rw [hc.get]
  simp only
  unfold stepI
  by_cases h1 : endsC s.hs.1 s.st i.op = 1
  · rw [if_pos h1]; exact hs0
  rw [if_neg h1]
  by_cases h2' : endsC s.hs.1 s.st i.op ≠ 0
  · rw [if_pos h2']; exact hs0
  rw [if_neg h2']
  have h2 : endsC s.hs.1 s.st i.op = 0 := by omega
  have hlast : ∀ (cs : List RC), cs.length = E.n → i.op = 15 ∨ i.op ≠ 15 → (lastW s.st 1).2 < (cs.length : Int) ∨ i.op ≠ 15 := by
    intro cs hcs _
    by_cases e15 : i.op = 15
    · left
      have hstd := hc.std ⟨by omega, by omega, by omega, by omega, by omega⟩
      obtain ⟨hp, hf, _⟩ := hstd.two (c := 114) (d := 114) (by rw [e15]; rfl)
      have := h.ref hp (letB_r hf)
      rw [hcs]; exact this.2
    · exact .inr e15
  have hdoes : ∀ (t : MS) (cell : Int), t.st = s.st → t.hs.1.length = E.n → Stay (t.hs.1.map toldC) k j c.a → endsC t.hs.1 t.st i.op = 0 → (i.op = 23 → ∃ d, t.hs.1[cell.toNat]? = some (freshC d)) → Stay ((goS E i cell t).hs.1.map toldC) k j c.a := by
    intro t cell e1 e2 e3 e4 e5
    show Stay ((doesS E i cell t).hs.1.map toldC) k j c.a
    by_cases e15 : i.op = 15
    · refine does_stay e3 e4 ?_ cell e5
      rcases hlast t.hs.1 e2 (.inl e15) with h | h
      · rw [e1]; exact h
      · exact absurd e15 h
    · by_cases e23 : i.op = 23
      · have e : (doesS E i cell t).hs.1 = t.hs.1.modify cell.toNat (weakS (lastW t.st 0).2) := by
          unfold doesS touchS
          simp [e23]
        rw [e, told_modify (g := weakL (lastW t.st 0).2) (fun _ => rfl)]
        refine e3.modify _ _ (fun _ => rfl) (fun ek c' hc' => ?_)
        obtain ⟨d, hd⟩ := e5 e23
        obtain ⟨⟨c0, g1, g2, _⟩, _⟩ := e3
        rw [← ek, told_at hd] at g1
        obtain rfl := Option.some.inj g1
        cases g2
      by_cases e17 : i.op = 17
      · have e : (doesS E i cell t).hs.1 = t.hs.1.modify (lastW t.st 1).2.toNat (noteS (lastW t.st 0).2) := by
          unfold doesS touchS
          simp [e17]
        rw [e, told_modify (g := noteL (lastW t.st 0).2) (fun _ => rfl)]
        exact e3.modify _ _ (fun _ => rfl) (fun _ c' _ => ⟨rfl, rfl⟩)
      have e : (doesS E i cell t).hs.1 = t.hs.1 := by
        unfold doesS touchS
        simp only [apply_ite MS.hs, if_neg e23, if_neg e17, if_neg e15, ite_self]
      rw [e]
      exact e3
  by_cases ht : i.op = 13 ∨ i.op = 23
  · rw [if_pos ht]
    have hst := take_stay k0 hl
    obtain ⟨t1, _, _⟩ := h.hh.take (rootsS E s)
    by_cases hneg : (takeC (rootsS E s) s.hs).1 < 0
    · rw [if_pos hneg]; exact hst
    · rw [if_neg hneg]
      refine hdoes { s with hs := (takeC (rootsS E s) s.hs).2 } _ rfl t1.len hst ?_ (fun _ => take_fresh _ hneg)
      rw [← h2]
      exact endsC_take ht
  · rw [if_neg ht]
    exact hdoes s (-1) rfl h.n hs0 h2 (fun e => absurd (.inr e) ht)
theorem coll_stay {E : Env} (hn : NoMix E) {s : MS} (h : MInv E s) (hg : GS s) {k j : Nat} {c : Cl} (hl : Looks (s.hs.1.map toldC) (rootsS E s) k j c) (m : Nat) : Stay ((collS E m s).hs.1.map toldC) k j c.a := by
  have hrt := rootsS_flag hn h
  have k0 : GH E.n s.hs (rootsS E s) := ⟨h.hh, by rw [hrt]; exact hg.flag⟩
  exact hl.kept (k0.keptU m) (k0.units m).g
end Go.Proofs.YtdmdpindonghdaaDoor
namespace Go.Proofs.YtdmdpindonghdaaDoor
open Go.RowKit
theorem pn_play {B n2 N : Nat} {w : World} {K : PK} {E : Env} {s : MS} (k a : Int) (h : PN B n2 N w K s) (hke : KE K E) (he : EnvOk E) (hi : MInv E s) (hz : E.zs.length ≤ 64) (hlen : s.out.length ≤ 8796093022208) :
    Calls Tryd.prog 29 #[.pointer (some ⟨K.b, 0, none⟩), .agg #[.int .i64 k, .int .i64 a]] w fun e w' => e = .returned (.bool true) ∧ PN B n2 N w' K (opK E k a s) ∧ KeepN n2 N w w' ∧ Below B w w' := by
  obtain ⟨F, h1, h2, h3, h4, h5⟩ := h
  have hb := h1.bound
  refine (play_any k a hb hke he hi hz hlen (fun k hk => hk.2)).mono ?_
  rintro e w' ⟨a, b, c⟩
  exact ⟨a, PN.next (fun k hk => h2 k hk.1) h3 h4 h5 b c⟩
theorem PN.pr {B n2 N : Nat} {w : World} {K : PK} {s : MS} (h : PN B n2 N w K s) : PR B w K s := by
  obtain ⟨F, h1, h2, h3, h4, h5⟩ := h
  exact ⟨F, h1, fun k hk => (h2 k hk).1, by omega⟩
theorem pr_seen {B : Nat} {w : World} {K : PK} {E : Env} {s : MS} (h : PR B w K s) (hke : KE K E) (he : EnvOk E) (hi : MInv E s) :
    Calls Tryd.prog 31 #[.pointer (some ⟨K.b, 0, none⟩)] w fun e w' => ∃ k vT S, e = .returned (.pointer (some ⟨k.b, 0, none⟩)) ∧ Saw (s.hs.1.map toldC) (rootsS E s) k vT S w w' := by
  obtain ⟨F, h1, _⟩ := h
  exact seen_any h1 hke he hi
theorem pr_heap {B : Nat} {w : World} {K : PK} {s : MS} (h : PR B w K s) (hn : s.hs.1.length ≤ 100) :
    Calls Tryd.prog 58 #[.pointer (some ⟨K.b, 0, none⟩)] w (HeapPost (s.hs.1.map toldC) w) := by
  obtain ⟨F, ⟨vI, vO, lo4, st8, hm, _⟩, _⟩ := h
  exact pheap_any hm hn
theorem colR_le (c : RC) : colR c ≤ 3 := by
  unfold colR
  split
  · omega
  split
  · omega
  split <;> omega
theorem good_cells {E : Env} {s : MS} (h : MInv E s) (hg : GS s) : ∀ c ∈ s.hs.1.map toldC, CGood (s.hs.1.map toldC).length c := by
  intro c hc
  have hb := hg.g.blank c hc
  have hw := hg.g.weak c hc
  obtain ⟨d, hd, rfl⟩ := List.mem_map.1 hc
  have a1 := h.hok.refs d hd
  have a2 := h.hx.cell d hd
  rw [List.length_map]
  exact ⟨a2.lowA, a1.1, a2.lowB, a1.2, colR_le d, hb, hw⟩
/-- What Saw found stays where nothing between n2 and N turns. -/
theorem Saw.keep {cs : List Cl} {rs : List Int} {k : SK} {vT : Value} {S : Sn} {w w1 w2 : World} (h : Saw cs rs k vT S w w1) (hk : KeepN w.heap.size w1.heap.size w1 w2) :
    w2.heap[k.b]? = some (.cells (k.row cs.length vT S.sound) 73) ∧ w2.heap[k.gi]? = some (.cells (S.ins.map Value.bool).toArray 4) ∧ LsAt w2 (fun g => w.heap.size ≤ g ∧ g < w1.heap.size) (.slice (some ⟨k.gc, 0, none⟩) cs.length k.kc) cs.length (cs.flatMap clCells) := by
  have hb := (Array.getElem?_eq_some_iff.1 h.at_.row).1
  have hi := (Array.getElem?_eq_some_iff.1 h.at_.ins).1
  have b1 := h.at_.bb
  have b2 := h.at_.bi
  rw [h.base] at b1 b2
  refine ⟨(hk _ b1 hb).trans h.at_.row, (hk _ b2 hi).trans h.at_.ins, ?_⟩
  rcases h.cells with h1 | ⟨g, cap, hv, hp, hc⟩
  · exact .inl h1
  · exact .inr ⟨g, cap, hv, hp, fun j u hj => (World.cell?_of_block (a := ⟨g, j, none⟩) (hk g hp.1 hp.2)).trans (hc j u hj)⟩
theorem GS.opK {E : Env} (he : EnvOk E) (hn : NoMix E) {s : MS} (h : MInv E s) (hg : GS s) (k a : Int) : GS (opK E k a s) := by
  unfold Go.Proofs.YtdmdpindonghdaaDoor.opK
  split
  · split
    · exact hg.step he hn h
    · exact hg
  split
  · split
    · exact hg.coll hn h _
    · exact hg
  · exact hg
theorem opK_stay {E : Env} (he : EnvOk E) (hn : NoMix E) {s : MS} (h : MInv E s) (hg : GS s) {k j : Nat} {c : Cl} (hl : Looks (s.hs.1.map toldC) (rootsS E s) k j c) (x y : Int) : Stay ((Go.Proofs.YtdmdpindonghdaaDoor.opK E x y s).hs.1.map toldC) k j c.a := by
  have hrt := rootsS_flag hn h
  have k0 : GH E.n s.hs (rootsS E s) := ⟨h.hh, by rw [hrt]; exact hg.flag⟩
  have hs0 : Stay (s.hs.1.map toldC) k j c.a := hl.kept (Kept.refl _ _) k0.g
  unfold Go.Proofs.YtdmdpindonghdaaDoor.opK
  split
  · split
    · exact step_stay he hn h hg hl
    · exact hs0
  split
  · split
    · exact coll_stay hn h hg hl _
    · exact hs0
  · exact hs0
/-- A list of cells in memory, in blocks below N. -/
structure CsAt (w : World) (N : Nat) (v : Value) (cs : List Cl) : Prop where
  ls : LsAt w (fun g => g < N) v cs.length (cs.flatMap clCells)
  le : N ≤ w.heap.size
theorem CsAt.keep {w w' : World} {N : Nat} {v : Value} {cs : List Cl} (h : CsAt w N v cs) (hb : Below w.heap.size w w') : CsAt w' N v cs :=
  ⟨h.ls.keep (fun g hg => ⟨hg, hb.block g (Nat.lt_of_lt_of_le hg h.le)⟩), Nat.le_trans h.le hb.size⟩
theorem CsAt.of_owns {w : World} {base e size : Nat} {v : Value} {cs : List Cl} (h : w.ownsRow base e size v cs.length (cs.flatMap clCells)) : CsAt w w.heap.size v cs :=
  ⟨(LsAt.of_owns h).keep (fun _ hg => ⟨hg.2, rfl⟩), Nat.le_refl _⟩
theorem CsAt.slice {w : World} {N : Nat} {v : Value} {cs : List Cl} (h : CsAt w N v cs) : ∃ p cap, v = .slice p cs.length cap := h.ls.slice
theorem CsAt.refs {w : World} {N : Nat} {v : Value} {cs : List Cl} (h : CsAt w N v cs) (hl : cs.length ≤ 100) (hg : ∀ c ∈ cs, CGood cs.length c) :
    Calls Tryd.prog 35 #[v] w fun e w' => e = .returned (.bool true) ∧ Below w.heap.size w w' :=
  refs_any cs v _ w h.ls (fun _ hg => Nat.lt_of_lt_of_le hg h.le) hl hg
/-- Cell i of the list, place by place. -/
structure CellAt (w : World) (g i : Nat) (c : Cl) : Prop where
  x0 : w.cell? ⟨g, i * 5, none⟩ = some (.int .i64 c.col)
  x1 : w.cell? ⟨g, i * 5 + 1, none⟩ = some (.bool c.weak)
  x2 : w.cell? ⟨g, i * 5 + 2, none⟩ = some (.int .i64 c.a)
  x3 : w.cell? ⟨g, i * 5 + 3, none⟩ = some (.int .i64 c.b)
  x4 : w.cell? ⟨g, i * 5 + 4, none⟩ = some (.int .i64 c.num)
theorem CsAt.get {w : World} {N : Nat} {v : Value} {cs : List Cl} (h : CsAt w N v cs) (h0 : 0 < cs.length) : ∃ g cap, v = .slice (some ⟨g, 0, none⟩) cs.length cap ∧ g < N ∧ ∀ (i : Nat) (c : Cl), cs[i]? = some c → CellAt w g i c := by
  obtain ⟨g, cap, eg, hgs, hc⟩ := h.ls.some h0
  refine ⟨g, cap, eg, hgs, ?_⟩
  intro i c hi
  obtain ⟨hlt, rfl⟩ := List.getElem?_eq_some_iff.1 hi
  exact ⟨hc _ _ (by have := flat_at clCells 5 (fun _ => rfl) cs i 0 hlt (by omega); rw [Nat.add_zero] at this; exact this), hc _ _ (flat_at clCells 5 (fun _ => rfl) cs i 1 hlt (by omega)), hc _ _ (flat_at clCells 5 (fun _ => rfl) cs i 2 hlt (by omega)), hc _ _ (flat_at clCells 5 (fun _ => rfl) cs i 3 hlt (by omega)), hc _ _ (flat_at clCells 5 (fun _ => rfl) cs i 4 hlt (by omega))⟩
/-- What a look at a machine laid down, and kept: the row, the flags, the cells. -/
structure SawAt (w : World) (N : Nat) (k : SK) (vT : Value) (S : Sn) (cs : List Cl) : Prop where
  row : w.heap[k.b]? = some (.cells (k.row cs.length vT S.sound) 73)
  ins : w.heap[k.gi]? = some (.cells (S.ins.map Value.bool).toArray 4)
  cells : CsAt w N (.slice (some ⟨k.gc, 0, none⟩) cs.length k.kc) cs
theorem SawAt.keep {w w' : World} {N : Nat} {k : SK} {vT : Value} {S : Sn} {cs : List Cl} (h : SawAt w N k vT S cs) (hb : Below w.heap.size w w') : SawAt w' N k vT S cs :=
  ⟨(hb.block k.b (Array.getElem?_eq_some_iff.1 h.row).1).trans h.row, (hb.block k.gi (Array.getElem?_eq_some_iff.1 h.ins).1).trans h.ins, h.cells.keep hb⟩
theorem Saw.sawAt {cs : List Cl} {rs : List Int} {k : SK} {vT : Value} {S : Sn} {w w1 : World} (h : Saw cs rs k vT S w w1) : SawAt w1 w1.heap.size k vT S cs :=
  ⟨h.at_.row, h.at_.ins, h.cells.keep (fun _ hg => ⟨hg.2, rfl⟩), Nat.le_refl _⟩
theorem Saw.kept {cs : List Cl} {rs : List Int} {k : SK} {vT : Value} {S : Sn} {w w1 w2 : World} (h : Saw cs rs k vT S w w1) (hk : KeepN w.heap.size w1.heap.size w1 w2) (hz : w1.heap.size ≤ w2.heap.size) : SawAt w2 w1.heap.size k vT S cs := by
  obtain ⟨a, b, c⟩ := h.keep hk
  exact ⟨a, b, c.keep (fun _ hg => ⟨hg.2, rfl⟩), hz⟩
theorem SawAt.r0 {w : World} {N : Nat} {k : SK} {vT : Value} {S : Sn} {cs : List Cl} (h : SawAt w N k vT S cs) : w.cell? ⟨k.b, 0, none⟩ = some (.slice (some ⟨k.gc, 0, none⟩) cs.length k.kc) := by
  rw [cell_of_row w k.b 0 _ _ _ h.row]
  rfl
theorem SawAt.r1 {w : World} {N : Nat} {k : SK} {vT : Value} {S : Sn} {cs : List Cl} (h : SawAt w N k vT S cs) : w.cell? ⟨k.b, 1, none⟩ = some (.slice (some ⟨k.gi, 0, none⟩) cs.length cs.length) := by
  rw [cell_of_row w k.b 1 _ _ _ h.row]
  rfl
theorem SawAt.r3 {w : World} {N : Nat} {k : SK} {vT : Value} {S : Sn} {cs : List Cl} (h : SawAt w N k vT S cs) : w.cell? ⟨k.b, 3, none⟩ = some (.bool S.sound) := by
  rw [cell_of_row w k.b 3 _ _ _ h.row]
  rfl
theorem SawAt.inAt {w : World} {N : Nat} {k : SK} {vT : Value} {S : Sn} {cs : List Cl} (h : SawAt w N k vT S cs) {i : Nat} {b : Bool} (hi : S.ins[i]? = some b) : w.cell? ⟨k.gi, i, none⟩ = some (.bool b) := by
  rw [cell_of_row w k.gi i _ _ _ h.ins]
  simp [hi]
end Go.Proofs.YtdmdpindonghdaaDoor
namespace Go.Proofs.YtdmdpindonghdaaDoor
open Go.RowKit
set_option maxRecDepth 100000 in
set_option maxHeartbeats 1000000 in
theorem marked_any {w : World} {M : Nat} {v : Value} {cs : List Cl} (h : CsAt w M v cs) (hN : cs.length ≤ 100) (hg : ∀ c ∈ cs, CGood cs.length c) (hm : ∀ (k : Nat) (c : Cl), cs[k]? = some c → c.col = 3 → c.weak = false → ∀ j : Nat, (c.a = (j : Int) ∨ c.b = (j : Int)) → 2 ≤ colL cs j) :
    Calls Tryd.prog 61 #[v] w fun e w' => e = .returned (.bool true) ∧ Below w.heap.size w w' := by
  obtain ⟨p0, c0, e0⟩ := h.slice
  subst e0
  have HH := hid h
  have HG := hid hg
  have HM := hid hm
  clear h hg hm
  go_enter Tryd.func61, Tryd.ntmps61
  go_wp2_with fail
  go_loopg [3] cs.length (fun gk x w' => ∃ i : Nat, i ≤ cs.length ∧ gk = cs.length - i ∧ x = .int .i64 i ∧ Below w.heap.size w w')
  case atStart => exact ⟨0, by omega, by omega, rfl, Below.refl _ _⟩
  case round =>
    obtain ⟨i, hi, hgk, rfl, hB⟩ := hrel
    have HB := hid hB
    rcases Nat.lt_or_ge i cs.length with hlt | hge
    · have d0 : (0 : Int) ≤ (i : Int) := by omega
      have d1 : (i : Int) < (cs.length : Int) := by omega
      obtain ⟨c, hc⟩ : ∃ c, cs[i]? = some c := ⟨cs[i], List.getElem?_eq_getElem (by omega)⟩
      obtain ⟨gx, capx, ex, _, hcx⟩ := (HH.out.keep hB).get (by omega)
      cases ex
      obtain ⟨x0, x1, x2, x3, x4⟩ := hcx i c hc
      have hgd := HG.out c (List.mem_of_getElem? hc)
      have a1 := hgd.a1
      have a2 := hgd.a2
      have b1 := hgd.b1
      have b2 := hgd.b2
      have hmk := HM.out i c hc
      have HCX := hid hcx
      obtain ⟨co, wk, ra, rb, nn⟩ := c
      simp only at x0 x1 x2 x3 x4 a1 a2 b1 b2 hmk
      clear hgd hc hcx hB
      by_cases h3 : co = 3
      · subst h3
        cases wk
        · have hmk2 := hmk rfl rfl
          have hca : ra = -1 ∨ ∃ (j : Nat) (d : Cl), ra = (j : Int) ∧ (j : Int) < cs.length ∧ cs[j]? = some d ∧ 2 ≤ d.col := by
            rcases Int.lt_or_le ra 0 with hneg | hpos
            · exact .inl (by omega)
            · refine .inr ⟨ra.toNat, cs[ra.toNat]'(by omega), by omega, by omega, List.getElem?_eq_getElem (by omega), ?_⟩
              have := hmk2 ra.toNat (.inl (by omega))
              rw [colL_some (List.getElem?_eq_getElem (by omega))] at this
              exact this
          have hcb : rb = -1 ∨ ∃ (j : Nat) (d : Cl), rb = (j : Int) ∧ (j : Int) < cs.length ∧ cs[j]? = some d ∧ 2 ≤ d.col := by
            rcases Int.lt_or_le rb 0 with hneg | hpos
            · exact .inl (by omega)
            · refine .inr ⟨rb.toNat, cs[rb.toNat]'(by omega), by omega, by omega, List.getElem?_eq_getElem (by omega), ?_⟩
              have := hmk2 rb.toNat (.inr (by omega))
              rw [colL_some (List.getElem?_eq_getElem (by omega))] at this
              exact this
          clear hmk hmk2 HM HG HH
          rcases hca with rfl | ⟨ja, da, rfl, ja1, ja2, ja3⟩
          · rcases hcb with rfl | ⟨jb, db, rfl, jb1, jb2, jb3⟩
            · go_wp2_with fail
              go_roundg (cs.length - (i + 1))
              case measure => omega
              case rel => exact ⟨i + 1, by omega, rfl, by go_num, HB.out⟩
            · have yb := (HCX.out jb db jb2).x0
              have zb0 : ¬ (db.col : Int) ≤ 1 := by omega
              have zb1 : (0 : Int) ≤ (jb : Int) := by omega
              have zb2 : ((jb : Int) == -1) = false := by simp
              clear jb2 jb3
              generalize db.col = ub at *
              go_wp2_with fail
              go_roundg (cs.length - (i + 1))
              case measure => omega
              case rel => exact ⟨i + 1, by omega, rfl, by go_num, HB.out⟩
          · have ya := (HCX.out ja da ja2).x0
            have za0 : ¬ (da.col : Int) ≤ 1 := by omega
            have za1 : (0 : Int) ≤ (ja : Int) := by omega
            have za2 : ((ja : Int) == -1) = false := by simp
            clear ja2 ja3
            generalize da.col = ua at *
            rcases hcb with rfl | ⟨jb, db, rfl, jb1, jb2, jb3⟩
            · go_wp2_with fail
              go_roundg (cs.length - (i + 1))
              case measure => omega
              case rel => exact ⟨i + 1, by omega, rfl, by go_num, HB.out⟩
            · have yb := (HCX.out jb db jb2).x0
              have zb0 : ¬ (db.col : Int) ≤ 1 := by omega
              have zb1 : (0 : Int) ≤ (jb : Int) := by omega
              have zb2 : ((jb : Int) == -1) = false := by simp
              clear jb2 jb3
              generalize db.col = ub at *
              go_wp2_with fail
              go_roundg (cs.length - (i + 1))
              case measure => omega
              case rel => exact ⟨i + 1, by omega, rfl, by go_num, HB.out⟩
        · go_wp2_with fail
          go_roundg (cs.length - (i + 1))
          case measure => omega
          case rel => exact ⟨i + 1, by omega, rfl, by go_num, HB.out⟩
      · have y0 : ((co : Int) == 3) = false := by simp; omega
        go_wp2_with fail
        go_roundg (cs.length - (i + 1))
        case measure => omega
        case rel => exact ⟨i + 1, by omega, rfl, by go_num, HB.out⟩
    · have d1 : ¬ (i : Int) < (cs.length : Int) := by omega
      clear hB
      go_wp2_with fail
      go_ret
      exact ⟨rfl, HB.out⟩
end Go.Proofs.YtdmdpindonghdaaDoor
namespace Go.Proofs.YtdmdpindonghdaaDoor
open Go.RowKit
/-- A State in a box of its own. -/
structure StAt (w : World) (b : Nat) (oc va pl ph hd : Int) (v1 v2 : Value) : Prop where
  row : w.heap[b]? = some (stBox oc va pl ph hd v1 v2)
theorem StAt.keep {w w' : World} {b : Nat} {oc va pl ph hd : Int} {v1 v2 : Value} (h : StAt w b oc va pl ph hd v1 v2) (hb : Below w.heap.size w w') : StAt w' b oc va pl ph hd v1 v2 :=
  ⟨(hb.block b (Array.getElem?_eq_some_iff.1 h.row).1).trans h.row⟩
theorem StAt.lt {w : World} {b : Nat} {oc va pl ph hd : Int} {v1 v2 : Value} (h : StAt w b oc va pl ph hd v1 v2) : b < w.heap.size := (Array.getElem?_eq_some_iff.1 h.row).1
theorem StAt.r0 {w : World} {b : Nat} {oc va pl ph hd : Int} {v1 v2 : Value} (h : StAt w b oc va pl ph hd v1 v2) : w.cell? ⟨b, 0, none⟩ = some (.int .i64 oc) := by
  rw [cell_of_row w b 0 _ _ _ (by have := h.row; unfold stBox at this; exact this)]
  rfl
theorem StAt.r2 {w : World} {b : Nat} {oc va pl ph hd : Int} {v1 v2 : Value} (h : StAt w b oc va pl ph hd v1 v2) : w.cell? ⟨b, 2, none⟩ = some (.int .i64 pl) := by
  rw [cell_of_row w b 2 _ _ _ (by have := h.row; unfold stBox at this; exact this)]
  rfl
theorem StAt.r3 {w : World} {b : Nat} {oc va pl ph hd : Int} {v1 v2 : Value} (h : StAt w b oc va pl ph hd v1 v2) : w.cell? ⟨b, 3, none⟩ = some (.int .i64 ph) := by
  rw [cell_of_row w b 3 _ _ _ (by have := h.row; unfold stBox at this; exact this)]
  rfl
theorem StAt.r4 {w : World} {b : Nat} {oc va pl ph hd : Int} {v1 v2 : Value} (h : StAt w b oc va pl ph hd v1 v2) : w.cell? ⟨b, 4, none⟩ = some (.int .i64 hd) := by
  rw [cell_of_row w b 4 _ _ _ (by have := h.row; unfold stBox at this; exact this)]
  rfl
theorem StAt.new (w : World) (oc va pl ph hd : Int) (v1 v2 : Value) : StAt (w.alloc (stBox oc va pl ph hd v1 v2)) w.heap.size oc va pl ph hd v1 v2 := ⟨heap_alloc_new w _⟩
theorem pr_state {B : Nat} {w : World} {K : PK} {E : Env} {s : MS} (h : PR B w K s) (hke : KE K E) (he : EnvOk E) (hi : MInv E s) :
    Calls Tryd.prog 30 #[.pointer (some ⟨K.b, 0, none⟩)] w fun e w' => ∃ pl, PStatePost s.oc s.va pl s.hs.2.1 s.hs.2.2 (locsS E s) (stkS E s) w e w' := by
  obtain ⟨F, h1, _⟩ := h
  exact px_state h1 hke he hi
/-- The colours as the phase asks. -/
structure PtOk (cs : List Cl) (ph hd N : Nat) (ins : List Bool) : Prop where
  len : cs.length = N
  lens : ins.length = N
  free : ∀ (k : Nat) (c : Cl), cs[k]? = some c → ins[k]? = some true → c.col ≠ 0
  phz : ph ≤ 2
  idle : ph = 0 → ∀ (k : Nat) (c : Cl), cs[k]? = some c → c.col ≤ 1
  low : ph = 2 → ∀ (k : Nat) (c : Cl), cs[k]? = some c → k < hd → c.col ≠ 3
  nogrey : ph = 2 → ∀ (k : Nat) (c : Cl), cs[k]? = some c → c.col ≠ 2
  high : ph = 2 → ∀ (k : Nat) (c : Cl), cs[k]? = some c → hd ≤ k → ins[k]? = some true → c.col = 3
  hand : ph = 2 → hd < N
  nohand : ph ≠ 2 → hd = 0
  mark : ph = 1 → ∀ (k : Nat) (c : Cl), cs[k]? = some c → c.col = 3 → c.weak = false → ∀ j : Nat, (c.a = (j : Int) ∨ c.b = (j : Int)) → 2 ≤ colL cs j
theorem ptOk_of {E : Env} (hn : NoMix E) {s : MS} (h : MInv E s) (hg : GS s) {S : Sn} (hlen : S.ins.length = (s.hs.1.map toldC).length) (hs : ∀ j, S.ins[j]? = some true ↔ Rch (s.hs.1.map toldC) (rootsS E s) j) : PtOk (s.hs.1.map toldC) s.hs.2.1 s.hs.2.2 E.n S.ins := by
  have hl : (s.hs.1.map toldC).length = E.n := by rw [List.length_map]; exact h.n
  have g := hg.flag
  rw [rootsS_flag hn h] at hs
  have hal : ∀ (k : Nat) (c : Cl), (s.hs.1.map toldC)[k]? = some c → S.ins[k]? = some true → c.col ≠ 0 ∧ ¬ (s.hs.2.1 = 2 ∧ s.hs.2.2 ≤ k ∧ c.col = 1) := fun k c hc hk => by
    have := g.alive ((hs k).1 hk)
    unfold Alive at this
    rw [colL_some hc] at this
    exact this
  refine ⟨hl, hlen.trans hl, fun k c hc hk => (hal k c hc hk).1, h.hok.phz, fun e k c hc => g.idle e c (List.mem_of_getElem? hc), fun e k c hc hk => g.low e k c hc hk, fun e k c hc => g.nogrey e c (List.mem_of_getElem? hc), ?_, ?_, h.hok.nohand, g.mark⟩
  · intro e k c hc hk hi
    obtain ⟨a1, a2⟩ := hal k c hc hi
    have a3 := g.nogrey e c (List.mem_of_getElem? hc)
    have a4 := g.col3 c (List.mem_of_getElem? hc)
    have a5 : c.col ≠ 1 := fun h1 => a2 ⟨e, hk, h1⟩
    omega
  · intro e
    have := h.hok.hand e
    rw [h.n] at this
    exact this
set_option maxRecDepth 100000 in
set_option maxHeartbeats 2000000 in
theorem painted_any {B : Nat} {w : World} {K : PK} {E : Env} {s : MS} {N : Nat} (h : PR B w K s) (hke : KE K E) (he : EnvOk E) (hi : MInv E s) (hg : GS s) (hn : NoMix E) (hEN : E.n = N) :
    Calls Tryd.prog 34 #[.pointer (some ⟨K.b, 0, none⟩), .int .i64 N] w fun e w' => e = .returned (.bool true) ∧ Below w.heap.size w w' := by
  have hN1 := he.n1
  have hN2 := he.n32
  rw [hEN] at hN1 hN2
  have hst := hid (pr_state h hke he hi)
  have HP := hid h
  have HI := hid hi
  have HG := hid hg
  have HNM := hid hn
  clear h hi hg hn
  go_enter Tryd.func34, Tryd.ntmps34
  go_wp2_with fail
  refine hst.out.mono ?_
  clear hst
  intro e w1 hh
  obtain ⟨pl, hb1, y1, y2, hx, o1, o2, _⟩ := hh
  subst e
  obtain ⟨q1, k1, e1⟩ := owns_slice o1
  obtain ⟨q2, k2, e2⟩ := owns_slice o2
  generalize (locsS E s).length = m1 at *
  generalize (stkS E s).length = m2 at *
  subst e1
  subst e2
  clear o1 o2
  have hb2 : Below w1.heap.size w1 (w1.alloc (stBox s.oc s.va pl s.hs.2.1 s.hs.2.2 (.slice q1 m1 k1) (.slice q2 m2 k2))) := (Below.refl _ _).alloc (Nat.le_refl _) _
  have hb02 := hb1.trans (hb2.mono hb1.size)
  have HA := hid (StAt.new w1 s.oc s.va pl s.hs.2.1 s.hs.2.2 (.slice q1 m1 k1) (.slice q2 m2 k2))
  have hse := hid (pr_seen (HP.out.keep hb02) hke he HI.out)
  have HB2 := hid hb02
  unfold stBox at hse HA HB2
  clear hb1 hb2 hb02
  go_wp2_with fail
  refine hse.out.mono ?_
  clear hse
  intro e w3 hh
  obtain ⟨k, vT, S, hx, hS⟩ := hh
  subst e
  have hA3 := HA.out.keep hS.below
  have hB3 := HB2.out.trans (hS.below.mono HB2.out.size)
  have hPt := ptOk_of HNM.out HI.out HG.out hS.at_.len hS.ins
  have hgc := good_cells HI.out HG.out
  have hsnd := hS.ok.sound
  have hS3 := hS.sawAt
  rw [hEN] at hPt
  have hlc := hPt.len
  obtain ⟨ph, hph⟩ : ∃ ph, ph = s.hs.2.1 := ⟨_, rfl⟩
  obtain ⟨hd, hhd⟩ : ∃ hd, hd = s.hs.2.2 := ⟨_, rfl⟩
  rw [← hph, ← hhd] at hPt hA3
  generalize s.hs.1.map toldC = cs at *
  have c0 := hS3.r0
  have c3 := hS3.r3
  rw [hsnd] at c3
  have hfr := hid (hS3.cells.refs (by omega) hgc)
  rw [hlc] at c0 hfr
  have HS3 := hid hS3
  have HA3 := hid hA3
  have HB3 := hid hB3
  have HPT := hid hPt
  have HGC := hid hgc
  have HSND := hid hsnd
  clear hS hA3 hB3 hPt hgc hsnd hS3 HA HB2 HG HI HNM HP hph hhd
  go_wp2_with fail
  refine hfr.out.mono ?_
  clear hfr
  intro e w4 hh
  obtain ⟨hx, hb4⟩ := hh
  subst e
  have hS4 := HS3.out.keep hb4
  have hA4 := HA3.out.keep hb4
  have c0 := hS4.r0
  have c3 := hS4.r3
  rw [hlc] at c0
  rw [HSND.out] at c3
  have HS4 := hid hS4
  have HA4 := hid hA4
  have HB4 := hid (HB3.out.trans (hb4.mono HB3.out.size))
  clear hS4 hA4 hb4 HS3 HA3 HB3
  go_wp2_with fail
  go_loopg [9] N (fun gk x w' => ∃ i : Nat, i ≤ N ∧ gk = N - i ∧ x = .int .i64 i ∧ Below w4.heap.size w4 w')
  case atStart => exact ⟨0, by omega, by omega, rfl, Below.refl _ _⟩
  case round =>
    obtain ⟨i, hi, hgk, rfl, hB⟩ := hrel
    have hA5 := HA4.out.keep hB
    have hS5 := HS4.out.keep hB
    have r3 := hA5.r3
    have r4 := hA5.r4
    have hph := HPT.out.phz
    have HB := hid hB
    rcases Nat.lt_or_ge i N with hil | hil
    · have e0 : (0 : Int) ≤ (i : Int) := by omega
      have e1 : (i : Int) < (N : Int) := by omega
      obtain ⟨c, hc⟩ : ∃ c, cs[i]? = some c := ⟨cs[i], List.getElem?_eq_getElem (by omega)⟩
      obtain ⟨bi, hbi⟩ : ∃ b, S.ins[i]? = some b := ⟨S.ins[i]'(by rw [HPT.out.lens]; exact hil), List.getElem?_eq_getElem (by rw [HPT.out.lens]; exact hil)⟩
      have r1 := hS5.r1
      rw [hlc] at r1
      have q0 := hS5.inAt hbi
      obtain ⟨gx, capx, ex, _, hcx⟩ := hS5.cells.get (by omega)
      cases ex
      have x0 := (hcx i c hc).x0
      have f1 := HPT.out.free i c hc
      have f2 := fun e => HPT.out.idle e i c hc
      have f3 := fun e => HPT.out.low e i c hc
      have f4 := fun e => HPT.out.nogrey e i c hc
      have f5 := fun e => HPT.out.high e i c hc
      rw [hbi] at f1 f5
      generalize c.col = co at *
      clear hA5 hS5 hcx hc hbi hB
      obtain rfl | rfl | rfl : ph = 0 ∨ ph = 1 ∨ ph = 2 := by omega
      · have g2 : ¬ (1 : Int) < (co : Int) := by have := f2 rfl; omega
        clear f2 f3 f4 f5
        cases bi
        · clear f1
          go_wp2_with fail
          go_roundg (N - (i + 1))
          case measure => omega
          case rel => exact ⟨i + 1, by omega, rfl, by go_num, by first | exact HB.out | exact HB.out.drew | exact HB.out.drewN _⟩
        · have g1 : ((co : Int) == 0) = false := by have := f1 rfl; simp; omega
          clear f1
          go_wp2_with fail
          go_roundg (N - (i + 1))
          case measure => omega
          case rel => exact ⟨i + 1, by omega, rfl, by go_num, by first | exact HB.out | exact HB.out.drew | exact HB.out.drewN _⟩
      · clear f2 f3 f4 f5
        cases bi
        · clear f1
          go_wp2_with fail
          go_roundg (N - (i + 1))
          case measure => omega
          case rel => exact ⟨i + 1, by omega, rfl, by go_num, by first | exact HB.out | exact HB.out.drew | exact HB.out.drewN _⟩
        · have g1 : ((co : Int) == 0) = false := by have := f1 rfl; simp; omega
          clear f1
          go_wp2_with fail
          go_roundg (N - (i + 1))
          case measure => omega
          case rel => exact ⟨i + 1, by omega, rfl, by go_num, by first | exact HB.out | exact HB.out.drew | exact HB.out.drewN _⟩
      · have g2 : ((co : Int) == 2) = false := by have := f4 rfl; simp; omega
        rcases Nat.lt_or_ge i hd with hlo | hlo
        · have e2 : (i : Int) < (hd : Int) := by omega
          have g3 : ((co : Int) == 3) = false := by have := f3 rfl hlo; simp; omega
          clear f2 f3 f4 f5
          cases bi
          · clear f1
            go_wp2_with fail
            go_roundg (N - (i + 1))
            case measure => omega
            case rel => exact ⟨i + 1, by omega, rfl, by go_num, by first | exact HB.out | exact HB.out.drew | exact HB.out.drewN _⟩
          · have g1 : ((co : Int) == 0) = false := by have := f1 rfl; simp; omega
            clear f1
            go_wp2_with fail
            go_roundg (N - (i + 1))
            case measure => omega
            case rel => exact ⟨i + 1, by omega, rfl, by go_num, by first | exact HB.out | exact HB.out.drew | exact HB.out.drewN _⟩
        · have e2 : ¬ (i : Int) < (hd : Int) := by omega
          have e3 : (hd : Int) ≤ (i : Int) := by omega
          cases bi
          · clear f1 f2 f3 f4 f5
            go_wp2_with fail
            go_roundg (N - (i + 1))
            case measure => omega
            case rel => exact ⟨i + 1, by omega, rfl, by go_num, by first | exact HB.out | exact HB.out.drew | exact HB.out.drewN _⟩
          · obtain rfl : co = 3 := f5 rfl hlo rfl
            clear f1 f2 f3 f4 f5 g2
            go_wp2_with fail
            go_roundg (N - (i + 1))
            case measure => omega
            case rel => exact ⟨i + 1, by omega, rfl, by go_num, by first | exact HB.out | exact HB.out.drew | exact HB.out.drewN _⟩
    · have e1 : ¬ (i : Int) < (N : Int) := by omega
      have hC6 := hid (hS5.cells)
      have hhd := HPT.out.hand
      have hnh := HPT.out.nohand
      have HBE := hid (HB4.out.trans (hB.mono HB4.out.size))
      clear hA5 hS5 hB HB
      obtain rfl | rfl | rfl : ph = 0 ∨ ph = 1 ∨ ph = 2 := by omega
      · obtain rfl := hnh (by omega)
        clear hhd hnh hC6
        go_wp2_with fail
        go_ret
        exact ⟨rfl, HBE.out⟩
      · obtain rfl := hnh (by omega)
        have hmk := hid (marked_any hC6.out (by omega) HGC.out (HPT.out.mark rfl))
        rw [hlc] at hmk
        clear hhd hnh hC6
        go_wp2_with fail
        refine hmk.out.mono ?_
        clear hmk
        intro e w9 hh
        obtain ⟨hx, hb9⟩ := hh
        subst e
        have HB9 := hid (HBE.out.trans (hb9.mono HBE.out.size))
        clear hb9
        go_wp2_with fail
        go_ret
        exact ⟨rfl, HB9.out⟩
      · have h1 := hhd rfl
        have hwi := hid (within_any hd 0 ((N : Int) - 1) wr)
        rw [decide_eq_true (show (0 : Int) ≤ (hd : Int) by omega), decide_eq_true (show (hd : Int) ≤ (N : Int) - 1 by omega)] at hwi
        clear hhd hnh hC6
        go_wp2_with fail
        refine hwi.out.mono ?_
        clear hwi
        intro e w9 hh
        obtain ⟨hx, hw⟩ := hh
        subst e
        subst w9
        go_wp2_with fail
        go_ret
        exact ⟨rfl, HBE.out⟩
end Go.Proofs.YtdmdpindonghdaaDoor
namespace Go.Proofs.YtdmdpindonghdaaDoor
open Go.RowKit
theorem pr_play {B : Nat} {w : World} {K : PK} {E : Env} {s : MS} (k a : Int) (h : PR B w K s) (hke : KE K E) (he : EnvOk E) (hi : MInv E s) (hz : E.zs.length ≤ 64) (hlen : s.out.length ≤ 8796093022208) :
    Calls Tryd.prog 29 #[.pointer (some ⟨K.b, 0, none⟩), .agg #[.int .i64 k, .int .i64 a]] w fun e w' => e = .returned (.bool true) ∧ PR B w' K (opK E k a s) ∧ Below B w w' := by
  refine (pn_play k a (PN.of h (Below.refl _ _)) hke he hi hz hlen).mono ?_
  rintro e w' ⟨a, b, c, d⟩
  exact ⟨a, b.pr, d⟩
set_option maxRecDepth 100000 in
set_option maxHeartbeats 2000000 in
theorem paintedLaw_any (raw : ByteArray) (vi vo : Value) (zs : List Int) (ops : List (Int × Int)) (cells : Int) (w : World) (hr : raw.size ≤ maxLen) (ht : FlowTab w) (hv : ArgInts w vi zs) (hcap : ∀ p n c, vi = .slice p n c → n ≤ c ∧ c ≤ maxLen) (ho : ArgSc w vo ops) (hol : ops.length ≤ 8796093022200)
    (hc1 : -9223372036854775808 ≤ cells) (hc2 : cells ≤ 9223372036854775807) :
    Calls Tryd.prog 8 #[.string raw, vi, .int .i64 cells, vo] w fun e w' => e = .returned (.bool true) ∧ Below w.heap.size w w' := by
  obtain ⟨q1, q2, q3, q4, q5⟩ := built_ok raw true
  obtain ⟨n1, n2⟩ := roomN_le cells
  have hsz : (builtS raw true).size ≤ maxLen := by
    have h1 := (errOf_zero q1).1
    obtain ⟨⟨⟨h3, h4⟩, _⟩, _⟩ : ((3 ≤ (builtS raw true).size ∧ (builtS raw true).size ≤ 122) ∧ byteAt (builtS raw true) 0 = 84) ∧ byteAt (builtS raw true) 1 ≤ 4 := by simpa [shapedP] using h1
    have : maxLen = 9223372036854775807 := rfl
    omega
  have hzl : (zs.take 64).length ≤ 64 := by rw [List.length_take]; omega
  have hrm := hid (room_any cells w hc1 hc2)
  have hbu := hid (built_any raw true w hr)
  have hso := hid (fun (W : World) (hb : Below w.heap.size w W) => some_any vi zs W (hv.keep hb) hcap)
  obtain ⟨x, hx⟩ : ∃ x, x = builtS raw true := ⟨_, rfl⟩
  rw [← hx] at hbu q1 q2 q3 q4 q5 hsz
  have hmd := hid (fun (W : World) (hb : Below w.heap.size w W) (v : Value) (hv : ArgInts W v (zs.take 64)) => made_any x v (zs.take 64) (roomN cells) W hsz (ht.below hb) hv hzl n1 n2 q1 q4)
  have HO := hid ho
  have HX : Hid (errOf x = 0 ∧ WT (codeOf x) (byteAt x 1) ∧ Det (codeOf x) (byteAt x 1)) := hid ⟨q1, q4, q5⟩
  obtain ⟨p0, c0, e0⟩ := hv.slice
  subst e0
  obtain ⟨po, co, eo⟩ := ho.slice
  subst eo
  clear hr ht hv hcap ho hc1 hc2 q1 q2 q3 q4 q5 hsz hx
  go_enter Tryd.func8, Tryd.ntmps8
  go_wp2_with fail
  refine hrm.out.mono ?_
  clear hrm
  intro e w1 hh
  obtain ⟨hx, hw⟩ := hh
  subst e
  subst w1
  go_wp2_with fail
  refine hbu.out.mono ?_
  clear hbu
  intro e w1 hh
  obtain ⟨hx, hb1⟩ := hh
  subst e
  have hs1 := hid (hso.out w1 hb1)
  have HB1 := hid hb1
  clear hb1 hso
  go_wp2_with fail
  refine hs1.out.mono ?_
  clear hs1
  intro e w2 hh
  obtain ⟨⟨v1, hx, hv1⟩, hw⟩ := hh
  subst e
  subst w2
  have hm1 := hid (hmd.out w1 HB1.out v1 hv1)
  clear hv1 hmd
  go_wp2_with fail
  refine hm1.out.mono ?_
  clear hm1
  intro e w2 hh
  obtain ⟨K, hx, hM⟩ := hh
  subst e
  obtain ⟨hxe, hxw, hxd⟩ := HX.out
  have hke := hM.ke
  have hok := hM.ok
  have hin := hM.inv
  have hnm : NoMix (envOf x K.fs (zs.take 64) (roomN cells)) := noMix_of hxe hxw hM.set hM.still hxd
  have hEz : (envOf x K.fs (zs.take 64) (roomN cells)).zs.length ≤ 64 := hzl
  have hEn : (envOf x K.fs (zs.take 64) (roomN cells)).n = roomN cells := rfl
  have hgs : GS (startS (byteAt x 1) (roomN cells)) := GS.start _ _
  have hP0 := hM.pr.mono HB1.out.size
  obtain ⟨E, hEd⟩ : ∃ E, E = envOf x K.fs (zs.take 64) (roomN cells) := ⟨_, rfl⟩
  obtain ⟨s0, hs0⟩ : ∃ s0, s0 = startS (byteAt x 1) (roomN cells) := ⟨_, rfl⟩
  have h01 : s0.out.length = 0 := by rw [hs0]; rfl
  rw [← hEd] at hke hok hin hnm hEz hEn
  rw [← hs0] at hin hgs hP0
  have HB2 := hid (HB1.out.trans (hM.below.mono HB1.out.size))
  have HIN := hid hin
  have HGS := hid hgs
  have HP0 := hid hP0
  have HNM := hid hnm
  have hpa := hid (fun (W : World) (s : MS) (h1 : PR w.heap.size W K s) (h2 : MInv E s) (h3 : GS s) => painted_any h1 hke hok h2 h3 hnm hEn)
  have hpl := hid (fun (W : World) (s : MS) (k a : Int) (h1 : PR w.heap.size W K s) (h2 : MInv E s) (h3 : s.out.length ≤ 8796093022208) => pr_play k a h1 hke hok h2 hEz h3)
  have hp0 := hid (hpa.out w2 s0 hP0 hin hgs)
  clear hM HX hxe hxw hxd hEd hs0 hin hgs hP0 hnm HB1
  go_wp2_with fail
  refine hp0.out.mono ?_
  clear hp0
  intro e w3 hh
  obtain ⟨hx, hb3⟩ := hh
  subst e
  have HB3 := hid (HB2.out.trans (hb3.mono HB2.out.size))
  have HP3 := hid (HP0.out.keep hb3)
  clear hb3 HB2 HP0
  go_wp2_with fail
  go_loopg [13, 12] ops.length (fun gk x y w' => ∃ (j : Nat) (s : MS), j ≤ ops.length ∧ gk = ops.length - j ∧ x = .int .i64 j ∧ y = .bool true ∧ PR w.heap.size w' K s ∧ MInv E s ∧ GS s ∧ s.out.length ≤ j ∧ Below w.heap.size w w')
  case atStart => exact ⟨0, s0, by omega, by omega, rfl, rfl, HP3.out, HIN.out, HGS.out, by omega, HB3.out⟩
  case round =>
    obtain ⟨j, s, hj, hgk, rfl, rfl, hP, hI, hG, hout, hB⟩ := hrel
    rcases Nat.lt_or_ge j ops.length with hlt | hge
    · have d0 : (0 : Int) ≤ (j : Int) := by omega
      have d1 : (j : Int) < (ops.length : Int) := by omega
      have d2 : (j : Int) + 1 ≤ 17592186044416 := by omega
      obtain ⟨g', o', e0, y0, y1⟩ := HO.out.get hB hlt
      cases e0
      generalize ops[j] = xx at *
      obtain ⟨x1, x2⟩ := xx
      have hp1 := hid (hpl.out wr s x1 x2 hP hI (by omega))
      have HI := hid hI
      have HG := hid hG
      have HB := hid hB
      clear hP hI hG hB HP3 HIN HGS HB3 hpl
      go_wp2_with fail
      refine hp1.out.mono ?_
      clear hp1
      intro e w6 hh
      obtain ⟨hx, hP6, hB6⟩ := hh
      subst e
      have hI2 := HI.out.opK hok x1 x2
      have hG2 := HG.out.opK hok HNM.out HI.out x1 x2
      have ho2 := opK_out E x1 x2 s
      generalize opK E x1 x2 s = t at *
      have hpt := hid (hpa.out w6 t hP6 hI2 hG2)
      have HP6 := hid hP6
      have HI2 := hid hI2
      have HG2 := hid hG2
      have HB6 := hid (HB.out.trans hB6)
      clear hP6 hI2 hG2 hB6 y0 y1 HI HG HB hpa
      go_wp2_with fail
      refine hpt.out.mono ?_
      clear hpt
      intro e w7 hh
      obtain ⟨hx, hb7⟩ := hh
      subst e
      have HB7 := hid (HB6.out.trans (hb7.mono HB6.out.size))
      have HP7 := hid (HP6.out.keep hb7)
      clear hb7 HB6 HP6
      go_wp2_with fail
      go_roundg (ops.length - (j + 1))
      case measure => omega
      case rel => exact ⟨j + 1, t, by omega, rfl, by go_num, rfl, HP7.out, HI2.out, HG2.out, by omega, HB7.out⟩
    · have d1 : ¬ (j : Int) < (ops.length : Int) := by omega
      have HB := hid hB
      clear hP hI hG hB
      go_wp2_with fail
      go_ret
      exact ⟨rfl, HB.out⟩
end Go.Proofs.YtdmdpindonghdaaDoor
namespace Go.Proofs.YtdmdpindonghdaaDoor
open Go.RowKit
theorem dec_at (t : ByteArray) (L : Nat) : ∀ (f p : Nat) (l : List Ins), t.size - p ≤ f → dec t L p = some l → (∀ i ∈ l, p ≤ i.place ∧ byteAt t i.place = i.op ∧ i.place < t.size) ∧ l.Pairwise (fun a b => a.place < b.place) := by
  intro f
  induction f with
  | zero =>
    intro p l hf h
    rw [dec_end t L p (by omega)] at h
    cases h
    exact ⟨fun i hi => by (cases hi), .nil⟩
  | succ f ih =>
    intro p l hf h
    rcases Nat.lt_or_ge p t.size with hp | hp
    · by_cases hq : (behindP t p L).1 = 0
      · rw [dec_none t L p hp hq] at h; cases h
      · have hg := behindP_gt t p L hp hq
        rw [dec_some t L p hp hq] at h
        cases hd : dec t L (behindP t p L).1 with
        | none => rw [hd] at h; cases h
        | some r =>
          rw [hd] at h
          simp only [Option.map_some, Option.some.injEq] at h
          subst h
          obtain ⟨a, b⟩ := ih _ r (by omega) hd
          refine ⟨fun i hi => ?_, ?_⟩
          · rcases List.mem_cons.1 hi with rfl | hi
            · exact ⟨Nat.le_refl _, rfl, hp⟩
            · have := a i hi
              exact ⟨by omega, this.2.1, this.2.2⟩
          · exact .cons (fun i hi => by have := (a i hi).1; simp only; omega) b
    · rw [dec_end t L p hp] at h
      cases h
      exact ⟨fun i hi => by (cases hi), .nil⟩
theorem code_places (s : ByteArray) : (∀ i ∈ codeOf s, byteAt (textOf s) i.place = i.op ∧ i.place < (textOf s).size) ∧ (codeOf s).Pairwise (fun a b => a.place < b.place) := by
  cases hd : dec (textOf s) (byteAt s 1) 0 with
  | none =>
    have : codeOf s = [] := by unfold codeOf; rw [hd]; rfl
    rw [this]
    exact ⟨fun i hi => by (cases hi), .nil⟩
  | some l =>
    have : codeOf s = l := by unfold codeOf; rw [hd]; rfl
    rw [this]
    obtain ⟨a, b⟩ := dec_at _ _ _ 0 l (Nat.le_refl _) hd
    exact ⟨fun i hi => (a i hi).2, b⟩
/-- The point i of a list, in memory. -/
structure PoAt (w : World) (N g i : Nat) (m : MP) (vl vs : Value) : Prop where
  x0 : w.cell? ⟨g, i * 4, none⟩ = some (.int .i64 m.place)
  x1 : w.cell? ⟨g, i * 4 + 1, none⟩ = some (.bool m.reached)
  x2 : w.cell? ⟨g, i * 4 + 2, none⟩ = some vl
  x3 : w.cell? ⟨g, i * 4 + 3, none⟩ = some vs
  lo : IntsAt w (fun g => g < N) vl m.lo
  st : IntsAt w (fun g => g < N) vs m.st
/-- A list of points in memory, in blocks below N. -/
structure MsAt (w : World) (N : Nat) (g cap : Nat) (ms : List MP) : Prop where
  lt : g < N
  le : N ≤ w.heap.size
  pt : ∀ (i : Nat) (m : MP), ms[i]? = some m → ∃ vl vs, PoAt w N g i m vl vs
theorem MsAt.keep {w w' : World} {N g cap : Nat} {ms : List MP} (h : MsAt w N g cap ms) {B : Nat} (hb : Below B w w') (hB : N ≤ B) : MsAt w' N g cap ms := by
  refine ⟨h.lt, Nat.le_trans h.le hb.size, fun i m hi => ?_⟩
  obtain ⟨vl, vs, a0, a1, a2, a3, a4, a5⟩ := h.pt i m hi
  have hl := h.lt
  have hg : ∀ j, w'.cell? ⟨g, j, none⟩ = w.cell? ⟨g, j, none⟩ := fun j => hb.cell (p := ⟨g, j, none⟩) (by simp only; omega)
  exact ⟨vl, vs, (hg _).trans a0, (hg _).trans a1, (hg _).trans a2, (hg _).trans a3, a4.keep (fun q hq => ⟨hq, hb.block q (by omega)⟩), a5.keep (fun q hq => ⟨hq, hb.block q (by omega)⟩)⟩
theorem ptsIn_at {w : World} {P : Nat → Prop} : ∀ (cs : List Value) (ms : List MP), PtsIn w P cs ms → ∀ (i : Nat) (m : MP), ms[i]? = some m → ∃ vl vs, cs[i * 4]? = some (.int .i64 m.place) ∧ cs[i * 4 + 1]? = some (.bool m.reached) ∧ cs[i * 4 + 2]? = some vl ∧ cs[i * 4 + 3]? = some vs ∧ IntsAt w P vl m.lo ∧ IntsAt w P vs m.st
  | [], [], _, i, m, hi => by simp at hi
  | a :: b :: c :: d :: r, m0 :: ms, ⟨h1, h2, h3, h4, h5⟩, i, m, hi => by
    cases i with
    | zero =>
      simp only [List.getElem?_cons_zero, Option.some.injEq] at hi
      subst hi
      exact ⟨c, d, by simp [h1], by simp [h2], by simp, by simp, h3, h4⟩
    | succ i =>
      simp only [List.getElem?_cons_succ] at hi
      obtain ⟨vl, vs, g0, g1, g2, g3, g4, g5⟩ := ptsIn_at r ms h5 i m hi
      refine ⟨vl, vs, ?_, ?_, ?_, ?_, g4, g5⟩
      · rw [show (i + 1) * 4 = i * 4 + 4 by omega]; simpa using g0
      · rw [show (i + 1) * 4 + 1 = (i * 4 + 1) + 4 by omega]; simpa using g1
      · rw [show (i + 1) * 4 + 2 = (i * 4 + 2) + 4 by omega]; simpa using g2
      · rw [show (i + 1) * 4 + 3 = (i * 4 + 3) + 4 by omega]; simpa using g3
  | [], _ :: _, h, _, _, _ => by cases h
  | _ :: _, [], h, _, _, _ => by simp [PtsIn] at h
  | [_], _ :: _, h, _, _, _ => by simp [PtsIn] at h
  | [_, _], _ :: _, h, _, _, _ => by simp [PtsIn] at h
  | [_, _, _], _ :: _, h, _, _, _ => by simp [PtsIn] at h
theorem OwnPts.msAt {w : World} {base : Nat} {v : Value} {ms : List MP} (h : OwnPts w base v ms) (h0 : 0 < ms.length) : ∃ g cap, v = .slice (some ⟨g, 0, none⟩) ms.length cap ∧ MsAt w w.heap.size g cap ms := by
  obtain ⟨cs, h1, h2⟩ := h
  obtain ⟨g, cap, eg, hg, hc⟩ := (LsAt.of_owns h1).some h0
  refine ⟨g, cap, eg, hg.2, Nat.le_refl _, fun i m hi => ?_⟩
  obtain ⟨vl, vs, g0, g1, g2, g3, g4, g5⟩ := ptsIn_at cs ms h2 i m hi
  exact ⟨vl, vs, hc _ _ g0, hc _ _ g1, hc _ _ g2, hc _ _ g3, g4.keep (fun q hq => ⟨hq.2.1, rfl⟩), g5.keep (fun q hq => ⟨hq.2.1, rfl⟩)⟩
set_option maxRecDepth 100000 in
set_option maxHeartbeats 1000000 in
theorem at_any {w : World} {N g cap : Nat} {ms : List MP} {k : Nat} {m : MP} (h : MsAt w N g cap ms) (hk : ms[k]? = some m) (hl : ms.length ≤ 1000) (hno : ∀ (j : Nat) (m' : MP), j < k → ms[j]? = some m' → m'.place ≠ m.place) :
    Calls Tryd.prog 72 #[.slice (some ⟨g, 0, none⟩) ms.length cap, .int .i64 m.place] w fun e w' => Below w.heap.size w w' ∧ ∃ vl vs, e = .returned (.tuple #[.agg #[.int .i64 m.place, .bool m.reached, vl, vs], .bool true]) ∧ IntsAt w (fun g => g < N) vl m.lo ∧ IntsAt w (fun g => g < N) vs m.st := by
  have hkl := (List.getElem?_eq_some_iff.1 hk).1
  have HH := hid h
  have HK := hid hk
  have HNO := hid hno
  clear h hk hno
  go_enter Tryd.func72, Tryd.ntmps72
  go_wp2_with fail
  go_loopg [6] (k + 1) (fun gk x w' => ∃ i : Nat, i ≤ k ∧ gk = k + 1 - i ∧ x = .int .i64 i ∧ Below w.heap.size w w' ∧ w'.heap[w.heap.size]? = some (.cells #[.int .i64 0, .bool false, .slice none 0 0, .slice none 0 0] 95))
  case atStart => exact ⟨0, by omega, by omega, rfl, (Below.refl _ _).alloc (Nat.le_refl _) _, heap_alloc_new w _⟩
  case round =>
    obtain ⟨i, hi, hgk, rfl, hB, hR⟩ := hrel
    have HR := hid hR
    have d0 : (0 : Int) ≤ (i : Int) := by omega
    have d1 : (i : Int) < (ms.length : Int) := by omega
    obtain ⟨mi, hmi⟩ : ∃ mi, ms[i]? = some mi := ⟨ms[i], List.getElem?_eq_getElem (by omega)⟩
    obtain ⟨vl, vs, x0, x1, x2, x3, hlo, hst⟩ := (HH.out.keep hB HH.out.le).pt i mi hmi
    have HB := hid hB
    clear hB
    rcases Nat.lt_or_ge i k with hlt | hge
    · have hne := HNO.out i mi hlt hmi
      have e0 : ((mi.place : Int) == (m.place : Int)) = false := by simp; omega
      clear hlo hst hmi
      go_wp2_with fail
      go_roundg (k + 1 - (i + 1))
      case measure => omega
      case rel => exact ⟨i + 1, by omega, rfl, by go_num, HB.out, HR.out⟩
    · obtain rfl : i = k := by omega
      rw [HK.out] at hmi
      obtain rfl := Option.some.inj hmi
      obtain ⟨p1, c1, e1⟩ := hlo.slice
      obtain ⟨p2, c2, e2⟩ := hst.slice
      subst e1
      subst e2
      have z0 := cell_of_row wr w.heap.size 0 _ _ _ hR
      have z1 := cell_of_row wr w.heap.size 1 _ _ _ hR
      have z2 := cell_of_row wr w.heap.size 2 _ _ _ hR
      have z3 := cell_of_row wr w.heap.size 3 _ _ _ hR
      simp only [List.getElem?_toArray, List.getElem?_cons_zero, List.getElem?_cons_succ] at z0 z1 z2 z3
      have f0 := frozen_of_row wr w.heap.size 0 _ _ hR
      have f1 := frozen_of_row wr w.heap.size 1 _ _ hR
      have f2 := frozen_of_row wr w.heap.size 2 _ _ hR
      have f3 := frozen_of_row wr w.heap.size 3 _ _ hR
      have HLO := hid (hlo.keep (P' := fun g => g < N) (w' := w) (fun q hq => ⟨hq, (HB.out.block q (Nat.lt_of_lt_of_le hq HH.out.le)).symm⟩))
      have HST := hid (hst.keep (P' := fun g => g < N) (w' := w) (fun q hq => ⟨hq, (HB.out.block q (Nat.lt_of_lt_of_le hq HH.out.le)).symm⟩))
      clear hlo hst hR
      go_wp2_with fail
      refine bodyPost_ret (v := .tuple #[.agg #[.int .i64 m.place, .bool m.reached, .slice p1 m.lo.length c1, .slice p2 m.st.length c2], .bool true]) (by simp [results, Tryd.results72, go_sem, z0, z1, z2, z3]) rfl ⟨(((HB.out.setCell (by simp) _).setCell (by simp) _).setCell (by simp) _).setCell (by simp) _, _, _, rfl, HLO.out, HST.out⟩
end Go.Proofs.YtdmdpindonghdaaDoor
namespace Go.Proofs.YtdmdpindonghdaaDoor
open Go.RowKit
/-- From cells to cells, by units: what is not to be freed was there, as it is. -/
def UK (T : List Cl) (ph hd : Nat) (T' : List Cl) (ph' hd' : Nat) : Prop := ∀ (k : Nat) (c' : Cl), T'[k]? = some c' → Alive T' ph' hd' k → Alive T ph hd k ∧ ∃ c, T[k]? = some c ∧ c'.weak = c.weak ∧ (c'.a = c.a ∨ c'.a = -1) ∧ (c'.b = c.b ∨ c'.b = -1)
theorem UK.refl (T : List Cl) (ph hd : Nat) : UK T ph hd T ph hd := fun _ c' h1 h2 => ⟨h2, c', h1, rfl, .inl rfl, .inl rfl⟩
theorem UK.trans {T T' T'' : List Cl} {ph ph' ph'' hd hd' hd'' : Nat} (h : UK T ph hd T' ph' hd') (h' : UK T' ph' hd' T'' ph'' hd'') : UK T ph hd T'' ph'' hd'' := by
  intro k c'' h1 h2
  obtain ⟨a1, c', b1, b2, b3, b4⟩ := h' k c'' h1 h2
  obtain ⟨a2, c, d1, d2, d3, d4⟩ := h k c' b1 a1
  refine ⟨a2, c, d1, b2.trans d2, ?_, ?_⟩
  · rcases b3 with e | e
    · rw [e]; exact d3
    · exact .inr e
  · rcases b4 with e | e
    · rw [e]; exact d4
    · exact .inr e
theorem UK.paint {T T' : List Cl} {ph ph' hd hd' : Nat} (h : Paint T T') (h2 : ph ≠ 2) (hc : ∀ k, colL T k = 0 → colL T' k = 0) : UK T ph hd T' ph' hd' := by
  intro k c' h1 ha
  obtain ⟨c, e1, e2⟩ := h.get k c' h1
  refine ⟨⟨fun e => ha.1 (hc k e), fun e => h2 e.1⟩, c, e1, ?_, ?_, ?_⟩
  · rw [e2]
  · rw [e2]; exact .inl rfl
  · rw [e2]; exact .inl rfl
theorem shades_zero (T : List Cl) (rs : List Int) (k : Nat) (h : colL T k = 0) : colL (shadesL T rs) k = 0 := by
  rw [shades_colL, if_neg (fun e => by omega)]
  exact h
theorem black_zero {T : List Cl} {g : Nat} {c : Cl} (hg : T[g]? = some c) (h2 : c.col = 2) (k : Nat) (h : colL T k = 0) : colL (blackL T g) k = 0 := by
  have hlt := (List.getElem?_eq_some_iff.1 hg).1
  have hne : k ≠ g := fun e => by rw [e, colL_some hg] at h; omega
  unfold blackL
  have hs : ∀ (U : List Cl) (r : Int), colL U k = 0 → colL (shadeL U r) k = 0 := fun U r hU => by
    rw [shade_colL, if_neg (fun e => by omega)]; exact hU
  split
  · rw [colL_paint _ _ _ _ hlt, if_neg hne]; exact h
  · rw [colL_paint _ _ _ _ (by rw [shadeL_len, shadeL_len]; exact hlt), if_neg hne]
    exact hs _ _ (hs _ _ h)
theorem UK.forget (T : List Cl) (hd : Nat) : UK T 1 hd (forgetL T) 2 0 := by
  intro k c' h1 ha
  obtain ⟨c, e1, rfl⟩ := forget_get h1
  obtain ⟨_, q2, q3, _, q5, _⟩ := fgL_all T c
  refine ⟨⟨?_, by omega⟩, c, e1, q2, q5, .inl q3⟩
  have := ha.1
  rw [forget_colL] at this
  exact this
theorem UK.sweep {T : List Cl} {hd ph' hd' : Nat} (hh : hd < T.length) (hph : (ph' = 2 ∧ hd' = hd + 1) ∨ (ph' = 0 ∧ hd' = 0 ∧ hd + 1 = T.length)) (hng : ∀ c ∈ T, c.col ≤ 3 ∧ c.col ≠ 2) : UK T 2 hd (sweepL T hd) ph' hd' := by
  intro k c' h1 ha
  have ha1 := ha.1
  have ha2 := ha.2
  rw [sweep_colL hh] at ha1 ha2
  rw [sweep_get hh] at h1
  obtain ⟨g1, g2⟩ := hng T[hd] (List.getElem_mem hh)
  by_cases e : k = hd
  · subst e
    rw [if_pos rfl] at h1 ha1
    by_cases c1 : T[k].col = 1
    · rw [if_pos c1] at ha1; exact absurd rfl ha1
    rw [if_neg c1] at h1 ha1
    by_cases c3 : T[k].col = 3
    · rw [if_pos c3] at h1
      cases h1
      refine ⟨⟨?_, ?_⟩, T[k], List.getElem?_eq_getElem hh, rfl, .inl rfl, .inl rfl⟩
      · rw [colL_some (List.getElem?_eq_getElem hh)]; omega
      · rw [colL_some (List.getElem?_eq_getElem hh)]; omega
    · rw [if_neg c3] at ha1
      omega
  · rw [if_neg e] at h1 ha1 ha2
    refine ⟨⟨ha1, ?_⟩, c', h1, rfl, .inl rfl, .inl rfl⟩
    rintro ⟨_, q2, q3⟩
    have hk := (List.getElem?_eq_some_iff.1 h1).1
    rcases hph with ⟨p1, p2⟩ | ⟨p1, p2, p3⟩
    · exact ha2 ⟨p1, by omega, q3⟩
    · omega
theorem GInv.uk {T : List Cl} {ph hd : Nat} {rs : List Int} (h : GInv T ph hd rs) (h2 : ph ≤ 2) (hh : ph = 2 → hd < T.length) : UK T ph hd (unitL T ph hd rs).1 (unitL T ph hd rs).2.1 (unitL T ph hd rs).2.2 := by
  unfold unitL
  by_cases e0 : ph = 0
  · rw [if_pos e0]
    exact UK.paint (shades_paint rs T) (by omega) (fun k => shades_zero T rs k)
  rw [if_neg e0]
  by_cases e2 : ph = 2
  · rw [if_pos e2]
    subst e2
    have hlt := hh rfl
    have hng : ∀ c ∈ T, c.col ≤ 3 ∧ c.col ≠ 2 := fun c hc => ⟨h.col3 c hc, h.nogrey rfl c hc⟩
    split
    · exact UK.sweep hlt (.inr ⟨rfl, rfl, by omega⟩) hng
    · exact UK.sweep hlt (.inl ⟨rfl, rfl⟩) hng
  rw [if_neg e2]
  have e1 : ph = 1 := by omega
  subst e1
  by_cases hg : 0 ≤ greyL T
  · rw [if_pos hg]
    obtain ⟨c, hc, hc2⟩ := greyL_pos hg
    exact UK.paint (black_paint T _) (by omega) (fun k => black_zero hc hc2 k)
  rw [if_neg hg]
  have hs : UK T 1 hd (shadesL T rs) 1 hd := UK.paint (shades_paint rs T) (by omega) (fun k => shades_zero T rs k)
  by_cases hg2 : greyL (shadesL T rs) < 0
  · rw [if_pos hg2]
    exact hs.trans (UK.forget _ _)
  · rw [if_neg hg2]
    exact hs
def UKH (h h' : HSt) : Prop := UK (h.1.map toldC) h.2.1 h.2.2 (h'.1.map toldC) h'.2.1 h'.2.2
theorem UKH.refl (h : HSt) : UKH h h := UK.refl _ _ _
theorem UKH.trans {h h' h'' : HSt} (a : UKH h h') (b : UKH h' h'') : UKH h h'' := UK.trans a b
theorem GH.uk {n : Nat} {h : HSt} {rs : List Int} (k : GH n h rs) : UKH h (stepC rs h) := by
  unfold UKH
  have hu := told_unit k.ok.ok k.ok.x rs
  have := k.g.uk k.ok.ok.phz (by simpa using k.ok.ok.hand)
  rw [hu] at this
  exact this
theorem GH.uks {n : Nat} {h : HSt} {rs : List Int} (k : GH n h rs) : ∀ m, UKH h (unitsC rs m h)
  | 0 => UKH.refl _
  | m + 1 => (GH.uks k m).trans (k.units m).uk
theorem GH.ukIdle {n : Nat} {h : HSt} {rs : List Int} (k : GH n h rs) : UKH h (idleC rs h) := by
  have := idleC_ind (rs := rs) (P := fun h' => GH n h' rs ∧ UKH h h') (fun _ q => ⟨q.1.unit, q.2.trans q.1.uk⟩) (⟨k, UKH.refl h⟩ : GH n h rs ∧ UKH h h)
  exact this.2
theorem GH.ukRoom {n : Nat} {h : HSt} {rs : List Int} (k : GH n h rs) : UKH h (roomC rs h) := by
  unfold roomC
  split
  · exact UKH.refl _
  split
  · exact k.ukIdle
  · exact (k.ukIdle.trans k.idle.uk).trans k.idle.unit.ukIdle
/-- A cell's number, of this kind. -/
def KindR (h : HSt) (wk : Bool) (r : Int) : Prop := 0 ≤ r ∧ ∃ c, h.1[r.toNat]? = some c ∧ c.weak = wk
/-- Cells that are not to be freed refer to plain ones. -/
def KI (h : HSt) : Prop := ∀ (k : Nat) (c : RC), h.1[k]? = some c → AliveH h k → ∀ j : Nat, (c.a = (j : Int) ∨ c.b = (j : Int)) → KindR h false j
theorem told_get {h : HSt} {k : Nat} {c' : Cl} (hc : (h.1.map toldC)[k]? = some c') : ∃ c, h.1[k]? = some c ∧ c' = toldC c := by
  rw [List.getElem?_map] at hc
  cases hk : h.1[k]? with
  | none => rw [hk] at hc; cases hc
  | some c => rw [hk] at hc; exact ⟨c, rfl, (Option.some.inj hc).symm⟩
theorem UKH.get {h h' : HSt} (u : UKH h h') {k : Nat} {c' : RC} (hc : h'.1[k]? = some c') (ha : AliveH h' k) : AliveH h k ∧ ∃ c, h.1[k]? = some c ∧ c'.weak = c.weak ∧ (c'.a = c.a ∨ c'.a = -1) ∧ (c'.b = c.b ∨ c'.b = -1) := by
  obtain ⟨a, c, e1, e2, e3, e4⟩ := u k (toldC c') (told_at hc) ha
  obtain ⟨d, f1, f2⟩ := told_get e1
  subst f2
  exact ⟨a, d, f1, e2, e3, e4⟩
theorem UKH.kind {h h' : HSt} (u : UKH h h') {wk : Bool} {r : Int} (hr : KindR h wk r) (hl : h'.1.length = h.1.length) (ha : ∀ k : Nat, r = (k : Int) → AliveH h' k) : KindR h' wk r := by
  obtain ⟨h0, c, hc, hw⟩ := hr
  have hlt := (List.getElem?_eq_some_iff.1 hc).1
  obtain ⟨c', hc'⟩ : ∃ c', h'.1[r.toNat]? = some c' := ⟨_, List.getElem?_eq_getElem (by omega)⟩
  obtain ⟨_, d, f1, f2, _⟩ := u.get hc' (ha r.toNat (by omega))
  rw [hc] at f1
  cases f1
  exact ⟨h0, c', hc', f2.trans hw⟩
theorem KI.uk {h h' : HSt} (q : KI h) (u : UKH h h') (hl : h'.1.length = h.1.length) (g : GInvH h') : KI h' := by
  intro k c' hc ha j hj
  obtain ⟨a, c, e1, _, e3, e4⟩ := u.get hc ha
  refine u.kind (q k c e1 a j ?_) hl (fun i hi => ?_)
  · rcases hj with hj | hj
    · rcases e3 with e | e
      · exact .inl (e ▸ hj)
      · omega
    · rcases e4 with e | e
      · exact .inr (e ▸ hj)
      · omega
  · obtain rfl : j = i := by omega
    exact g.refs hc ha hj
/-- A cell is written that was free, or one whose references are plain. -/
theorem KI.put {h h' : HSt} (q : KI h) {r : Nat} (hsame : ∀ k, k ≠ r → (∀ c', h'.1[k]? = some c' → ∃ c, h.1[k]? = some c ∧ c'.weak = c.weak ∧ c'.a = c.a ∧ c'.b = c.b) ∧ (∀ c, h.1[k]? = some c → ∃ c', h'.1[k]? = some c' ∧ c'.weak = c.weak) ∧ (AliveH h' k → AliveH h k))
    (hr : ∀ c', h'.1[r]? = some c' → ∀ j : Nat, (c'.a = (j : Int) ∨ c'.b = (j : Int)) → KindR h' false j)
    (hn : ∀ k c, h.1[k]? = some c → k ≠ r → AliveH h k → (c.a = (r : Int) ∨ c.b = (r : Int)) → KindR h' false r) : KI h' := by
  intro k c' hc ha j hj
  by_cases e : k = r
  · subst e
    exact hr c' hc j hj
  obtain ⟨h1, _, h3⟩ := hsame k e
  obtain ⟨c, e1, e2, e3, e4⟩ := h1 c' hc
  rw [e3, e4] at hj
  by_cases ej : j = r
  · subst ej
    exact hn k c e1 e (h3 ha) hj
  obtain ⟨_, d, hd, hw⟩ := q k c e1 (h3 ha) j hj
  obtain ⟨d', f1, f2⟩ := (hsame j ej).2.1 d (by simpa using hd)
  exact ⟨by omega, d', by simpa using f1, f2.trans hw⟩
end Go.Proofs.YtdmdpindonghdaaDoor
namespace Go.Proofs.YtdmdpindonghdaaDoor
open Go.RowKit
/-- What is known of a word: (0, 0) nothing; (1, 0) a plain cell or None, (2, 0) a weak one or None; (3, 0) a plain cell, (4, 0) a weak one; (5, 0) None; (6, n) what local n holds; (7, n) 0 just if local n is not None. -/
def resA (lo : List (Nat × Nat)) (v : Nat × Nat) : Nat × Nat := if v.1 = 6 then lo.getD v.2 (0, 0) else if v.1 = 7 then (0, 0) else v
def isPl (v : Nat × Nat) : Bool := v.1 == 1 || v.1 == 3 || v.1 == 5
def isWk (v : Nat × Nat) : Bool := v.1 == 2 || v.1 == 4 || v.1 == 5
def knowA (v : Nat × Nat) : Nat × Nat := if v.1 = 1 then (3, 0) else if v.1 = 2 then (4, 0) else v
def storeA (lo : List (Nat × Nat)) (n : Nat) (v : Nat × Nat) (r : List (Nat × Nat)) : Option (List (Nat × Nat) × List (Nat × Nat)) :=
  if n = 0 then some (lo.set 0 (0, 0), r.map (resA lo))
  else if n = 3 then (if isWk (resA lo v) = true then some (lo.set 3 (2, 0), r.map (resA lo)) else none)
  else if isPl (resA lo v) = true then some (lo.set n (1, 0), r.map (resA lo)) else none
def loadA (lo st : List (Nat × Nat)) (n : Nat) : Option (List (Nat × Nat) × List (Nat × Nat)) :=
  if n < lo.length then (if lo.getD n (0, 0) = (3, 0) then some (lo.set n (1, 0), (3, 0) :: st) else if lo.getD n (0, 0) = (4, 0) then some (lo.set n (2, 0), (4, 0) :: st) else some (lo, (6, n) :: st)) else none
/-- What is known behind an instruction. -/
def opA (lo st : List (Nat × Nat)) (op n : Nat) : Option (List (Nat × Nat) × List (Nat × Nat)) :=
  if op = 1 ∨ op = 21 then some (lo, (0, 0) :: st)
  else if op = 7 then loadA lo st n
  else if op = 12 then some (lo, (5, 0) :: st)
  else if op = 13 then some (lo, (3, 0) :: st)
  else match st with
  | [] => none
  | v :: r =>
    if op = 8 then storeA lo n v r
    else if op = 9 then some (lo, v :: v :: r)
    else if op = 22 then some (lo, r)
    else if op = 20 then (if v.1 = 7 then some (lo.set v.2 (knowA (lo.getD v.2 (0, 0))), r) else none)
    else if op = 23 then (if isPl (resA lo v) = true then some (lo, (4, 0) :: r) else none)
    else if op = 14 then (if v = (3, 0) then some (lo, (1, 0) :: r) else none)
    else if op = 24 then (if v = (4, 0) ∧ n = 0 then some (lo, (1, 0) :: r) else none)
    else if op = 16 then (if v = (3, 0) then some (lo, (0, 0) :: r) else none)
    else match r with
    | [] => none
    | u :: r =>
      if op = 2 then some (lo, (0, 0) :: r)
      else if op = 18 then (if v = (5, 0) ∧ u.1 = 6 then some (lo, (7, u.2) :: r) else some (lo, (0, 0) :: r))
      else if op = 17 then (if u = (3, 0) then some (lo, r) else none)
      else if op = 15 then (if u = (3, 0) ∧ isPl (resA lo v) = true then some (lo, r) else none)
      else none
def runA (A : List (Nat × Nat) × List (Nat × Nat)) : List (Nat × Nat) → Option (List (Nat × Nat) × List (Nat × Nat))
  | [] => some A
  | x :: r => (opA A.1 A.2 x.1 x.2).bind fun B => runA B r
theorem runA_append (a b : List (Nat × Nat)) : ∀ A, runA A (a ++ b) = (runA A a).bind fun B => runA B b := by
  induction a with
  | nil => intro A; rfl
  | cons x r ih =>
    intro A
    simp only [List.cons_append, runA]
    cases opA A.1 A.2 x.1 x.2 with
    | none => rfl
    | some B => exact ih B
def topA : List (Nat × Nat) × List (Nat × Nat) := ([(0, 0), (1, 0), (1, 0), (2, 0)], [])
def iniA : List (Nat × Nat) × List (Nat × Nat) := ([(0, 0), (0, 0), (0, 0), (0, 0)], [])
def kn (n : Nat) : List (Nat × Nat) × List (Nat × Nat) := (topA.1.set n (knowA (topA.1.getD n (0, 0))), [])
def bodyA (c : Nat) (weak : Bool) : Bool := if (bodyC c weak).1 = 0 then decide (runA topA (bodyC c weak).2 = some topA) else decide (runA (kn (bodyC c weak).1) (bodyC c weak).2 = some topA)
theorem bodyA_all : (List.range 256).all (fun c => bodyA c true && bodyA c false) = true := by kernel_rfl
theorem bodyA_ok (c : Nat) (hc : c < 256) (weak : Bool) : bodyA c weak = true := by
  have h := List.all_eq_true.1 bodyA_all c (List.mem_range.2 hc)
  rw [Bool.and_eq_true] at h
  cases weak
  · exact h.2
  · exact h.1
theorem unlA (n : Nat) (h : n = 1 ∨ n = 2 ∨ n = 3) : runA topA [(7, n), (12, 0), (18, 0)] = some (topA.1, [(7, n)]) := by
  rcases h with rfl | rfl | rfl <;> kernel_rfl
theorem brA (n t : Nat) : runA (topA.1, [(7, n)]) [(20, t)] = some (kn n) := by
  simp only [runA, opA]
  rfl
structure BldA (cs : List (Nat × Nat)) : Prop where
  run : runA iniA cs = some topA
  aim : ∀ a t b, cs = a ++ (20, t) :: b → ∃ a' b' m, cs = a' ++ b' ∧ t = csize a' ∧ runA iniA a' = some topA ∧ runA iniA a = some (topA.1, [(7, m)])
theorem BldA.start : BldA proC := by
  refine ⟨by kernel_rfl, ?_⟩
  intro a t b h
  exfalso
  have : (20, t) ∈ proC := by rw [h]; simp
  simp [proC] at this
structure PieceA (at_ : Nat) (cs : List (Nat × Nat)) : Prop where
  run : runA topA cs = some topA
  aim : ∀ a t b, cs = a ++ (20, t) :: b → t = at_ + csize cs ∧ ∃ m, runA topA a = some (topA.1, [(7, m)])
theorem piece_A (c : Nat) (hc : c < 256) (at_ : Nat) (weak : Bool) : PieceA at_ (pieceC c at_ weak) := by
  have h := body_ok c hc weak
  have hA := bodyA_ok c hc weak
  unfold bodyOk at h
  unfold bodyA at hA
  simp only [Bool.and_eq_true, decide_eq_true_eq] at h
  obtain ⟨⟨⟨⟨⟨_, h2⟩, _⟩, _⟩, h5⟩, _⟩ := h
  unfold pieceC
  generalize (bodyC c weak).1 = n at *
  generalize (bodyC c weak).2 = cs at *
  split
  · rename_i hn
    rw [if_pos hn, decide_eq_true_eq] at hA
    exact ⟨hA, fun a t b he => (no_branch h2 he).elim⟩
  · rename_i hn
    rw [if_neg hn, decide_eq_true_eq] at hA
    have hsz : csize (unlC n at_ cs) = 6 + csize cs := by
      unfold unlC
      rw [csize_append]
      have : csize [(7, n), (12, 0), (18, 0), (20, at_ + 6 + csize cs)] = 6 := rfl
      omega
    refine ⟨?_, ?_⟩
    · unfold unlC
      rw [show [(7, n), (12, 0), (18, 0), (20, at_ + 6 + csize cs)] = [(7, n), (12, 0), (18, 0)] ++ [(20, at_ + 6 + csize cs)] from rfl, List.append_assoc, runA_append, unlA n (by omega), Option.bind_some, runA_append, brA, Option.bind_some]
      exact hA
    · intro a t b he
      unfold unlC at he
      match a, he with
      | [], he => simp at he
      | [_], he => simp at he
      | [_, _], he => simp at he
      | [a0, a1, a2], he =>
        simp only [List.cons_append, List.nil_append, List.cons.injEq, Prod.mk.injEq, true_and] at he
        obtain ⟨rfl, rfl, rfl, ht, _⟩ := he
        exact ⟨by rw [hsz]; omega, n, unlA n (by omega)⟩
      | a0 :: a1 :: a2 :: a3 :: ar, he =>
        simp only [List.cons_append, List.nil_append, List.cons.injEq] at he
        exact (no_branch h2 he.2.2.2.2).elim
theorem BldA.more {cs p : List (Nat × Nat)} (h : BldA cs) (hp : PieceA (csize cs) p) : BldA (cs ++ p) := by
  have hrun : runA iniA (cs ++ p) = some topA := by rw [runA_append, h.run]; exact hp.run
  refine ⟨hrun, ?_⟩
  intro a t b he
  rcases List.append_eq_append_iff.1 he with ⟨a', e1, e2⟩ | ⟨c', e1, e2⟩
  · obtain ⟨q1, m, q2⟩ := hp.aim a' t b e2
    refine ⟨cs ++ p, [], m, by simp, by rw [csize_append]; exact q1, hrun, ?_⟩
    rw [e1, runA_append, h.run]
    exact q2
  · match c', e1, e2 with
    | [], e1, e2 =>
      simp only [List.append_nil] at e1
      simp only [List.nil_append] at e2
      obtain ⟨q1, m, q2⟩ := hp.aim [] t b (by simpa using e2.symm)
      refine ⟨cs ++ p, [], m, by simp, by rw [csize_append]; exact q1, hrun, ?_⟩
      rw [← e1, h.run]
      exact q2
    | y :: c', e1, e2 =>
      simp only [List.cons_append, List.cons.injEq] at e2
      obtain ⟨rfl, e2⟩ := e2
      obtain ⟨a2, b2, m, q1, q2, q3, q4⟩ := h.aim a t c' e1
      exact ⟨a2, b2 ++ p, m, by rw [q1]; simp, q2, q3, q4⟩
theorem bgo_A (weak : Bool) (r : List UInt8) : ∀ cs, BldA cs → BldA (bgo weak cs r) := by
  induction r with
  | nil => intro cs h; exact h
  | cons c r ih =>
    intro cs h
    unfold bgo
    split
    · exact ih _ (h.more (piece_A c.toNat (UInt8.toNat_lt c) (csize cs) weak))
    · exact h
/-- What is known at each instruction of code. -/
structure AbsOk (l : List Ins) (T : Nat → List (Nat × Nat) × List (Nat × Nat)) : Prop where
  init : T 0 = iniA
  fall : ∀ k i, l[k]? = some i → i.op ≠ 19 → opA (T k).1 (T k).2 i.op i.n = some (T (k + 1))
  br : ∀ k i, l[k]? = some i → i.op = 20 → (∃ m, T k = (topA.1, [(7, m)])) ∧ T (findP i.n l 0).toNat = topA
  jmp : ∀ k i, l[k]? = some i → i.op = 19 → T k = topA ∧ T (findP i.n l 0).toNat = topA
theorem BldA.abs {cs : List (Nat × Nat)} (h : BldA cs) (h0 : Bld cs) : AbsOk (placed 0 (cs ++ [(19, 9)])) (fun k => (runA iniA (cs.take k)).getD iniA) := by
  obtain ⟨r6, h6⟩ := h0.six
  have hfind9 : findP 9 (placed 0 (cs ++ [(19, 9)])) 0 = 6 := by
    rw [← h6]
    cases r6 with
    | nil => exact findP_placed proC (19, 9) [] 0 0
    | cons y r6 => rw [List.append_assoc]; exact findP_placed proC y (r6 ++ [(19, 9)]) 0 0
  have hpro : runA iniA proC = some topA := by kernel_rfl
  have hfind : ∀ a' b', cs = a' ++ b' → findP (csize a') (placed 0 (cs ++ [(19, 9)])) 0 = (a'.length : Int) := by
    intro a' b' he
    rw [he, List.append_assoc]
    cases b' with
    | nil => have := findP_placed a' (19, 9) [] 0 0; simpa using this
    | cons y b' => have := findP_placed a' y (b' ++ [(19, 9)]) 0 0; simpa using this
  have hT : ∀ k, ∃ p, runA iniA (cs.take k) = some p := by
    intro k
    have hr := h.run
    rw [← List.take_append_drop k cs, runA_append] at hr
    cases hq : runA iniA (cs.take k) with
    | none => rw [hq] at hr; simp at hr
    | some p => exact ⟨p, rfl⟩
  have hj : ∀ k i, (placed 0 (cs ++ [(19, 9)]))[k]? = some i → (k < cs.length ∧ ∃ x, cs[k]? = some x ∧ i.op = x.1 ∧ i.n = x.2) ∨ (k = cs.length ∧ i.op = 19 ∧ i.n = 9) := by
    intro k i hi
    rw [placed_at] at hi
    rcases Nat.lt_or_ge k cs.length with hk | hk
    · left
      refine ⟨hk, cs[k], List.getElem?_eq_getElem hk, ?_⟩
      rw [List.getElem?_append_left hk, List.getElem?_eq_getElem hk] at hi
      simp only [Option.map_some, Option.some.injEq, Nat.zero_add] at hi
      rw [← hi]
      exact ⟨rfl, rfl⟩
    · right
      rw [List.getElem?_append_right hk] at hi
      rcases Nat.eq_or_lt_of_le hk with e | hlt
      · rw [← e] at hi
        simp only [Nat.sub_self, List.getElem?_cons_zero, Option.map_some, Option.some.injEq] at hi
        rw [← hi]
        exact ⟨e.symm, rfl, rfl⟩
      · have : ([(19, 9)] : List (Nat × Nat))[k - cs.length]? = none := by rw [List.getElem?_eq_none]; simp; omega
        rw [this] at hi
        simp at hi
  have hsplit : ∀ k (hk : k < cs.length), cs = cs.take k ++ cs[k] :: cs.drop (k + 1) := by
    intro k hk
    rw [List.getElem_cons_drop]
    exact (List.take_append_drop k cs).symm
  refine ⟨by simp [runA], ?_, ?_, ?_⟩
  · intro k i hi h19
    rcases hj k i hi with ⟨hk, x, hx, i1, i2⟩ | ⟨_, i1, _⟩
    · obtain ⟨p, hp⟩ := hT k
      obtain ⟨p', hp'⟩ := hT (k + 1)
      have hxk : cs[k] = x := by rw [List.getElem?_eq_getElem hk] at hx; exact Option.some.inj hx
      simp only [hp, hp', Option.getD_some, i1, i2]
      rw [List.take_succ_eq_append_getElem hk, hxk, runA_append, hp, Option.bind_some] at hp'
      simp only [runA] at hp'
      cases ho : opA p.1 p.2 x.1 x.2 with
      | none => rw [ho] at hp'; cases hp'
      | some B => rw [ho] at hp'; exact hp'
    · exact absurd i1 h19
  · intro k i hi h20
    rcases hj k i hi with ⟨hk, x, hx, i1, i2⟩ | ⟨_, i1, _⟩
    · have hxk : cs[k] = x := by rw [List.getElem?_eq_getElem hk] at hx; exact Option.some.inj hx
      obtain ⟨x1, x2⟩ := x
      simp only at i1 i2
      obtain rfl : x1 = 20 := by omega
      obtain ⟨a', b', m, q1, q2, q3, q4⟩ := h.aim (cs.take k) x2 (cs.drop (k + 1)) (by rw [← hxk]; exact hsplit k hk)
      have hf := hfind a' b' q1
      have htk : cs.take a'.length = a' := by rw [q1]; simp
      refine ⟨⟨m, by simp only [q4, Option.getD_some]⟩, ?_⟩
      rw [i2, q2, hf]
      simp only [Int.toNat_natCast, htk, q3, Option.getD_some]
    · omega
  · intro k i hi h19
    rcases hj k i hi with ⟨hk, x, hx, i1, _⟩ | ⟨hk, _, i2⟩
    · have hop : x.1 ≠ 0 ∧ x.1 ≠ 19 := by
        have := List.all_eq_true.1 h0.ends x (List.mem_of_getElem? hx)
        simpa using this
      omega
    · rw [hk, i2, hfind9]
      have : cs.take 6 = proC := by rw [← h6]; rfl
      simp only [List.take_length, h.run, Option.getD_some, Int.reduceToNat, this, hpro, and_self]
theorem built_abs (raw : ByteArray) (weak : Bool) : ∃ T, AbsOk (codeOf (builtS raw weak)) T := by
  obtain ⟨h1, _⟩ := bgo_ok weak raw.data.toList proC Bld.start (by decide)
  rw [(built_ok raw weak).2.1]
  exact ⟨_, (bgo_A weak raw.data.toList proC BldA.start).abs h1⟩
end Go.Proofs.YtdmdpindonghdaaDoor
namespace Go.Proofs.YtdmdpindonghdaaDoor
open Go.RowKit
structure HV (h : HSt) (lo : List (Bool × Int)) (v : Nat × Nat) (x : Bool × Int) : Prop where
  p : v.1 = 1 → x.1 = true ∧ (x.2 = -1 ∨ KindR h false x.2)
  w : v.1 = 2 → x.1 = true ∧ (x.2 = -1 ∨ KindR h true x.2)
  pn : v.1 = 3 → x.1 = true ∧ KindR h false x.2
  wn : v.1 = 4 → x.1 = true ∧ KindR h true x.2
  nu : v.1 = 5 → x = (true, -1)
  lc : v.1 = 6 → lo[v.2]? = some x
  ts : v.1 = 7 → ∃ y, lo[v.2]? = some y ∧ (x.2 = 0 → y.2 ≠ -1)
theorem HV.any (h : HSt) (lo : List (Bool × Int)) (x : Bool × Int) : HV h lo (0, 0) x := by constructor <;> intro e <;> simp at e
theorem HV.mkP {h : HSt} {x : Bool × Int} (h1 : x.1 = true) (h2 : x.2 = -1 ∨ KindR h false x.2) (lo : List (Bool × Int)) : HV h lo (1, 0) x :=
  ⟨fun _ => ⟨h1, h2⟩, fun e => by simp at e, fun e => by simp at e, fun e => by simp at e, fun e => by simp at e, fun e => by simp at e, fun e => by simp at e⟩
theorem HV.mkW {h : HSt} {x : Bool × Int} (h1 : x.1 = true) (h2 : x.2 = -1 ∨ KindR h true x.2) (lo : List (Bool × Int)) : HV h lo (2, 0) x :=
  ⟨fun e => by simp at e, fun _ => ⟨h1, h2⟩, fun e => by simp at e, fun e => by simp at e, fun e => by simp at e, fun e => by simp at e, fun e => by simp at e⟩
theorem HV.mkPN {h : HSt} {x : Bool × Int} (h1 : x.1 = true) (h2 : KindR h false x.2) (lo : List (Bool × Int)) : HV h lo (3, 0) x :=
  ⟨fun e => by simp at e, fun e => by simp at e, fun _ => ⟨h1, h2⟩, fun e => by simp at e, fun e => by simp at e, fun e => by simp at e, fun e => by simp at e⟩
theorem HV.mkWN {h : HSt} {x : Bool × Int} (h1 : x.1 = true) (h2 : KindR h true x.2) (lo : List (Bool × Int)) : HV h lo (4, 0) x :=
  ⟨fun e => by simp at e, fun e => by simp at e, fun e => by simp at e, fun _ => ⟨h1, h2⟩, fun e => by simp at e, fun e => by simp at e, fun e => by simp at e⟩
theorem HV.mkN (h : HSt) (lo : List (Bool × Int)) : HV h lo (5, 0) (true, -1) :=
  ⟨fun e => by simp at e, fun e => by simp at e, fun e => by simp at e, fun e => by simp at e, fun _ => rfl, fun e => by simp at e, fun e => by simp at e⟩
theorem HV.mkL {h : HSt} {lo : List (Bool × Int)} {n : Nat} {x : Bool × Int} (h1 : lo[n]? = some x) : HV h lo (6, n) x :=
  ⟨fun e => by simp at e, fun e => by simp at e, fun e => by simp at e, fun e => by simp at e, fun e => by simp at e, fun _ => h1, fun e => by simp at e⟩
theorem HV.mkT {h : HSt} {lo : List (Bool × Int)} {n : Nat} {x y : Bool × Int} (h1 : lo[n]? = some y) (h2 : x.2 = 0 → y.2 ≠ -1) : HV h lo (7, n) x :=
  ⟨fun e => by simp at e, fun e => by simp at e, fun e => by simp at e, fun e => by simp at e, fun e => by simp at e, fun e => by simp at e, fun _ => ⟨y, h1, h2⟩⟩
theorem HV.free {h : HSt} {lo : List (Bool × Int)} {v : Nat × Nat} {x : Bool × Int} (q : HV h lo v x) (hv : v.1 ≤ 5) (lo' : List (Bool × Int)) : HV h lo' v x :=
  ⟨q.p, q.w, q.pn, q.wn, q.nu, fun e => by omega, fun e => by omega⟩
theorem HV.heap {h h' : HSt} {lo : List (Bool × Int)} {v : Nat × Nat} {x : Bool × Int} (q : HV h lo v x) (hk : x.1 = true → ∀ wk, KindR h wk x.2 → KindR h' wk x.2) : HV h' lo v x :=
  ⟨fun e => ⟨(q.p e).1, (q.p e).2.imp id (hk (q.p e).1 _)⟩, fun e => ⟨(q.w e).1, (q.w e).2.imp id (hk (q.w e).1 _)⟩, fun e => ⟨(q.pn e).1, hk (q.pn e).1 _ (q.pn e).2⟩, fun e => ⟨(q.wn e).1, hk (q.wn e).1 _ (q.wn e).2⟩, q.nu, q.lc, q.ts⟩
/-- What is known holds of a machine. -/
structure HA (lo st : List (Nat × Nat)) (s : MS) : Prop where
  lol : lo.length = s.lo.length
  lo : ∀ (n : Nat) (v : Nat × Nat) (x : Bool × Int), lo[n]? = some v → s.lo[n]? = some x → v.1 ≤ 4 ∧ HV s.hs s.lo v x
  stl : st.length = s.st.length
  st : ∀ (j : Nat) (v : Nat × Nat), st[j]? = some v → HV s.hs s.lo v (lastW s.st j)
theorem lastW_top (st : List (Bool × Int)) (x : Bool × Int) : lastW (st ++ [x]) 0 = x := by
  unfold lastW
  simp
theorem lastW_under (st : List (Bool × Int)) (x : Bool × Int) {j : Nat} (h : j < st.length) : lastW (st ++ [x]) (j + 1) = lastW st j := by
  unfold lastW
  rw [List.length_append, List.length_singleton, List.getElem?_append_left (by omega)]
  congr 2
  omega
theorem lastW_take (st : List (Bool × Int)) {j k : Nat} (h : j + k < st.length) : lastW (st.take (st.length - k)) j = lastW st (j + k) := by
  unfold lastW
  rw [List.length_take, Nat.min_eq_left (by omega), List.getElem?_take_of_lt (by omega)]
  congr 2
  omega
theorem HA.push {lo st : List (Nat × Nat)} {s : MS} (h : HA lo st s) {v : Nat × Nat} {x : Bool × Int} (hv : HV s.hs s.lo v x) : HA lo (v :: st) { s with st := s.st ++ [x] } := by
  refine ⟨h.lol, h.lo, by simp [h.stl], ?_⟩
  intro j u hu
  cases j with
  | zero =>
    simp only [List.getElem?_cons_zero, Option.some.injEq] at hu
    subst hu
    simp only [lastW_top]
    exact hv
  | succ j =>
    simp only [List.getElem?_cons_succ] at hu
    have hj := (List.getElem?_eq_some_iff.1 hu).1
    simp only
    rw [lastW_under _ _ (by rw [← h.stl]; exact hj)]
    exact h.st j u hu
theorem HA.cut {lo st : List (Nat × Nat)} {s : MS} (h : HA lo st s) (k : Nat) (hk : k ≤ st.length) : HA lo (st.drop k) { s with st := cutS s k } := by
  have hl := h.stl
  refine ⟨h.lol, h.lo, by simp only [cutS, List.length_drop, List.length_take]; omega, ?_⟩
  intro j u hu
  rw [List.getElem?_drop] at hu
  have hj := (List.getElem?_eq_some_iff.1 hu).1
  simp only [cutS]
  rw [lastW_take _ (by omega), Nat.add_comm]
  exact h.st _ u hu
theorem HA.heap {lo st : List (Nat × Nat)} {s : MS} (h : HA lo st s) {h' : HSt} (hk : ∀ x ∈ s.lo ++ s.st, x.1 = true → ∀ wk, KindR s.hs wk x.2 → KindR h' wk x.2) : HA lo st { s with hs := h' } := by
  refine ⟨h.lol, fun n v x h1 h2 => ⟨(h.lo n v x h1 h2).1, (h.lo n v x h1 h2).2.heap (hk x (List.mem_append_left _ (List.mem_of_getElem? h2)))⟩, h.stl, ?_⟩
  intro j u hu
  have hj := (List.getElem?_eq_some_iff.1 hu).1
  exact (h.st j u hu).heap (hk _ (List.mem_append_right _ (lastW_mem (by rw [← h.stl]; exact hj))))
theorem HA.res {lo st : List (Nat × Nat)} {s : MS} (h : HA lo st s) {v : Nat × Nat} {x : Bool × Int} (hv : HV s.hs s.lo v x) (lo' : List (Bool × Int)) : HV s.hs lo' (resA lo v) x := by
  unfold resA
  split
  · rename_i e
    have h1 := hv.lc e
    have hl := (List.getElem?_eq_some_iff.1 h1).1
    rw [List.getD_eq_getElem?_getD, List.getElem?_eq_getElem (by rw [h.lol]; exact hl), Option.getD_some]
    obtain ⟨q1, q2⟩ := h.lo v.2 _ x (List.getElem?_eq_getElem (by rw [h.lol]; exact hl)) h1
    exact q2.free (by omega) lo'
  · split
    · exact HV.any _ _ _
    · exact ⟨hv.p, hv.w, hv.pn, hv.wn, hv.nu, fun e => by omega, fun e => by omega⟩
theorem HV.pl {h : HSt} {lo : List (Bool × Int)} {v : Nat × Nat} {x : Bool × Int} (q : HV h lo v x) (hv : isPl v = true) : x.1 = true ∧ (x.2 = -1 ∨ KindR h false x.2) := by
  unfold isPl at hv
  simp only [Bool.or_eq_true, beq_iff_eq] at hv
  rcases hv with (e | e) | e
  · exact q.p e
  · exact ⟨(q.pn e).1, .inr (q.pn e).2⟩
  · rw [q.nu e]; exact ⟨rfl, .inl rfl⟩
theorem HV.wk {h : HSt} {lo : List (Bool × Int)} {v : Nat × Nat} {x : Bool × Int} (q : HV h lo v x) (hv : isWk v = true) : x.1 = true ∧ (x.2 = -1 ∨ KindR h true x.2) := by
  unfold isWk at hv
  simp only [Bool.or_eq_true, beq_iff_eq] at hv
  rcases hv with (e | e) | e
  · exact q.w e
  · exact ⟨(q.wn e).1, .inr (q.wn e).2⟩
  · rw [q.nu e]; exact ⟨rfl, .inl rfl⟩
theorem HA.locals {lo st : List (Nat × Nat)} {s : MS} (h : HA lo st s) {n : Nat} {w : Nat × Nat} (hw : w.1 ≤ 4) (hx : ∀ x, s.lo[n]? = some x → HV s.hs s.lo w x) : HA (lo.set n w) st s := by
  refine ⟨by rw [List.length_set]; exact h.lol, ?_, h.stl, h.st⟩
  intro m v x h1 h2
  rw [List.getElem?_set] at h1
  split at h1
  · rename_i e
    subst e
    split at h1
    · cases h1
      exact ⟨hw, hx x h2⟩
    · cases h1
  · exact h.lo m v x h1 h2
theorem HA.load {lo st lo' st' : List (Nat × Nat)} {s : MS} (h : HA lo st s) {n : Nat} (ho : loadA lo st n = some (lo', st')) : HA lo' st' { s with st := s.st ++ [s.lo.getD n (false, 0)] } := by
  unfold loadA at ho
  split at ho
  · rename_i hn
    have hn' : n < s.lo.length := by rw [← h.lol]; exact hn
    have e : s.lo.getD n (false, 0) = s.lo[n] := by rw [List.getD_eq_getElem?_getD, List.getElem?_eq_getElem hn']; rfl
    have ev : lo.getD n (0, 0) = lo[n] := by rw [List.getD_eq_getElem?_getD, List.getElem?_eq_getElem hn]; rfl
    obtain ⟨q1, q2⟩ := h.lo n lo[n] s.lo[n] (List.getElem?_eq_getElem hn) (List.getElem?_eq_getElem hn')
    rw [e]
    rw [ev] at ho
    split at ho
    · rename_i e3
      cases ho
      rw [e3] at q2
      refine HA.push (h.locals (by simp) (fun x hx => ?_)) q2
      rw [List.getElem?_eq_getElem hn'] at hx
      cases hx
      exact HV.mkP (q2.pn rfl).1 (.inr (q2.pn rfl).2) _
    split at ho
    · rename_i _ e4
      cases ho
      rw [e4] at q2
      refine HA.push (h.locals (by simp) (fun x hx => ?_)) q2
      rw [List.getElem?_eq_getElem hn'] at hx
      cases hx
      exact HV.mkW (q2.wn rfl).1 (.inr (q2.wn rfl).2) _
    · cases ho
      exact h.push (HV.mkL (List.getElem?_eq_getElem hn'))
  · cases ho
theorem HA.store {lo r lo' st' : List (Nat × Nat)} {v : Nat × Nat} {s : MS} (h : HA lo (v :: r) s) {n : Nat} (ho : storeA lo n v r = some (lo', st')) : HA lo' st' { s with lo := s.lo.set n (lastW s.st 0), st := cutS s 1 } := by
  have hv := h.st 0 v rfl
  have hres := h.res hv s.lo
  have main : ∀ w : Nat × Nat, w.1 ≤ 4 → HV s.hs [] w (lastW s.st 0) → HA (lo.set n w) (r.map (resA lo)) { s with lo := s.lo.set n (lastW s.st 0), st := cutS s 1 } := by
    intro w hw hx
    have hc := h.cut 1 (by simp)
    refine ⟨by simp [h.lol], ?_, by have := hc.stl; simpa using this, ?_⟩
    · intro m u x h1 h2
      simp only at h2
      rw [List.getElem?_set] at h1 h2
      split at h1
      · rename_i e
        subst e
        rw [if_pos rfl] at h2
        split at h1
        · cases h1
          split at h2
          · cases h2
            exact ⟨hw, hx.free (by omega) _⟩
          · cases h2
        · cases h1
      · rename_i e
        rw [if_neg e] at h2
        obtain ⟨q1, q2⟩ := h.lo m u x h1 h2
        exact ⟨q1, q2.free (by omega) _⟩
    · intro j u hu
      rw [List.getElem?_map] at hu
      cases hj : r[j]? with
      | none => rw [hj] at hu; cases hu
      | some u0 =>
        rw [hj] at hu
        cases hu
        exact h.res (hc.st j u0 hj) _
  unfold storeA at ho
  split at ho
  · rename_i e
    subst e
    cases ho
    exact main (0, 0) (by simp) (HV.any _ _ _)
  split at ho
  · rename_i e
    subst e
    split at ho
    · rename_i hk
      cases ho
      obtain ⟨a1, a2⟩ := hres.wk hk
      exact main (2, 0) (by simp) (HV.mkW a1 a2 _)
    · cases ho
  split at ho
  · rename_i hk
    cases ho
    obtain ⟨a1, a2⟩ := hres.pl hk
    exact main (1, 0) (by simp) (HV.mkP a1 a2 _)
  · cases ho
/-- Behind a branch that is not taken. -/
theorem HA.fall {lo r : List (Nat × Nat)} {v : Nat × Nat} {s : MS} (h : HA lo (v :: r) s) (hv : v.1 = 7) (hz : (lastW s.st 0).2 = 0) : HA (lo.set v.2 (knowA (lo.getD v.2 (0, 0)))) r { s with st := cutS s 1 } := by
  obtain ⟨y, h1, h2⟩ := (h.st 0 v rfl).ts hv
  have hc := h.cut 1 (by simp)
  have hn := (List.getElem?_eq_some_iff.1 h1).1
  have hn' : v.2 < lo.length := by rw [h.lol]; exact hn
  have ev : lo.getD v.2 (0, 0) = lo[v.2] := by rw [List.getD_eq_getElem?_getD, List.getElem?_eq_getElem hn']; rfl
  obtain ⟨q1, q2⟩ := h.lo v.2 lo[v.2] y (List.getElem?_eq_getElem hn') h1
  rw [ev]
  refine HA.locals hc ?_ (fun x hx => ?_)
  · unfold knowA
    split
    · simp
    split
    · simp
    · exact q1
  · simp only at hx
    rw [h1] at hx
    cases hx
    have hy := h2 hz
    unfold knowA
    split
    · rename_i e
      obtain ⟨a1, a2⟩ := q2.p e
      exact HV.mkPN a1 (a2.resolve_left hy) _
    split
    · rename_i e
      obtain ⟨a1, a2⟩ := q2.w e
      exact HV.mkWN a1 (a2.resolve_left hy) _
    · exact q2
theorem wantsC_of {h : HSt} {wk : Bool} {r : Int} (q : KindR h wk r) : wantsC h.1 r wk = 0 := by
  obtain ⟨h0, c, hc, hw⟩ := q
  unfold wantsC
  rw [if_neg (by omega), hc, Option.map_some, hw, if_pos rfl]
end Go.Proofs.YtdmdpindonghdaaDoor
namespace Go.Proofs.YtdmdpindonghdaaDoor
open Go.RowKit
theorem kind_told {h : HSt} {wk : Bool} {r : Int} : KindR h wk r ↔ 0 ≤ r ∧ ∃ c, (h.1.map toldC)[r.toNat]? = some c ∧ c.weak = wk := by
  constructor
  · rintro ⟨a, c, hc, hw⟩
    exact ⟨a, toldC c, told_at hc, hw⟩
  · rintro ⟨a, c, hc, hw⟩
    obtain ⟨d, h1, rfl⟩ := told_get hc
    exact ⟨a, d, h1, hw⟩
/-- Cells that were written one by one: the kinds are the same. -/
structure SameK (h h' : HSt) : Prop where
  fwd : ∀ (k : Nat) (c : RC), h.1[k]? = some c → ∃ c', h'.1[k]? = some c' ∧ c'.weak = c.weak
  back : ∀ (k : Nat) (c' : RC), h'.1[k]? = some c' → ∃ c, h.1[k]? = some c ∧ c'.weak = c.weak
theorem SameK.kind {h h' : HSt} (q : SameK h h') {wk : Bool} {r : Int} (hr : KindR h wk r) : KindR h' wk r := by
  obtain ⟨a, c, hc, hw⟩ := hr
  obtain ⟨c', h1, h2⟩ := q.fwd _ c hc
  exact ⟨a, c', h1, h2.trans hw⟩
theorem note_same (h : HSt) (r : Nat) (v : Int) : SameK h (h.1.modify r (noteS v), h.2) ∧ ∀ (k : Nat) (c' : RC), (h.1.modify r (noteS v))[k]? = some c' → ∃ c, h.1[k]? = some c ∧ c'.a = c.a ∧ c'.b = c.b := by
  have key : ∀ (k : Nat) (c' : RC), (h.1.modify r (noteS v))[k]? = some c' → ∃ c, h.1[k]? = some c ∧ c'.weak = c.weak ∧ c'.a = c.a ∧ c'.b = c.b := by
    intro k c' hc
    rw [List.getElem?_modify] at hc
    cases hk : h.1[k]? with
    | none => rw [hk] at hc; cases hc
    | some c =>
      rw [hk] at hc
      refine ⟨c, rfl, ?_⟩
      simp only [Option.map_eq_map, Option.map_some, Option.some.injEq] at hc
      split at hc
      · rw [← hc]; exact ⟨rfl, rfl, rfl⟩
      · rw [← hc]; exact ⟨rfl, rfl, rfl⟩
  refine ⟨⟨fun k c hc => ?_, fun k c' hc => ?_⟩, fun k c' hc => ?_⟩
  · simp only
    rw [List.getElem?_modify, hc]
    simp only [Option.map_eq_map, Option.map_some]
    refine ⟨_, rfl, ?_⟩
    split <;> rfl
  · obtain ⟨c, a1, a2, _⟩ := key k c' hc
    exact ⟨c, a1, a2⟩
  · obtain ⟨c, a1, _, a3, a4⟩ := key k c' hc
    exact ⟨c, a1, a3, a4⟩
theorem store_same (h : HSt) (r m : Nat) (v : Int) : SameK h (storeC h.1 h.2.1 r m v, h.2) ∧ ∀ (k : Nat) (c' : RC), (storeC h.1 h.2.1 r m v)[k]? = some c' → ∃ c, h.1[k]? = some c ∧ ∀ j : Nat, (c'.a = (j : Int) ∨ c'.b = (j : Int)) → v = (j : Int) ∨ c.a = (j : Int) ∨ c.b = (j : Int) := by
  have hset : ∀ d : Cl, (setABL m v d).weak = d.weak ∧ (∀ j : Nat, ((setABL m v d).a = (j : Int) ∨ (setABL m v d).b = (j : Int)) → v = (j : Int) ∨ d.a = (j : Int) ∨ d.b = (j : Int)) := by
    intro d
    unfold setABL
    split
    · refine ⟨rfl, fun j hj => ?_⟩
      rcases hj with h | h
      · exact .inl h
      · exact .inr (.inr h)
    · refine ⟨rfl, fun j hj => ?_⟩
      rcases hj with h | h
      · exact .inr (.inl h)
      · exact .inl h
  obtain ⟨U, hU⟩ : ∃ U, U = (if h.2.1 = 1 then shadeL (h.1.map toldC) v else h.1.map toldC) := ⟨_, rfl⟩
  have hp : Paint (h.1.map toldC) U := by
    rw [hU]; split
    · exact shade_paint _ _
    · exact Paint.refl _
  have ht := told_store h.1 h.2.1 r m v
  rw [← hU] at ht
  have key : ∀ (k : Nat) (c' : RC), (storeC h.1 h.2.1 r m v)[k]? = some c' → ∃ c, h.1[k]? = some c ∧ c'.weak = c.weak ∧ ∀ j : Nat, (c'.a = (j : Int) ∨ c'.b = (j : Int)) → v = (j : Int) ∨ c.a = (j : Int) ∨ c.b = (j : Int) := by
    intro k c' hc
    have h1 : ((storeC h.1 h.2.1 r m v).map toldC)[k]? = some (toldC c') := by rw [List.getElem?_map, hc]; rfl
    rw [ht, List.getElem?_modify] at h1
    cases hk : U[k]? with
    | none => rw [hk] at h1; cases h1
    | some u =>
      rw [hk] at h1
      obtain ⟨d, e1, e2⟩ := hp.get k u hk
      obtain ⟨c, f1, rfl⟩ := told_get e1
      refine ⟨c, f1, ?_⟩
      simp only [Option.map_eq_map, Option.map_some, Option.some.injEq] at h1
      obtain ⟨s1, s2⟩ := hset u
      have uw : u.weak = c.weak := by rw [e2]; rfl
      have ua : u.a = c.a := by rw [e2]; rfl
      have ub : u.b = c.b := by rw [e2]; rfl
      have cw : c'.weak = (toldC c').weak := rfl
      have ca : c'.a = (toldC c').a := rfl
      have cb : c'.b = (toldC c').b := rfl
      rw [cw, ca, cb, ← h1]
      split
      · rw [s1, uw]
        refine ⟨rfl, fun j hj => ?_⟩
        have := s2 j hj
        rw [ua, ub] at this
        exact this
      · refine ⟨uw, fun j hj => ?_⟩
        have hj' : u.a = (j : Int) ∨ u.b = (j : Int) := hj
        rw [ua, ub] at hj'
        exact .inr hj'
  have hlen : (storeC h.1 h.2.1 r m v).length = h.1.length := by
    have := congrArg List.length ht
    rw [List.length_map, List.length_modify, hp.len, List.length_map] at this
    exact this
  refine ⟨⟨fun k c hc => ?_, fun k c' hc => ?_⟩, fun k c' hc => ?_⟩
  · have hk := (List.getElem?_eq_some_iff.1 hc).1
    obtain ⟨c', hc'⟩ : ∃ c', (storeC h.1 h.2.1 r m v)[k]? = some c' := ⟨_, List.getElem?_eq_getElem (by omega)⟩
    obtain ⟨d, a1, a2, _⟩ := key k c' hc'
    rw [hc] at a1
    cases a1
    exact ⟨c', hc', a2⟩
  · obtain ⟨c, a1, a2, _⟩ := key k c' hc
    exact ⟨c, a1, a2⟩
  · obtain ⟨c, a1, _, a3⟩ := key k c' hc
    exact ⟨c, a1, a3⟩
theorem hi_op {i : Ins} (k : Nat) (e : i.op = k) : (i.op : Int) = (k : Int) := by rw [e]
set_option maxHeartbeats 1000000 in
/-- An instruction that takes no cell, and is no jump. -/
theorem does_A {E : Env} {s : MS} {i : Ins} {lo st lo' st' : List (Nat × Nat)} (hi : MInv E s) (hg : GS s) (h : HA lo st s) (ki : KI s.hs) (ho : opA lo st i.op i.n = some (lo', st')) (h13 : i.op ≠ 13) (h23 : i.op ≠ 23) (h20 : i.op ≠ 20) :
    endsC s.hs.1 s.st i.op = 0 ∧ HA lo' st' (doesS E i (-1) s) ∧ KI (doesS E i (-1) s).hs := by
  have hmem : ∀ {j : Nat}, j < s.st.length → (lastW s.st j).1 = true → ∀ k : Nat, (lastW s.st j).2 = (k : Int) → AliveH s.hs k := fun hj h1 k hk => hg.w _ (List.mem_append_right _ (lastW_mem hj)) h1 k hk
  have hn := hi.n
  have hcell : ∀ {wk : Bool} {r : Int}, KindR s.hs wk r → ∃ c, cellAt s.hs.1 r = c ∧ s.hs.1[r.toNat]? = some c ∧ c.weak = wk := by
    rintro wk r ⟨_, c, hc, hw⟩
    refine ⟨c, ?_, hc, hw⟩
    unfold cellAt
    rw [List.getD_eq_getElem?_getD, hc]
    rfl
  have href : ∀ {r v : Int} {c : RC}, s.hs.1[r.toNat]? = some c → AliveH s.hs r.toNat → (v = c.a ∨ v = c.b) → v = -1 ∨ KindR s.hs false v := by
    intro r v c hc ha hv
    have hok := hi.hx.cell c (List.mem_of_getElem? hc)
    have hlow : -1 ≤ v := by
      rcases hv with e | e
      · rw [e]; exact hok.lowA
      · rw [e]; exact hok.lowB
    rcases Int.lt_or_le v 0 with hneg | hpos
    · exact .inl (by omega)
    · right
      obtain ⟨j, rfl⟩ : ∃ j : Nat, v = (j : Int) := ⟨v.toNat, by omega⟩
      refine ki _ c hc ha j ?_
      rcases hv with e | e
      · exact .inl e.symm
      · exact .inr e.symm
  by_cases e1 : i.op = 1
  · simp only [opA, e1, true_or, if_true, Option.some.injEq, Prod.mk.injEq] at ho
    obtain ⟨rfl, rfl⟩ := ho
    simp only [doesS, e1, if_true]
    exact ⟨by simp [endsC], h.push (HV.any _ _ _), ki⟩
  by_cases e21 : i.op = 21
  · simp only [opA, e21, or_true, if_true, Option.some.injEq, Prod.mk.injEq] at ho
    obtain ⟨rfl, rfl⟩ := ho
    simp only [doesS, e21, if_true, reduceIte, Nat.reduceEqDiff, or_self]
    refine ⟨by simp [endsC], ?_⟩
    split
    · exact ⟨HA.push (s := { s with rd := s.rd + 1 }) ⟨h.lol, h.lo, h.stl, h.st⟩ (HV.any _ _ _), ki⟩
    · exact ⟨h.push (HV.any _ _ _), ki⟩
  by_cases e7 : i.op = 7
  · simp only [opA, e7, reduceIte, Nat.reduceEqDiff, or_self] at ho
    simp only [doesS, e7, reduceIte, Nat.reduceEqDiff, or_self]
    exact ⟨by simp [endsC], h.load ho, ki⟩
  by_cases e12 : i.op = 12
  · simp only [opA, e12, reduceIte, Nat.reduceEqDiff, or_self, Option.some.injEq, Prod.mk.injEq] at ho
    obtain ⟨rfl, rfl⟩ := ho
    simp only [doesS, e12, reduceIte, Nat.reduceEqDiff, or_self]
    exact ⟨by simp [endsC], h.push (HV.mkN _ _), ki⟩
  cases st with
  | nil => simp [opA, e1, e21, e7, e12, h13] at ho
  | cons v r =>
  have hv := h.st 0 v rfl
  have hl := h.stl
  simp only [List.length_cons] at hl
  have hc1 := h.cut 1 (by simp)
  simp only [List.drop_succ_cons, List.drop_zero] at hc1
  by_cases e8 : i.op = 8
  · simp only [opA, e8, reduceIte, Nat.reduceEqDiff, or_self] at ho
    simp only [doesS, e8, reduceIte, Nat.reduceEqDiff, or_self]
    exact ⟨by simp [endsC], h.store ho, ki⟩
  by_cases e9 : i.op = 9
  · simp only [opA, e9, reduceIte, Nat.reduceEqDiff, or_self, Option.some.injEq, Prod.mk.injEq] at ho
    obtain ⟨rfl, rfl⟩ := ho
    simp only [doesS, e9, reduceIte, Nat.reduceEqDiff, or_self]
    exact ⟨by simp [endsC], h.push hv, ki⟩
  by_cases e22 : i.op = 22
  · simp only [opA, e22, reduceIte, Nat.reduceEqDiff, or_self, Option.some.injEq, Prod.mk.injEq] at ho
    obtain ⟨rfl, rfl⟩ := ho
    simp only [doesS, e22, reduceIte, Nat.reduceEqDiff, or_self]
    exact ⟨by simp [endsC], ⟨hc1.lol, hc1.lo, hc1.stl, hc1.st⟩, ki⟩
  by_cases e14 : i.op = 14
  · simp only [opA, e14, reduceIte, Nat.reduceEqDiff, or_self] at ho
    split at ho
    · rename_i ev
      simp only [Option.some.injEq, Prod.mk.injEq] at ho
      obtain ⟨rfl, rfl⟩ := ho
      obtain ⟨p1, p2⟩ := hv.pn (by rw [ev])
      obtain ⟨c, q1, q2, _⟩ := hcell p2
      have hal := hmem (j := 0) (by omega) p1 (lastW s.st 0).2.toNat (by have := p2.1; omega)
      simp only [doesS, touchS, e14, reduceIte, Nat.reduceEqDiff, or_self, true_or]
      refine ⟨by simp [endsC, wantsC_of p2], ?_, ki⟩
      refine HA.push hc1 (HV.mkP rfl ?_ _)
      simp only [q1]
      refine href q2 hal ?_
      split
      · exact .inl rfl
      · exact .inr rfl
    · cases ho
  by_cases e24 : i.op = 24
  · simp only [opA, e24, reduceIte, Nat.reduceEqDiff, or_self] at ho
    split at ho
    · rename_i ev
      simp only [Option.some.injEq, Prod.mk.injEq] at ho
      obtain ⟨rfl, rfl⟩ := ho
      obtain ⟨p1, p2⟩ := hv.wn (by rw [ev.1])
      obtain ⟨c, q1, q2, _⟩ := hcell p2
      have hal := hmem (j := 0) (by omega) p1 (lastW s.st 0).2.toNat (by have := p2.1; omega)
      simp only [doesS, touchS, e24, reduceIte, Nat.reduceEqDiff, or_self, or_true]
      refine ⟨by simp [endsC, wantsC_of p2], ?_, ki⟩
      refine HA.push hc1 (HV.mkP rfl ?_ _)
      simp only [q1]
      refine href q2 hal ?_
      split
      · exact .inl rfl
      · exact .inr rfl
    · cases ho
  by_cases e16 : i.op = 16
  · simp only [opA, e16, reduceIte, Nat.reduceEqDiff, or_self] at ho
    split at ho
    · rename_i ev
      simp only [Option.some.injEq, Prod.mk.injEq] at ho
      obtain ⟨rfl, rfl⟩ := ho
      obtain ⟨p1, p2⟩ := hv.pn (by rw [ev])
      simp only [doesS, touchS, e16, reduceIte, Nat.reduceEqDiff, or_self]
      exact ⟨by simp [endsC, wantsC_of p2], HA.push hc1 (HV.any _ _ _), ki⟩
    · cases ho
  cases r with
  | nil => simp [opA, e1, e21, e7, e12, h13, e8, e9, e22, h20, h23, e14, e24, e16] at ho
  | cons u r =>
  have hu := h.st 1 u rfl
  simp only [List.length_cons] at hl
  have hc2 := h.cut 2 (by simp)
  simp only [List.drop_succ_cons, List.drop_zero] at hc2
  by_cases e2 : i.op = 2
  · simp only [opA, e2, reduceIte, Nat.reduceEqDiff, or_self, Option.some.injEq, Prod.mk.injEq] at ho
    obtain ⟨rfl, rfl⟩ := ho
    simp only [doesS, e2, reduceIte, Nat.reduceEqDiff, true_or]
    exact ⟨by simp [endsC], HA.push hc2 (HV.any _ _ _), ki⟩
  by_cases e18 : i.op = 18
  · simp only [opA, e18, reduceIte, Nat.reduceEqDiff, or_self] at ho
    simp only [doesS, e18, reduceIte, Nat.reduceEqDiff, or_true]
    refine ⟨by simp [endsC], ?_, ki⟩
    split at ho
    · rename_i ev
      simp only [Option.some.injEq, Prod.mk.injEq] at ho
      obtain ⟨rfl, rfl⟩ := ho
      have hx := hv.nu (by rw [ev.1])
      have hy := hu.lc ev.2
      refine HA.push hc2 (HV.mkT hy ?_)
      rw [hx]
      simp only
      unfold sumC
      intro hz hy2
      rw [hy2] at hz
      simp at hz
    · simp only [Option.some.injEq, Prod.mk.injEq] at ho
      obtain ⟨rfl, rfl⟩ := ho
      exact HA.push hc2 (HV.any _ _ _)
  by_cases e17 : i.op = 17
  · simp only [opA, e17, reduceIte, Nat.reduceEqDiff, or_self] at ho
    split at ho
    · rename_i ev
      simp only [Option.some.injEq, Prod.mk.injEq] at ho
      obtain ⟨rfl, rfl⟩ := ho
      obtain ⟨p1, p2⟩ := hu.pn (by rw [ev])
      obtain ⟨c, q1, q2, q3⟩ := hcell p2
      have hal := hmem (j := 1) (by omega) p1 (lastW s.st 1).2.toNat (by have := p2.1; omega)
      simp only [doesS, touchS, e17, reduceIte, Nat.reduceEqDiff, or_self]
      obtain ⟨n1, n2⟩ := note_same s.hs (lastW s.st 1).2.toNat (lastW s.st 0).2
      obtain ⟨_, g2⟩ := note_gc hg.g (v := (lastW s.st 0).2) q2 q3 hal
      refine ⟨by simp [endsC, wantsC_of p2], ?_, ?_⟩
      · exact HA.heap hc2 (fun x _ _ wk hk => n1.kind hk)
      · intro k c' hc ha j hj
        obtain ⟨d, a1, a2, a3⟩ := n2 k c' hc
        rw [a2, a3] at hj
        exact n1.kind (ki k d a1 ((g2 k).1 ha) j hj)
    · cases ho
  by_cases e15 : i.op = 15
  · simp only [opA, e15, reduceIte, Nat.reduceEqDiff, or_self] at ho
    split at ho
    · rename_i ev
      simp only [Option.some.injEq, Prod.mk.injEq] at ho
      obtain ⟨rfl, rfl⟩ := ho
      obtain ⟨p1, p2⟩ := hu.pn (by rw [ev.1])
      obtain ⟨w1, w2⟩ := (h.res hv s.lo).pl ev.2
      obtain ⟨c, q1, q2, q3⟩ := hcell p2
      have hal := hmem (j := 1) (by omega) p1 (lastW s.st 1).2.toNat (by have := p2.1; omega)
      simp only [doesS, touchS, e15, reduceIte, Nat.reduceEqDiff, or_self]
      obtain ⟨n1, n2⟩ := store_same s.hs (lastW s.st 1).2.toNat i.n (lastW s.st 0).2
      obtain ⟨_, g2⟩ := store_gc hg.g (m := i.n) (v := (lastW s.st 0).2) q2 q3 hal (fun k hk => hmem (j := 0) (by omega) w1 k hk)
      refine ⟨by simp [endsC, wantsC_of p2], ?_, ?_⟩
      · exact HA.heap hc2 (fun x _ _ wk hk => n1.kind hk)
      · intro k c' hc ha j hj
        obtain ⟨d, a1, a2⟩ := n2 k c' hc
        rcases a2 j hj with e | e
        · refine n1.kind ?_
          rcases w2 with e' | e'
          · omega
          · rw [← e]; exact e'
        · exact n1.kind (ki k d a1 ((g2 k).1 ha) j e)
    · cases ho
  simp [opA, e1, e21, e7, e12, h13, e8, e9, e22, h20, h23, e14, e24, e16, e2, e18, e17, e15] at ho
end Go.Proofs.YtdmdpindonghdaaDoor
namespace Go.Proofs.YtdmdpindonghdaaDoor
open Go.RowKit
/-- Units: what is known goes on. -/
theorem HA.units {lo st : List (Nat × Nat)} {s : MS} (h : HA lo st s) {h' : HSt} (u : UKH s.hs h') (hl : h'.1.length = s.hs.1.length) (hw : ∀ x ∈ s.lo ++ s.st, WOk h' x) : HA lo st { s with hs := h' } :=
  h.heap (fun x hx h1 _ hk => u.kind hk hl (fun k e => hw x hx h1 k e))
/-- A cell is taken that was free. -/
theorem put_A {lo st : List (Nat × Nat)} {s : MS} {h1 h' : HSt} (h : HA lo st { s with hs := h1 }) (ki : KI h1) (g : GInvH h1) (hw : ∀ x ∈ s.lo ++ s.st, WOk h1 x) {j : Nat} (hj : ¬ AliveH h1 j) (h2 : h'.2 = h1.2) (hs : ∀ k, k ≠ j → h'.1[k]? = h1.1[k]?)
    (hr : ∀ c', h'.1[j]? = some c' → ∀ i : Nat, (c'.a = (i : Int) ∨ c'.b = (i : Int)) → i ≠ j ∧ KindR h1 false i) : HA lo st { s with hs := h' } ∧ KI h' := by
  have hne : ∀ {wk : Bool} {r : Int}, KindR h1 wk r → r.toNat ≠ j → KindR h' wk r := by
    rintro wk r ⟨a, c, hc, hw⟩ hr
    exact ⟨a, c, by rw [hs _ hr]; exact hc, hw⟩
  have hal : ∀ k, k ≠ j → (AliveH h' k ↔ AliveH h1 k) := by
    intro k hk
    have : colL (h'.1.map toldC) k = colL (h1.1.map toldC) k := by
      unfold colL
      rw [List.getElem?_map, List.getElem?_map, hs k hk]
    unfold AliveH Alive
    rw [this, h2]
  refine ⟨?_, ?_⟩
  · refine HA.heap h (fun x hx e wk hk => hne hk (fun ej => hj ?_))
    have := hw x hx e x.2.toNat (by have := hk.1; omega)
    rw [ej] at this
    exact this
  · refine KI.put ki (r := j) (fun k hk => ⟨fun c' hc => ?_, fun c hc => ?_, (hal k hk).1⟩) (fun c' hc i hi => ?_) (fun k c hc hk ha hi => ?_)
    · rw [hs k hk] at hc
      exact ⟨c', hc, rfl, rfl, rfl⟩
    · exact ⟨c, by rw [hs k hk]; exact hc, rfl⟩
    · obtain ⟨a1, a2⟩ := hr c' hc i hi
      exact hne a2 (by simpa using a1)
    · exact absurd (g.refs hc ha hi) hj
/-- What holds of a machine of a built image while it runs. -/
structure FA (T : Nat → List (Nat × Nat) × List (Nat × Nat)) (s : MS) : Prop where
  ha : HA (T s.at_).1 (T s.at_).2 s
  ki : KI s.hs
theorem KI.start (n : Nat) (ph hd : Nat) : KI (List.replicate n (⟨false, false, false, false, -1, -1, 0⟩ : RC), ph, hd) := by
  intro k c hc _ j hj
  simp only at hc
  have := (List.mem_replicate.1 (List.mem_of_getElem? hc)).2
  subst this
  simp only at hj
  omega
theorem FA.start {l : List Ins} {T : Nat → List (Nat × Nat) × List (Nat × Nat)} (ht : AbsOk l T) (n : Nat) : FA T (startS 4 n) := by
  refine ⟨?_, KI.start n _ _⟩
  show HA (T 0).1 (T 0).2 (startS 4 n)
  rw [ht.init]
  refine ⟨rfl, ?_, rfl, ?_⟩
  · intro m v x h1 h2
    have hv : v = (0, 0) := by
      have : v ∈ iniA.1 := List.mem_of_getElem? h1
      simpa [iniA] using this
    subst hv
    exact ⟨by simp, HV.any _ _ _⟩
  · intro j v hv
    simp [iniA] at hv
theorem FA.coll {T : Nat → List (Nat × Nat) × List (Nat × Nat)} {E : Env} (hn : NoMix E) {s : MS} (h : MInv E s) (hg : GS s) (q : FA T s) (m : Nat) : FA T (collS E m s) := by
  have hrt := rootsS_flag hn h
  have k0 : GH E.n s.hs (rootsS E s) := ⟨h.hh, by rw [hrt]; exact hg.flag⟩
  have hg' := GS.coll hn h hg m
  have u := k0.uks m
  have hl : (unitsC (rootsS E s) m s.hs).1.length = s.hs.1.length := by rw [(k0.units m).ok.len, k0.ok.len]
  exact ⟨HA.units q.ha u hl hg'.w, q.ki.uk u hl hg'.g⟩
def takesI (i : Ins) : Prop := i.op = 13 ∨ i.op = 23
set_option maxHeartbeats 1000000 in
theorem FA.step {T : Nat → List (Nat × Nat) × List (Nat × Nat)} {E : Env} (hn : NoMix E) (ht : AbsOk E.l T) {s : MS} (h : MInv E s) (hg : GS s) (q : FA T s) (h0 : s.oc = 0) {i : Ins} (hget : E.l[s.at_]? = some i) :
    ((stepS E s).oc = 0 ∧ FA T (stepS E s) ∧ ¬ (takesI i ∧ ∀ j, j < E.n → Rch (s.hs.1.map toldC) (rootsS E s) j)) ∨ ((stepS E s).oc = 5 ∧ (stepS E s).at_ = s.at_ ∧ takesI i ∧ ∀ j, j < E.n → Rch (s.hs.1.map toldC) (rootsS E s) j) := by
  have hst : stepS E s = stepI E i s := by unfold stepS; rw [hget]
  rw [hst]
  have hrt := rootsS_flag hn h
  have k0 : GH E.n s.hs (rootsS E s) := ⟨h.hh, by rw [hrt]; exact hg.flag⟩
  have goOc : ∀ {t : MS} {c : Int}, (goS E i c t).oc = t.oc := by
    intro t c
    show (doesS E i c t).oc = t.oc
    exact (does_oc E i c t).1
  have goFA : ∀ {t : MS} {c : Int} {A : List (Nat × Nat) × List (Nat × Nat)}, HA A.1 A.2 (doesS E i c t) → KI (doesS E i c t).hs → T (toS E i t) = A → FA T (goS E i c t) := by
    intro t c A a1 a2 a3
    refine ⟨?_, a2⟩
    show HA (T (toS E i t)).1 (T (toS E i t)).2 _
    rw [a3]
    exact ⟨a1.lol, a1.lo, a1.stl, a1.st⟩
  by_cases h19 : i.op = 19
  · left
    obtain ⟨j1, j2⟩ := ht.jmp _ i hget h19
    have he : endsC s.hs.1 s.st i.op = 0 := by rw [h19]; simp [endsC]
    rw [step_go he (by omega) (by omega)]
    have hd : doesS E i (-1) s = s := by simp [doesS, touchS, h19]
    refine ⟨by rw [goOc]; exact h0, goFA (A := topA) ?_ ?_ ?_, fun e => by rcases e.1 with e | e <;> omega⟩
    · rw [hd]
      have := q.ha
      rw [j1] at this
      exact this
    · rw [hd]; exact q.ki
    · unfold toS
      rw [if_pos (.inl h19)]
      exact j2
  have hop := ht.fall _ i hget h19
  by_cases h20 : i.op = 20
  · left
    obtain ⟨⟨m, j1⟩, j2⟩ := ht.br _ i hget h20
    have he : endsC s.hs.1 s.st i.op = 0 := by rw [h20]; simp [endsC]
    rw [step_go he (by omega) (by omega)]
    have hd : doesS E i (-1) s = { s with st := cutS s 1 } := by simp [doesS, h20]
    have hq := q.ha
    rw [j1] at hq hop
    refine ⟨by rw [goOc]; exact h0, ?_, fun e => by rcases e.1 with e | e <;> omega⟩
    by_cases hz : (lastW s.st 0).2 = 0
    · simp only [opA, h20, reduceIte, Nat.reduceEqDiff, or_self, Option.some.injEq] at hop
      refine goFA (A := T (s.at_ + 1)) ?_ ?_ ?_
      · rw [hd, ← hop]
        exact hq.fall rfl hz
      · rw [hd]; exact q.ki
      · unfold toS
        rw [if_neg (fun e => e.elim h19 (fun e => e.2 hz))]
    · refine goFA (A := topA) ?_ ?_ ?_
      · rw [hd]
        exact hq.cut 1 (by simp)
      · rw [hd]; exact q.ki
      · unfold toS
        rw [if_pos (.inr ⟨h20, hz⟩)]
        exact j2
  have hto : ∀ t : MS, t.at_ = s.at_ → toS E i t = s.at_ + 1 := by
    intro t e
    unfold toS
    rw [if_neg (fun e => e.elim h19 (fun e => h20 e.1)), e]
  by_cases htk : i.op = 13 ∨ i.op = 23
  · rw [step_take htk]
    have hfull := full_iff k0
    by_cases hneg : (takeC (rootsS E s) s.hs).1 < 0
    · right
      rw [if_pos hneg]
      exact ⟨rfl, rfl, htk, hfull.1 hneg⟩
    · left
      rw [if_neg hneg]
      refine ⟨by rw [goOc]; exact h0, ?_, fun e => hneg (hfull.2 e.2)⟩
      have kr := k0.room
      have u := k0.ukRoom
      have hl : (roomC (rootsS E s) s.hs).1.length = s.hs.1.length := by rw [kr.ok.len, k0.ok.len]
      have gr : GS { s with hs := roomC (rootsS E s) s.hs } := GS.of (s := { s with hs := roomC (rootsS E s) s.hs }) (by rw [hrt] at kr ⊢; exact kr.g)
      rw [takeC_room] at hneg ⊢
      by_cases hlow : 0 ≤ lowC (roomC (rootsS E s) s.hs)
      · rw [if_pos hlow] at hneg ⊢
        obtain ⟨hlt, hused⟩ := lowC_at hlow
        have hA := HA.units q.ha u hl gr.w
        have hK := q.ki.uk u hl gr.g
        generalize roomC (rootsS E s) s.hs = h1 at *
        obtain ⟨j, hj⟩ : ∃ j : Nat, lowC h1 = (j : Int) := ⟨(lowC h1).toNat, by omega⟩
        have hjt : (lowC h1).toNat = j := by omega
        have hnal : ¬ AliveH h1 j := by
          intro ha
          apply ha.1
          have hc : (h1.1.map toldC)[j]? = some (toldC h1.1[(lowC h1).toNat]) := by rw [← hjt]; exact told_at (List.getElem?_eq_getElem hlt)
          rw [colL_some hc]
          show colR _ = 0
          unfold colR
          rw [if_pos hused]
        have hb1 : (beginC h1).1 = (j : Int) := hj
        have hb2 : (beginC h1).2 = (h1.1.set j (freshC (doneB h1.2.1 h1.2.2 j)), h1.2.1, h1.2.2) := by
          unfold beginC
          rw [hjt]
        rw [hb1, hb2]
        generalize doneB h1.2.1 h1.2.2 j = d
        rw [hjt] at hlt
        refine goFA (A := T (s.at_ + 1)) ?_ ?_ (congrArg T (hto _ rfl))
        all_goals rcases htk with e13 | e23
        · simp only [opA, e13, reduceIte, Nat.reduceEqDiff, or_self, Option.some.injEq] at hop
          rw [← hop]
          simp only [doesS, touchS, e13, reduceIte, Nat.reduceEqDiff, or_self]
          obtain ⟨p1, _⟩ := put_A (h' := (h1.1.set j (freshC d), h1.2.1, h1.2.2)) hA hK gr.g gr.w hnal rfl (fun k hk => List.getElem?_set_ne (Ne.symm hk)) (fun c' hc i hi => by
            simp only [List.getElem?_set_self hlt, Option.some.injEq] at hc
            subst hc
            simp only [freshC] at hi
            omega)
          exact HA.push p1 (HV.mkPN rfl ⟨by simp, freshC d, by simp [hlt], rfl⟩ _)
        · simp only [opA, e23, reduceIte, Nat.reduceEqDiff, or_self] at hop
          cases hT : (T s.at_).2 with
          | nil => rw [hT] at hop; simp at hop
          | cons v r =>
            rw [hT] at hop hA
            simp only at hop
            split at hop
            · rename_i hpl
              simp only [Option.some.injEq] at hop
              rw [← hop]
              have hl0 := hA.stl
              simp only [List.length_cons] at hl0
              obtain ⟨w1, w2⟩ := (hA.res (hA.st 0 v rfl) s.lo).pl hpl
              simp only [doesS, touchS, e23, reduceIte, Nat.reduceEqDiff, or_self]
              simp only at w1 w2
              obtain ⟨p1, _⟩ := put_A (h' := ((h1.1.set j (freshC d)).modify (j : Int).toNat (weakS (lastW s.st 0).2), h1.2.1, h1.2.2)) hA hK gr.g gr.w hnal rfl (fun k hk => by
                simp only [Int.toNat_natCast]
                rw [List.getElem?_modify, List.getElem?_set_ne (Ne.symm hk)]
                simp [Ne.symm hk]) (fun c' hc i hi => by
                simp only [Int.toNat_natCast, List.getElem?_modify, List.getElem?_set_self hlt, if_true, Option.map_eq_map, Option.map_some, Option.some.injEq] at hc
                subst hc
                simp only [weakS, freshC] at hi
                have hi' : (lastW s.st 0).2 = (i : Int) := by omega
                have hwi := gr.w (lastW s.st 0) (List.mem_append_right _ (lastW_mem (by simp only; omega))) w1 i hi'
                refine ⟨fun e => hnal (e ▸ hwi), ?_⟩
                rcases w2 with e | e
                · omega
                · rw [← hi']; exact e)
              exact HA.push (HA.cut p1 1 (by simp)) (HV.mkWN rfl ⟨by simp, weakS (lastW s.st 0).2 (freshC d), by simp [hlt], rfl⟩ _)
            · cases hop
        · simp only [doesS, touchS, e13, reduceIte, Nat.reduceEqDiff, or_self]
          obtain ⟨_, p2⟩ := put_A (h' := (h1.1.set j (freshC d), h1.2.1, h1.2.2)) hA hK gr.g gr.w hnal rfl (fun k hk => List.getElem?_set_ne (Ne.symm hk)) (fun c' hc i hi => by
            simp only [List.getElem?_set_self hlt, Option.some.injEq] at hc
            subst hc
            simp only [freshC] at hi
            omega)
          exact p2
        · simp only [opA, e23, reduceIte, Nat.reduceEqDiff, or_self] at hop
          cases hT : (T s.at_).2 with
          | nil => rw [hT] at hop; simp at hop
          | cons v r =>
            rw [hT] at hop hA
            simp only at hop
            split at hop
            · rename_i hpl
              have hl0 := hA.stl
              simp only [List.length_cons] at hl0
              obtain ⟨w1, w2⟩ := (hA.res (hA.st 0 v rfl) s.lo).pl hpl
              simp only [doesS, touchS, e23, reduceIte, Nat.reduceEqDiff, or_self]
              simp only at w1 w2
              obtain ⟨_, p2⟩ := put_A (h' := ((h1.1.set j (freshC d)).modify (j : Int).toNat (weakS (lastW s.st 0).2), h1.2.1, h1.2.2)) hA hK gr.g gr.w hnal rfl (fun k hk => by
                simp only [Int.toNat_natCast]
                rw [List.getElem?_modify, List.getElem?_set_ne (Ne.symm hk)]
                simp [Ne.symm hk]) (fun c' hc i hi => by
                simp only [Int.toNat_natCast, List.getElem?_modify, List.getElem?_set_self hlt, if_true, Option.map_eq_map, Option.map_some, Option.some.injEq] at hc
                subst hc
                simp only [weakS, freshC] at hi
                have hi' : (lastW s.st 0).2 = (i : Int) := by omega
                have hwi := gr.w (lastW s.st 0) (List.mem_append_right _ (lastW_mem (by simp only; omega))) w1 i hi'
                refine ⟨fun e => hnal (e ▸ hwi), ?_⟩
                rcases w2 with e | e
                · omega
                · rw [← hi']; exact e)
              exact p2
            · cases hop
      · rw [if_neg hlow] at hneg
        simp at hneg
  · left
    obtain ⟨p1, p2, p3⟩ := does_A h hg q.ha q.ki hop (fun e => htk (.inl e)) (fun e => htk (.inr e)) h20
    rw [step_go p1 (fun e => htk (.inl e)) (fun e => htk (.inr e))]
    exact ⟨by rw [goOc]; exact h0, goFA (A := T (s.at_ + 1)) p2 p3 (congrArg T (hto _ rfl)), fun e => htk e.1⟩
end Go.Proofs.YtdmdpindonghdaaDoor
namespace Go.Proofs.YtdmdpindonghdaaDoor
open Go.RowKit
def countT (l : List Bool) : Nat := (l.filter id).length
theorem countT_take {l : List Bool} {i : Nat} (h : i < l.length) : countT (l.take (i + 1)) = countT (l.take i) + (if l[i] = true then 1 else 0) := by
  unfold countT
  rw [List.take_succ_eq_append_getElem h, List.filter_append, List.length_append]
  cases l[i] <;> rfl
theorem countT_le (l : List Bool) : countT l ≤ l.length := List.length_filter_le _ _
theorem countT_all (l : List Bool) : countT l = l.length ↔ ∀ j, j < l.length → l[j]? = some true := by
  unfold countT
  rw [List.length_filter_eq_length_iff]
  constructor
  · intro h j hj
    rw [List.getElem?_eq_getElem hj]
    have := h l[j] (List.getElem_mem hj)
    rw [show l[j] = true from this]
  · intro h a ha
    obtain ⟨j, hj, e⟩ := List.getElem_of_mem ha
    have := h j hj
    rw [List.getElem?_eq_getElem hj, e] at this
    exact Option.some.inj this
set_option maxRecDepth 100000 in
set_option maxHeartbeats 1000000 in
theorem count_any {w : World} {N : Nat} {k : SK} {vT : Value} {S : Sn} {cs : List Cl} (h : SawAt w N k vT S cs) (hl : S.ins.length = cs.length) (hn : cs.length ≤ 100) :
    Calls Tryd.prog 32 #[.pointer (some ⟨k.b, 0, none⟩)] w fun e w' => e = .returned (.int .i64 (countT S.ins : Nat)) ∧ Below w.heap.size w w' := by
  have HH := hid h
  clear h
  go_enter Tryd.func32, Tryd.ntmps32
  go_wp2_with fail
  go_loopg [4, 3] cs.length (fun gk x y w' => ∃ i : Nat, i ≤ cs.length ∧ gk = cs.length - i ∧ x = .int .i64 i ∧ y = .int .i64 (countT (S.ins.take i) : Nat) ∧ Below w.heap.size w w')
  case atStart => exact ⟨0, by omega, by omega, rfl, by simp [countT], Below.refl _ _⟩
  case round =>
    obtain ⟨i, hi, hgk, rfl, rfl, hB⟩ := hrel
    have hS := HH.out.keep hB
    have r1 := hS.r1
    have HB := hid hB
    rcases Nat.lt_or_ge i cs.length with hlt | hge
    · have d0 : (0 : Int) ≤ (i : Int) := by omega
      have d1 : (i : Int) < (cs.length : Int) := by omega
      have hi' : i < S.ins.length := by omega
      have hct := countT_take hi'
      have hcl := countT_le (S.ins.take i)
      rw [List.length_take] at hcl
      have q0 := hS.inAt (List.getElem?_eq_getElem hi')
      have HC := hid hct
      clear hS hct hB
      generalize S.ins[i] = b at *
      generalize hcc : countT (S.ins.take i) = c at *
      have hc9 : (c : Int) + 1 ≤ 17592186044416 := by omega
      have hc8 : (0 : Int) ≤ (c : Int) := by omega
      cases b
      · go_wp2_with fail
        go_roundg (cs.length - (i + 1))
        case measure => omega
        case rel => exact ⟨i + 1, by omega, rfl, by go_num, by rw [HC.out]; simp, HB.out⟩
      · go_wp2_with fail
        go_roundg (cs.length - (i + 1))
        case measure => omega
        case rel => exact ⟨i + 1, by omega, rfl, by go_num, by rw [HC.out]; simp, HB.out⟩
    · have d1 : ¬ (i : Int) < (cs.length : Int) := by omega
      have e : S.ins.take i = S.ins := List.take_of_length_le (by omega)
      rw [e]
      clear hS hB
      go_wp2_with fail
      go_ret
      exact ⟨rfl, HB.out⟩
set_option maxRecDepth 100000 in
set_option maxHeartbeats 1000000 in
theorem taking_any (x : ByteArray) (p c : Nat) (w : World) (hx : x.size ≤ 1000) (hp : p + 2 < x.size) (hc : byteAt x (p + 2) = c) :
    Calls Tryd.prog 33 #[.string x, .int .i64 p] w fun e w' => e = .returned (.bool (decide (c = 13 ∨ c = 23))) ∧ Below w.heap.size w w' := by
  obtain ⟨q, hq⟩ : ∃ q, q = p + 2 := ⟨_, rfl⟩
  rw [← hq] at hp hc
  have hbq := byteAt_eq x q hp
  have hb256 := byteAt_lt x q
  rw [hc] at hbq hb256
  have d0 : ¬ (p : Int) < 0 := by omega
  have hpq : (p : Int) + 2 = (q : Int) := by omega
  have d1 : ¬ (x.size : Int) ≤ (q : Int) := by omega
  have d2 : (0 : Int) ≤ (q : Int) := by omega
  have d3 : (q : Int) < (x.size : Int) := by omega
  have d4 : (q : Int) ≤ 17592186044416 := by omega
  clear hc hq
  by_cases h13 : c = 13
  · subst h13
    go_enter Tryd.func33, Tryd.ntmps33
    go_wp2_with fail
    go_ret
    exact ⟨rfl, Below.refl _ _⟩
  have g13 : ((c : Int) == 13) = false := by simp; omega
  by_cases h23 : c = 23
  · subst h23
    go_enter Tryd.func33, Tryd.ntmps33
    go_wp2_with fail
    go_ret
    exact ⟨rfl, Below.refl _ _⟩
  have g23 : ((c : Int) == 23) = false := by simp; omega
  rw [show decide (c = 13 ∨ c = 23) = false from decide_eq_false (by omega)]
  go_enter Tryd.func33, Tryd.ntmps33
  go_wp2_with fail
  go_ret
  exact ⟨rfl, Below.refl _ _⟩
end Go.Proofs.YtdmdpindonghdaaDoor
namespace Go.Proofs.YtdmdpindonghdaaDoor
open Go.RowKit
theorem pr_spot {B : Nat} {w : World} {K : PK} {E : Env} {s : MS} (h : PR B w K s) (hke : KE K E) (he : EnvOk E) (hi : MInv E s) :
    ∃ i m, E.l[s.at_]? = some i ∧ TysOk E s m ∧ m.place = i.place ∧ Calls Tryd.prog 30 #[.pointer (some ⟨K.b, 0, none⟩)] w (PStatePost s.oc s.va m.place s.hs.2.1 s.hs.2.2 (locsS E s) (stkS E s) w) := by
  obtain ⟨F, h1, _⟩ := h
  obtain ⟨i, hc⟩ := hi.can he
  obtain ⟨m, hm⟩ := hi.tys he
  have hp := he.place _ i m hc.get hm.get
  obtain ⟨vI, vO, lo4, st8, hm', _⟩ := h1
  refine ⟨i, m, hc.get, hm, hp, ?_⟩
  rw [hp]
  exact pstate_m hm' hke he hi hc.get
theorem text_at (x : ByteArray) (p : Nat) (h : p < (textOf x).size) : p + 2 < x.size ∧ byteAt (textOf x) p = byteAt x (p + 2) := by
  have h2 : (textOf x).size = x.size - 2 := by simp [textOf]
  refine ⟨by omega, ?_⟩
  rw [← byteAt_eq _ p h, ← byteAt_eq x (p + 2) (by omega)]
  simp [textOf, ByteArray.getElem_extract, Nat.add_comm]
/-- What holds of a machine of a built image, also behind the end. -/
def FQ (T : Nat → List (Nat × Nat) × List (Nat × Nat)) (E : Env) (t : MS) : Prop := (t.oc = 0 ∧ FA T t) ∨ (t.oc = 5 ∧ ∃ i, E.l[t.at_]? = some i ∧ takesI i)
theorem FQ.coll {T : Nat → List (Nat × Nat) × List (Nat × Nat)} {E : Env} (hn : NoMix E) {t : MS} (h : MInv E t) (hg : GS t) (q : FQ T E t) (m : Nat) : FQ T E (collS E m t) := by
  rcases q with ⟨h0, h1⟩ | h1
  · exact .inl ⟨h0, h1.coll hn h hg m⟩
  · exact .inr h1
/-- What a step comes to. -/
structure FStep (T : Nat → List (Nat × Nat) × List (Nat × Nat)) (E : Env) (i : Ins) (t t' : MS) (all : Prop) : Prop where
  q : FQ T E t'
  c : (t.oc = 0 ∧ t'.oc = 0 ∧ ¬ (takesI i ∧ all)) ∨ (t.oc = 0 ∧ t'.oc = 5 ∧ t'.at_ = t.at_ ∧ takesI i ∧ all) ∨ (t.oc = 5 ∧ t'.oc = 5 ∧ t'.at_ = t.at_ ∧ takesI i)
theorem FQ.step {T : Nat → List (Nat × Nat) × List (Nat × Nat)} {E : Env} (hn : NoMix E) (ht : AbsOk E.l T) {t : MS} (h : MInv E t) (hg : GS t) (q : FQ T E t) {i : Ins} (hget : E.l[t.at_]? = some i) : FStep T E i t (opK E 1 0 t) (∀ j, j < E.n → Rch (t.hs.1.map toldC) (rootsS E t) j) := by
  rcases q with ⟨h0, h1⟩ | ⟨h5, i', hi', hti⟩
  · have e : opK E 1 0 t = stepS E t := by unfold opK; rw [if_pos rfl, if_pos h0]
    rw [e]
    rcases h1.step hn ht h hg h0 hget with ⟨a, b, c⟩ | ⟨a, b, c, d⟩
    · exact ⟨.inl ⟨a, b⟩, .inl ⟨h0, a, c⟩⟩
    · exact ⟨.inr ⟨a, i, by rw [b]; exact hget, c⟩, .inr (.inl ⟨h0, a, b, c, d⟩)⟩
  · have e : opK E 1 0 t = t := by unfold opK; rw [if_pos rfl, if_neg (by omega)]
    rw [e]
    rw [hget] at hi'
    cases hi'
    exact ⟨.inr ⟨h5, i, hget, hti⟩, .inr (.inr ⟨h5, h5, rfl, hti⟩)⟩
theorem StAt.keepN {w w' : World} {b n2 N : Nat} {oc va pl ph hd : Int} {v1 v2 : Value} (h : StAt w b oc va pl ph hd v1 v2) (hk : KeepN n2 N w w') (h1 : n2 ≤ b) (h2 : b < N) : StAt w' b oc va pl ph hd v1 v2 := ⟨(hk b h1 h2).trans h.row⟩
set_option maxRecDepth 100000 in
set_option maxHeartbeats 4000000 in
theorem filled_any (raw : ByteArray) (vi vu : Value) (zs us : List Int) (cells steps : Int) (w : World) (hr : raw.size ≤ maxLen) (ht : FlowTab w) (hv : ArgInts w vi zs) (hcap : ∀ p n c, vi = .slice p n c → n ≤ c ∧ c ≤ maxLen) (hu : ArgInts w vu us) (hul : us.length ≤ 17592186043904) (hur : ∀ u ∈ us, -9223372036854775808 ≤ u ∧ u ≤ 9223372036854775807)
    (hc1 : -9223372036854775808 ≤ cells) (hc2 : cells ≤ 9223372036854775807) (hs1 : -9223372036854775808 ≤ steps) (hs2 : steps ≤ 9223372036854775807) :
    Calls Tryd.prog 7 #[.string raw, vi, .int .i64 cells, vu, .int .i64 steps] w fun e w' => e = .returned (.bool true) ∧ Below w.heap.size w w' := by
  obtain ⟨q1, q2, q3, q4, q5⟩ := built_ok raw true
  obtain ⟨T, hT⟩ := built_abs raw true
  obtain ⟨n1, n2⟩ := roomN_le cells
  have hsz2 : (builtS raw true).size ≤ 122 := by
    have h1 := (errOf_zero q1).1
    obtain ⟨⟨⟨h3, h4⟩, _⟩, _⟩ : ((3 ≤ (builtS raw true).size ∧ (builtS raw true).size ≤ 122) ∧ byteAt (builtS raw true) 0 = 84) ∧ byteAt (builtS raw true) 1 ≤ 4 := by simpa [shapedP] using h1
    exact h4
  have hsz : (builtS raw true).size ≤ maxLen := by
    have : maxLen = 9223372036854775807 := rfl
    omega
  have hzl : (zs.take 64).length ≤ 64 := by rw [List.length_take]; omega
  have hrm := hid (room_any cells w hc1 hc2)
  have hbu := hid (built_any raw true w hr)
  have hso := hid (fun (W : World) (hb : Below w.heap.size w W) => some_any vi zs W (hv.keep hb) hcap)
  obtain ⟨x, hx⟩ : ∃ x, x = builtS raw true := ⟨_, rfl⟩
  rw [← hx] at hbu q1 q2 q3 q4 q5 hsz hsz2 hT
  have hmd := hid (fun (W : World) (hb : Below w.heap.size w W) (v : Value) (hv : ArgInts W v (zs.take 64)) => made_any x v (zs.take 64) (roomN cells) W hsz (ht.below hb) hv hzl n1 n2 q1 q4)
  have hpq := hid (fun (W : World) => pick_any steps 400 W hs1 hs2 (by omega) (by omega))
  have hq4 := pickN_lt steps (n := 400) (by omega)
  have hpu := hid (fun (W : World) (u : Int) (hu : u ∈ us) => pick_any u 100 W (hur u hu).1 (hur u hu).2 (by omega) (by omega))
  have HU := hid hu
  have HX : Hid (errOf x = 0 ∧ WT (codeOf x) (byteAt x 1) ∧ Det (codeOf x) (byteAt x 1) ∧ AbsOk (codeOf x) T ∧ byteAt x 1 = 4) := hid ⟨q1, q4, q5, hT, q3⟩
  obtain ⟨p0, c0, e0⟩ := hv.slice
  subst e0
  obtain ⟨pu, cu, eu⟩ := hu.slice
  subst eu
  clear hr ht hv hcap hu hur hc1 hc2 hs1 hs2 q1 q2 q3 q4 q5 hsz hx hT
  go_enter Tryd.func7, Tryd.ntmps7
  go_wp2_with fail
  refine hrm.out.mono ?_
  clear hrm
  intro e w1 hh
  obtain ⟨hx, hw⟩ := hh
  subst e
  subst w1
  go_wp2_with fail
  refine hbu.out.mono ?_
  clear hbu
  intro e w1 hh
  obtain ⟨hx, hb1⟩ := hh
  subst e
  have hs1 := hid (hso.out w1 hb1)
  have HB1 := hid hb1
  clear hb1 hso
  go_wp2_with fail
  refine hs1.out.mono ?_
  clear hs1
  intro e w2 hh
  obtain ⟨⟨v1, hx, hv1⟩, hw⟩ := hh
  subst e
  subst w2
  have hm1 := hid (hmd.out w1 HB1.out v1 hv1)
  clear hv1 hmd
  go_wp2_with fail
  refine hm1.out.mono ?_
  clear hm1
  intro e w2 hh
  obtain ⟨K, hx, hM⟩ := hh
  subst e
  obtain ⟨hxe, hxw, hxd, hxT, hx4⟩ := HX.out
  have hke := hM.ke
  have hok := hM.ok
  have hin := hM.inv
  have hnm : NoMix (envOf x K.fs (zs.take 64) (roomN cells)) := noMix_of hxe hxw hM.set hM.still hxd
  have hEz : (envOf x K.fs (zs.take 64) (roomN cells)).zs.length ≤ 64 := hzl
  have hEn : (envOf x K.fs (zs.take 64) (roomN cells)).n = roomN cells := rfl
  have hEl : (envOf x K.fs (zs.take 64) (roomN cells)).l = codeOf x := rfl
  have hgs : GS (startS (byteAt x 1) (roomN cells)) := GS.start _ _
  have hfq : FQ T (envOf x K.fs (zs.take 64) (roomN cells)) (startS (byteAt x 1) (roomN cells)) := .inl ⟨rfl, by rw [hx4]; exact FA.start hxT _⟩
  have hP0 := hM.pr.mono HB1.out.size
  obtain ⟨E, hEd⟩ : ∃ E, E = envOf x K.fs (zs.take 64) (roomN cells) := ⟨_, rfl⟩
  obtain ⟨s0, hs0⟩ : ∃ s0, s0 = startS (byteAt x 1) (roomN cells) := ⟨_, rfl⟩
  have h01 : s0.out.length = 0 := by rw [hs0]; rfl
  rw [← hEd] at hke hok hin hnm hEz hEn hEl hfq
  rw [← hs0] at hin hgs hP0 hfq
  rw [← hEl] at hxT
  have HB2 := hid (HB1.out.trans (hM.below.mono HB1.out.size))
  have HIN := hid hin
  have HGS := hid hgs
  have HP0 := hid hP0
  have HNM := hid hnm
  have HFQ := hid hfq
  have HXT := hid hxT
  have HEL := hid hEl
  clear hM HX hxe hxw hxd hxT hEd hs0 hin hgs hP0 hnm HB1 hfq hEl hx4
  generalize roomN cells = N at *
  generalize pickN steps 400 = M at *
  rcases Nat.eq_zero_or_pos us.length with hz0 | hz0
  · have hnil : us = [] := List.length_eq_zero_iff.1 hz0
    subst hnil
    simp only [List.length_nil] at *
    go_wp2_with fail
    go_loopg [15, 14] M (fun gk x y w' => ∃ (j : Nat) (t : MS), j ≤ M ∧ gk = M - j ∧ x = .int .i64 j ∧ y = .bool true ∧ PR w.heap.size w' K t ∧ MInv E t ∧ GS t ∧ FQ T E t ∧ t.out.length ≤ j ∧ Below w.heap.size w w')
    case atStart => exact ⟨0, s0, by omega, by omega, rfl, rfl, HP0.out, HIN.out, HGS.out, HFQ.out, by omega, HB2.out⟩
    case round =>
      obtain ⟨j, t, hj, hgk, rfl, rfl, hP, hI, hG, hQ, hout, hB⟩ := hrel
      have HP := hid hP
      have HI := hid hI
      have HG := hid hG
      have HQ := hid hQ
      have HB := hid hB
      have hpq1 := hid (hpq.out wr)
      clear hP hI hG hQ hB HP0 HIN HGS HFQ HB2
      go_wp2_with fail
      refine hpq1.out.mono ?_
      clear hpq1
      intro e w3 hh
      obtain ⟨hx, hw⟩ := hh
      subst e
      subst w3
      rcases Nat.lt_or_ge j M with hlt | hge
      · have d1 : (j : Int) < (M : Int) := by omega
        have d0 : (0 : Int) ≤ (j : Int) := by omega
        have d2 : (j : Int) + 1 ≤ 17592186044416 := by omega
        obtain ⟨i, mm, hget, htys, hmp, hst0⟩ := pr_spot HP.out hke hok HI.out
        have hst := hid hst0
        have hfs := HQ.out.step HNM.out HXT.out HI.out HG.out hget
        have hmem : i ∈ codeOf x := by rw [← HEL.out]; exact List.mem_of_getElem? hget
        obtain ⟨g1, g2⟩ := (code_places x).1 i hmem
        obtain ⟨g3, g4⟩ := text_at x i.place g2
        rw [g1] at g4
        rw [← hmp] at g3 g4
        have HFS := hid hfs
        have HGET := hid hget
        have HMP := hid hmp
        clear hst0 hfs htys hmem g1 g2 hmp hget
        go_wp2_with fail
        refine hst.out.mono ?_
        clear hst
        intro e w5 hh
        obtain ⟨hb5, y1, y2, hx, o1, o2, _⟩ := hh
        subst e
        obtain ⟨r1, k1, e1⟩ := owns_slice o1
        obtain ⟨r2, k2, e2⟩ := owns_slice o2
        generalize (locsS E t).length = m1 at *
        generalize (stkS E t).length = m2 at *
        subst e1
        subst e2
        clear o1 o2
        have hb6 : Below w5.heap.size w5 (w5.alloc (stBox t.oc t.va mm.place t.hs.2.1 t.hs.2.2 (.slice r1 m1 k1) (.slice r2 m2 k2))) := (Below.refl _ _).alloc (Nat.le_refl _) _
        have hb56 := hb5.trans (hb6.mono hb5.size)
        have HA := hid (StAt.new w5 t.oc t.va mm.place t.hs.2.1 t.hs.2.2 (.slice r1 m1 k1) (.slice r2 m2 k2))
        have hse := hid (pr_seen (HP.out.keep hb56) hke hok HI.out)
        have HB6 := hid hb56
        have hz5 := hb5.size
        unfold stBox at hse HA HB6
        clear hb5 hb6 hb56
        go_wp2_with fail
        refine hse.out.mono ?_
        clear hse
        intro e w7 hh
        obtain ⟨k, vT, S, hx, hS⟩ := hh
        subst e
        have hcl : (t.hs.1.map toldC).length = N := by rw [List.length_map, HI.out.n]; exact hEn
        have hil : S.ins.length = (t.hs.1.map toldC).length := hS.at_.len
        have hcn := hid (count_any hS.sawAt hil (by omega))
        have hall : (countT S.ins = N) ↔ (∀ j, j < E.n → Rch (t.hs.1.map toldC) (rootsS E t) j) := by
          rw [hEn, ← hcl, ← hil, countT_all]
          exact ⟨fun h j hj => (hS.ins j).1 (h j hj), fun h j hj => (hS.ins j).2 (h j hj)⟩
        have hcle := countT_le S.ins
        rw [hil, hcl] at hcle
        have HALL := hid hall
        have hA7 := HA.out.keep hS.below
        have HB7 := hid (HB6.out.trans (hS.below.mono HB6.out.size))
        have HA7 := hid hA7
        clear hS hall hcl hil HA HB6 hA7
        go_wp2_with fail
        refine hcn.out.mono ?_
        clear hcn
        intro e w8 hh
        obtain ⟨hx, hb8⟩ := hh
        subst e
        have hA8 := HA7.out.keep hb8
        have x2 := hA8.r2
        have HB8 := hid (HB7.out.trans (hb8.mono HB7.out.size))
        have HA8 := hid hA8
        have htk := hid (taking_any x mm.place i.op w8 (by omega) g3 g4.symm)
        obtain ⟨tb, htb⟩ : ∃ tb : Bool, tb = decide (i.op = 13 ∨ i.op = 23) := ⟨_, rfl⟩
        rw [← htb] at htk
        have HTB := hid htb
        clear htb
        clear hb8 hA8 HA7 HB7 g3 g4
        generalize countT S.ins = many at *
        go_wp2_with fail
        refine htk.out.mono ?_
        clear htk
        intro e w9 hh
        obtain ⟨hx, hb9⟩ := hh
        subst e
        have HA9 := hid (HA8.out.keep hb9)
        have HB9 := hid (HB8.out.trans (hb9.mono HB8.out.size))
        clear hb9 HA8 HB8 x2
        have hpy := hid (pn_play 1 0 (PN.of HP.out HB9.out) hke hok HI.out hEz (by omega))
        have hz9 := HA9.out.lt
        go_wp2_with fail
        refine hpy.out.mono ?_
        clear hpy
        intro e w10 hh
        obtain ⟨hx, hP10, hK10, hB10⟩ := hh
        subst e
        have hA10 := HA9.out.keepN hK10 hz5 hz9
        have hI2 := HI.out.opK hok 1 0
        have hG2 := HG.out.opK hok HNM.out HI.out 1 0
        have ho2 := opK_out E 1 0 t
        have hbw := HB.out.trans ((HB9.out.mono HP.out.size).trans hB10)
        generalize opK E 1 0 t = t' at *
        have HP10 := hid hP10.pr
        have HI10 := hid hI2
        have HG10 := hid hG2
        have HB10 := hid hbw
        have HA10 := hid hA10
        obtain ⟨i', mm', hget', _, hmp', hst0⟩ := pr_spot HP10.out hke hok hI2
        have hst := hid hst0
        have HG' := hid (show t'.at_ = t.at_ → mm'.place = mm.place from fun e => by
          rw [e, HGET.out] at hget'
          cases hget'
          rw [hmp', HMP.out])
        clear hP10 hK10 hB10 hA10 hI2 hG2 hbw HA9 HB9 HP HG HB hst0 hget' hmp' HGET HMP
        go_wp2_with fail
        refine hst.out.mono ?_
        clear hst
        intro e w11 hh
        obtain ⟨hb11, y1, y2, hx, o1, o2, _⟩ := hh
        subst e
        obtain ⟨r3, k3, e1⟩ := owns_slice o1
        obtain ⟨r4, k4, e2⟩ := owns_slice o2
        generalize (locsS E t').length = m3 at *
        generalize (stkS E t').length = m4 at *
        subst e1
        subst e2
        clear o1 o2
        have hb12 : Below w11.heap.size w11 (w11.alloc (stBox t'.oc t'.va mm'.place t'.hs.2.1 t'.hs.2.2 (.slice r3 m3 k3) (.slice r4 m4 k4))) := (Below.refl _ _).alloc (Nat.le_refl _) _
        have hb112 := hb11.trans (hb12.mono hb11.size)
        have hA12 := HA10.out.keep hb112
        have hA11 := HA10.out.keep hb11
        have hD12 := StAt.new w11 t'.oc t'.va mm'.place t'.hs.2.1 t'.hs.2.2 (.slice r3 m3 k3) (.slice r4 m4 k4)
        have HP12 := hid (HP10.out.keep hb112)
        have HB12 := hid (HB10.out.trans (hb112.mono HB10.out.size))
        have hz11 := hA11.lt
        have x0 := hA11.r0
        have x2 := hA11.r2
        have hfc := HFS.out.c
        have HFQ2 := hid HFS.out.q
        unfold stBox at HP12 HB12
        clear hb11 hb12 hb112 hA12 hA11 hD12 HA10 HB10 HP10
        rcases hfc with ⟨c1, c2, c3⟩ | ⟨c1, c2, c3, c4, c5⟩ | ⟨c1, c2, c3, c4⟩
        · rw [c1] at x0
          rw [c2] at HP12 HB12 ⊢
          by_cases htt : i.op = 13 ∨ i.op = 23
          · have hmn : ¬ many = N := fun e => c3 ⟨htt, HALL.out.1 e⟩
            have hm2 : ((many : Int) == (N : Int)) = false := by simp; omega
            have htb : tb = true := by rw [HTB.out]; exact decide_eq_true htt
            clear HTB
            subst htb
            clear HALL HFS c3 HG'
            go_wp2_with fail
            go_roundg (M - (j + 1))
            case measure => omega
            case rel => exact ⟨j + 1, t', by omega, rfl, by go_num, rfl, HP12.out, HI10.out, HG10.out, HFQ2.out, by omega, HB12.out⟩
          · have htb : tb = false := by rw [HTB.out]; exact decide_eq_false htt
            clear HTB
            subst htb
            clear HALL HFS c3 HG'
            go_wp2_with fail
            go_roundg (M - (j + 1))
            case measure => omega
            case rel => exact ⟨j + 1, t', by omega, rfl, by go_num, rfl, HP12.out, HI10.out, HG10.out, HFQ2.out, by omega, HB12.out⟩
        · rw [c1] at x0
          rw [c2] at HP12 HB12 ⊢
          have hpl := HG'.out c3
          rw [hpl] at HP12 HB12 ⊢
          have hmn : many = N := HALL.out.2 c5
          subst hmn
          have htb : tb = true := by rw [HTB.out]; exact decide_eq_true (show i.op = 13 ∨ i.op = 23 from c4)
          clear HTB
          subst htb
          clear HALL HFS c3 c4 c5 HG' hpl
          go_wp2_with fail
          go_roundg (M - (j + 1))
          case measure => omega
          case rel => exact ⟨j + 1, t', by omega, rfl, by go_num, rfl, HP12.out, HI10.out, HG10.out, HFQ2.out, by omega, HB12.out⟩
        · rw [c1] at x0
          rw [c2] at HP12 HB12 ⊢
          have hpl := HG'.out c3
          rw [hpl] at HP12 HB12 ⊢
          have htb : tb = true := by rw [HTB.out]; exact decide_eq_true (show i.op = 13 ∨ i.op = 23 from c4)
          clear HTB
          subst htb
          clear HALL HFS c3 c4 HG' hpl
          go_wp2_with fail
          go_roundg (M - (j + 1))
          case measure => omega
          case rel => exact ⟨j + 1, t', by omega, rfl, by go_num, rfl, HP12.out, HI10.out, HG10.out, HFQ2.out, by omega, HB12.out⟩
      · have d1 : ¬ (j : Int) < (M : Int) := by omega
        go_wp2_with fail
        go_ret
        exact ⟨rfl, HB.out⟩
  · go_wp2_with fail
    go_loopg [15, 14] M (fun gk x y w' => ∃ (j : Nat) (t : MS), j ≤ M ∧ gk = M - j ∧ x = .int .i64 j ∧ y = .bool true ∧ PR w.heap.size w' K t ∧ MInv E t ∧ GS t ∧ FQ T E t ∧ t.out.length ≤ j ∧ Below w.heap.size w w')
    case atStart => exact ⟨0, s0, by omega, by omega, rfl, rfl, HP0.out, HIN.out, HGS.out, HFQ.out, by omega, HB2.out⟩
    case round =>
      obtain ⟨j, t, hj, hgk, rfl, rfl, hP, hI, hG, hQ, hout, hB⟩ := hrel
      have HP := hid hP
      have HI := hid hI
      have HG := hid hG
      have HQ := hid hQ
      have HB := hid hB
      have hpq1 := hid (hpq.out wr)
      clear hP hI hG hQ hB HP0 HIN HGS HFQ HB2
      go_wp2_with fail
      refine hpq1.out.mono ?_
      clear hpq1
      intro e w3 hh
      obtain ⟨hx, hw⟩ := hh
      subst e
      subst w3
      rcases Nat.lt_or_ge j M with hlt | hge
      · have d1 : (j : Int) < (M : Int) := by omega
        have d0 : (0 : Int) ≤ (j : Int) := by omega
        have d2 : (j : Int) + 1 ≤ 17592186044416 := by omega
        have z0 : (0 : Int) < (us.length : Int) := by omega
        obtain ⟨m, hm0⟩ : ∃ m, m = j % us.length := ⟨_, rfl⟩
        have hml : m < us.length := by rw [hm0]; exact Nat.mod_lt _ hz0
        have hmod : (j : Int) % (us.length : Int) = (m : Int) := by rw [hm0]; rfl
        have d3 : (0 : Int) ≤ (m : Int) := by omega
        have d4 : (m : Int) < (us.length : Int) := by omega
        rcases (HU.out.keep HB.out) with ⟨_, hn⟩ | ⟨a, cap, hv, hcell, _⟩
        · rw [hn] at hz0; simp at hz0
        cases hv
        have y0 := hcell m us[m] (List.getElem?_eq_getElem hml)
        have hpk := hid (hpu.out wr us[m] (List.getElem_mem hml))
        have hpk4 := pickN_lt us[m] (n := 100) (by omega)
        generalize us[m] = u at *
        clear hcell hm0
        go_wp2_with fail
        refine hpk.out.mono ?_
        clear hpk
        intro e w3 hh
        obtain ⟨hx, hw⟩ := hh
        subst e
        subst w3
        generalize pickN u 100 = uu at *
        have hcl := hid (pr_play 2 uu HP.out hke hok HI.out hEz (by omega))
        rw [opK_coll E uu (by omega) t] at hcl
        have HI2 := hid (HI.out.coll uu)
        have HG2 := hid (HG.out.coll HNM.out HI.out uu)
        have HQ2 := hid (HQ.out.coll HNM.out HI.out HG.out uu)
        have hout2 : (collS E uu t).out.length ≤ j := hout
        generalize collS E uu t = t2 at *
        clear HI HG HQ HP
        go_wp2_with fail
        refine hcl.out.mono ?_
        clear hcl
        intro e w4 hh
        obtain ⟨hx, hP4, hB4⟩ := hh
        subst e
        have HP := hid hP4
        have HI := HI2
        have HG := HG2
        have HQ := HQ2
        have HB4 := hid (HB.out.trans hB4)
        clear hP4 hB4 HI2 HG2 HQ2 y0 HB hout
        have HB := HB4
        clear HB4
        obtain ⟨i, mm, hget, htys, hmp, hst0⟩ := pr_spot HP.out hke hok HI.out
        have hst := hid hst0
        have hfs := HQ.out.step HNM.out HXT.out HI.out HG.out hget
        have hmem : i ∈ codeOf x := by rw [← HEL.out]; exact List.mem_of_getElem? hget
        obtain ⟨g1, g2⟩ := (code_places x).1 i hmem
        obtain ⟨g3, g4⟩ := text_at x i.place g2
        rw [g1] at g4
        rw [← hmp] at g3 g4
        have HFS := hid hfs
        have HGET := hid hget
        have HMP := hid hmp
        clear hst0 hfs htys hmem g1 g2 hmp hget
        go_wp2_with fail
        refine hst.out.mono ?_
        clear hst
        intro e w5 hh
        obtain ⟨hb5, y1, y2, hx, o1, o2, _⟩ := hh
        subst e
        obtain ⟨r1, k1, e1⟩ := owns_slice o1
        obtain ⟨r2, k2, e2⟩ := owns_slice o2
        generalize (locsS E t2).length = m1 at *
        generalize (stkS E t2).length = m2 at *
        subst e1
        subst e2
        clear o1 o2
        have hb6 : Below w5.heap.size w5 (w5.alloc (stBox t2.oc t2.va mm.place t2.hs.2.1 t2.hs.2.2 (.slice r1 m1 k1) (.slice r2 m2 k2))) := (Below.refl _ _).alloc (Nat.le_refl _) _
        have hb56 := hb5.trans (hb6.mono hb5.size)
        have HA := hid (StAt.new w5 t2.oc t2.va mm.place t2.hs.2.1 t2.hs.2.2 (.slice r1 m1 k1) (.slice r2 m2 k2))
        have hse := hid (pr_seen (HP.out.keep hb56) hke hok HI.out)
        have HB6 := hid hb56
        have hz5 := hb5.size
        unfold stBox at hse HA HB6
        clear hb5 hb6 hb56
        go_wp2_with fail
        refine hse.out.mono ?_
        clear hse
        intro e w7 hh
        obtain ⟨k, vT, S, hx, hS⟩ := hh
        subst e
        have hcl : (t2.hs.1.map toldC).length = N := by rw [List.length_map, HI.out.n]; exact hEn
        have hil : S.ins.length = (t2.hs.1.map toldC).length := hS.at_.len
        have hcn := hid (count_any hS.sawAt hil (by omega))
        have hall : (countT S.ins = N) ↔ (∀ j, j < E.n → Rch (t2.hs.1.map toldC) (rootsS E t2) j) := by
          rw [hEn, ← hcl, ← hil, countT_all]
          exact ⟨fun h j hj => (hS.ins j).1 (h j hj), fun h j hj => (hS.ins j).2 (h j hj)⟩
        have hcle := countT_le S.ins
        rw [hil, hcl] at hcle
        have HALL := hid hall
        have hA7 := HA.out.keep hS.below
        have HB7 := hid (HB6.out.trans (hS.below.mono HB6.out.size))
        have HA7 := hid hA7
        clear hS hall hcl hil HA HB6 hA7
        go_wp2_with fail
        refine hcn.out.mono ?_
        clear hcn
        intro e w8 hh
        obtain ⟨hx, hb8⟩ := hh
        subst e
        have hA8 := HA7.out.keep hb8
        have x2 := hA8.r2
        have HB8 := hid (HB7.out.trans (hb8.mono HB7.out.size))
        have HA8 := hid hA8
        have htk := hid (taking_any x mm.place i.op w8 (by omega) g3 g4.symm)
        obtain ⟨tb, htb⟩ : ∃ tb : Bool, tb = decide (i.op = 13 ∨ i.op = 23) := ⟨_, rfl⟩
        rw [← htb] at htk
        have HTB := hid htb
        clear htb
        clear hb8 hA8 HA7 HB7 g3 g4
        generalize countT S.ins = many at *
        go_wp2_with fail
        refine htk.out.mono ?_
        clear htk
        intro e w9 hh
        obtain ⟨hx, hb9⟩ := hh
        subst e
        have HA9 := hid (HA8.out.keep hb9)
        have HB9 := hid (HB8.out.trans (hb9.mono HB8.out.size))
        clear hb9 HA8 HB8 x2
        have hpy := hid (pn_play 1 0 (PN.of HP.out HB9.out) hke hok HI.out hEz (by omega))
        have hz9 := HA9.out.lt
        go_wp2_with fail
        refine hpy.out.mono ?_
        clear hpy
        intro e w10 hh
        obtain ⟨hx, hP10, hK10, hB10⟩ := hh
        subst e
        have hA10 := HA9.out.keepN hK10 hz5 hz9
        have hI2 := HI.out.opK hok 1 0
        have hG2 := HG.out.opK hok HNM.out HI.out 1 0
        have ho2 := opK_out E 1 0 t2
        have hbw := HB.out.trans ((HB9.out.mono HP.out.size).trans hB10)
        generalize opK E 1 0 t2 = t' at *
        have HP10 := hid hP10.pr
        have HI10 := hid hI2
        have HG10 := hid hG2
        have HB10 := hid hbw
        have HA10 := hid hA10
        obtain ⟨i', mm', hget', _, hmp', hst0⟩ := pr_spot HP10.out hke hok hI2
        have hst := hid hst0
        have HG' := hid (show t'.at_ = t2.at_ → mm'.place = mm.place from fun e => by
          rw [e, HGET.out] at hget'
          cases hget'
          rw [hmp', HMP.out])
        clear hP10 hK10 hB10 hA10 hI2 hG2 hbw HA9 HB9 HP HG HB hst0 hget' hmp' HGET HMP
        go_wp2_with fail
        refine hst.out.mono ?_
        clear hst
        intro e w11 hh
        obtain ⟨hb11, y1, y2, hx, o1, o2, _⟩ := hh
        subst e
        obtain ⟨r3, k3, e1⟩ := owns_slice o1
        obtain ⟨r4, k4, e2⟩ := owns_slice o2
        generalize (locsS E t').length = m3 at *
        generalize (stkS E t').length = m4 at *
        subst e1
        subst e2
        clear o1 o2
        have hb12 : Below w11.heap.size w11 (w11.alloc (stBox t'.oc t'.va mm'.place t'.hs.2.1 t'.hs.2.2 (.slice r3 m3 k3) (.slice r4 m4 k4))) := (Below.refl _ _).alloc (Nat.le_refl _) _
        have hb112 := hb11.trans (hb12.mono hb11.size)
        have hA12 := HA10.out.keep hb112
        have hA11 := HA10.out.keep hb11
        have hD12 := StAt.new w11 t'.oc t'.va mm'.place t'.hs.2.1 t'.hs.2.2 (.slice r3 m3 k3) (.slice r4 m4 k4)
        have HP12 := hid (HP10.out.keep hb112)
        have HB12 := hid (HB10.out.trans (hb112.mono HB10.out.size))
        have hz11 := hA11.lt
        have x0 := hA11.r0
        have x2 := hA11.r2
        have hfc := HFS.out.c
        have HFQ2 := hid HFS.out.q
        unfold stBox at HP12 HB12
        clear hb11 hb12 hb112 hA12 hA11 hD12 HA10 HB10 HP10
        rcases hfc with ⟨c1, c2, c3⟩ | ⟨c1, c2, c3, c4, c5⟩ | ⟨c1, c2, c3, c4⟩
        · rw [c1] at x0
          rw [c2] at HP12 HB12 ⊢
          by_cases htt : i.op = 13 ∨ i.op = 23
          · have hmn : ¬ many = N := fun e => c3 ⟨htt, HALL.out.1 e⟩
            have hm2 : ((many : Int) == (N : Int)) = false := by simp; omega
            have htb : tb = true := by rw [HTB.out]; exact decide_eq_true htt
            clear HTB
            subst htb
            clear HALL HFS c3 HG'
            go_wp2_with fail
            go_roundg (M - (j + 1))
            case measure => omega
            case rel => exact ⟨j + 1, t', by omega, rfl, by go_num, rfl, HP12.out, HI10.out, HG10.out, HFQ2.out, by omega, HB12.out⟩
          · have htb : tb = false := by rw [HTB.out]; exact decide_eq_false htt
            clear HTB
            subst htb
            clear HALL HFS c3 HG'
            go_wp2_with fail
            go_roundg (M - (j + 1))
            case measure => omega
            case rel => exact ⟨j + 1, t', by omega, rfl, by go_num, rfl, HP12.out, HI10.out, HG10.out, HFQ2.out, by omega, HB12.out⟩
        · rw [c1] at x0
          rw [c2] at HP12 HB12 ⊢
          have hpl := HG'.out c3
          rw [hpl] at HP12 HB12 ⊢
          have hmn : many = N := HALL.out.2 c5
          subst hmn
          have htb : tb = true := by rw [HTB.out]; exact decide_eq_true (show i.op = 13 ∨ i.op = 23 from c4)
          clear HTB
          subst htb
          clear HALL HFS c3 c4 c5 HG' hpl
          go_wp2_with fail
          go_roundg (M - (j + 1))
          case measure => omega
          case rel => exact ⟨j + 1, t', by omega, rfl, by go_num, rfl, HP12.out, HI10.out, HG10.out, HFQ2.out, by omega, HB12.out⟩
        · rw [c1] at x0
          rw [c2] at HP12 HB12 ⊢
          have hpl := HG'.out c3
          rw [hpl] at HP12 HB12 ⊢
          have htb : tb = true := by rw [HTB.out]; exact decide_eq_true (show i.op = 13 ∨ i.op = 23 from c4)
          clear HTB
          subst htb
          clear HALL HFS c3 c4 HG' hpl
          go_wp2_with fail
          go_roundg (M - (j + 1))
          case measure => omega
          case rel => exact ⟨j + 1, t', by omega, rfl, by go_num, rfl, HP12.out, HI10.out, HG10.out, HFQ2.out, by omega, HB12.out⟩
      · have d1 : ¬ (j : Int) < (M : Int) := by omega
        go_wp2_with fail
        go_ret
        exact ⟨rfl, HB.out⟩
end Go.Proofs.YtdmdpindonghdaaDoor
namespace Go.Proofs.YtdmdpindonghdaaDoor
open Go.ChangeShapes Go.WideShapes Go.ChangeAt Go.ChangeMaps Go.RowKit
set_option maxRecDepth 100000 in
/-- A list of numbers that is handed in, each in its range. -/
theorem ints_argR {H : Type} {enc : TypeId × Value → H} {W : World} {v : Value} {d : DataW H} {p : List MemPlace} {base : Nat} (hok : Value.okWide Tryd.prog W .any base 33 v) (h : DataW.Trod enc Tryd.prog W 0 (fun _ => true) true 33 v d p) (hlt : ∀ x ∈ p, x.block < W.heap.size) (hw : (d.weights Tryd.prog 33).all (· ≤ reachBytes) = true) :
    ∃ zs : List Int, ArgInts W v zs ∧ zs.length ≤ 17592186043904 ∧ (∀ p n c, v = .slice p n c → n ≤ c ∧ c ≤ maxLen) ∧ ∀ u ∈ zs, -9223372036854775808 ≤ u ∧ u ≤ 9223372036854775807 := by
  obtain ⟨a0, len, cap, rfl⟩ := okWide_slice Tryd.underlying33 hok
  obtain ⟨fuel, hf⟩ := h
  rcases open_ints Tryd.underlying33 Tryd.underlying3 cellsInt hf with ⟨hcs, hx⟩ | ⟨a, len', cap', zs, hcs, _, hl, hm, hz, hx, hcell, hwf⟩
  · simp [Value.cells] at hcs
    obtain ⟨rfl, rfl, rfl⟩ := hcs
    exact ⟨[], .inl ⟨rfl, rfl⟩, by simp, fun p n c h => by cases h; exact ⟨Nat.le_refl _, Nat.zero_le _⟩, fun u hu => by cases hu⟩
  · simp [Value.cells] at hcs
    obtain ⟨rfl, rfl, rfl⟩ := hcs
    simp only [Prod.mk.injEq] at hx
    obtain ⟨rfl, rfl⟩ := hx
    simp only [if_true] at hz
    have hlz : (zs.take len).length = len := by rw [List.length_take]; omega
    refine ⟨zs.take len, .inr ⟨a, cap, by rw [hlz], ?_, ?_⟩, ?_, fun p n c h => by cases h; exact ⟨hl, hm⟩, fun u hu => int_range (hwf u (List.mem_of_mem_take hu))⟩
    · intro j x hj
      have hjl := (List.getElem?_eq_some_iff.1 hj).1
      rw [hlz] at hjl
      rw [List.getElem?_take, if_pos hjl] at hj
      rw [hcell j (by omega), List.getD_eq_getElem?_getD, hj]
      rfl
    · intro hp
      exact hlt (.cell a.block (a.off + 0)) (MemPlace.mem_row.2 ⟨0, by omega, rfl⟩)
    · rw [hlz]
      have := hw
      simp only [DataW.weights, Tryd.underlying33, List.all_cons, Bool.and_eq_true, decide_eq_true_eq, bytesInt] at this
      have h2 := this.1
      simp only [lits, List.length_map, hlz] at h2
      have : reachBytes = 140737488351232 := rfl
      omega
set_option maxRecDepth 100000 in
theorem filled_lifted (os : Os) (started : os.Started) (H : Type) (enc : TypeId × Value → H) :
    ReturnsInHanded {} Tryd.checked os 7 .any (fun w args => (Rows.filledSpec.pre enc Tryd.prog Tryd.f7 Rows.filledRow.domain false w args ∧ laidMetH Tryd.prog Rows.filledRow.laid w) ∧ sizedMet enc Tryd.prog Tryd.f7 (OpenSpec.ofChange Rows.filledSpec) false w args)
      (Rows.filledSpec.post enc Tryd.prog Tryd.f7 false true false false) := by
  refine returnsInHanded_of_change_and (C := Tryd.checked) (X := fun w _ => laidMetH Tryd.prog Rows.filledRow.laid w) (fun _ _ _ hh h => h.of_heap hh) knobs started (by kernel_rfl) Tryd.func7
    (ChangeSpec.witness_shaped (enc := enc) (C := Tryd.checked) (os := os) (X := fun w _ => laidMetH Tryd.prog Rows.filledRow.laid w) false (World.laidAll Tryd.prog os Rows.filledRow.laid) #[.string ⟨#[]⟩, .slice none 0 0, .int .i64 0, .slice none 0 0, .int .i64 0] 8 (World.laidAll_os _ _ _)
      (World.shaped_of_ZipB (by kernel_rfl) (by kernel_rfl)) (by kernel_rfl) (by kernel_rfl) (by kernel_rfl)
      (by rw [MakeChecks.laidMetH_plain _ _ _ (by kernel_rfl)]; exact laidMet_laidAll _ (by kernel_rfl) (by kernel_rfl))) ?_
  intro W base args ds gs before hval0 hW _ hsz hL _
  have hval : ∀ (j : Nat) t v, Tryd.f7.params[j]? = some t → args[j]? = some v → Value.okWide Tryd.prog W .any base t v := hval0
  have hW' := hW
  obtain ⟨p, q, hA0, hV, rfl, _, _⟩ := hW
  have hA : DataW.TrodAll enc Tryd.prog W 0 (fun _ => true) true Tryd.f7.params.toList args.toList ds p := hA0
  obtain ⟨rfl, rfl⟩ := trodVars_none hV
  have hlt : ∀ x ∈ p, x.block < W.heap.size := fun x hx => by
    have := hW'.lt x (by simpa using hx)
    exact this
  rw [Tryd.params7] at hA hval hsz
  obtain ⟨v0, v1, v2, v3, v4, d0, d1, d2, d3, d4, p0, p1, p2, p3, p4, rfl, rfl, rfl, h0, h1, h2, h3, h4⟩ := trodAll_five hA
  obtain ⟨s, rfl, rfl, rfl, hs⟩ := open_string Tryd.underlying9 (hval 0 9 v0 rfl rfl) h0
  obtain ⟨n, rfl, rfl, rfl, hn⟩ := open_int Tryd.underlying3 (hval 2 3 v2 rfl rfl) h2
  obtain ⟨m, rfl, rfl, rfl, hm⟩ := open_int Tryd.underlying3 (hval 4 3 v4 rfl rfl) h4
  have hw1 : (d1.weights Tryd.prog 33).all (· ≤ reachBytes) = true := by
    have := hsz
    simp only [List.append_nil, List.cons_append, List.nil_append, DataW.weightsEach, List.all_append, Bool.and_eq_true] at this
    exact this.2.1
  have hw3 : (d3.weights Tryd.prog 33).all (· ≤ reachBytes) = true := by
    have := hsz
    simp only [List.append_nil, List.cons_append, List.nil_append, DataW.weightsEach, List.all_append, Bool.and_eq_true] at this
    exact this.2.2.2.1
  have hlt1 : ∀ x ∈ p1, x.block < W.heap.size := fun x hx => hlt x (by simp [hx])
  have hlt3 : ∀ x ∈ p3, x.block < W.heap.size := fun x hx => hlt x (by simp [hx])
  obtain ⟨us, hu, hul, _, hur⟩ := ints_argR (hval 3 33 v3 rfl rfl) h3 hlt3 hw3
  obtain ⟨zs, hz, hzl, hcap⟩ := ints_arg (hval 1 33 v1 rfl rfl) h1 hlt1 hw1
  have t1 := flow_of_laid hL
  obtain ⟨n1, n2⟩ := int_range hn
  obtain ⟨m1, m2⟩ := int_range hm
  refine (filled_any s v1 v3 zs us n m W hs t1 hz hcap hu hul hur n1 n2 m1 m2).mono fun e W' ⟨he, hb⟩ => ?_
  subst he
  have hr1 : DataW.Trod enc Tryd.prog W' 0 (fun b => decide (b < W.heap.size)) true 33 v1 d1 p1 := Below.trod laidOutP (by kernel_rfl) (of_decide_eq_true (by kernel_rfl)) h1 hb hlt1
  have hr3 : DataW.Trod enc Tryd.prog W' 0 (fun b => decide (b < W.heap.size)) true 33 v3 d3 p3 := Below.trod laidOutP (by kernel_rfl) (of_decide_eq_true (by kernel_rfl)) h3 hb hlt3
  exact ⟨_, rfl, _, _, _, [], _, [], hW', trodAll_mk1 (shut_bool Tryd.underlying4 _), trodAll_mk5 (shut_string Tryd.underlying9 hs) hr1 (shut_int Tryd.underlying3 hn) hr3 (shut_int Tryd.underlying3 hm), rfl, hb.frame _, fun h => by cases h⟩
theorem filled_holds : Rows.FilledSaid :=
  OpenClaim.holds_of_wide 7 Tryd.f7 rfl rfl rfl rfl rfl rfl rfl ⟨rfl, rfl, rfl, rfl, rfl⟩ rfl rfl rfl rfl rfl (by kernel_rfl) Tryd.func7 (by kernel_rfl)
    (of_decide_eq_true (by kernel_rfl)) (by unfold Func.isWrapper; first | (rw [if_pos (by decide +kernel)]; kernel_rfl) | (rw [if_neg (by decide +kernel)]; exact ⟨rfl, rfl⟩))
    (fun os started H enc _ => filled_lifted os started H enc)
theorem filled_card_holds : Rows.FilledCardSaid :=
  Claim7.holds_tied_plain_at .later [] [.data, .data] true Rows.filledCard.stood.harness false
    filled_holds (fun _ h => by cases h) (by kernel_rfl) (fun _ h => by cases h) filled_row_tie rfl ⟨rfl, rfl⟩ (by kernel_rfl) rfl
    (fun f fn hf hfn => by
      obtain rfl : f = 7 := Option.some.inj ((show Tryd.prog.funcNamed "tint/tintkeep.Filled" = some 7 by kernel_rfl).symm.trans hf) |>.symm
      obtain rfl : fn = Tryd.f7 := (Option.some.inj (Tryd.func7.symm.trans hfn)).symm
      exact ⟨by kernel_rfl, fun j t ht => by
        rw [Tryd.params7] at ht
        have hm : t ∈ [9, 33, 3, 33, 3] := by simpa using Array.mem_of_getElem? ht
        have hall : ([9, 33, 3, 33, 3].all fun u => !Tryd.prog.wantsStandIn u) = true := by kernel_rfl
        exact (show Tryd.prog.wantsStandIn t = false by simpa using List.all_eq_true.1 hall t hm)⟩)
    (by kernel_rfl)
#print axioms filled_card_holds
end Go.Proofs.YtdmdpindonghdaaDoor
