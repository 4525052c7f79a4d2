/- tintkeep.Tidy is true of all raw bytes, lists of inputs, numbers of cells and scripts: the rest of a round and one round more leave just what can be reached, as it was; conditions: the two listed variables hold what the program's text lays in them. -/
import Derived.Test.YtdmdpindonghdaaDoorRows
import Derived.Test.YtdmdpindonghdaaDoorTie
import Derived.Test.YtdmdpindonghdaaDoorCards
import Derived.Test.YtdmdpindonghdaaDoorOwn7
import Derived.WalkKit
import Derived.WalkSmall
import Derived.Deep.AppendLies
import Derived.Deep.DeepMust
import Derived.Deep.LoopGhost
import Derived.WalkSpells
import Derived.WalkLawsBesides
import Derived.BigRegion
import Derived.Deep.QuietTactic
import Derived.BigQuiet
import Derived.Deep.RegionHeld3
import Derived.OwnWalk
import Derived.Laws.StructEq
import Derived.Deep.RegionLaw
import Derived.Deep.DeepCutAuto
import Derived.Laws.MakeOwn
import Derived.Laws.IdiomCopy
import Derived.Laws.BytesArg
import Derived.ProofKit
import Derived.OpenShut
import Derived.Lay
import Derived.SevenTiedAt
import Derived.Stop.Joined
import Derived.Carry
import Derived.Deep.SlicePairs
namespace Go.Proofs.YtdmdpindonghdaaDoor
open Go.RowKit
set_option maxRecDepth 100000 in
set_option maxHeartbeats 1000000 in
theorem sameK_any (l : List Int) (va vb : Value) (w : World) (ha : ZsAt w va l) (hb : ZsAt w vb l) (hl : l.length ≤ 17592186044416) :
    Calls Tryd.prog 26 #[va, vb] w fun e w' => e = .returned (.bool true) ∧ ∃ n, w' = w.drewN n := by
  obtain ⟨pa, ca, ea⟩ := ha.slice
  obtain ⟨pb, cb, eb⟩ := hb.slice
  subst ea
  subst eb
  have HA := hid ha
  have HB := hid hb
  clear ha hb
  go_enter Tryd.func26, Tryd.ntmps26
  go_wp2_with fail
  go_loopg [5] l.length (fun gk x w' => ∃ k : Nat, k ≤ l.length ∧ gk = l.length - k ∧ x = .int .i64 k ∧ ∃ n, w' = w.drewN n)
  case atStart => exact ⟨0, by omega, by omega, rfl, 0, rfl⟩
  case round =>
    obtain ⟨k, hk, hgk, rfl, n, rfl⟩ := hrel
    rcases Nat.lt_or_ge k l.length with hlt | hge
    · have d0 : (0 : Int) ≤ (k : Int) := by omega
      have d1 : (k : Int) < (l.length : Int) := by omega
      have d2 : (k : Int) + 1 ≤ 17592186044416 := by omega
      have hk2 : l[k]? = some l[k] := List.getElem?_eq_getElem hlt
      rcases HA.out with ⟨_, h0⟩ | ⟨ga, c1, e1, hca⟩
      · rw [h0] at hlt; simp at hlt
      rcases HB.out with ⟨_, h0⟩ | ⟨gb, c2, e2, hcb⟩
      · rw [h0] at hlt; simp at hlt
      have x1 := hca k _ hk2
      have x2 := hcb k _ hk2
      cases e1
      cases e2
      generalize l[k] = c at *
      have hne : (c != c) = false := by simp
      clear hca hcb hk2
      go_wp2_with fail
      go_quiet (fail)
      go_wp2_with fail
      go_roundg (l.length - (k + 1))
      case measure => omega
      case rel => exact ⟨k + 1, by omega, rfl, by go_num, ⟨_, rfl⟩⟩
    · have d1 : ¬ (k : Int) < (l.length : Int) := by omega
      go_wp2_with fail
      go_ret
      exact ⟨rfl, n, rfl⟩
def clipN (us : List Int) : List Int := us.map (fun u => (pickN u 100 : Int))
set_option maxRecDepth 100000 in
set_option maxHeartbeats 1000000 in
theorem clipped_any (vu : Value) (us : List Int) (w : World) (hu : ArgInts w vu us) (hl : us.length ≤ 17592186043904) (hr : ∀ u ∈ us, -9223372036854775808 ≤ u ∧ u ≤ 9223372036854775807) :
    Calls Tryd.prog 24 #[vu] w fun e w' => Below w.heap.size w w' ∧ ∃ v, e = .returned v ∧ w'.ownsRow w.heap.size 3 1 v us.length ((clipN us).map (.int .i64)) := by
  obtain ⟨i0, hi0, hz0, hz1, hz2⟩ := info_parts intInfo
  have HU := hid hu
  obtain ⟨p0, c0, e0⟩ := hu.slice
  subst e0
  have HR := hid hr
  clear hu hr
  go_enter Tryd.func24, Tryd.ntmps24
  go_wp2_with fail
  go_loopg [3, 4] us.length (fun g l x w' => ∃ k : Nat, k ≤ us.length ∧ g = us.length - k ∧ x = .int .i64 k ∧ w'.ownsRow w.heap.size 3 1 l k ((clipN (us.take k)).map (.int .i64)) ∧ Below w.heap.size w w')
  case atStart => exact ⟨0, by omega, by omega, rfl, World.ownsRow_nil _ _ _ _, Below.refl _ _⟩
  case round =>
    obtain ⟨k, hk, hg, rfl, hown, hbel⟩ := hrel
    have hz := hbel.size
    have HB := hid hbel
    rcases Nat.lt_or_ge k us.length with hlt | hge
    · have d1 : (k : Int) < (us.length : Int) := by omega
      have d0 : (0 : Int) ≤ (k : Int) := by omega
      have d2 : (k : Int) + 1 ≤ 17592186044416 := by omega
      rcases (HU.out.keep hbel) with ⟨_, h0⟩ | ⟨a, cap, hv, hcell, _⟩
      · rw [h0] at hlt; simp at hlt
      cases hv
      have y0 := hcell k us[k] (List.getElem?_eq_getElem hlt)
      obtain ⟨m1, m2⟩ := HR.out us[k] (List.getElem_mem hlt)
      have hp := hid (pick_any us[k] 100 wr m1 m2 (by omega) (by omega))
      have HNX : Hid ((clipN (us.take (k + 1))).map (Value.int .i64) = (clipN (us.take k)).map (Value.int .i64) ++ [.int .i64 (pickN us[k] 100)]) := hid (by
        unfold clipN
        rw [List.take_succ_eq_append_getElem hlt, List.map_append, List.map_append]
        rfl)
      clear hcell hbel m1 m2
      generalize us[k] = u at *
      generalize (clipN (us.take k)).map (Value.int .i64) = R at *
      go_wp2_with fail
      refine hp.out.mono ?_
      clear hp
      intro e w5 hh
      obtain ⟨hx, hw⟩ := hh
      subst e
      subst w5
      generalize ((pickN u 100 : Nat) : Int) = qv at *
      go_wp2_with (at_builtin; go_must (refine wpList_append_lies _ (by rfl) _ _ _ (by rfl) w.heap.size 3 i0 _ 1 8 Tryd.underlying33 hi0 hz0 hz1 hz2 rfl (by omega) _ k R (by rfl) (hown.alloc _) ⟨wr.heap.size, 0, none⟩ 1 1 [.int .i64 qv] (by rfl) (by rfl) (World.news_of_block (cs := #[.int .i64 qv]) (t := 3) (fr := (0, 0)) (heap_alloc_new wr _)) (by simp [Value.oneCell']) (by omega) (by unfold maxLen; omega) (by omega) (by simp; omega) _ rfl ?_); intro gg gcap w6 hown6 hgrow6 hat6 hlt6)
      go_roundg (us.length - (k + 1))
      case measure => omega
      case rel =>
        refine ⟨k + 1, by omega, rfl, by go_num, ?_, ?_⟩
        · rw [HNX.out]
          exact hown6
        · exact (HB.out.alloc hz _).grown hgrow6 (by simp; omega) (fun j hj => (hown.lt j hj).1)
    · have d1 : ¬ (k : Int) < (us.length : Int) := by omega
      have hke : k = us.length := by omega
      have HO : Hid (wr.ownsRow w.heap.size 3 1 u3 us.length ((clipN us).map (.int .i64))) := hid (by
        rw [List.take_of_length_le (by omega), hke] at hown
        exact hown)
      clear hown hbel hke
      go_wp2_with fail
      go_ret
      exact ⟨HB.out, _, rfl, HO.out⟩
end Go.Proofs.YtdmdpindonghdaaDoor
namespace Go.Proofs.YtdmdpindonghdaaDoor
open Go.RowKit
theorem clip_fits (us : List Int) : (clipN us).all fitsB = true := by
  rw [List.all_eq_true]
  intro x hx
  obtain ⟨u, _, rfl⟩ := List.mem_map.1 hx
  have := pickN_lt u (n := 100) (by omega)
  unfold fitsB
  simp only [Bool.and_eq_true, decide_eq_true_eq]
  omega
theorem clip_len (us : List Int) : (clipN us).length = us.length := by simp [clipN]
theorem zsK_owns {w : World} {base : Nat} {v : Value} {o : List Int} (h : w.ownsRow base 3 1 v o.length (o.map (.int .i64))) : ZsAt w v o := by
  rcases h.2 with ⟨h1, h2⟩ | ⟨g, cap, cur, hv, hg, hh, h3, h4, h5, h6⟩
  · exact .inl ⟨h1, List.length_eq_zero_iff.1 h2⟩
  · refine .inr ⟨⟨g, 0, none⟩, cap, hv, fun j x hj => ?_⟩
    have hjl := (List.getElem?_eq_some_iff.1 hj).1
    rw [addr_add, cell_of_row w g j _ _ _ hh]
    rw [Nat.mul_one] at h6
    have : (cur.toList.take o.length)[j]? = (o.map (Value.int .i64))[j]? := by rw [h6]
    rw [List.getElem?_take, if_pos hjl, List.getElem?_map, hj, Array.getElem?_toList] at this
    exact this
theorem zsK_below {w w' : World} {v : Value} {zs : List Int} (h : ZsAt w v zs) (hb : Below w.heap.size w w') : ZsAt w' v zs := by
  rcases h with h | ⟨a, cap, hv, hc⟩
  · exact .inl h
  · exact .inr ⟨a, cap, hv, fun j x hj => (hb.cell (p := a.add j) (World.block_lt_of_cell? w _ (hc j x hj))).trans (hc j x hj)⟩
theorem argsK_owns {w : World} {base : Nat} {v : Value} {o : List Int} (h : w.ownsRow base 3 1 v o.length (o.map (.int .i64))) : ArgInts w v o := by
  rcases zsK_owns h with h1 | ⟨a, cap, hv, hc⟩
  · exact .inl h1
  · refine .inr ⟨a, cap, hv, hc, fun hp => ?_⟩
    have hx : o[0]? = some o[0] := List.getElem?_eq_getElem hp
    have := World.block_lt_of_cell? w _ (hc 0 _ hx)
    rw [addK_block] at this
    exact this
/-- The program's machine lies above B, and not where n2 ≤ k < N. -/
def PN (B n2 N : Nat) (W : World) (K : PK) (t : MS) : Prop := ∃ F, PX W K F t ∧ (∀ k, F k → B ≤ k ∧ (k < n2 ∨ N ≤ k)) ∧ B ≤ n2 ∧ n2 ≤ N ∧ N ≤ W.heap.size
def KeepN (n2 N : Nat) (w w' : World) : Prop := ∀ k, n2 ≤ k → k < N → w'.heap[k]? = w.heap[k]?
theorem PN.next {B n2 N : Nat} {w w' : World} {K : PK} {F : Nat → Prop} {t : MS} (hF : ∀ k, F k → B ≤ k ∧ (k < n2 ∨ N ≤ k)) (h1 : B ≤ n2) (h2 : n2 ≤ N) (h3 : N ≤ w.heap.size) (hp : PX w' K (Grown F w w') t) (ht : Touch F w w') : PN B n2 N w' K t ∧ KeepN n2 N w w' ∧ Below B w w' := by
  refine ⟨⟨_, hp, ?_, h1, h2, Nat.le_trans h3 ht.size⟩, fun k hk1 hk2 => ht.block k (by omega) (fun hf => by have := (hF k hf).2; omega), ht.sub (fun k hk => (hF k hk).1) (by omega)⟩
  rintro k (h | h)
  · exact hF k h
  · exact ⟨by omega, .inr (by omega)⟩
theorem pn_step {B n2 N : Nat} {w : World} {K : PK} {E : Env} {s : MS} (h : PN B n2 N w K s) (hke : KE K E) (he : EnvOk E) (hi : MInv E s) (hoc : s.oc = 0) (hz : E.zs.length ≤ 64) (hlen : s.out.length ≤ 8796093022208) :
    Calls Tryd.prog 50 #[.pointer (some ⟨K.b, 0, none⟩)] w fun e w' => e = .returned (.tuple #[.int .i64 (stepS E s).oc, .int .i64 0]) ∧ PN B n2 N w' K (stepS E s) ∧ KeepN n2 N w w' ∧ Below B w w' := by
  obtain ⟨F, h1, h2, h3, h4, h5⟩ := h
  refine (pstep_x h1 hke he hi hoc hz hlen).mono ?_
  rintro e w' ⟨a, b, c⟩
  exact ⟨a, PN.next h2 h3 h4 h5 b c⟩
theorem pn_coll {B n2 N : Nat} {w : World} {K : PK} {E : Env} {s : MS} (h : PN B n2 N w K s) (hke : KE K E) (he : EnvOk E) (hi : MInv E s) (n : Nat) (hn : n ≤ 1000) :
    Calls Tryd.prog 52 #[.pointer (some ⟨K.b, 0, none⟩), .int .i64 n] w fun e w' => e = .returned (.tuple #[.int .i64 (collS E n s).hs.2.1, .int .i64 0]) ∧ PN B n2 N w' K (collS E n s) ∧ KeepN n2 N w w' ∧ Below B w w' := by
  obtain ⟨F, h1, h2, h3, h4, h5⟩ := h
  refine (pcollect_x h1 hke he hi n hn).mono ?_
  rintro e w' ⟨a, b, c⟩
  exact ⟨a, PN.next h2 h3 h4 h5 (b.mono (fun _ h => .inl h)) c⟩
theorem PN.of {B : Nat} {w W : World} {K : PK} {s : MS} (h : PR B w K s) (hb : Below w.heap.size w W) : PN B w.heap.size W.heap.size W K s := by
  obtain ⟨F, h1, h2, h3⟩ := h
  exact ⟨_, h1.bound.below hb, fun k hk => ⟨h2 k hk.1, .inl hk.2⟩, h3, hb.size, Nat.le_refl _⟩
/-- Numbers in memory between n2 and N. -/
def ArgN (n2 N : Nat) (w : World) (v : Value) (zs : List Int) : Prop := ArgInts w v zs ∧ ∀ a n c, v = .slice (some a) n c → 0 < n → n2 ≤ a.block ∧ a.block < N
theorem ArgN.keep {n2 N : Nat} {w w' : World} {v : Value} {zs : List Int} (h : ArgN n2 N w v zs) (hk : KeepN n2 N w w') (hz : w.heap.size ≤ w'.heap.size) : ArgN n2 N w' v zs := by
  refine ⟨?_, h.2⟩
  rcases h.1 with h1 | ⟨a, cap, hv, hc, hl⟩
  · exact .inl h1
  · refine .inr ⟨a, cap, hv, fun j x hj => ?_, fun hp => Nat.lt_of_lt_of_le (hl hp) hz⟩
    have hz : 0 < zs.length := by have := (List.getElem?_eq_some_iff.1 hj).1; omega
    obtain ⟨g1, g2⟩ := h.2 a _ _ hv hz
    exact (World.cell?_of_block (a := a.add j) (by rw [addK_block]; exact hk _ g1 g2)).trans (hc j x hj)
theorem KeepN.trans {n2 N : Nat} {w w' w'' : World} (h : KeepN n2 N w w') (h' : KeepN n2 N w' w'') : KeepN n2 N w w'' := fun k a b => (h' k a b).trans (h k a b)
/-- What the loop of steps by hand comes to. -/
theorem run_done (E : Env) (us : List Int) (f k : Nat) (t : MS) (h : t.oc ≠ 0) : runS E us f k t = (k, t) := by
  cases f with
  | zero => rfl
  | succ f => simp only [runS, if_neg h]
end Go.Proofs.YtdmdpindonghdaaDoor
namespace Go.Proofs.YtdmdpindonghdaaDoor
open Go.RowKit
/-- What is met so far: which cells, in which order, whether every reference was sound. -/
structure Sn where
  ins : List Bool
  todo : List Nat
  sound : Bool
def meetS (v : Int) (S : Sn) : Sn :=
  if v = -1 then S else if v < 0 ∨ (S.ins.length : Int) ≤ v then { S with sound := false }
  else if S.ins.getD v.toNat false = false then { S with ins := S.ins.set v.toNat true, todo := S.todo ++ [v.toNat] } else S
def meetsS (rs : List Int) (S : Sn) : Sn := rs.foldl (fun S v => meetS v S) S
def lookS (cs : List Cl) (k : Nat) (S : Sn) : Sn := match cs[k]? with | none => S | some c => if c.weak = true then S else meetS c.b (meetS c.a S)
/-- What is always so while it goes on. -/
structure SnOk (n : Nat) (S : Sn) : Prop where
  len : S.ins.length = n
  cnt : S.todo.length = S.ins.countP (fun b => b)
  mem : ∀ k, S.ins[k]? = some true ↔ k ∈ S.todo
  sound : S.sound = true
theorem SnOk.todo_le {n : Nat} {S : Sn} (h : SnOk n S) : S.todo.length ≤ n := by
  rw [h.cnt, ← h.len]; exact List.countP_le_length
theorem SnOk.lt {n : Nat} {S : Sn} (h : SnOk n S) {k : Nat} (hk : k ∈ S.todo) : k < n := by
  have := (List.getElem?_eq_some_iff.1 ((h.mem k).2 hk)).1
  rw [h.len] at this
  exact this
theorem count_set : ∀ (l : List Bool) (k : Nat), l[k]? = some false → (l.set k true).countP (fun b => b) = l.countP (fun b => b) + 1
  | [], k, h => by simp at h
  | a :: r, 0, h => by
    simp only [List.getElem?_cons_zero, Option.some.injEq] at h
    subst h
    simp
  | a :: r, k + 1, h => by
    simp only [List.getElem?_cons_succ] at h
    simp only [List.set_cons_succ, List.countP_cons, count_set r k h]
    omega
theorem SnOk.meet {n : Nat} {S : Sn} (h : SnOk n S) (v : Int) (hv : -1 ≤ v ∧ v < (n : Int)) :
    SnOk n (meetS v S) ∧ (∀ k, k ∈ (meetS v S).todo ↔ k ∈ S.todo ∨ v = (k : Int)) ∧ ∃ e, (meetS v S).todo = S.todo ++ e := by
  unfold meetS
  by_cases h1 : v = -1
  · rw [if_pos h1]
    refine ⟨h, fun k => ⟨.inl, ?_⟩, [], by simp⟩
    rintro (h | h)
    · exact h
    · omega
  rw [if_neg h1, if_neg (by rw [h.len]; omega)]
  have hlt : v.toNat < S.ins.length := by rw [h.len]; omega
  by_cases hf : S.ins.getD v.toNat false = false
  · rw [if_pos hf]
    have hg : S.ins[v.toNat]? = some false := by
      rw [List.getD_eq_getElem?_getD, List.getElem?_eq_getElem hlt] at hf
      rw [List.getElem?_eq_getElem hlt]
      simpa using hf
    refine ⟨⟨by simp [h.len], ?_, ?_, h.sound⟩, ?_, [v.toNat], rfl⟩
    · rw [List.length_append, List.length_singleton, h.cnt]
      exact (count_set S.ins v.toNat hg).symm
    · intro k
      simp only [List.mem_append, List.mem_singleton]
      rw [List.getElem?_set]
      by_cases e : v.toNat = k
      · subst e; simp [hlt]
      · rw [if_neg e, h.mem k]
        constructor
        · exact .inl
        · rintro (h | h)
          · exact h
          · exact absurd h.symm e
    · intro k
      simp only [List.mem_append, List.mem_singleton]
      constructor
      · rintro (h | h)
        · exact .inl h
        · exact .inr (by omega)
      · rintro (h | h)
        · exact .inl h
        · exact .inr (by omega)
  · rw [if_neg hf]
    refine ⟨h, fun k => ⟨.inl, ?_⟩, [], by simp⟩
    rintro (hk | hk)
    · exact hk
    · refine (h.mem k).1 ?_
      have : v.toNat = k := by omega
      subst this
      rw [List.getElem?_eq_getElem hlt]
      rw [List.getD_eq_getElem?_getD, List.getElem?_eq_getElem hlt] at hf
      simpa using hf
/-- What is known once the first i of those to do are done. -/
structure SnInv (cs : List Cl) (rs : List Int) (i : Nat) (S : Sn) : Prop where
  ok : SnOk cs.length S
  rch : ∀ k ∈ S.todo, Rch cs rs k
  root : ∀ k : Nat, (k : Int) ∈ rs → k ∈ S.todo
  done : ∀ (j k : Nat) (c : Cl), j < i → S.todo[j]? = some k → cs[k]? = some c → c.weak = false → ∀ q : Nat, (c.a = (q : Int) ∨ c.b = (q : Int)) → q ∈ S.todo
theorem meets_ok {n : Nat} : ∀ (rs : List Int) (S : Sn), SnOk n S → (∀ r ∈ rs, -1 ≤ r ∧ r < (n : Int)) → SnOk n (meetsS rs S) ∧ ∀ k, k ∈ (meetsS rs S).todo ↔ k ∈ S.todo ∨ (k : Int) ∈ rs
  | [], S, h, _ => ⟨h, fun k => by simp [meetsS]⟩
  | r :: rs, S, h, hr => by
    obtain ⟨h1, h2, _⟩ := h.meet r (hr r (List.mem_cons_self))
    obtain ⟨h3, h4⟩ := meets_ok rs (meetS r S) h1 (fun x hx => hr x (List.mem_cons_of_mem _ hx))
    refine ⟨h3, fun k => ?_⟩
    show k ∈ (meetsS rs (meetS r S)).todo ↔ _
    rw [h4, h2, List.mem_cons]
    constructor
    · rintro ((h | h) | h)
      · exact .inl h
      · exact .inr (.inl h.symm)
      · exact .inr (.inr h)
    · rintro (h | h | h)
      · exact .inl (.inl h)
      · exact .inl (.inr h.symm)
      · exact .inr h
def startSn (n : Nat) : Sn := ⟨List.replicate n false, [], true⟩
theorem start_ok (n : Nat) : SnOk n (startSn n) := by
  refine ⟨by simp [startSn], ?_, ?_, rfl⟩
  · simp [startSn, List.countP_replicate]
  · intro k
    simp only [startSn, List.not_mem_nil, iff_false]
    intro h
    have := List.mem_of_getElem? h
    rw [List.mem_replicate] at this
    exact absurd this.2 (by simp)
theorem SnInv.start {cs : List Cl} {rs : List Int} (hr : ∀ r ∈ rs, -1 ≤ r ∧ r < (cs.length : Int)) : SnInv cs rs 0 (meetsS rs (startSn cs.length)) := by
  obtain ⟨h1, h2⟩ := meets_ok rs _ (start_ok cs.length) hr
  refine ⟨h1, ?_, fun k hk => (h2 k).2 (.inr hk), fun j k c hj => by omega⟩
  intro k hk
  rcases (h2 k).1 hk with h | h
  · simp [startSn] at h
  · exact .root k h
theorem SnInv.next {cs : List Cl} {rs : List Int} {i k : Nat} {S : Sn} (h : SnInv cs rs i S) (hrefs : ∀ c ∈ cs, -1 ≤ c.a ∧ c.a < (cs.length : Int) ∧ -1 ≤ c.b ∧ c.b < (cs.length : Int)) (hi : S.todo[i]? = some k) : SnInv cs rs (i + 1) (lookS cs k S) := by
  have hk := List.mem_of_getElem? hi
  have hkl := h.ok.lt hk
  have hc : cs[k]? = some cs[k] := List.getElem?_eq_getElem hkl
  unfold lookS
  rw [hc]
  simp only
  by_cases hw : cs[k].weak = true
  · rw [if_pos hw]
    refine ⟨h.ok, h.rch, h.root, ?_⟩
    intro j k' c hj hjk hck hcw q hq
    by_cases e : j = i
    · subst e
      obtain rfl := Option.some.inj (hi.symm.trans hjk)
      obtain rfl := Option.some.inj (hc.symm.trans hck)
      rw [hw] at hcw; cases hcw
    · exact h.done j k' c (by omega) hjk hck hcw q hq
  · rw [if_neg hw]
    have hw' : cs[k].weak = false := by simpa using hw
    obtain ⟨r1, r2, r3, r4⟩ := hrefs cs[k] (List.getElem_mem hkl)
    obtain ⟨a1, a2, e1, a3⟩ := h.ok.meet cs[k].a ⟨r1, r2⟩
    obtain ⟨b1, b2, e2, b3⟩ := a1.meet cs[k].b ⟨r3, r4⟩
    have hsub : ∀ q, q ∈ S.todo → q ∈ (meetS cs[k].b (meetS cs[k].a S)).todo := fun q hq => (b2 q).2 (.inl ((a2 q).2 (.inl hq)))
    refine ⟨b1, ?_, fun q hq => hsub q (h.root q hq), ?_⟩
    · intro q hq
      rcases (b2 q).1 hq with hq | hq
      · rcases (a2 q).1 hq with hq | hq
        · exact h.rch q hq
        · exact .ref k q cs[k] (h.rch k hk) hc hw' (.inl hq)
      · exact .ref k q cs[k] (h.rch k hk) hc hw' (.inr hq)
    · intro j k' c hj hjk hck hcw q hq
      have hil := (List.getElem?_eq_some_iff.1 hi).1
      have hjl : j < S.todo.length := by omega
      rw [b3, a3, List.append_assoc, List.getElem?_append_left hjl] at hjk
      by_cases e : j = i
      · subst e
        obtain rfl := Option.some.inj (hi.symm.trans hjk)
        obtain rfl := Option.some.inj (hc.symm.trans hck)
        rcases hq with hq | hq
        · exact (b2 q).2 (.inl ((a2 q).2 (.inr hq)))
        · exact (b2 q).2 (.inr hq)
      · exact hsub q (h.done j k' c (by omega) hjk hck hcw q hq)
/-- At the end just what can be reached has been met. -/
theorem SnInv.fin {cs : List Cl} {rs : List Int} {i : Nat} {S : Sn} (h : SnInv cs rs i S) (hi : S.todo.length ≤ i) (k : Nat) : S.ins[k]? = some true ↔ Rch cs rs k := by
  rw [h.ok.mem]
  constructor
  · exact h.rch k
  · intro hr
    induction hr using Rch.ind with
    | root k hk => exact h.root k hk
    | ref k q c _ hc hw hq ih =>
      obtain ⟨j, hj, e⟩ := List.mem_iff_getElem.1 ih
      exact h.done j k c (by omega) (by rw [List.getElem?_eq_getElem hj, e]) hc hw q hq
end Go.Proofs.YtdmdpindonghdaaDoor
namespace Go.Proofs.YtdmdpindonghdaaDoor
open Go.RowKit
/-- Where what is seen lies. -/
structure SK where
  b : Nat
  gc : Nat
  kc : Nat
  gi : Nat
  base : Nat
def SK.row (k : SK) (n : Nat) (vT : Value) (snd : Bool) : Array Value := #[.slice (some ⟨k.gc, 0, none⟩) n k.kc, .slice (some ⟨k.gi, 0, none⟩) n n, vT, .bool snd]
structure SeenAt (W : World) (k : SK) (n : Nat) (vT : Value) (S : Sn) : Prop where
  row : W.heap[k.b]? = some (.cells (k.row n vT S.sound) 73)
  ins : W.heap[k.gi]? = some (.cells (S.ins.map Value.bool).toArray 4)
  len : S.ins.length = n
  todo : W.ownsRow k.base 3 1 vT S.todo.length (S.todo.map (fun (j : Nat) => Value.int .i64 j))
  tb : vT.ownBlock ≠ some k.b
  ti : vT.ownBlock ≠ some k.gi
  ne : k.b ≠ k.gi
  bb : k.base ≤ k.b
  bi : k.base ≤ k.gi
/-- What may turn. -/
def SK.In (k : SK) (vT : Value) (j : Nat) : Prop := j = k.b ∨ j = k.gi ∨ vT.ownBlock = some j
def MeetPost (k : SK) (n : Nat) (vT : Value) (S : Sn) (w : World) (e : Ending) (w' : World) : Prop :=
  e = .returned (.tuple #[]) ∧ ∃ vT', SeenAt w' k n vT' S ∧ Touch (k.In vT) w w' ∧ ∀ j, vT'.ownBlock = some j → vT.ownBlock = some j ∨ w.heap.size ≤ j
set_option maxRecDepth 100000 in
set_option maxHeartbeats 1000000 in
theorem meet_none (k : SK) (n : Nat) (vT : Value) (S : Sn) (w : World) (h : SeenAt w k n vT S) :
    Calls Tryd.prog 60 #[.pointer (some ⟨k.b, 0, none⟩), .int .i64 (-1)] w (MeetPost k n vT S w) := by
  have HF : Hid (MeetPost k n vT S w (.returned (.tuple #[])) w) := hid ⟨rfl, vT, h, Touch.refl _ _, fun j hj => .inl hj⟩
  clear h
  go_enter Tryd.func60, Tryd.ntmps60
  go_wp2_with fail
  go_end0
  exact HF.out
theorem meet_fin {k : SK} {n v : Nat} {vT : Value} {S : Sn} {w w6 : World} {o : Obj} {gg gcap : Nat} (hh : SeenAt w k n vT S) (hiz : k.gi < w.heap.size) (hbz : k.b < w.heap.size)
    (hgrow : ((w.setCell ⟨k.gi, v, none⟩ (.bool true)).alloc o).grownBy w6 vT.ownBlock) (hown : w6.ownsRow k.base 3 1 (.slice (some ⟨gg, 0, none⟩) (S.todo.length + 1) gcap) (S.todo.length + 1) (S.todo.map (fun (j : Nat) => Value.int .i64 j) ++ [.int .i64 v])) (hat : vT.ownBlock = some gg ∨ gg = ((w.setCell ⟨k.gi, v, none⟩ (.bool true)).alloc o).heap.size) :
    MeetPost k n vT { S with ins := S.ins.set v true, todo := S.todo ++ [v] } w (.returned (.tuple #[])) (w6.setCell ⟨k.b, 2, none⟩ (.slice (some ⟨gg, 0, none⟩) (S.todo.length + 1) gcap)) := by
  have ho : Only k.gi w (w.setCell ⟨k.gi, v, none⟩ (.bool true)) := (Only.refl _ _).set _ _
  have hz1 : ((w.setCell ⟨k.gi, v, none⟩ (.bool true)).alloc o).heap.size = w.heap.size + 1 := by rw [alloc_size, ho.size]
  have hz6 := hgrow.size
  have ho7 : Only k.b w6 (w6.setCell ⟨k.b, 2, none⟩ (.slice (some ⟨gg, 0, none⟩) (S.todo.length + 1) gcap)) := (Only.refl _ _).set _ _
  have hblk : ∀ j, j < w.heap.size → vT.ownBlock ≠ some j → w6.heap[j]? = (w.setCell ⟨k.gi, v, none⟩ (.bool true)).heap[j]? := fun j hj hne => by
    rw [hgrow.block j (by omega) (fun e => hne e.symm)]
    exact heap_alloc_old _ _ (by rw [ho.size]; exact hj)
  have hr6 : w6.heap[k.b]? = some (.cells (k.row n vT S.sound) 73) := (hblk k.b hbz hh.tb).trans ((ho.block k.b hh.ne).trans hh.row)
  have hi6 : w6.heap[k.gi]? = _ := (hblk k.gi hiz hh.ti).trans (setCell_row v (.bool true) hh.ins)
  have hgb : gg ≠ k.b := fun e => by
    rcases hat with h | h
    · exact hh.tb (by rw [h, e])
    · omega
  have hgi : gg ≠ k.gi := fun e => by
    rcases hat with h | h
    · exact hh.ti (by rw [h, e])
    · omega
  refine ⟨rfl, .slice (some ⟨gg, 0, none⟩) (S.todo.length + 1) gcap, ⟨?_, ?_, ?_, ?_, ?_, ?_, hh.ne, hh.bb, hh.bi⟩, ?_, ?_⟩
  · have := setCell_row 2 (.slice (some ⟨gg, 0, none⟩) (S.todo.length + 1) gcap) hr6
    rw [this]
    simp [SK.row]
  · rw [ho7.block k.gi (Ne.symm hh.ne), hi6]
    simp [List.map_set]
  · simp [hh.len]
  · have h1 := owns_keep hown (w' := w6.setCell ⟨k.b, 2, none⟩ (.slice (some ⟨gg, 0, none⟩) (S.todo.length + 1) gcap)) (fun g hg => ho7.block g (by
      simp only [Value.ownBlock, Option.some.injEq] at hg
      rw [← hg]; exact hgb))
    simpa using h1
  · simp only [Value.ownBlock, ne_eq, Option.some.injEq]; exact hgb
  · simp only [Value.ownBlock, ne_eq, Option.some.injEq]; exact hgi
  · have t1 : Touch (k.In vT) w (w.setCell ⟨k.gi, v, none⟩ (.bool true)) := ⟨ho.os, ho.tape, ho.output, by rw [ho.size]; exact Nat.le_refl _, fun j _ hj => ho.block j (fun e => hj (.inr (.inl e)))⟩
    refine ⟨?_, ?_, ?_, ?_, ?_⟩
    · rw [ho7.os, hgrow.os]; exact ho.os
    · rw [ho7.tape, hgrow.tape]; exact ho.tape
    · rw [ho7.output, hgrow.output]; exact ho.output
    · rw [ho7.size]; omega
    · intro j hj hn
      rw [ho7.block j (fun e => hn (.inl e)), hblk j hj (fun e => hn (.inr (.inr e)))]
      exact t1.block j hj hn
  · intro j hj
    simp only [Value.ownBlock, Option.some.injEq] at hj
    subst hj
    rcases hat with h | h
    · exact .inl h
    · exact .inr (by omega)
set_option maxRecDepth 100000 in
set_option maxHeartbeats 1000000 in
theorem meet_new (k : SK) (n v : Nat) (vT : Value) (S : Sn) (w : World) (h : SeenAt w k n vT S) (hv : v < n) (hn : n ≤ 100) (ht : S.todo.length ≤ n) (hf : S.ins[v]? = some false) :
    Calls Tryd.prog 60 #[.pointer (some ⟨k.b, 0, none⟩), .int .i64 v] w (MeetPost k n vT { S with ins := S.ins.set v true, todo := S.todo ++ [v] } w) := by
  obtain ⟨pt, ct, et⟩ := owns_slice h.todo
  subst et
  have r0 := cell_of_row w k.b 0 _ _ _ h.row
  have r1 := cell_of_row w k.b 1 _ _ _ h.row
  have r2 := cell_of_row w k.b 2 _ _ _ h.row
  have f2 := frozen_of_row w k.b 2 _ _ h.row
  unfold SK.row at r0 r1 r2
  simp only [List.getElem?_toArray, List.getElem?_cons_zero, List.getElem?_cons_succ] at r0 r1 r2
  have i0 := cell_of_row w k.gi v _ _ _ h.ins
  rw [List.getElem?_toArray, List.getElem?_map, hf] at i0
  simp only [Option.map_some] at i0
  have fi := frozen_of_row w k.gi v _ _ h.ins
  have d0 : (0 : Int) ≤ (v : Int) := by omega
  have d1 : (v : Int) < (n : Int) := by omega
  have d2 : ¬ (v : Int) < 0 := by omega
  have d3 : ¬ (n : Int) ≤ (v : Int) := by omega
  have d4 : ((v : Int) == -1) = false := by simp
  have hne := h.ne
  have ho : Only k.gi w (w.setCell ⟨k.gi, v, none⟩ (.bool true)) := (Only.refl _ _).set _ _
  have hown : (w.setCell ⟨k.gi, v, none⟩ (.bool true)).ownsRow k.base 3 1 (.slice pt S.todo.length ct) S.todo.length (S.todo.map (fun (j : Nat) => Value.int .i64 j)) := owns_keep h.todo (fun g hg => ho.block g (fun e => h.ti (by rw [hg, e])))
  have hbz : k.b < w.heap.size := World.block_lt_of_cell? w _ r0
  have hiz : k.gi < w.heap.size := World.block_lt_of_cell? w _ i0
  have hbb := h.bb
  have hsz : (w.setCell ⟨k.gi, v, none⟩ (.bool true)).heap.size = w.heap.size := ho.size
  have hfar : some k.b ≠ (Value.slice pt S.todo.length ct).ownBlock := fun e => h.tb e.symm
  have rW : (w.setCell ⟨k.gi, v, none⟩ (.bool true)).heap[k.b]? = _ := (ho.block k.b hne).trans h.row
  have iW := setCell_row v (.bool true) h.ins
  have RW := hid rW
  have IW := hid iW
  have HOO := hid ho
  obtain ⟨i0', hi0, hz0, hz1, hz2⟩ := info_parts intInfo
  have HH := hid h
  clear h rW iW ho
  go_enter Tryd.func60, Tryd.ntmps60
  go_wp2_with (at_builtin; go_must (refine wpList_append_lies _ (by rfl) _ _ _ (by rfl) k.base 3 i0' _ 1 8 Tryd.underlying33 hi0 hz0 hz1 hz2 rfl (by omega) _ S.todo.length (S.todo.map (fun (j : Nat) => Value.int .i64 j)) (by rfl) (hown.alloc _) ⟨w.heap.size, 0, none⟩ 1 1 [.int .i64 v] (by rfl) (by rfl) (World.news_of_block (cs := #[.int .i64 v]) (t := 3) (fr := (0, 0)) (by rw [← hsz]; exact heap_alloc_new _ _)) (by simp [Value.oneCell']) (by omega) (by unfold maxLen; omega) (by omega) (by simp; omega) _ rfl ?_); intro gg gcap w6 hown6 hgrow6 hat6 hlt6; have s2 := (hgrow6.cell_far ⟨k.b, 2, none⟩ (by simp; omega) hfar); have s3 := (hgrow6.frozen_far ⟨k.b, 2, none⟩ (by simp; omega) hfar))
  have HFN := hid (meet_fin HH.out hiz hbz hgrow6 hown6 hat6)
  go_end0
  exact HFN.out
set_option maxRecDepth 100000 in
set_option maxHeartbeats 1000000 in
theorem meet_old (k : SK) (n v : Nat) (vT : Value) (S : Sn) (w : World) (h : SeenAt w k n vT S) (hv : v < n) (hf : S.ins[v]? = some true) :
    Calls Tryd.prog 60 #[.pointer (some ⟨k.b, 0, none⟩), .int .i64 v] w (MeetPost k n vT S w) := by
  have r0 := cell_of_row w k.b 0 _ _ _ h.row
  have r1 := cell_of_row w k.b 1 _ _ _ h.row
  unfold SK.row at r0 r1
  simp only [List.getElem?_toArray, List.getElem?_cons_zero, List.getElem?_cons_succ] at r0 r1
  have i0 := cell_of_row w k.gi v _ _ _ h.ins
  rw [List.getElem?_toArray, List.getElem?_map, hf] at i0
  simp only [Option.map_some] at i0
  have d0 : (0 : Int) ≤ (v : Int) := by omega
  have d1 : (v : Int) < (n : Int) := by omega
  have d2 : ¬ (v : Int) < 0 := by omega
  have d3 : ¬ (n : Int) ≤ (v : Int) := by omega
  have d4 : ((v : Int) == -1) = false := by simp
  have HF : Hid (MeetPost k n vT S w (.returned (.tuple #[])) w) := hid ⟨rfl, vT, h, Touch.refl _ _, fun j hj => .inl hj⟩
  clear h
  go_enter Tryd.func60, Tryd.ntmps60
  go_wp2_with fail
  go_end0
  exact HF.out
theorem meet_any (k : SK) (n : Nat) (v : Int) (vT : Value) (S : Sn) (w : World) (h : SeenAt w k n vT S) (hs : SnOk n S) (hn : n ≤ 100) (hv : -1 ≤ v ∧ v < (n : Int)) :
    Calls Tryd.prog 60 #[.pointer (some ⟨k.b, 0, none⟩), .int .i64 v] w (MeetPost k n vT (meetS v S) w) := by
  by_cases h1 : v = -1
  · subst h1
    have : meetS (-1) S = S := by unfold meetS; rw [if_pos rfl]
    rw [this]
    exact meet_none k n vT S w h
  obtain ⟨q, rfl⟩ : ∃ q : Nat, v = (q : Int) := ⟨v.toNat, by omega⟩
  have hq : q < S.ins.length := by rw [hs.len]; omega
  unfold meetS
  rw [if_neg h1, if_neg (by rw [hs.len]; omega), Int.toNat_natCast]
  cases hb : S.ins[q] with
  | false =>
    have hg : S.ins[q]? = some false := by rw [List.getElem?_eq_getElem hq, hb]
    rw [if_pos (by rw [List.getD_eq_getElem?_getD, hg]; rfl)]
    exact meet_new k n q vT S w h (by omega) hn hs.todo_le hg
  | true =>
    have hg : S.ins[q]? = some true := by rw [List.getElem?_eq_getElem hq, hb]
    rw [if_neg (by rw [List.getD_eq_getElem?_getD, hg]; simp)]
    exact meet_old k n q vT S w h (by omega) hg
end Go.Proofs.YtdmdpindonghdaaDoor
namespace Go.Proofs.YtdmdpindonghdaaDoor
open Go.RowKit
/-- What was seen has gone on from S to S'. -/
structure SeenTo (k : SK) (n : Nat) (vT : Value) (w : World) (vT' : Value) (S' : Sn) (w' : World) : Prop where
  at_ : SeenAt w' k n vT' S'
  touch : Touch (k.In vT) w w'
  own : ∀ j, vT'.ownBlock = some j → vT.ownBlock = some j ∨ w.heap.size ≤ j
theorem SeenTo.refl {k : SK} {n : Nat} {vT : Value} {S : Sn} {w : World} (h : SeenAt w k n vT S) : SeenTo k n vT w vT S w := ⟨h, Touch.refl _ _, fun _ h => .inl h⟩
theorem SeenTo.trans {k : SK} {n : Nat} {vT vT1 vT2 : Value} {S1 S2 : Sn} {w w1 w2 : World} (h : SeenTo k n vT w vT1 S1 w1) (h' : SeenTo k n vT1 w1 vT2 S2 w2) : SeenTo k n vT w vT2 S2 w2 := by
  refine ⟨h'.at_, h.touch.trans h'.touch (fun j hj hi => ?_), fun j hj => ?_⟩
  · rcases hi with hi | hi | hi
    · exact .inl hi
    · exact .inr (.inl hi)
    · rcases h.own j hi with e | e
      · exact .inr (.inr e)
      · omega
  · rcases h'.own j hj with e | e
    · exact h.own j e
    · exact .inr (Nat.le_trans h.touch.size e)
theorem SeenAt.below {k : SK} {n : Nat} {vT : Value} {S : Sn} {w w' : World} (h : SeenAt w k n vT S) (hb : Below w.heap.size w w') : SeenAt w' k n vT S :=
  ⟨(hb.block k.b (Array.getElem?_eq_some_iff.1 h.row).1).trans h.row, (hb.block k.gi (Array.getElem?_eq_some_iff.1 h.ins).1).trans h.ins, h.len, owns_keep h.todo (fun g hg => hb.block g (h.todo.lt g hg).2), h.tb, h.ti, h.ne, h.bb, h.bi⟩
theorem SeenTo.below {k : SK} {n : Nat} {vT vT' : Value} {S' : Sn} {w w' w'' : World} (h : SeenTo k n vT w vT' S' w') (hb : Below w'.heap.size w' w'') : SeenTo k n vT w vT' S' w'' :=
  ⟨h.at_.below hb, h.touch.trans (Touch.below (F := k.In vT) hb) (fun _ _ h => h), h.own⟩
/-- A block that what is seen leaves alone. -/
def SK.Off (k : SK) (vT : Value) (w : World) (g : Nat) : Prop := g < w.heap.size ∧ ¬ k.In vT g
theorem LsAt.off {k : SK} {n : Nat} {vT vT' : Value} {S' : Sn} {w w' : World} {v : Value} {m : Nat} {cs : List Value} (h : LsAt w (k.Off vT w) v m cs) (ht : SeenTo k n vT w vT' S' w') : LsAt w' (k.Off vT w) v m cs := by
  rcases h with h | ⟨g, cap, hv, hp, hc⟩
  · exact .inl h
  · exact .inr ⟨g, cap, hv, hp, fun j u hj => (World.cell?_of_block (a := ⟨g, j, none⟩) (ht.touch.block g hp.1 hp.2)).trans (hc j u hj)⟩
theorem rootsC_take {Q : List (Nat × Int)} {j : Nat} (h : j < Q.length) : rootsC (Q.take (j + 1)) = rootsC (Q.take j) ++ (if Q[j].1 = 1 then [Q[j].2] else []) := rootsC_next h
theorem meetsS_snoc (rs : List Int) (v : Int) (S : Sn) : meetsS (rs ++ [v]) S = meetS v (meetsS rs S) := by unfold meetsS; rw [List.foldl_append]; rfl
set_option maxRecDepth 100000 in
set_option maxHeartbeats 1000000 in
theorem meets_any (k : SK) (n : Nat) (vQ vT : Value) (Q : List (Nat × Int)) (S : Sn) (w : World) (h : SeenAt w k n vT S) (hs : SnOk n S) (hn : n ≤ 100) (hQ : LsAt w (k.Off vT w) vQ Q.length (Q.flatMap slCells)) (hql : Q.length ≤ 100) (hr : ∀ r ∈ rootsC Q, -1 ≤ r ∧ r < (n : Int)) :
    Calls Tryd.prog 59 #[.pointer (some ⟨k.b, 0, none⟩), vQ] w fun e w' => e = .returned (.tuple #[]) ∧ ∃ vT', SeenTo k n vT w vT' (meetsS (rootsC Q) S) w' := by
  obtain ⟨pq, cq, eq⟩ := hQ.slice
  subst eq
  have HQ := hid hQ
  have HH := hid h
  have HS := hid hs
  have HR := hid hr
  clear h hQ hs hr
  go_enter Tryd.func59, Tryd.ntmps59
  go_wp2_with fail
  go_loopg [4] Q.length (fun gk x w' => ∃ j : Nat, j ≤ Q.length ∧ gk = Q.length - j ∧ x = .int .i64 j ∧ ∃ vT', SeenTo k n vT w vT' (meetsS (rootsC (Q.take j)) S) w' ∧ SnOk n (meetsS (rootsC (Q.take j)) S))
  case atStart => exact ⟨0, by omega, by omega, rfl, vT, SeenTo.refl HH.out, HS.out⟩
  case round =>
    obtain ⟨j, hj, hgk, rfl, vT1, hT, hok⟩ := hrel
    rcases Nat.lt_or_ge j Q.length with hlt | hge
    · have d0 : (0 : Int) ≤ (j : Int) := by omega
      have d1 : (j : Int) < (Q.length : Int) := by omega
      obtain ⟨g, cap, eg, hgs, hc⟩ := (HQ.out.off hT).some (by omega)
      cases eg
      have y0 := hc _ _ (flat_at slCells 2 (fun _ => rfl) Q j 0 hlt (by omega))
      have y1 := hc _ _ (flat_at slCells 2 (fun _ => rfl) Q j 1 hlt (by omega))
      rw [Nat.add_zero] at y0
      have HNX := hid (rootsC_take hlt)
      have hrv : Q[j].1 = 1 → -1 ≤ Q[j].2 ∧ Q[j].2 < (n : Int) := fun e => HR.out _ (by
        unfold rootsC
        exact List.mem_map.2 ⟨Q[j], List.mem_filter.2 ⟨List.getElem_mem hlt, by simp [e]⟩, rfl⟩)
      have hme := hid (fun (e : Q[j].1 = 1) => meet_any k n Q[j].2 vT1 _ wr hT.at_ hok hn (hrv e))
      have HME2 := hid (fun (e : Q[j].1 = 1) => (hok.meet Q[j].2 (hrv e)).1)
      have HT := hid hT
      have HOK := hid hok
      clear hc hT hok hrv
      generalize Q[j] = q at *
      obtain ⟨qt, qv⟩ := q
      simp only at y0 y1
      by_cases hq : qt = 1
      · subst hq
        have hm1 := hid (hme.out rfl)
        have HO2 := hid (HME2.out rfl)
        clear hme HME2
        go_wp2_with fail
        refine hm1.out.mono ?_
        clear hm1
        intro e w5 hh
        obtain ⟨hx, vT2, a1, a2, a3⟩ := hh
        subst e
        have HT2 := hid (HT.out.trans ⟨a1, a2, a3⟩)
        clear a1 a2 a3 y0 y1
        go_wp2_with fail
        go_roundg (Q.length - (j + 1))
        case measure => omega
        case rel =>
          refine ⟨j + 1, by omega, rfl, by go_num, vT2, ?_, ?_⟩
          · rw [HNX.out, if_pos trivial, meetsS_snoc]; exact HT2.out
          · rw [HNX.out, if_pos trivial, meetsS_snoc]; exact HO2.out
      · have hq1 : ((qt : Int) == 1) = false := by simp; omega
        clear hme HME2
        go_wp2_with fail
        go_roundg (Q.length - (j + 1))
        case measure => omega
        case rel =>
          refine ⟨j + 1, by omega, rfl, by go_num, vT1, ?_, ?_⟩
          · rw [HNX.out, if_neg hq, List.append_nil]; exact HT.out
          · rw [HNX.out, if_neg hq, List.append_nil]; exact HOK.out
    · have d1 : ¬ (j : Int) < (Q.length : Int) := by omega
      rw [List.take_of_length_le (by omega)] at hT
      have HT := hid hT
      clear hT hok
      go_wp2_with fail
      go_end0
      exact ⟨rfl, vT1, HT.out⟩
theorem boolInfo : (Tryd.prog.info? 4).map (fun i => (i.zero, i.size, i.bytes)) = some (some (.bool false), 1, 1) := by kernel_rfl
theorem make_bools (n : Nat) (h : n ≤ 100) (w : World) : Sem.run Tryd.prog (Instr.makeSlice 71 (.int .i64 (n : Int)) (.int .i64 (n : Int))) w = .ok (.slice (some ⟨w.heap.size, 0, none⟩) n n) (w.alloc (.cells (Array.replicate n (Value.bool false)) 4)) := by
  obtain ⟨i0, hi, hz0, hz1, hz2⟩ := info_parts boolInfo
  have := run_make (P := Tryd.prog) w 71 4 i0 _ Tryd.underlying71 hi hz0 .i64 .i64 (n : Int) (n : Int) (by omega) (by omega) (by rw [hz2]; omega) (by omega)
  rw [this, hz1, show Value.cells (.bool false) = #[.bool false] from rfl, Int.toNat_natCast, Nat.mul_one]
  rw [show madeCells #[Value.bool false] n = Array.replicate n (Value.bool false) from Array.toList_inj.1 (by rw [toList_madeCells_one]; simp)]
/-- What seen leaves. -/
structure Saw (cs : List Cl) (rs : List Int) (k : SK) (vT : Value) (S : Sn) (w w' : World) : Prop where
  at_ : SeenAt w' k cs.length vT S
  below : Below w.heap.size w w'
  base : k.base = w.heap.size
  ok : SnOk cs.length S
  ins : ∀ j, S.ins[j]? = some true ↔ Rch cs rs j
  cells : LsAt w' (fun g => w.heap.size ≤ g ∧ g < w'.heap.size) (.slice (some ⟨k.gc, 0, none⟩) cs.length k.kc) cs.length (cs.flatMap clCells)
set_option maxRecDepth 100000 in
set_option maxHeartbeats 2000000 in
theorem seen_any {w : World} {K : PK} {E : Env} {F : Nat → Prop} {s : MS} (h : PX w K F s) (hke : KE K E) (he : EnvOk E) (hi : MInv E s) :
    Calls Tryd.prog 31 #[.pointer (some ⟨K.b, 0, none⟩)] w fun e w' => ∃ k vT S, e = .returned (.pointer (some ⟨k.b, 0, none⟩)) ∧ Saw (s.hs.1.map toldC) (rootsS E s) k vT S w w' := by
  have hn := hi.n
  have hn1 := he.n1
  have hn2 := he.n32
  have hhp := hid (show Calls Tryd.prog 58 #[.pointer (some ⟨K.b, 0, none⟩)] w (HeapPost (s.hs.1.map toldC) w) from by
    obtain ⟨vI, vO, lo4, st8, hm, _⟩ := h
    exact pheap_any hm (by omega))
  have hst := hid (fun (W : World) (hb : Below w.heap.size w W) => px_state (h.below hb) hke he hi)
  clear h
  go_enter Tryd.func31, Tryd.ntmps31
  go_wp2_with fail
  refine hhp.out.mono ?_
  clear hhp
  intro e w1 hh
  obtain ⟨hb1, vh, hx, oh⟩ := hh
  subst e
  have hcl : (s.hs.1.map toldC).length = E.n := by rw [List.length_map]; exact hn
  obtain ⟨gc, kc, ec⟩ : ∃ gc kc, vh = .slice (some ⟨gc, 0, none⟩) (s.hs.1.map toldC).length kc := by
    rcases oh.2 with ⟨_, h2⟩ | ⟨g, cap, cur, h1, _⟩
    · omega
    · exact ⟨g, cap, h1⟩
  subst ec
  have hs1 := hid (hst.out w1 hb1)
  have HB1 := hid hb1
  have OH := hid oh
  have HGC := hid (oh.lt gc rfl).1
  clear hst hb1 oh
  go_wp2_with fail
  refine hs1.out.mono ?_
  clear hs1
  intro e w2 hh
  obtain ⟨pl, hb2, v1, v2, hx, o1, o2, _⟩ := hh
  subst e
  obtain ⟨q1, k1, e1⟩ := owns_slice o1
  obtain ⟨q2, k2, e2⟩ := owns_slice o2
  subst e1
  subst e2
  have hmk := fun (W : World) => make_bools E.n (by omega) W
  obtain ⟨cs, hcs⟩ : ∃ cs, cs = s.hs.1.map toldC := ⟨_, rfl⟩
  have hrs : ∀ r ∈ rootsS E s, -1 ≤ r ∧ r < (E.n : Int) := hi.roots he
  have hrf : ∀ c ∈ cs, -1 ≤ c.a ∧ c.a < (cs.length : Int) ∧ -1 ≤ c.b ∧ c.b < (cs.length : Int) := by
    intro c hc
    rw [hcs] at hc ⊢
    obtain ⟨d, hd, rfl⟩ := List.mem_map.1 hc
    have a1 := hi.hok.refs d hd
    have a2 := hi.hx.cell d hd
    rw [List.length_map]
    exact ⟨a2.lowA, a1.1, a2.lowB, a1.2⟩
  have hl1 : (locsS E s).length ≤ 100 := by
    have := hi.lo he
    have := he.wf.loc
    unfold locsS slotsC; rw [List.length_zipWith]; omega
  have hl2 : (stkS E s).length ≤ 100 := by
    have := hi.st he
    unfold stkS slotsC; rw [List.length_zipWith]; omega
  have hrE : rootsS E s = rootsC (locsS E s) ++ rootsC (stkS E s) := by unfold rootsS; exact rootsC_append _ _
  rw [← hcs] at OH hcl
  have HCS := hid hcs
  generalize locsS E s = Q1 at *
  generalize stkS E s = Q2 at *
  obtain ⟨rs, hrs0⟩ : ∃ rs, rs = rootsS E s := ⟨_, rfl⟩
  rw [← hrs0] at hrs hrE
  have HRS0 := hid hrs0
  clear hrs0
  obtain ⟨oS, hoS⟩ : ∃ oS : Obj, oS = .cells #[.int .i64 s.oc, .int .i64 s.va, .int .i64 pl, .int .i64 s.hs.2.1, .int .i64 s.hs.2.2, .slice q1 Q1.length k1, .slice q2 Q2.length k2] 61 := ⟨_, rfl⟩
  obtain ⟨oI, hoI⟩ : ∃ oI : Obj, oI = .cells (Array.replicate E.n (Value.bool false)) 4 := ⟨_, rfl⟩
  obtain ⟨oR, hoR⟩ : ∃ oR : Obj, oR = .cells #[.slice (some ⟨gc, 0, none⟩) E.n kc, .slice (some ⟨w2.heap.size + 1, 0, none⟩) E.n E.n, .slice none 0 0, .bool true] 73 := ⟨_, rfl⟩
  obtain ⟨k, hk⟩ : ∃ k : SK, k = ⟨w2.heap.size + 1 + 1, gc, kc, w2.heap.size + 1, w.heap.size⟩ := ⟨_, rfl⟩
  have hb3 : Below w2.heap.size w2 (((w2.alloc oS).alloc oI).alloc oR) := (((Below.refl _ _).alloc (Nat.le_refl _) _).alloc (by simp) _).alloc (by simp; omega) _
  have hz3 : (((w2.alloc oS).alloc oI).alloc oR).heap.size = w2.heap.size + 3 := by simp
  have hz12 := hb2.size
  have hz01 := HB1.out.size
  have hA0 : SeenAt (((w2.alloc oS).alloc oI).alloc oR) k E.n (.slice none 0 0) (startSn E.n) := by
    subst hk
    refine ⟨?_, ?_, by simp [startSn], ⟨rfl, .inl ⟨rfl, rfl⟩⟩, by simp [Value.ownBlock], by simp [Value.ownBlock], by simp, by simp only; omega, by simp only; omega⟩
    · rw [hoR]; exact heap_three_third w2 oS oI _
    · have h1 : (((w2.alloc oS).alloc oI).alloc oR).heap[w2.heap.size + 1]? = some oI := by
        have := heap_alloc_new (w2.alloc oS) oI
        rw [alloc_size] at this
        rw [heap_alloc_old _ _ (by simp)]
        exact this
      rw [h1, hoI]
      simp [startSn]
  have hoff : ∀ g, g < w2.heap.size + 1 → k.Off (.slice none 0 0) (((w2.alloc oS).alloc oI).alloc oR) g := fun g hg => by
    subst hk
    refine ⟨by omega, ?_⟩
    rintro (h | h | h)
    · simp only at h; omega
    · simp only at h; omega
    · cases h
  have L1 : LsAt (((w2.alloc oS).alloc oI).alloc oR) (k.Off (.slice none 0 0) (((w2.alloc oS).alloc oI).alloc oR)) (.slice q1 Q1.length k1) Q1.length (Q1.flatMap slCells) := by
    rcases LsAt.of_owns o1 with h | ⟨g, cap, hv, hp, hc⟩
    · exact .inl h
    · exact .inr ⟨g, cap, hv, hoff g (by omega), fun j u hj => (hb3.cell (p := ⟨g, j, none⟩) hp.2).trans (hc j u hj)⟩
  have L2 : LsAt (((w2.alloc oS).alloc oI).alloc oR) (k.Off (.slice none 0 0) (((w2.alloc oS).alloc oI).alloc oR)) (.slice q2 Q2.length k2) Q2.length (Q2.flatMap slCells) := by
    rcases LsAt.of_owns o2 with h | ⟨g, cap, hv, hp, hc⟩
    · exact .inl h
    · exact .inr ⟨g, cap, hv, hoff g (by omega), fun j u hj => (hb3.cell (p := ⟨g, j, none⟩) hp.2).trans (hc j u hj)⟩
  have LC : LsAt (((w2.alloc oS).alloc oI).alloc oR) (k.Off (.slice none 0 0) (((w2.alloc oS).alloc oI).alloc oR)) (.slice (some ⟨gc, 0, none⟩) cs.length kc) cs.length (cs.flatMap clCells) := by
    have h13 : Below w1.heap.size w1 (((w2.alloc oS).alloc oI).alloc oR) := hb2.trans (hb3.mono hb2.size)
    rcases LsAt.of_owns OH.out with h | ⟨g, cap, hv, hp, hc⟩
    · exact .inl h
    · exact .inr ⟨g, cap, hv, hoff g (by omega), fun j u hj => (h13.cell (p := ⟨g, j, none⟩) hp.2).trans (hc j u hj)⟩
  have rS3 : (((w2.alloc oS).alloc oI).alloc oR).heap[w2.heap.size]? = some oS := heap_three_first w2 oS oI oR
  have hm1 := hid (meets_any k E.n _ _ Q1 _ _ hA0 (start_ok E.n) (by omega) L1 hl1 (fun r hr => hrs r (by rw [hrE]; exact List.mem_append_left _ hr)))
  have HL2 := hid L2
  have HLC := hid LC
  have HRS := hid rS3
  have HOFS := hid (hoff w2.heap.size (by omega))
  have HB3 := hid ((HB1.out.trans (hb2.mono hz01)).trans (hb3.mono (by omega)))
  have HOK1 := hid (meets_ok (n := E.n) (rootsC Q1) _ (start_ok E.n) (fun r hr => hrs r (by rw [hrE]; exact List.mem_append_left _ hr))).1
  have HA0 := hid hA0
  have HKB : Hid (k.base = w.heap.size ∧ k.gc = gc ∧ k.kc = kc ∧ k.b = w2.heap.size + 1 + 1) := hid (by subst hk; exact ⟨rfl, rfl, rfl, rfl⟩)
  clear hA0 L1 L2 LC rS3 hoff hb2 hb3 o1 o2 OH HB1 hcs
  have hkb := HKB.out.2.2.2
  rw [hoS, hoI, hoR] at hm1
  rw [hkb] at hm1
  go_wp2_with fail
  refine hm1.out.mono ?_
  clear hm1
  rw [← hoS, ← hoI, ← hoR]
  intro e w4 hh
  obtain ⟨hx, vT4, hT4⟩ := hh
  subst e
  generalize (((w2.alloc oS).alloc oI).alloc oR) = W3 at *
  have hz4 := hT4.touch.size
  have rS4 := (hT4.touch.block w2.heap.size HOFS.out.1 HOFS.out.2).trans HRS.out
  rw [hoS] at rS4
  have c6 := cell_of_row w4 w2.heap.size 6 _ _ _ rS4
  simp only [List.getElem?_toArray, List.getElem?_cons_zero, List.getElem?_cons_succ] at c6
  have hL2 : LsAt w4 (k.Off vT4 w4) (.slice q2 Q2.length k2) Q2.length (Q2.flatMap slCells) := by
    rcases HL2.out.off hT4 with h | ⟨g, cap, hv, hp, hc⟩
    · exact .inl h
    · refine .inr ⟨g, cap, hv, ⟨Nat.lt_of_lt_of_le hp.1 hz4, ?_⟩, hc⟩
      rintro (h | h | h)
      · exact hp.2 (.inl h)
      · exact hp.2 (.inr (.inl h))
      · rcases hT4.own g h with e | e
        · exact hp.2 (.inr (.inr e))
        · have := hp.1; omega
  have hm2 := hid (meets_any k E.n _ vT4 Q2 _ w4 hT4.at_ HOK1.out (by omega) hL2 hl2 (fun r hr => hrs r (by rw [hrE]; exact List.mem_append_right _ hr)))
  have HT4 := hid hT4
  rw [hkb] at hm2
  clear hT4 rS4 hL2 HL2
  go_wp2_with fail
  refine hm2.out.mono ?_
  clear hm2
  intro e w5 hh
  obtain ⟨hx, vT5, hT5⟩ := hh
  subst e
  have hT5' := HT4.out.trans hT5
  have hms : meetsS (rootsC Q2) (meetsS (rootsC Q1) (startSn E.n)) = meetsS rs (startSn cs.length) := by
    rw [hrE, hcl]
    unfold meetsS
    rw [List.foldl_append]
  rw [hms] at hT5'
  have HT5 := hid hT5'
  have HIN0 := hid (SnInv.start (cs := cs) (rs := rs) (fun r hr => by rw [hcl]; exact hrs r hr))
  clear hT5 hT5' hms HT4 c6 HOK1 HOFS HRS hz4
  have hclE : cs.length = E.n := hcl
  go_wp2_with fail
  go_loopg [6] cs.length (fun gk x w' => ∃ (i : Nat) (S : Sn) (vT : Value), i ≤ S.todo.length ∧ gk = cs.length - i ∧ x = .int .i64 i ∧ SeenTo k E.n (.slice none 0 0) W3 vT S w' ∧ SnInv cs rs i S)
  case atStart => exact ⟨0, _, vT5, by omega, by omega, rfl, HT5.out, HIN0.out⟩
  case round =>
    obtain ⟨i, S, vT, hi', hgk, rfl, hT, hI⟩ := hrel
    obtain ⟨pt, ct, et⟩ := owns_slice hT.at_.todo
    subst et
    have r2 := cell_of_row wr k.b 2 _ _ _ hT.at_.row
    unfold SK.row at r2
    simp only [List.getElem?_toArray, List.getElem?_cons_zero, List.getElem?_cons_succ] at r2
    rw [hkb] at r2
    have htl := hI.ok.todo_le
    rcases Nat.lt_or_ge i S.todo.length with hlt | hge
    · have d0 : (0 : Int) ≤ (i : Int) := by omega
      have d1 : (i : Int) < (S.todo.length : Int) := by omega
      obtain ⟨q, hq⟩ : ∃ q, S.todo[i]? = some q := ⟨_, List.getElem?_eq_getElem hlt⟩
      have hql := hI.ok.lt (List.mem_of_getElem? hq)
      obtain ⟨gt, et⟩ : ∃ gt, pt = some ⟨gt, 0, none⟩ := by
        rcases hT.at_.todo.2 with ⟨_, h2⟩ | ⟨g, cap, cur, h1, _⟩
        · omega
        · cases h1; exact ⟨g, rfl⟩
      subst et
      have t0 := hT.at_.todo.cells (g := gt) rfl i (.int .i64 q) (by rw [List.getElem?_map, hq]; rfl)
      rw [addr_add] at t0
      have e0 : (0 : Int) ≤ (q : Int) := by omega
      have e1' : (q : Int) < (E.n : Int) := by omega
      obtain ⟨g, cap, eg, hgs, hc⟩ := (HLC.out.off hT).some (by omega)
      cases eg
      have x0 := hc _ _ (flat_at clCells 5 (fun _ => rfl) cs q 0 hql (by omega))
      have x1 := hc _ _ (flat_at clCells 5 (fun _ => rfl) cs q 1 hql (by omega))
      have x2 := hc _ _ (flat_at clCells 5 (fun _ => rfl) cs q 2 hql (by omega))
      have x3 := hc _ _ (flat_at clCells 5 (fun _ => rfl) cs q 3 hql (by omega))
      have x4 := hc _ _ (flat_at clCells 5 (fun _ => rfl) cs q 4 hql (by omega))
      rw [Nat.add_zero] at x0
      have hnext := hI.next hrf hq
      have hrq := hrf cs[q] (List.getElem_mem hql)
      have hlk : lookS cs q S = if cs[q].weak = true then S else meetS cs[q].b (meetS cs[q].a S) := by
        unfold lookS; rw [List.getElem?_eq_getElem hql]
      rw [hlk] at hnext
      have HNEXT := hid hnext
      have HTT := hid hT
      have HII := hid hI
      clear hc hnext hlk hT hI hq
      generalize cs[q] = c at *
      obtain ⟨co, wk, ra, rb, nn⟩ := c
      simp only at x0 x1 x2 x3 x4
      simp only at hrq
      obtain ⟨oC, hoC⟩ : ∃ oC : Obj, oC = .cells #[.int .i64 co, .bool wk, .int .i64 ra, .int .i64 rb, .int .i64 nn] 77 := ⟨_, rfl⟩
      have hbC : Below wr.heap.size wr (wr.alloc oC) := (Below.refl _ _).alloc (Nat.le_refl _) _
      have hTC := HTT.out.below hbC
      have rC := heap_alloc_new wr oC
      cases wk
      · have hok1 : SnOk E.n S := by rw [← hclE]; exact HII.out.ok
        have hm1 := hid (meet_any k E.n ra _ S _ hTC.at_ hok1 (by omega) (by rw [← hclE]; exact ⟨hrq.1, hrq.2.1⟩))
        have HOK2 := hid (hok1.meet ra (by rw [← hclE]; exact ⟨hrq.1, hrq.2.1⟩)).1
        have HTC := hid hTC
        have hcr : ¬ k.In (.slice (some ⟨gt, 0, none⟩) S.todo.length ct) wr.heap.size := by
          have hat := HTT.out.at_
          rintro (h | h | h)
          · have := (Array.getElem?_eq_some_iff.1 hat.row).1; omega
          · have := (Array.getElem?_eq_some_iff.1 hat.ins).1; omega
          · have := (hat.todo.lt _ h).2; omega
        have HCR := hid hcr
        have HRC := hid rC
        have hzC : (wr.alloc oC).heap.size = wr.heap.size + 1 := by simp
        rw [hkb] at hm1
        clear hTC rC hbC hcr hok1
        rw [hoC] at hm1
        have b1 := cell_of_row _ wr.heap.size 1 _ _ _ (show (wr.alloc oC).heap[wr.heap.size]? = _ from by rw [HRC.out, hoC])
        go_wp2_with fail
        refine hm1.out.mono ?_
        clear hm1 b1
        rw [← hoC]
        intro e w6 hh
        obtain ⟨hx, vT6, a1, a2, a3⟩ := hh
        subst e
        have hT6 : SeenTo k E.n (.slice none 0 0) W3 vT6 _ w6 := HTC.out.trans ⟨a1, a2, a3⟩
        have rC6 := (a2.block wr.heap.size (by omega) HCR.out).trans HRC.out
        rw [hoC] at rC6
        have b3 := cell_of_row w6 wr.heap.size 3 _ _ _ rC6
        simp only [List.getElem?_toArray, List.getElem?_cons_zero, List.getElem?_cons_succ] at b3
        have hm2 := hid (meet_any k E.n rb _ _ w6 a1 HOK2.out (by omega) (by rw [← hclE]; exact ⟨hrq.2.2.1, hrq.2.2.2⟩))
        have HT6 := hid hT6
        rw [hkb] at hm2
        clear a1 a2 a3 hT6 rC6 HTC HCR HRC
        go_wp2_with fail
        refine hm2.out.mono ?_
        clear hm2
        intro e w7 hh
        obtain ⟨hx, vT7, a1, a2, a3⟩ := hh
        subst e
        have HT7 := hid (HT6.out.trans ⟨a1, a2, a3⟩)
        clear a1 a2 a3 b3 HT6
        go_wp2_with fail
        go_roundg (cs.length - (i + 1))
        case measure => omega
        case rel =>
          have hn2 := HNEXT.out
          rw [if_neg (by simp)] at hn2
          refine ⟨i + 1, _, vT7, ?_, rfl, by go_num, HT7.out, hn2⟩
          have hok := HII.out.ok
          obtain ⟨p1, _, e1, p2⟩ := hok.meet ra ⟨hrq.1, hrq.2.1⟩
          obtain ⟨_, _, e2, p3⟩ := p1.meet rb ⟨hrq.2.2.1, hrq.2.2.2⟩
          rw [p3, p2]
          simp only [List.length_append]
          omega
      · have HTC := hid hTC
        rw [hoC] at HTC
        clear hTC rC hbC hoC
        simp only at HNEXT
        go_wp2_with fail
        go_roundg (cs.length - (i + 1))
        case measure => omega
        case rel =>
          have hn2 := HNEXT.out
          rw [if_pos trivial] at hn2
          exact ⟨i + 1, S, _, by omega, rfl, by go_num, HTC.out, hn2⟩
    · have d1 : ¬ (i : Int) < (S.todo.length : Int) := by omega
      have hfin := hI.fin hge
      have HSAW : Hid (∃ k vT S, Ending.returned (Value.pointer (some ⟨w2.heap.size + 1 + 1, 0, none⟩)) = .returned (.pointer (some ⟨k.b, 0, none⟩)) ∧ Saw cs rs k vT S w wr) := hid (by
        have hb3w : Below w.heap.size w wr := HB3.out.trans (hT.touch.sub (B := w.heap.size) (fun j hj => by
          rcases hj with h | h | h
          · have := HA0.out.bb; have := HKB.out.1; omega
          · have := HA0.out.bi; have := HKB.out.1; omega
          · cases h) HB3.out.size)
        refine ⟨k, _, S, by rw [hkb], ⟨by rw [hclE]; exact hT.at_, hb3w, HKB.out.1, hI.ok, hfin, ?_⟩⟩
        rw [HKB.out.2.1, HKB.out.2.2.1]
        rcases HLC.out.off hT with ⟨h1, _⟩ | ⟨g, cap, hv, hp, hc⟩
        · cases h1
        · cases hv
          exact .inr ⟨gc, kc, rfl, ⟨HGC.out, Nat.lt_of_lt_of_le hp.1 hT.touch.size⟩, hc⟩)
      rw [HCS.out, HRS0.out] at HSAW
      clear hT hI hfin
      go_wp2_with fail
      obtain ⟨k', vT', S', g1, g2⟩ := HSAW.out
      exact bodyPost_ret (v := .pointer (some ⟨w2.heap.size + 1 + 1, 0, none⟩)) (by simp [results, Tryd.results31, go_sem]) rfl ⟨k', g1, vT', S', g2⟩
end Go.Proofs.YtdmdpindonghdaaDoor
namespace Go.Proofs.YtdmdpindonghdaaDoor
open Go.RowKit
/-- A cell as refs wants it. -/
structure CGood (n : Nat) (c : Cl) : Prop where
  a1 : -1 ≤ c.a
  a2 : c.a < (n : Int)
  b1 : -1 ≤ c.b
  b2 : c.b < (n : Int)
  col : c.col ≤ 3
  free : c.col = 0 → c = blankL
  weak : c.weak = true → c.b = -1 ∧ c.num = 0
set_option maxRecDepth 100000 in
set_option maxHeartbeats 1000000 in
theorem refs_any (cs : List Cl) (v : Value) (P : Nat → Prop) (w : World) (h : LsAt w P v cs.length (cs.flatMap clCells)) (hp : ∀ g, P g → g < w.heap.size) (hl : cs.length ≤ 100) (hg : ∀ c ∈ cs, CGood cs.length c) :
    Calls Tryd.prog 35 #[v] w fun e w' => e = .returned (.bool true) ∧ Below w.heap.size w w' := by
  obtain ⟨p0, c0, e0⟩ := h.slice
  subst e0
  have HH := hid h
  have HG := hid hg
  have HP := hid hp
  clear h hg hp
  go_enter Tryd.func35, Tryd.ntmps35
  go_wp2_with fail
  go_loopg [3] cs.length (fun gk x w' => ∃ i : Nat, i ≤ cs.length ∧ gk = cs.length - i ∧ x = .int .i64 i ∧ Below w.heap.size w w')
  case atStart => exact ⟨0, by omega, by omega, rfl, Below.refl _ _⟩
  case round =>
    obtain ⟨i, hi, hgk, rfl, hB⟩ := hrel
    have HB := hid hB
    rcases Nat.lt_or_ge i cs.length with hlt | hge
    · have d0 : (0 : Int) ≤ (i : Int) := by omega
      have d1 : (i : Int) < (cs.length : Int) := by omega
      obtain ⟨g, cap, eg, hgs, hc⟩ := HH.out.some (by omega)
      cases eg
      have hgz := HP.out g hgs
      have x0 := (hB.cell (p := ⟨g, i * 5, none⟩) hgz).trans (hc _ _ (by have := flat_at clCells 5 (fun _ => rfl) cs i 0 hlt (by omega); rw [Nat.add_zero] at this; exact this))
      have x1 := (hB.cell (p := ⟨g, i * 5 + 1, none⟩) hgz).trans (hc _ _ (flat_at clCells 5 (fun _ => rfl) cs i 1 hlt (by omega)))
      have x2 := (hB.cell (p := ⟨g, i * 5 + 2, none⟩) hgz).trans (hc _ _ (flat_at clCells 5 (fun _ => rfl) cs i 2 hlt (by omega)))
      have x3 := (hB.cell (p := ⟨g, i * 5 + 3, none⟩) hgz).trans (hc _ _ (flat_at clCells 5 (fun _ => rfl) cs i 3 hlt (by omega)))
      have x4 := (hB.cell (p := ⟨g, i * 5 + 4, none⟩) hgz).trans (hc _ _ (flat_at clCells 5 (fun _ => rfl) cs i 4 hlt (by omega)))
      have hgd := HG.out cs[i] (List.getElem_mem hlt)
      generalize cs[i] = c at *
      have a1 := hgd.a1
      have a2 := hgd.a2
      have b1 := hgd.b1
      have b2 := hgd.b2
      have hcol := hgd.col
      have hfr := hgd.free
      have hwk := hgd.weak
      obtain ⟨co, wk, ra, rb, nn⟩ := c
      simp only at x0 x1 x2 x3 x4 a1 a2 b1 b2 hcol hfr hwk
      have HBC := hid (HB.out.alloc HB.out.size (.cells #[.int .i64 co, .bool wk, .int .i64 ra, .int .i64 rb, .int .i64 nn] 77))
      have n1 : ¬ ra < -1 := by omega
      have n2 : ¬ (cs.length : Int) ≤ ra := by omega
      have n3 : ¬ rb < -1 := by omega
      have n4 : ¬ (cs.length : Int) ≤ rb := by omega
      have n5 : ¬ (co : Int) < 0 := by omega
      have n6 : ¬ (3 : Int) < (co : Int) := by omega
      clear hc hB HG HH hgd a1 a2 b1 b2
      by_cases h0 : co = 0
      · have hbl := hfr h0
        simp only [blankL, Cl.mk.injEq] at hbl
        obtain ⟨rfl, rfl, rfl, rfl, rfl⟩ := hbl
        clear hfr hwk h0
        go_wp2_with fail
        go_roundg (cs.length - (i + 1))
        case measure => omega
        case rel => exact ⟨i + 1, by omega, rfl, by go_num, HBC.out⟩
      · have y0 : ((co : Int) == 0) = false := by simp; omega
        cases wk
        · clear hfr hwk
          go_wp2_with fail
          go_roundg (cs.length - (i + 1))
          case measure => omega
          case rel => exact ⟨i + 1, by omega, rfl, by go_num, HBC.out⟩
        · obtain ⟨rfl, rfl⟩ := hwk rfl
          clear hfr hwk
          go_wp2_with fail
          go_roundg (cs.length - (i + 1))
          case measure => omega
          case rel => exact ⟨i + 1, by omega, rfl, by go_num, HBC.out⟩
    · have d1 : ¬ (i : Int) < (cs.length : Int) := by omega
      clear hB
      go_wp2_with fail
      go_ret
      exact ⟨rfl, HB.out⟩
end Go.Proofs.YtdmdpindonghdaaDoor
namespace Go.Proofs.YtdmdpindonghdaaDoor
open Go.RowKit
/-- Cell k is there, weak, and looks at a; cell j is there. -/
def Stay (T : List Cl) (k j : Nat) (a : Int) : Prop := (∃ c, T[k]? = some c ∧ c.weak = true ∧ c.a = a ∧ c.col ≠ 0) ∧ colL T j ≠ 0
theorem Stay.paint {T T' : List Cl} {k j : Nat} {a : Int} (h : Stay T k j a) (hp : Paint T T') (h0 : ∀ q, colL T q ≠ 0 → colL T' q ≠ 0) : Stay T' k j a := by
  obtain ⟨⟨c, g1, g2, g3, g4⟩, g5⟩ := h
  obtain ⟨c', e1, e2⟩ := hp.back k c g1
  refine ⟨⟨c', e1, by rw [e2]; exact g2, by rw [e2]; exact g3, ?_⟩, h0 j g5⟩
  have := h0 k (by rw [colL_some g1]; exact g4)
  rw [colL_some e1] at this
  exact this
theorem Stay.modify {T : List Cl} {k j : Nat} {a : Int} (h : Stay T k j a) (r : Nat) (f : Cl → Cl) (hcol : ∀ c, (f c).col = c.col) (hk : r = k → ∀ c, T[k]? = some c → (f c).weak = c.weak ∧ (f c).a = c.a) : Stay (T.modify r f) k j a := by
  obtain ⟨⟨c, g1, g2, g3, g4⟩, g5⟩ := h
  have hc : ∀ q, colL (T.modify r f) q = colL T q := by
    intro q
    unfold colL
    rw [List.getElem?_modify]
    cases T[q]? with
    | none => rfl
    | some d =>
      by_cases e : r = q
      · simp [e, hcol]
      · simp [e]
  refine ⟨?_, by rw [hc]; exact g5⟩
  by_cases e : r = k
  · obtain ⟨e1, e2⟩ := hk e c g1
    refine ⟨f c, ?_, e1.trans g2, e2.trans g3, by rw [hcol]; exact g4⟩
    rw [List.getElem?_modify, g1, e]
    simp
  · refine ⟨c, ?_, g2, g3, g4⟩
    rw [List.getElem?_modify, g1]
    simp [e]
theorem Stay.set {T : List Cl} {k j : Nat} {a : Int} (h : Stay T k j a) {r : Nat} {d : Cl} (x : Cl) (hd : T[r]? = some d) (h0 : d.col = 0) : Stay (T.set r x) k j a := by
  obtain ⟨⟨c, g1, g2, g3, g4⟩, g5⟩ := h
  have hrk : r ≠ k := fun e => by
    subst e
    obtain rfl := Option.some.inj (hd.symm.trans g1)
    exact g4 h0
  have hrj : r ≠ j := fun e => by
    subst e
    rw [colL_some hd] at g5
    exact g5 h0
  refine ⟨⟨c, by rw [List.getElem?_set, if_neg hrk]; exact g1, g2, g3, g4⟩, ?_⟩
  unfold colL
  rw [List.getElem?_set, if_neg hrj]
  exact g5
/-- What was seen of the two cells. -/
structure Looks (T : List Cl) (rs : List Int) (k j : Nat) (c : Cl) : Prop where
  rk : Rch T rs k
  ck : T[k]? = some c
  weak : c.weak = true
  a : c.a = (j : Int)
  rj : Rch T rs j
theorem Looks.kept {T T' : List Cl} {rs : List Int} {k j : Nat} {c : Cl} {ph hd : Nat} (h : Looks T rs k j c) (hk : Kept T T' rs) (hg : GInv T' ph hd rs) : Stay T' k j c.a := by
  obtain ⟨c', g1, g2, g3, g4, g5, g6⟩ := hk.cell k c h.rk h.ck
  refine ⟨⟨c', g1, g2.trans h.weak, ?_, ?_⟩, (hg.alive (hk.on h.rj)).1⟩
  · rcases g6 h.weak with e | ⟨_, e⟩
    · exact e
    · exact absurd h.rj (e j h.a)
  · have := (hg.alive (hk.on h.rk)).1
    rw [colL_some g1] at this
    exact this
theorem begin_stay {h : HSt} {k j : Nat} {a : Int} (hs : Stay (h.1.map toldC) k j a) (hl : 0 ≤ lowC h) : Stay ((beginC h).2.1.map toldC) k j a := by
  obtain ⟨hlt, hu⟩ := lowC_at hl
  have hc : (h.1.map toldC)[(lowC h).toNat]? = some (toldC h.1[(lowC h).toNat]) := told_at (List.getElem?_eq_getElem hlt)
  have h0 : (toldC h.1[(lowC h).toNat]).col = 0 := by
    show colR _ = 0
    unfold colR
    rw [if_pos hu]
  have e : (beginC h).2.1.map toldC = (h.1.map toldC).set (lowC h).toNat (toldC (freshC (doneB h.2.1 h.2.2 (lowC h).toNat))) := by
    show (h.1.set _ _).map toldC = _
    rw [List.map_set]
  rw [e]
  exact hs.set _ hc h0
theorem take_stay {n : Nat} {h : HSt} {rs : List Int} (g : GH n h rs) {k j : Nat} {c : Cl} (hl : Looks (h.1.map toldC) rs k j c) : Stay ((takeC rs h).2.1.map toldC) k j c.a := by
  have kr := g.room
  have kp := g.keptRoom
  have hs := hl.kept kp kr.g
  rw [takeC_room]
  split
  · rename_i e
    exact begin_stay hs e
  · exact hs
theorem does_stay {E : Env} {s : MS} {i : Ins} {k j : Nat} {a : Int} (hst : Stay (s.hs.1.map toldC) k j a) (hends : endsC s.hs.1 s.st i.op = 0) (hr : (lastW s.st 1).2 < (s.hs.1.length : Int)) (cell : Int) (hcell : i.op = 23 → ∃ d, s.hs.1[cell.toNat]? = some (freshC d)) : Stay ((doesS E i cell s).hs.1.map toldC) k j a := by
  have hi : ∀ q : Nat, i.op = q → (i.op : Int) = (q : Int) := fun q e => by rw [e]
  by_cases e23 : i.op = 23
  · have e : (doesS E i cell s).hs.1 = s.hs.1.modify cell.toNat (weakS (lastW s.st 0).2) := by
      unfold doesS touchS
      simp [e23]
    rw [e, told_modify (g := weakL (lastW s.st 0).2) (fun _ => rfl)]
    refine hst.modify _ _ (fun _ => rfl) (fun ek c hc => ?_)
    obtain ⟨d, hd⟩ := hcell e23
    obtain ⟨⟨c0, g1, g2, _⟩, _⟩ := hst
    rw [← ek, told_at hd] at g1
    obtain rfl := Option.some.inj g1
    cases g2
  by_cases e17 : i.op = 17
  · have e : (doesS E i cell s).hs.1 = s.hs.1.modify (lastW s.st 1).2.toNat (noteS (lastW s.st 0).2) := by
      unfold doesS touchS
      simp [e17]
    rw [e, told_modify (g := noteL (lastW s.st 0).2) (fun _ => rfl)]
    exact hst.modify _ _ (fun _ => rfl) (fun _ c _ => ⟨rfl, rfl⟩)
  by_cases e15 : i.op = 15
  · have e : (doesS E i cell s).hs.1 = storeC s.hs.1 s.hs.2.1 (lastW s.st 1).2.toNat i.n (lastW s.st 0).2 := by
      unfold doesS touchS
      simp [e15]
    have hw : wantsC s.hs.1 (lastW s.st 1).2 false = 0 := by rw [← hends, hi 15 e15]; rfl
    obtain ⟨_, hl, hwk⟩ := wantsC_zero hw hr
    rw [e, told_store]
    have hfa : ∀ c : Cl, (setABL i.n (lastW s.st 0).2 c).col = c.col := fun c => by unfold setABL; split <;> rfl
    have hne : (lastW s.st 1).2.toNat ≠ k := fun ek => by
      obtain ⟨⟨c0, g1, g2, _⟩, _⟩ := hst
      rw [← ek, told_at (List.getElem?_eq_getElem hl)] at g1
      obtain rfl := Option.some.inj g1
      exact absurd (hwk.symm.trans g2) (by simp)
    by_cases e1 : s.hs.2.1 = 1
    · rw [if_pos e1]
      refine (hst.paint (shade_paint _ (lastW s.st 0).2) (fun q hq => ?_)).modify _ _ hfa (fun ek => absurd ek hne)
      rw [shade_colL]
      split
      · omega
      · exact hq
    · rw [if_neg e1]
      exact hst.modify _ _ hfa (fun ek => absurd ek hne)
  have e : (doesS E i cell s).hs.1 = s.hs.1 := by
    unfold doesS touchS
    simp only [apply_ite MS.hs, if_neg e23, if_neg e17, if_neg e15, ite_self]
  rw [e]
  exact hst
theorem step_stay {E : Env} (he : EnvOk E) (hn : NoMix E) {s : MS} (h : MInv E s) (hg : GS s) {k j : Nat} {c : Cl} (hl : Looks (s.hs.1.map toldC) (rootsS E s) k j c) : Stay ((stepS E s).hs.1.map toldC) k j c.a := by
  obtain ⟨i, hc⟩ := h.can he
  have hrt := rootsS_flag hn h
  have k0 : GH E.n s.hs (rootsS E s) := ⟨h.hh, by rw [hrt]; exact hg.flag⟩
  have hs0 : Stay (s.hs.1.map toldC) k j c.a := hl.kept (Kept.refl _ _) k0.g
  unfold stepS
  rw [hc.get]
  simp only
  unfold stepI
  by_cases h1 : endsC s.hs.1 s.st i.op = 1
  · rw [if_pos h1]; exact hs0
  rw [if_neg h1]
  by_cases h2' : endsC s.hs.1 s.st i.op ≠ 0
  · rw [if_pos h2']; exact hs0
  rw [if_neg h2']
  have h2 : endsC s.hs.1 s.st i.op = 0 := by omega
  have hlast : ∀ (cs : List RC), cs.length = E.n → i.op = 15 ∨ i.op ≠ 15 → (lastW s.st 1).2 < (cs.length : Int) ∨ i.op ≠ 15 := by
    intro cs hcs _
    by_cases e15 : i.op = 15
    · left
      have hstd := hc.std ⟨by omega, by omega, by omega, by omega, by omega⟩
      obtain ⟨hp, hf, _⟩ := hstd.two (c := 114) (d := 114) (by rw [e15]; rfl)
      have := h.ref hp (letB_r hf)
      rw [hcs]; exact this.2
    · exact .inr e15
  have hdoes : ∀ (t : MS) (cell : Int), t.st = s.st → t.hs.1.length = E.n → Stay (t.hs.1.map toldC) k j c.a → endsC t.hs.1 t.st i.op = 0 → (i.op = 23 → ∃ d, t.hs.1[cell.toNat]? = some (freshC d)) → Stay ((goS E i cell t).hs.1.map toldC) k j c.a := by
    intro t cell e1 e2 e3 e4 e5
    show Stay ((doesS E i cell t).hs.1.map toldC) k j c.a
    by_cases e15 : i.op = 15
    · refine does_stay e3 e4 ?_ cell e5
      rcases hlast t.hs.1 e2 (.inl e15) with h | h
      · rw [e1]; exact h
      · exact absurd e15 h
    · by_cases e23 : i.op = 23
      · have e : (doesS E i cell t).hs.1 = t.hs.1.modify cell.toNat (weakS (lastW t.st 0).2) := by
          unfold doesS touchS
          simp [e23]
        rw [e, told_modify (g := weakL (lastW t.st 0).2) (fun _ => rfl)]
        refine e3.modify _ _ (fun _ => rfl) (fun ek c' hc' => ?_)
        obtain ⟨d, hd⟩ := e5 e23
        obtain ⟨⟨c0, g1, g2, _⟩, _⟩ := e3
        rw [← ek, told_at hd] at g1
        obtain rfl := Option.some.inj g1
        cases g2
      by_cases e17 : i.op = 17
      · have e : (doesS E i cell t).hs.1 = t.hs.1.modify (lastW t.st 1).2.toNat (noteS (lastW t.st 0).2) := by
          unfold doesS touchS
          simp [e17]
        rw [e, told_modify (g := noteL (lastW t.st 0).2) (fun _ => rfl)]
        exact e3.modify _ _ (fun _ => rfl) (fun _ c' _ => ⟨rfl, rfl⟩)
      have e : (doesS E i cell t).hs.1 = t.hs.1 := by
        unfold doesS touchS
        simp only [apply_ite MS.hs, if_neg e23, if_neg e17, if_neg e15, ite_self]
      rw [e]
      exact e3
  by_cases ht : i.op = 13 ∨ i.op = 23
  · rw [if_pos ht]
    have hst := take_stay k0 hl
    obtain ⟨t1, _, _⟩ := h.hh.take (rootsS E s)
    by_cases hneg : (takeC (rootsS E s) s.hs).1 < 0
    · rw [if_pos hneg]; exact hst
    · rw [if_neg hneg]
      refine hdoes { s with hs := (takeC (rootsS E s) s.hs).2 } _ rfl t1.len hst ?_ (fun _ => take_fresh _ hneg)
      rw [← h2]
      exact endsC_take ht
  · rw [if_neg ht]
    exact hdoes s (-1) rfl h.n hs0 h2 (fun e => absurd (.inr e) ht)
theorem coll_stay {E : Env} (hn : NoMix E) {s : MS} (h : MInv E s) (hg : GS s) {k j : Nat} {c : Cl} (hl : Looks (s.hs.1.map toldC) (rootsS E s) k j c) (m : Nat) : Stay ((collS E m s).hs.1.map toldC) k j c.a := by
  have hrt := rootsS_flag hn h
  have k0 : GH E.n s.hs (rootsS E s) := ⟨h.hh, by rw [hrt]; exact hg.flag⟩
  exact hl.kept (k0.keptU m) (k0.units m).g
end Go.Proofs.YtdmdpindonghdaaDoor
namespace Go.Proofs.YtdmdpindonghdaaDoor
open Go.RowKit
theorem pn_play {B n2 N : Nat} {w : World} {K : PK} {E : Env} {s : MS} (k a : Int) (h : PN B n2 N w K s) (hke : KE K E) (he : EnvOk E) (hi : MInv E s) (hz : E.zs.length ≤ 64) (hlen : s.out.length ≤ 8796093022208) :
    Calls Tryd.prog 29 #[.pointer (some ⟨K.b, 0, none⟩), .agg #[.int .i64 k, .int .i64 a]] w fun e w' => e = .returned (.bool true) ∧ PN B n2 N w' K (opK E k a s) ∧ KeepN n2 N w w' ∧ Below B w w' := by
  obtain ⟨F, h1, h2, h3, h4, h5⟩ := h
  have hb := h1.bound
  refine (play_any k a hb hke he hi hz hlen (fun k hk => hk.2)).mono ?_
  rintro e w' ⟨a, b, c⟩
  exact ⟨a, PN.next (fun k hk => h2 k hk.1) h3 h4 h5 b c⟩
theorem PN.pr {B n2 N : Nat} {w : World} {K : PK} {s : MS} (h : PN B n2 N w K s) : PR B w K s := by
  obtain ⟨F, h1, h2, h3, h4, h5⟩ := h
  exact ⟨F, h1, fun k hk => (h2 k hk).1, by omega⟩
theorem pr_seen {B : Nat} {w : World} {K : PK} {E : Env} {s : MS} (h : PR B w K s) (hke : KE K E) (he : EnvOk E) (hi : MInv E s) :
    Calls Tryd.prog 31 #[.pointer (some ⟨K.b, 0, none⟩)] w fun e w' => ∃ k vT S, e = .returned (.pointer (some ⟨k.b, 0, none⟩)) ∧ Saw (s.hs.1.map toldC) (rootsS E s) k vT S w w' := by
  obtain ⟨F, h1, _⟩ := h
  exact seen_any h1 hke he hi
theorem pr_heap {B : Nat} {w : World} {K : PK} {s : MS} (h : PR B w K s) (hn : s.hs.1.length ≤ 100) :
    Calls Tryd.prog 58 #[.pointer (some ⟨K.b, 0, none⟩)] w (HeapPost (s.hs.1.map toldC) w) := by
  obtain ⟨F, ⟨vI, vO, lo4, st8, hm, _⟩, _⟩ := h
  exact pheap_any hm hn
theorem colR_le (c : RC) : colR c ≤ 3 := by
  unfold colR
  split
  · omega
  split
  · omega
  split <;> omega
theorem good_cells {E : Env} {s : MS} (h : MInv E s) (hg : GS s) : ∀ c ∈ s.hs.1.map toldC, CGood (s.hs.1.map toldC).length c := by
  intro c hc
  have hb := hg.g.blank c hc
  have hw := hg.g.weak c hc
  obtain ⟨d, hd, rfl⟩ := List.mem_map.1 hc
  have a1 := h.hok.refs d hd
  have a2 := h.hx.cell d hd
  rw [List.length_map]
  exact ⟨a2.lowA, a1.1, a2.lowB, a1.2, colR_le d, hb, hw⟩
/-- What Saw found stays where nothing between n2 and N turns. -/
theorem Saw.keep {cs : List Cl} {rs : List Int} {k : SK} {vT : Value} {S : Sn} {w w1 w2 : World} (h : Saw cs rs k vT S w w1) (hk : KeepN w.heap.size w1.heap.size w1 w2) :
    w2.heap[k.b]? = some (.cells (k.row cs.length vT S.sound) 73) ∧ w2.heap[k.gi]? = some (.cells (S.ins.map Value.bool).toArray 4) ∧ LsAt w2 (fun g => w.heap.size ≤ g ∧ g < w1.heap.size) (.slice (some ⟨k.gc, 0, none⟩) cs.length k.kc) cs.length (cs.flatMap clCells) := by
  have hb := (Array.getElem?_eq_some_iff.1 h.at_.row).1
  have hi := (Array.getElem?_eq_some_iff.1 h.at_.ins).1
  have b1 := h.at_.bb
  have b2 := h.at_.bi
  rw [h.base] at b1 b2
  refine ⟨(hk _ b1 hb).trans h.at_.row, (hk _ b2 hi).trans h.at_.ins, ?_⟩
  rcases h.cells with h1 | ⟨g, cap, hv, hp, hc⟩
  · exact .inl h1
  · exact .inr ⟨g, cap, hv, hp, fun j u hj => (World.cell?_of_block (a := ⟨g, j, none⟩) (hk g hp.1 hp.2)).trans (hc j u hj)⟩
theorem GS.opK {E : Env} (he : EnvOk E) (hn : NoMix E) {s : MS} (h : MInv E s) (hg : GS s) (k a : Int) : GS (opK E k a s) := by
  unfold Go.Proofs.YtdmdpindonghdaaDoor.opK
  split
  · split
    · exact hg.step he hn h
    · exact hg
  split
  · split
    · exact hg.coll hn h _
    · exact hg
  · exact hg
theorem opK_stay {E : Env} (he : EnvOk E) (hn : NoMix E) {s : MS} (h : MInv E s) (hg : GS s) {k j : Nat} {c : Cl} (hl : Looks (s.hs.1.map toldC) (rootsS E s) k j c) (x y : Int) : Stay ((Go.Proofs.YtdmdpindonghdaaDoor.opK E x y s).hs.1.map toldC) k j c.a := by
  have hrt := rootsS_flag hn h
  have k0 : GH E.n s.hs (rootsS E s) := ⟨h.hh, by rw [hrt]; exact hg.flag⟩
  have hs0 : Stay (s.hs.1.map toldC) k j c.a := hl.kept (Kept.refl _ _) k0.g
  unfold Go.Proofs.YtdmdpindonghdaaDoor.opK
  split
  · split
    · exact step_stay he hn h hg hl
    · exact hs0
  split
  · split
    · exact coll_stay hn h hg hl _
    · exact hs0
  · exact hs0
/-- A list of cells in memory, in blocks below N. -/
structure CsAt (w : World) (N : Nat) (v : Value) (cs : List Cl) : Prop where
  ls : LsAt w (fun g => g < N) v cs.length (cs.flatMap clCells)
  le : N ≤ w.heap.size
theorem CsAt.keep {w w' : World} {N : Nat} {v : Value} {cs : List Cl} (h : CsAt w N v cs) (hb : Below w.heap.size w w') : CsAt w' N v cs :=
  ⟨h.ls.keep (fun g hg => ⟨hg, hb.block g (Nat.lt_of_lt_of_le hg h.le)⟩), Nat.le_trans h.le hb.size⟩
theorem CsAt.of_owns {w : World} {base e size : Nat} {v : Value} {cs : List Cl} (h : w.ownsRow base e size v cs.length (cs.flatMap clCells)) : CsAt w w.heap.size v cs :=
  ⟨(LsAt.of_owns h).keep (fun _ hg => ⟨hg.2, rfl⟩), Nat.le_refl _⟩
theorem CsAt.slice {w : World} {N : Nat} {v : Value} {cs : List Cl} (h : CsAt w N v cs) : ∃ p cap, v = .slice p cs.length cap := h.ls.slice
theorem CsAt.refs {w : World} {N : Nat} {v : Value} {cs : List Cl} (h : CsAt w N v cs) (hl : cs.length ≤ 100) (hg : ∀ c ∈ cs, CGood cs.length c) :
    Calls Tryd.prog 35 #[v] w fun e w' => e = .returned (.bool true) ∧ Below w.heap.size w w' :=
  refs_any cs v _ w h.ls (fun _ hg => Nat.lt_of_lt_of_le hg h.le) hl hg
/-- Cell i of the list, place by place. -/
structure CellAt (w : World) (g i : Nat) (c : Cl) : Prop where
  x0 : w.cell? ⟨g, i * 5, none⟩ = some (.int .i64 c.col)
  x1 : w.cell? ⟨g, i * 5 + 1, none⟩ = some (.bool c.weak)
  x2 : w.cell? ⟨g, i * 5 + 2, none⟩ = some (.int .i64 c.a)
  x3 : w.cell? ⟨g, i * 5 + 3, none⟩ = some (.int .i64 c.b)
  x4 : w.cell? ⟨g, i * 5 + 4, none⟩ = some (.int .i64 c.num)
theorem CsAt.get {w : World} {N : Nat} {v : Value} {cs : List Cl} (h : CsAt w N v cs) (h0 : 0 < cs.length) : ∃ g cap, v = .slice (some ⟨g, 0, none⟩) cs.length cap ∧ g < N ∧ ∀ (i : Nat) (c : Cl), cs[i]? = some c → CellAt w g i c := by
  obtain ⟨g, cap, eg, hgs, hc⟩ := h.ls.some h0
  refine ⟨g, cap, eg, hgs, ?_⟩
  intro i c hi
  obtain ⟨hlt, rfl⟩ := List.getElem?_eq_some_iff.1 hi
  exact ⟨hc _ _ (by have := flat_at clCells 5 (fun _ => rfl) cs i 0 hlt (by omega); rw [Nat.add_zero] at this; exact this), hc _ _ (flat_at clCells 5 (fun _ => rfl) cs i 1 hlt (by omega)), hc _ _ (flat_at clCells 5 (fun _ => rfl) cs i 2 hlt (by omega)), hc _ _ (flat_at clCells 5 (fun _ => rfl) cs i 3 hlt (by omega)), hc _ _ (flat_at clCells 5 (fun _ => rfl) cs i 4 hlt (by omega))⟩
/-- What a look at a machine laid down, and kept: the row, the flags, the cells. -/
structure SawAt (w : World) (N : Nat) (k : SK) (vT : Value) (S : Sn) (cs : List Cl) : Prop where
  row : w.heap[k.b]? = some (.cells (k.row cs.length vT S.sound) 73)
  ins : w.heap[k.gi]? = some (.cells (S.ins.map Value.bool).toArray 4)
  cells : CsAt w N (.slice (some ⟨k.gc, 0, none⟩) cs.length k.kc) cs
theorem SawAt.keep {w w' : World} {N : Nat} {k : SK} {vT : Value} {S : Sn} {cs : List Cl} (h : SawAt w N k vT S cs) (hb : Below w.heap.size w w') : SawAt w' N k vT S cs :=
  ⟨(hb.block k.b (Array.getElem?_eq_some_iff.1 h.row).1).trans h.row, (hb.block k.gi (Array.getElem?_eq_some_iff.1 h.ins).1).trans h.ins, h.cells.keep hb⟩
theorem Saw.sawAt {cs : List Cl} {rs : List Int} {k : SK} {vT : Value} {S : Sn} {w w1 : World} (h : Saw cs rs k vT S w w1) : SawAt w1 w1.heap.size k vT S cs :=
  ⟨h.at_.row, h.at_.ins, h.cells.keep (fun _ hg => ⟨hg.2, rfl⟩), Nat.le_refl _⟩
theorem Saw.kept {cs : List Cl} {rs : List Int} {k : SK} {vT : Value} {S : Sn} {w w1 w2 : World} (h : Saw cs rs k vT S w w1) (hk : KeepN w.heap.size w1.heap.size w1 w2) (hz : w1.heap.size ≤ w2.heap.size) : SawAt w2 w1.heap.size k vT S cs := by
  obtain ⟨a, b, c⟩ := h.keep hk
  exact ⟨a, b, c.keep (fun _ hg => ⟨hg.2, rfl⟩), hz⟩
theorem SawAt.r0 {w : World} {N : Nat} {k : SK} {vT : Value} {S : Sn} {cs : List Cl} (h : SawAt w N k vT S cs) : w.cell? ⟨k.b, 0, none⟩ = some (.slice (some ⟨k.gc, 0, none⟩) cs.length k.kc) := by
  rw [cell_of_row w k.b 0 _ _ _ h.row]
  rfl
theorem SawAt.r1 {w : World} {N : Nat} {k : SK} {vT : Value} {S : Sn} {cs : List Cl} (h : SawAt w N k vT S cs) : w.cell? ⟨k.b, 1, none⟩ = some (.slice (some ⟨k.gi, 0, none⟩) cs.length cs.length) := by
  rw [cell_of_row w k.b 1 _ _ _ h.row]
  rfl
theorem SawAt.r3 {w : World} {N : Nat} {k : SK} {vT : Value} {S : Sn} {cs : List Cl} (h : SawAt w N k vT S cs) : w.cell? ⟨k.b, 3, none⟩ = some (.bool S.sound) := by
  rw [cell_of_row w k.b 3 _ _ _ h.row]
  rfl
theorem SawAt.inAt {w : World} {N : Nat} {k : SK} {vT : Value} {S : Sn} {cs : List Cl} (h : SawAt w N k vT S cs) {i : Nat} {b : Bool} (hi : S.ins[i]? = some b) : w.cell? ⟨k.gi, i, none⟩ = some (.bool b) := by
  rw [cell_of_row w k.gi i _ _ _ h.ins]
  simp [hi]
end Go.Proofs.YtdmdpindonghdaaDoor
namespace Go.Proofs.YtdmdpindonghdaaDoor
open Go.RowKit
set_option maxRecDepth 100000 in
set_option maxHeartbeats 1000000 in
theorem marked_any {w : World} {M : Nat} {v : Value} {cs : List Cl} (h : CsAt w M v cs) (hN : cs.length ≤ 100) (hg : ∀ c ∈ cs, CGood cs.length c) (hm : ∀ (k : Nat) (c : Cl), cs[k]? = some c → c.col = 3 → c.weak = false → ∀ j : Nat, (c.a = (j : Int) ∨ c.b = (j : Int)) → 2 ≤ colL cs j) :
    Calls Tryd.prog 61 #[v] w fun e w' => e = .returned (.bool true) ∧ Below w.heap.size w w' := by
  obtain ⟨p0, c0, e0⟩ := h.slice
  subst e0
  have HH := hid h
  have HG := hid hg
  have HM := hid hm
  clear h hg hm
  go_enter Tryd.func61, Tryd.ntmps61
  go_wp2_with fail
  go_loopg [3] cs.length (fun gk x w' => ∃ i : Nat, i ≤ cs.length ∧ gk = cs.length - i ∧ x = .int .i64 i ∧ Below w.heap.size w w')
  case atStart => exact ⟨0, by omega, by omega, rfl, Below.refl _ _⟩
  case round =>
    obtain ⟨i, hi, hgk, rfl, hB⟩ := hrel
    have HB := hid hB
    rcases Nat.lt_or_ge i cs.length with hlt | hge
    · have d0 : (0 : Int) ≤ (i : Int) := by omega
      have d1 : (i : Int) < (cs.length : Int) := by omega
      obtain ⟨c, hc⟩ : ∃ c, cs[i]? = some c := ⟨cs[i], List.getElem?_eq_getElem (by omega)⟩
      obtain ⟨gx, capx, ex, _, hcx⟩ := (HH.out.keep hB).get (by omega)
      cases ex
      obtain ⟨x0, x1, x2, x3, x4⟩ := hcx i c hc
      have hgd := HG.out c (List.mem_of_getElem? hc)
      have a1 := hgd.a1
      have a2 := hgd.a2
      have b1 := hgd.b1
      have b2 := hgd.b2
      have hmk := HM.out i c hc
      have HCX := hid hcx
      obtain ⟨co, wk, ra, rb, nn⟩ := c
      simp only at x0 x1 x2 x3 x4 a1 a2 b1 b2 hmk
      clear hgd hc hcx hB
      by_cases h3 : co = 3
      · subst h3
        cases wk
        · have hmk2 := hmk rfl rfl
          have hca : ra = -1 ∨ ∃ (j : Nat) (d : Cl), ra = (j : Int) ∧ (j : Int) < cs.length ∧ cs[j]? = some d ∧ 2 ≤ d.col := by
            rcases Int.lt_or_le ra 0 with hneg | hpos
            · exact .inl (by omega)
            · refine .inr ⟨ra.toNat, cs[ra.toNat]'(by omega), by omega, by omega, List.getElem?_eq_getElem (by omega), ?_⟩
              have := hmk2 ra.toNat (.inl (by omega))
              rw [colL_some (List.getElem?_eq_getElem (by omega))] at this
              exact this
          have hcb : rb = -1 ∨ ∃ (j : Nat) (d : Cl), rb = (j : Int) ∧ (j : Int) < cs.length ∧ cs[j]? = some d ∧ 2 ≤ d.col := by
            rcases Int.lt_or_le rb 0 with hneg | hpos
            · exact .inl (by omega)
            · refine .inr ⟨rb.toNat, cs[rb.toNat]'(by omega), by omega, by omega, List.getElem?_eq_getElem (by omega), ?_⟩
              have := hmk2 rb.toNat (.inr (by omega))
              rw [colL_some (List.getElem?_eq_getElem (by omega))] at this
              exact this
          clear hmk hmk2 HM HG HH
          rcases hca with rfl | ⟨ja, da, rfl, ja1, ja2, ja3⟩
          · rcases hcb with rfl | ⟨jb, db, rfl, jb1, jb2, jb3⟩
            · go_wp2_with fail
              go_roundg (cs.length - (i + 1))
              case measure => omega
              case rel => exact ⟨i + 1, by omega, rfl, by go_num, HB.out⟩
            · have yb := (HCX.out jb db jb2).x0
              have zb0 : ¬ (db.col : Int) ≤ 1 := by omega
              have zb1 : (0 : Int) ≤ (jb : Int) := by omega
              have zb2 : ((jb : Int) == -1) = false := by simp
              clear jb2 jb3
              generalize db.col = ub at *
              go_wp2_with fail
              go_roundg (cs.length - (i + 1))
              case measure => omega
              case rel => exact ⟨i + 1, by omega, rfl, by go_num, HB.out⟩
          · have ya := (HCX.out ja da ja2).x0
            have za0 : ¬ (da.col : Int) ≤ 1 := by omega
            have za1 : (0 : Int) ≤ (ja : Int) := by omega
            have za2 : ((ja : Int) == -1) = false := by simp
            clear ja2 ja3
            generalize da.col = ua at *
            rcases hcb with rfl | ⟨jb, db, rfl, jb1, jb2, jb3⟩
            · go_wp2_with fail
              go_roundg (cs.length - (i + 1))
              case measure => omega
              case rel => exact ⟨i + 1, by omega, rfl, by go_num, HB.out⟩
            · have yb := (HCX.out jb db jb2).x0
              have zb0 : ¬ (db.col : Int) ≤ 1 := by omega
              have zb1 : (0 : Int) ≤ (jb : Int) := by omega
              have zb2 : ((jb : Int) == -1) = false := by simp
              clear jb2 jb3
              generalize db.col = ub at *
              go_wp2_with fail
              go_roundg (cs.length - (i + 1))
              case measure => omega
              case rel => exact ⟨i + 1, by omega, rfl, by go_num, HB.out⟩
        · go_wp2_with fail
          go_roundg (cs.length - (i + 1))
          case measure => omega
          case rel => exact ⟨i + 1, by omega, rfl, by go_num, HB.out⟩
      · have y0 : ((co : Int) == 3) = false := by simp; omega
        go_wp2_with fail
        go_roundg (cs.length - (i + 1))
        case measure => omega
        case rel => exact ⟨i + 1, by omega, rfl, by go_num, HB.out⟩
    · have d1 : ¬ (i : Int) < (cs.length : Int) := by omega
      clear hB
      go_wp2_with fail
      go_ret
      exact ⟨rfl, HB.out⟩
end Go.Proofs.YtdmdpindonghdaaDoor
namespace Go.Proofs.YtdmdpindonghdaaDoor
open Go.RowKit
/-- A State in a box of its own. -/
structure StAt (w : World) (b : Nat) (oc va pl ph hd : Int) (v1 v2 : Value) : Prop where
  row : w.heap[b]? = some (stBox oc va pl ph hd v1 v2)
theorem StAt.keep {w w' : World} {b : Nat} {oc va pl ph hd : Int} {v1 v2 : Value} (h : StAt w b oc va pl ph hd v1 v2) (hb : Below w.heap.size w w') : StAt w' b oc va pl ph hd v1 v2 :=
  ⟨(hb.block b (Array.getElem?_eq_some_iff.1 h.row).1).trans h.row⟩
theorem StAt.lt {w : World} {b : Nat} {oc va pl ph hd : Int} {v1 v2 : Value} (h : StAt w b oc va pl ph hd v1 v2) : b < w.heap.size := (Array.getElem?_eq_some_iff.1 h.row).1
theorem StAt.r0 {w : World} {b : Nat} {oc va pl ph hd : Int} {v1 v2 : Value} (h : StAt w b oc va pl ph hd v1 v2) : w.cell? ⟨b, 0, none⟩ = some (.int .i64 oc) := by
  rw [cell_of_row w b 0 _ _ _ (by have := h.row; unfold stBox at this; exact this)]
  rfl
theorem StAt.r2 {w : World} {b : Nat} {oc va pl ph hd : Int} {v1 v2 : Value} (h : StAt w b oc va pl ph hd v1 v2) : w.cell? ⟨b, 2, none⟩ = some (.int .i64 pl) := by
  rw [cell_of_row w b 2 _ _ _ (by have := h.row; unfold stBox at this; exact this)]
  rfl
theorem StAt.r3 {w : World} {b : Nat} {oc va pl ph hd : Int} {v1 v2 : Value} (h : StAt w b oc va pl ph hd v1 v2) : w.cell? ⟨b, 3, none⟩ = some (.int .i64 ph) := by
  rw [cell_of_row w b 3 _ _ _ (by have := h.row; unfold stBox at this; exact this)]
  rfl
theorem StAt.r4 {w : World} {b : Nat} {oc va pl ph hd : Int} {v1 v2 : Value} (h : StAt w b oc va pl ph hd v1 v2) : w.cell? ⟨b, 4, none⟩ = some (.int .i64 hd) := by
  rw [cell_of_row w b 4 _ _ _ (by have := h.row; unfold stBox at this; exact this)]
  rfl
theorem StAt.new (w : World) (oc va pl ph hd : Int) (v1 v2 : Value) : StAt (w.alloc (stBox oc va pl ph hd v1 v2)) w.heap.size oc va pl ph hd v1 v2 := ⟨heap_alloc_new w _⟩
theorem pr_state {B : Nat} {w : World} {K : PK} {E : Env} {s : MS} (h : PR B w K s) (hke : KE K E) (he : EnvOk E) (hi : MInv E s) :
    Calls Tryd.prog 30 #[.pointer (some ⟨K.b, 0, none⟩)] w fun e w' => ∃ pl, PStatePost s.oc s.va pl s.hs.2.1 s.hs.2.2 (locsS E s) (stkS E s) w e w' := by
  obtain ⟨F, h1, _⟩ := h
  exact px_state h1 hke he hi
/-- The colours as the phase asks. -/
structure PtOk (cs : List Cl) (ph hd N : Nat) (ins : List Bool) : Prop where
  len : cs.length = N
  lens : ins.length = N
  free : ∀ (k : Nat) (c : Cl), cs[k]? = some c → ins[k]? = some true → c.col ≠ 0
  phz : ph ≤ 2
  idle : ph = 0 → ∀ (k : Nat) (c : Cl), cs[k]? = some c → c.col ≤ 1
  low : ph = 2 → ∀ (k : Nat) (c : Cl), cs[k]? = some c → k < hd → c.col ≠ 3
  nogrey : ph = 2 → ∀ (k : Nat) (c : Cl), cs[k]? = some c → c.col ≠ 2
  high : ph = 2 → ∀ (k : Nat) (c : Cl), cs[k]? = some c → hd ≤ k → ins[k]? = some true → c.col = 3
  hand : ph = 2 → hd < N
  nohand : ph ≠ 2 → hd = 0
  mark : ph = 1 → ∀ (k : Nat) (c : Cl), cs[k]? = some c → c.col = 3 → c.weak = false → ∀ j : Nat, (c.a = (j : Int) ∨ c.b = (j : Int)) → 2 ≤ colL cs j
theorem ptOk_of {E : Env} (hn : NoMix E) {s : MS} (h : MInv E s) (hg : GS s) {S : Sn} (hlen : S.ins.length = (s.hs.1.map toldC).length) (hs : ∀ j, S.ins[j]? = some true ↔ Rch (s.hs.1.map toldC) (rootsS E s) j) : PtOk (s.hs.1.map toldC) s.hs.2.1 s.hs.2.2 E.n S.ins := by
  have hl : (s.hs.1.map toldC).length = E.n := by rw [List.length_map]; exact h.n
  have g := hg.flag
  rw [rootsS_flag hn h] at hs
  have hal : ∀ (k : Nat) (c : Cl), (s.hs.1.map toldC)[k]? = some c → S.ins[k]? = some true → c.col ≠ 0 ∧ ¬ (s.hs.2.1 = 2 ∧ s.hs.2.2 ≤ k ∧ c.col = 1) := fun k c hc hk => by
    have := g.alive ((hs k).1 hk)
    unfold Alive at this
    rw [colL_some hc] at this
    exact this
  refine ⟨hl, hlen.trans hl, fun k c hc hk => (hal k c hc hk).1, h.hok.phz, fun e k c hc => g.idle e c (List.mem_of_getElem? hc), fun e k c hc hk => g.low e k c hc hk, fun e k c hc => g.nogrey e c (List.mem_of_getElem? hc), ?_, ?_, h.hok.nohand, g.mark⟩
  · intro e k c hc hk hi
    obtain ⟨a1, a2⟩ := hal k c hc hi
    have a3 := g.nogrey e c (List.mem_of_getElem? hc)
    have a4 := g.col3 c (List.mem_of_getElem? hc)
    have a5 : c.col ≠ 1 := fun h1 => a2 ⟨e, hk, h1⟩
    omega
  · intro e
    have := h.hok.hand e
    rw [h.n] at this
    exact this
set_option maxRecDepth 100000 in
set_option maxHeartbeats 2000000 in
theorem painted_any {B : Nat} {w : World} {K : PK} {E : Env} {s : MS} {N : Nat} (h : PR B w K s) (hke : KE K E) (he : EnvOk E) (hi : MInv E s) (hg : GS s) (hn : NoMix E) (hEN : E.n = N) :
    Calls Tryd.prog 34 #[.pointer (some ⟨K.b, 0, none⟩), .int .i64 N] w fun e w' => e = .returned (.bool true) ∧ Below w.heap.size w w' := by
  have hN1 := he.n1
  have hN2 := he.n32
  rw [hEN] at hN1 hN2
  have hst := hid (pr_state h hke he hi)
  have HP := hid h
  have HI := hid hi
  have HG := hid hg
  have HNM := hid hn
  clear h hi hg hn
  go_enter Tryd.func34, Tryd.ntmps34
  go_wp2_with fail
  refine hst.out.mono ?_
  clear hst
  intro e w1 hh
  obtain ⟨pl, hb1, y1, y2, hx, o1, o2, _⟩ := hh
  subst e
  obtain ⟨q1, k1, e1⟩ := owns_slice o1
  obtain ⟨q2, k2, e2⟩ := owns_slice o2
  generalize (locsS E s).length = m1 at *
  generalize (stkS E s).length = m2 at *
  subst e1
  subst e2
  clear o1 o2
  have hb2 : Below w1.heap.size w1 (w1.alloc (stBox s.oc s.va pl s.hs.2.1 s.hs.2.2 (.slice q1 m1 k1) (.slice q2 m2 k2))) := (Below.refl _ _).alloc (Nat.le_refl _) _
  have hb02 := hb1.trans (hb2.mono hb1.size)
  have HA := hid (StAt.new w1 s.oc s.va pl s.hs.2.1 s.hs.2.2 (.slice q1 m1 k1) (.slice q2 m2 k2))
  have hse := hid (pr_seen (HP.out.keep hb02) hke he HI.out)
  have HB2 := hid hb02
  unfold stBox at hse HA HB2
  clear hb1 hb2 hb02
  go_wp2_with fail
  refine hse.out.mono ?_
  clear hse
  intro e w3 hh
  obtain ⟨k, vT, S, hx, hS⟩ := hh
  subst e
  have hA3 := HA.out.keep hS.below
  have hB3 := HB2.out.trans (hS.below.mono HB2.out.size)
  have hPt := ptOk_of HNM.out HI.out HG.out hS.at_.len hS.ins
  have hgc := good_cells HI.out HG.out
  have hsnd := hS.ok.sound
  have hS3 := hS.sawAt
  rw [hEN] at hPt
  have hlc := hPt.len
  obtain ⟨ph, hph⟩ : ∃ ph, ph = s.hs.2.1 := ⟨_, rfl⟩
  obtain ⟨hd, hhd⟩ : ∃ hd, hd = s.hs.2.2 := ⟨_, rfl⟩
  rw [← hph, ← hhd] at hPt hA3
  generalize s.hs.1.map toldC = cs at *
  have c0 := hS3.r0
  have c3 := hS3.r3
  rw [hsnd] at c3
  have hfr := hid (hS3.cells.refs (by omega) hgc)
  rw [hlc] at c0 hfr
  have HS3 := hid hS3
  have HA3 := hid hA3
  have HB3 := hid hB3
  have HPT := hid hPt
  have HGC := hid hgc
  have HSND := hid hsnd
  clear hS hA3 hB3 hPt hgc hsnd hS3 HA HB2 HG HI HNM HP hph hhd
  go_wp2_with fail
  refine hfr.out.mono ?_
  clear hfr
  intro e w4 hh
  obtain ⟨hx, hb4⟩ := hh
  subst e
  have hS4 := HS3.out.keep hb4
  have hA4 := HA3.out.keep hb4
  have c0 := hS4.r0
  have c3 := hS4.r3
  rw [hlc] at c0
  rw [HSND.out] at c3
  have HS4 := hid hS4
  have HA4 := hid hA4
  have HB4 := hid (HB3.out.trans (hb4.mono HB3.out.size))
  clear hS4 hA4 hb4 HS3 HA3 HB3
  go_wp2_with fail
  go_loopg [9] N (fun gk x w' => ∃ i : Nat, i ≤ N ∧ gk = N - i ∧ x = .int .i64 i ∧ Below w4.heap.size w4 w')
  case atStart => exact ⟨0, by omega, by omega, rfl, Below.refl _ _⟩
  case round =>
    obtain ⟨i, hi, hgk, rfl, hB⟩ := hrel
    have hA5 := HA4.out.keep hB
    have hS5 := HS4.out.keep hB
    have r3 := hA5.r3
    have r4 := hA5.r4
    have hph := HPT.out.phz
    have HB := hid hB
    rcases Nat.lt_or_ge i N with hil | hil
    · have e0 : (0 : Int) ≤ (i : Int) := by omega
      have e1 : (i : Int) < (N : Int) := by omega
      obtain ⟨c, hc⟩ : ∃ c, cs[i]? = some c := ⟨cs[i], List.getElem?_eq_getElem (by omega)⟩
      obtain ⟨bi, hbi⟩ : ∃ b, S.ins[i]? = some b := ⟨S.ins[i]'(by rw [HPT.out.lens]; exact hil), List.getElem?_eq_getElem (by rw [HPT.out.lens]; exact hil)⟩
      have r1 := hS5.r1
      rw [hlc] at r1
      have q0 := hS5.inAt hbi
      obtain ⟨gx, capx, ex, _, hcx⟩ := hS5.cells.get (by omega)
      cases ex
      have x0 := (hcx i c hc).x0
      have f1 := HPT.out.free i c hc
      have f2 := fun e => HPT.out.idle e i c hc
      have f3 := fun e => HPT.out.low e i c hc
      have f4 := fun e => HPT.out.nogrey e i c hc
      have f5 := fun e => HPT.out.high e i c hc
      rw [hbi] at f1 f5
      generalize c.col = co at *
      clear hA5 hS5 hcx hc hbi hB
      obtain rfl | rfl | rfl : ph = 0 ∨ ph = 1 ∨ ph = 2 := by omega
      · have g2 : ¬ (1 : Int) < (co : Int) := by have := f2 rfl; omega
        clear f2 f3 f4 f5
        cases bi
        · clear f1
          go_wp2_with fail
          go_roundg (N - (i + 1))
          case measure => omega
          case rel => exact ⟨i + 1, by omega, rfl, by go_num, by first | exact HB.out | exact HB.out.drew | exact HB.out.drewN _⟩
        · have g1 : ((co : Int) == 0) = false := by have := f1 rfl; simp; omega
          clear f1
          go_wp2_with fail
          go_roundg (N - (i + 1))
          case measure => omega
          case rel => exact ⟨i + 1, by omega, rfl, by go_num, by first | exact HB.out | exact HB.out.drew | exact HB.out.drewN _⟩
      · clear f2 f3 f4 f5
        cases bi
        · clear f1
          go_wp2_with fail
          go_roundg (N - (i + 1))
          case measure => omega
          case rel => exact ⟨i + 1, by omega, rfl, by go_num, by first | exact HB.out | exact HB.out.drew | exact HB.out.drewN _⟩
        · have g1 : ((co : Int) == 0) = false := by have := f1 rfl; simp; omega
          clear f1
          go_wp2_with fail
          go_roundg (N - (i + 1))
          case measure => omega
          case rel => exact ⟨i + 1, by omega, rfl, by go_num, by first | exact HB.out | exact HB.out.drew | exact HB.out.drewN _⟩
      · have g2 : ((co : Int) == 2) = false := by have := f4 rfl; simp; omega
        rcases Nat.lt_or_ge i hd with hlo | hlo
        · have e2 : (i : Int) < (hd : Int) := by omega
          have g3 : ((co : Int) == 3) = false := by have := f3 rfl hlo; simp; omega
          clear f2 f3 f4 f5
          cases bi
          · clear f1
            go_wp2_with fail
            go_roundg (N - (i + 1))
            case measure => omega
            case rel => exact ⟨i + 1, by omega, rfl, by go_num, by first | exact HB.out | exact HB.out.drew | exact HB.out.drewN _⟩
          · have g1 : ((co : Int) == 0) = false := by have := f1 rfl; simp; omega
            clear f1
            go_wp2_with fail
            go_roundg (N - (i + 1))
            case measure => omega
            case rel => exact ⟨i + 1, by omega, rfl, by go_num, by first | exact HB.out | exact HB.out.drew | exact HB.out.drewN _⟩
        · have e2 : ¬ (i : Int) < (hd : Int) := by omega
          have e3 : (hd : Int) ≤ (i : Int) := by omega
          cases bi
          · clear f1 f2 f3 f4 f5
            go_wp2_with fail
            go_roundg (N - (i + 1))
            case measure => omega
            case rel => exact ⟨i + 1, by omega, rfl, by go_num, by first | exact HB.out | exact HB.out.drew | exact HB.out.drewN _⟩
          · obtain rfl : co = 3 := f5 rfl hlo rfl
            clear f1 f2 f3 f4 f5 g2
            go_wp2_with fail
            go_roundg (N - (i + 1))
            case measure => omega
            case rel => exact ⟨i + 1, by omega, rfl, by go_num, by first | exact HB.out | exact HB.out.drew | exact HB.out.drewN _⟩
    · have e1 : ¬ (i : Int) < (N : Int) := by omega
      have hC6 := hid (hS5.cells)
      have hhd := HPT.out.hand
      have hnh := HPT.out.nohand
      have HBE := hid (HB4.out.trans (hB.mono HB4.out.size))
      clear hA5 hS5 hB HB
      obtain rfl | rfl | rfl : ph = 0 ∨ ph = 1 ∨ ph = 2 := by omega
      · obtain rfl := hnh (by omega)
        clear hhd hnh hC6
        go_wp2_with fail
        go_ret
        exact ⟨rfl, HBE.out⟩
      · obtain rfl := hnh (by omega)
        have hmk := hid (marked_any hC6.out (by omega) HGC.out (HPT.out.mark rfl))
        rw [hlc] at hmk
        clear hhd hnh hC6
        go_wp2_with fail
        refine hmk.out.mono ?_
        clear hmk
        intro e w9 hh
        obtain ⟨hx, hb9⟩ := hh
        subst e
        have HB9 := hid (HBE.out.trans (hb9.mono HBE.out.size))
        clear hb9
        go_wp2_with fail
        go_ret
        exact ⟨rfl, HB9.out⟩
      · have h1 := hhd rfl
        have hwi := hid (within_any hd 0 ((N : Int) - 1) wr)
        rw [decide_eq_true (show (0 : Int) ≤ (hd : Int) by omega), decide_eq_true (show (hd : Int) ≤ (N : Int) - 1 by omega)] at hwi
        clear hhd hnh hC6
        go_wp2_with fail
        refine hwi.out.mono ?_
        clear hwi
        intro e w9 hh
        obtain ⟨hx, hw⟩ := hh
        subst e
        subst w9
        go_wp2_with fail
        go_ret
        exact ⟨rfl, HBE.out⟩
end Go.Proofs.YtdmdpindonghdaaDoor
namespace Go.Proofs.YtdmdpindonghdaaDoor
open Go.RowKit
theorem pr_play {B : Nat} {w : World} {K : PK} {E : Env} {s : MS} (k a : Int) (h : PR B w K s) (hke : KE K E) (he : EnvOk E) (hi : MInv E s) (hz : E.zs.length ≤ 64) (hlen : s.out.length ≤ 8796093022208) :
    Calls Tryd.prog 29 #[.pointer (some ⟨K.b, 0, none⟩), .agg #[.int .i64 k, .int .i64 a]] w fun e w' => e = .returned (.bool true) ∧ PR B w' K (opK E k a s) ∧ Below B w w' := by
  refine (pn_play k a (PN.of h (Below.refl _ _)) hke he hi hz hlen).mono ?_
  rintro e w' ⟨a, b, c, d⟩
  exact ⟨a, b.pr, d⟩
set_option maxRecDepth 100000 in
set_option maxHeartbeats 2000000 in
theorem paintedLaw_any (raw : ByteArray) (vi vo : Value) (zs : List Int) (ops : List (Int × Int)) (cells : Int) (w : World) (hr : raw.size ≤ maxLen) (ht : FlowTab w) (hv : ArgInts w vi zs) (hcap : ∀ p n c, vi = .slice p n c → n ≤ c ∧ c ≤ maxLen) (ho : ArgSc w vo ops) (hol : ops.length ≤ 8796093022200)
    (hc1 : -9223372036854775808 ≤ cells) (hc2 : cells ≤ 9223372036854775807) :
    Calls Tryd.prog 8 #[.string raw, vi, .int .i64 cells, vo] w fun e w' => e = .returned (.bool true) ∧ Below w.heap.size w w' := by
  obtain ⟨q1, q2, q3, q4, q5⟩ := built_ok raw true
  obtain ⟨n1, n2⟩ := roomN_le cells
  have hsz : (builtS raw true).size ≤ maxLen := by
    have h1 := (errOf_zero q1).1
    obtain ⟨⟨⟨h3, h4⟩, _⟩, _⟩ : ((3 ≤ (builtS raw true).size ∧ (builtS raw true).size ≤ 122) ∧ byteAt (builtS raw true) 0 = 84) ∧ byteAt (builtS raw true) 1 ≤ 4 := by simpa [shapedP] using h1
    have : maxLen = 9223372036854775807 := rfl
    omega
  have hzl : (zs.take 64).length ≤ 64 := by rw [List.length_take]; omega
  have hrm := hid (room_any cells w hc1 hc2)
  have hbu := hid (built_any raw true w hr)
  have hso := hid (fun (W : World) (hb : Below w.heap.size w W) => some_any vi zs W (hv.keep hb) hcap)
  obtain ⟨x, hx⟩ : ∃ x, x = builtS raw true := ⟨_, rfl⟩
  rw [← hx] at hbu q1 q2 q3 q4 q5 hsz
  have hmd := hid (fun (W : World) (hb : Below w.heap.size w W) (v : Value) (hv : ArgInts W v (zs.take 64)) => made_any x v (zs.take 64) (roomN cells) W hsz (ht.below hb) hv hzl n1 n2 q1 q4)
  have HO := hid ho
  have HX : Hid (errOf x = 0 ∧ WT (codeOf x) (byteAt x 1) ∧ Det (codeOf x) (byteAt x 1)) := hid ⟨q1, q4, q5⟩
  obtain ⟨p0, c0, e0⟩ := hv.slice
  subst e0
  obtain ⟨po, co, eo⟩ := ho.slice
  subst eo
  clear hr ht hv hcap ho hc1 hc2 q1 q2 q3 q4 q5 hsz hx
  go_enter Tryd.func8, Tryd.ntmps8
  go_wp2_with fail
  refine hrm.out.mono ?_
  clear hrm
  intro e w1 hh
  obtain ⟨hx, hw⟩ := hh
  subst e
  subst w1
  go_wp2_with fail
  refine hbu.out.mono ?_
  clear hbu
  intro e w1 hh
  obtain ⟨hx, hb1⟩ := hh
  subst e
  have hs1 := hid (hso.out w1 hb1)
  have HB1 := hid hb1
  clear hb1 hso
  go_wp2_with fail
  refine hs1.out.mono ?_
  clear hs1
  intro e w2 hh
  obtain ⟨⟨v1, hx, hv1⟩, hw⟩ := hh
  subst e
  subst w2
  have hm1 := hid (hmd.out w1 HB1.out v1 hv1)
  clear hv1 hmd
  go_wp2_with fail
  refine hm1.out.mono ?_
  clear hm1
  intro e w2 hh
  obtain ⟨K, hx, hM⟩ := hh
  subst e
  obtain ⟨hxe, hxw, hxd⟩ := HX.out
  have hke := hM.ke
  have hok := hM.ok
  have hin := hM.inv
  have hnm : NoMix (envOf x K.fs (zs.take 64) (roomN cells)) := noMix_of hxe hxw hM.set hM.still hxd
  have hEz : (envOf x K.fs (zs.take 64) (roomN cells)).zs.length ≤ 64 := hzl
  have hEn : (envOf x K.fs (zs.take 64) (roomN cells)).n = roomN cells := rfl
  have hgs : GS (startS (byteAt x 1) (roomN cells)) := GS.start _ _
  have hP0 := hM.pr.mono HB1.out.size
  obtain ⟨E, hEd⟩ : ∃ E, E = envOf x K.fs (zs.take 64) (roomN cells) := ⟨_, rfl⟩
  obtain ⟨s0, hs0⟩ : ∃ s0, s0 = startS (byteAt x 1) (roomN cells) := ⟨_, rfl⟩
  have h01 : s0.out.length = 0 := by rw [hs0]; rfl
  rw [← hEd] at hke hok hin hnm hEz hEn
  rw [← hs0] at hin hgs hP0
  have HB2 := hid (HB1.out.trans (hM.below.mono HB1.out.size))
  have HIN := hid hin
  have HGS := hid hgs
  have HP0 := hid hP0
  have HNM := hid hnm
  have hpa := hid (fun (W : World) (s : MS) (h1 : PR w.heap.size W K s) (h2 : MInv E s) (h3 : GS s) => painted_any h1 hke hok h2 h3 hnm hEn)
  have hpl := hid (fun (W : World) (s : MS) (k a : Int) (h1 : PR w.heap.size W K s) (h2 : MInv E s) (h3 : s.out.length ≤ 8796093022208) => pr_play k a h1 hke hok h2 hEz h3)
  have hp0 := hid (hpa.out w2 s0 hP0 hin hgs)
  clear hM HX hxe hxw hxd hEd hs0 hin hgs hP0 hnm HB1
  go_wp2_with fail
  refine hp0.out.mono ?_
  clear hp0
  intro e w3 hh
  obtain ⟨hx, hb3⟩ := hh
  subst e
  have HB3 := hid (HB2.out.trans (hb3.mono HB2.out.size))
  have HP3 := hid (HP0.out.keep hb3)
  clear hb3 HB2 HP0
  go_wp2_with fail
  go_loopg [13, 12] ops.length (fun gk x y w' => ∃ (j : Nat) (s : MS), j ≤ ops.length ∧ gk = ops.length - j ∧ x = .int .i64 j ∧ y = .bool true ∧ PR w.heap.size w' K s ∧ MInv E s ∧ GS s ∧ s.out.length ≤ j ∧ Below w.heap.size w w')
  case atStart => exact ⟨0, s0, by omega, by omega, rfl, rfl, HP3.out, HIN.out, HGS.out, by omega, HB3.out⟩
  case round =>
    obtain ⟨j, s, hj, hgk, rfl, rfl, hP, hI, hG, hout, hB⟩ := hrel
    rcases Nat.lt_or_ge j ops.length with hlt | hge
    · have d0 : (0 : Int) ≤ (j : Int) := by omega
      have d1 : (j : Int) < (ops.length : Int) := by omega
      have d2 : (j : Int) + 1 ≤ 17592186044416 := by omega
      obtain ⟨g', o', e0, y0, y1⟩ := HO.out.get hB hlt
      cases e0
      generalize ops[j] = xx at *
      obtain ⟨x1, x2⟩ := xx
      have hp1 := hid (hpl.out wr s x1 x2 hP hI (by omega))
      have HI := hid hI
      have HG := hid hG
      have HB := hid hB
      clear hP hI hG hB HP3 HIN HGS HB3 hpl
      go_wp2_with fail
      refine hp1.out.mono ?_
      clear hp1
      intro e w6 hh
      obtain ⟨hx, hP6, hB6⟩ := hh
      subst e
      have hI2 := HI.out.opK hok x1 x2
      have hG2 := HG.out.opK hok HNM.out HI.out x1 x2
      have ho2 := opK_out E x1 x2 s
      generalize opK E x1 x2 s = t at *
      have hpt := hid (hpa.out w6 t hP6 hI2 hG2)
      have HP6 := hid hP6
      have HI2 := hid hI2
      have HG2 := hid hG2
      have HB6 := hid (HB.out.trans hB6)
      clear hP6 hI2 hG2 hB6 y0 y1 HI HG HB hpa
      go_wp2_with fail
      refine hpt.out.mono ?_
      clear hpt
      intro e w7 hh
      obtain ⟨hx, hb7⟩ := hh
      subst e
      have HB7 := hid (HB6.out.trans (hb7.mono HB6.out.size))
      have HP7 := hid (HP6.out.keep hb7)
      clear hb7 HB6 HP6
      go_wp2_with fail
      go_roundg (ops.length - (j + 1))
      case measure => omega
      case rel => exact ⟨j + 1, t, by omega, rfl, by go_num, rfl, HP7.out, HI2.out, HG2.out, by omega, HB7.out⟩
    · have d1 : ¬ (j : Int) < (ops.length : Int) := by omega
      have HB := hid hB
      clear hP hI hG hB
      go_wp2_with fail
      go_ret
      exact ⟨rfl, HB.out⟩
end Go.Proofs.YtdmdpindonghdaaDoor
namespace Go.Proofs.YtdmdpindonghdaaDoor
open Go.RowKit
/-- How many cells are not black. -/
def unbL (T : List Cl) : Nat := T.countP (fun c => c.col != 3)
theorem unbL_le (T : List Cl) : unbL T ≤ T.length := List.countP_le_length
theorem unbL_modify {T : List Cl} {g n : Nat} (h : g < T.length) : unbL (T.modify g (paintL n)) = unbL T - (if (T[g].col != 3) = true then 1 else 0) + (if (n != 3) = true then 1 else 0) := by
  unfold unbL
  rw [modify_setL h (paintL n), List.countP_set h]
  rfl
theorem unbL_pos {T : List Cl} {g : Nat} (h : g < T.length) (h3 : T[g].col ≠ 3) : 1 ≤ unbL T := by
  unfold unbL
  exact List.countP_pos_iff.2 ⟨T[g], List.getElem_mem h, by simpa using h3⟩
theorem unbL_shade (T : List Cl) (r : Int) : unbL (shadeL T r) = unbL T := by
  unfold shadeL
  split
  · rename_i h
    simp only [hasL, Bool.and_eq_true, decide_eq_true_eq, beq_iff_eq] at h
    have hl : r.toNat < T.length := by omega
    have hc : T[r.toNat].col = 1 := by rw [← colL_get hl]; exact h.2.2
    have := unbL_pos hl (by omega)
    rw [unbL_modify hl, hc]
    simp
    omega
  · rfl
theorem unbL_shades : ∀ (rs : List Int) (T : List Cl), unbL (shadesL T rs) = unbL T
  | [], _ => rfl
  | r :: rs, T => by simp only [shadesL]; rw [unbL_shades rs, unbL_shade]
/-- Is a root white? -/
def wroot (T : List Cl) (rs : List Int) : Nat := if rs.any (fun r => hasL T r 1) = true then 1 else 0
theorem wroot_le (T : List Cl) (rs : List Int) : wroot T rs ≤ 1 := by unfold wroot; split <;> omega
theorem hasL_iff {T : List Cl} {r : Int} {n : Nat} (h9 : n ≠ 9) : hasL T r n = true ↔ ∃ k : Nat, r = (k : Int) ∧ colL T k = n := by
  simp only [hasL, Bool.and_eq_true, decide_eq_true_eq, beq_iff_eq]
  constructor
  · rintro ⟨a, b, c⟩
    exact ⟨r.toNat, by omega, c⟩
  · rintro ⟨k, rfl, hk⟩
    refine ⟨by omega, ?_, by simpa using hk⟩
    rcases Nat.lt_or_ge k T.length with hl | hl
    · omega
    · rw [colL_none (List.getElem?_eq_none hl)] at hk
      exact absurd hk.symm h9
theorem wroot_one {T : List Cl} {rs : List Int} {k : Nat} (hk : (k : Int) ∈ rs) (h1 : colL T k = 1) : wroot T rs = 1 := by
  unfold wroot
  rw [if_pos]
  exact List.any_eq_true.2 ⟨(k : Int), hk, (hasL_iff (by omega)).2 ⟨k, rfl, h1⟩⟩
theorem wroot_mono {T T' : List Cl} {rs : List Int} (h : ∀ k, colL T' k = 1 → colL T k = 1) : wroot T' rs ≤ wroot T rs := by
  by_cases e : rs.any (fun r => hasL T' r 1) = true
  · obtain ⟨r, hr, h2⟩ := List.any_eq_true.1 e
    obtain ⟨k, rfl, hk⟩ := (hasL_iff (by omega)).1 h2
    rw [wroot_one hr (h k hk)]
    exact wroot_le _ _
  · unfold wroot
    rw [if_neg e]
    exact Nat.zero_le _
theorem wroot_shades (T : List Cl) (rs : List Int) : wroot (shadesL T rs) rs = 0 := by
  unfold wroot
  rw [if_neg]
  intro e
  obtain ⟨r, hr, h2⟩ := List.any_eq_true.1 e
  obtain ⟨k, rfl, hk⟩ := (hasL_iff (by omega)).1 h2
  rw [shades_colL] at hk
  split at hk
  · omega
  · rename_i h
    exact h ⟨hr, hk⟩
/-- How many units lead to Idle, at most. -/
def nuL (T : List Cl) (ph hd : Nat) (rs : List Int) : Nat := if ph = 0 then 0 else if ph = 2 then T.length - hd else unbL T + wroot T rs + 1 + T.length
theorem nuL_le (T : List Cl) (ph hd : Nat) (rs : List Int) : nuL T ph hd rs ≤ 2 * T.length + 2 := by
  have := unbL_le T
  have := wroot_le T rs
  unfold nuL
  split
  · omega
  split <;> omega
theorem black_nu {T : List Cl} {rs : List Int} {g : Nat} {c : Cl} (hg : T[g]? = some c) (h2 : c.col = 2) : unbL (blackL T g) < unbL T ∧ wroot (blackL T g) rs ≤ wroot T rs := by
  have key : ∀ X : List Cl, unbL X = unbL T → (∀ k, colL X k = 1 → colL T k = 1) → g < X.length → colL X g = 2 → unbL (X.modify g (paintL 3)) < unbL T ∧ wroot (X.modify g (paintL 3)) rs ≤ wroot T rs := by
    intro X h1 h3 hl h4
    have hc : X[g].col = 2 := by rw [← colL_get hl]; exact h4
    have hp := unbL_pos hl (by omega)
    constructor
    · rw [unbL_modify hl, hc]
      simp
      omega
    · refine wroot_mono (fun k hk => h3 k ?_)
      rw [colL_paint _ _ _ _ hl] at hk
      split at hk
      · omega
      · exact hk
  have hgl : g < T.length := (List.getElem?_eq_some_iff.1 hg).1
  have hcg : colL T g = 2 := by rw [colL_some hg]; exact h2
  unfold blackL
  split
  · exact key T rfl (fun _ h => h) hgl hcg
  · refine key _ (by rw [unbL_shade, unbL_shade]) (fun k hk => ?_) (by rw [shadeL_len, shadeL_len]; exact hgl) ?_
    · rw [shade_colL, shade_colL] at hk
      split at hk
      · omega
      · split at hk
        · omega
        · exact hk
    · rw [shade_colL, shade_colL, hcg]
      simp
theorem nu_dec {T : List Cl} {ph hd : Nat} (rs : List Int) (h0 : ph ≠ 0) (hh : ph = 2 → hd < T.length) : nuL (unitL T ph hd rs).1 (unitL T ph hd rs).2.1 (unitL T ph hd rs).2.2 rs < nuL T ph hd rs := by
  unfold unitL
  rw [if_neg h0]
  by_cases e2 : ph = 2
  · have := hh e2
    rw [if_pos e2]
    split
    · unfold nuL
      simp [e2]
      omega
    · unfold nuL
      simp [e2, sweepL_len]
      omega
  rw [if_neg e2]
  by_cases hg : 0 ≤ greyL T
  · rw [if_pos hg]
    obtain ⟨c, hc, h2⟩ := greyL_pos hg
    obtain ⟨a1, a2⟩ := black_nu (rs := rs) hc h2
    have hl : (blackL T (greyL T).toNat).length = T.length := (black_paint T _).len
    unfold nuL
    simp only [if_neg h0, if_neg e2, hl]
    omega
  rw [if_neg hg]
  by_cases hg2 : greyL (shadesL T rs) < 0
  · rw [if_pos hg2]
    unfold nuL
    simp [h0, e2, forget_len, shadesL_len]
  · rw [if_neg hg2]
    obtain ⟨c, hc, h2⟩ := greyL_pos (T := shadesL T rs) (by omega)
    have hcol := colL_some hc
    rw [h2, shades_colL] at hcol
    have hw : wroot T rs = 1 := by
      split at hcol
      · rename_i h
        exact wroot_one h.1 h.2
      · exfalso
        have hgl : (greyL (shadesL T rs)).toNat < T.length := by
          have := (List.getElem?_eq_some_iff.1 hc).1
          rw [shadesL_len] at this
          exact this
        rw [colL_get hgl] at hcol
        exact greyL_neg (T := T) (by omega) _ (List.getElem_mem hgl) hcol
    unfold nuL
    simp only [if_neg h0, if_neg e2, shadesL_len, unbL_shades, wroot_shades, hw]
    omega
def nuH (h : HSt) (rs : List Int) : Nat := nuL (h.1.map toldC) h.2.1 h.2.2 rs
theorem nuH_dec {n : Nat} {h : HSt} {rs : List Int} (k : HOk n h) (h0 : h.2.1 ≠ 0) : nuH (stepC rs h) rs < nuH h rs := by
  have := nu_dec (T := h.1.map toldC) (hd := h.2.2) rs h0 (by simpa using k.ok.hand)
  rw [told_unit k.ok k.x rs] at this
  exact this
theorem nuH_le {n : Nat} {h : HSt} {rs : List Int} (k : HOk n h) : nuH h rs ≤ 2 * n + 2 := by
  have := nuL_le (h.1.map toldC) h.2.1 h.2.2 rs
  rw [List.length_map, k.len] at this
  exact this
theorem unitsC_succ' (rs : List Int) (h : HSt) : ∀ m, unitsC rs (m + 1) h = unitsC rs m (stepC rs h)
  | 0 => rfl
  | m + 1 => by
    show stepC rs (unitsC rs (m + 1) h) = stepC rs (unitsC rs m (stepC rs h))
    rw [unitsC_succ' rs h m]
theorem to_idle {n : Nat} {rs : List Int} : ∀ (m : Nat) (h : HSt), HOk n h → nuH h rs ≤ m → ∃ j, j ≤ m ∧ (unitsC rs j h).2.1 = 0
  | 0, h, k, hm => by
    refine ⟨0, Nat.le_refl _, ?_⟩
    show h.2.1 = 0
    apply Classical.byContradiction
    intro h0
    have := nuH_dec (rs := rs) k h0
    omega
  | m + 1, h, k, hm => by
    by_cases h0 : h.2.1 = 0
    · exact ⟨0, Nat.zero_le _, h0⟩
    · have := nuH_dec (rs := rs) k h0
      obtain ⟨j, j1, j2⟩ := to_idle (rs := rs) m (stepC rs h) (k.unit rs) (by omega)
      exact ⟨j + 1, by omega, by rw [unitsC_succ']; exact j2⟩
/-- Behind least units (0 or 1), no more than 2 units a cell and 3 in all lead to Idle. -/
theorem idle_soon {n : Nat} {rs : List Int} {h : HSt} (k : HOk n h) {least : Nat} (hl : least ≤ 1) : ∃ j, least ≤ j ∧ j ≤ 2 * n + 3 ∧ (unitsC rs j h).2.1 = 0 := by
  obtain rfl | rfl : least = 0 ∨ least = 1 := by omega
  · obtain ⟨j, j1, j2⟩ := to_idle (rs := rs) _ h k (nuH_le k)
    exact ⟨j, by omega, by omega, j2⟩
  · obtain ⟨j, j1, j2⟩ := to_idle (rs := rs) _ (stepC rs h) (k.unit rs) (nuH_le (k.unit rs))
    exact ⟨j + 1, by omega, by omega, by rw [unitsC_succ']; exact j2⟩
/-- A whole round, from Idle, unit by unit. -/
theorem GH.roundU {n : Nat} {h : HSt} {rs : List Int} (k : GH n h rs) (h0 : h.2.1 = 0) : ∀ m, 1 ≤ m → (∀ j, 1 ≤ j → j < m → (unitsC rs j h).2.1 ≠ 0) → RInvH (unitsC rs m h) rs
  | 0, h1, _ => by omega
  | 1, _, _ => RInvH.begin k h0
  | m + 2, _, hj => (k.roundU h0 (m + 1) (by omega) (fun j a b => hj j a (by omega))).unit (k.units (m + 1)) (hj (m + 1) (by omega) (by omega))
end Go.Proofs.YtdmdpindonghdaaDoor
namespace Go.Proofs.YtdmdpindonghdaaDoor
open Go.RowKit
theorem PN.keep {B n2 N : Nat} {w w' : World} {K : PK} {s : MS} (h : PN B n2 N w K s) (hb : Below w.heap.size w w') : PN B n2 N w' K s := by
  obtain ⟨F, h1, h2, h3, h4, h5⟩ := h
  exact ⟨F, h1.below hb, h2, h3, h4, Nat.le_trans h5 hb.size⟩
theorem PN.size {B n2 N : Nat} {w : World} {K : PK} {s : MS} (h : PN B n2 N w K s) : B ≤ w.heap.size ∧ N ≤ w.heap.size := by
  obtain ⟨F, h1, h2, h3, h4, h5⟩ := h
  exact ⟨by omega, h5⟩
theorem keepN_below {n2 N : Nat} {w w' : World} (hb : Below w.heap.size w w') (hN : N ≤ w.heap.size) : KeepN n2 N w w' := fun k _ hk => hb.block k (Nat.lt_of_lt_of_le hk hN)
/-- So many units lead to Idle, and none fewer, from least on. -/
structure IdleAt (E : Env) (s : MS) (least m : Nat) : Prop where
  ge : least ≤ m
  phase : (collS E m s).hs.2.1 = 0
  first : ∀ j, least ≤ j → j < m → (collS E j s).hs.2.1 ≠ 0
set_option maxRecDepth 100000 in
set_option maxHeartbeats 2000000 in
theorem idle_any {B n2 M : Nat} {w : World} {K : PK} {E : Env} {s : MS} {N least : Nat} (h : PN B n2 M w K s) (hke : KE K E) (he : EnvOk E) (hi : MInv E s) (hEN : E.n = N) (hl : least ≤ 1) :
    Calls Tryd.prog 36 #[.pointer (some ⟨K.b, 0, none⟩), .int .i64 N, .int .i64 least] w fun e w' => e = .returned (.bool true) ∧ ∃ m, IdleAt E s least m ∧ PN B n2 M w' K (collS E m s) ∧ KeepN n2 M w w' ∧ Below B w w' := by
  have hN1 := he.n1
  have hN2 := he.n32
  rw [hEN] at hN1 hN2
  have HEND : Hid (∃ j, least ≤ j ∧ j ≤ 2 * N + 3 ∧ (collS E j s).hs.2.1 = 0) := hid (by
    rw [← hEN]
    exact idle_soon (rs := rootsS E s) hi.hh hl)
  have HP := hid h
  have HI := hid hi
  clear h hi
  go_enter Tryd.func36, Tryd.ntmps36
  go_wp2_with fail
  go_loopg [7] (2 * N + 4) (fun gk x w' => ∃ k : Nat, k ≤ 2 * N + 4 ∧ gk = 2 * N + 4 - k ∧ x = .int .i64 k ∧ PN B n2 M w' K (collS E k s) ∧ KeepN n2 M w w' ∧ Below B w w' ∧ ∀ j, least ≤ j → j < k → (collS E j s).hs.2.1 ≠ 0)
  case atStart => exact ⟨0, by omega, by omega, rfl, HP.out, fun _ _ _ => rfl, Below.refl _ _, fun j _ hj => by omega⟩
  case round =>
    obtain ⟨k, hk, hgk, rfl, hP, hK, hB, hno⟩ := hrel
    have hkm : k ≤ 2 * N + 3 := by
      obtain ⟨j, j1, j2, j3⟩ := HEND.out
      apply Classical.byContradiction
      intro hc
      exact hno j j1 (by omega) j3
    have d1 : (k : Int) ≤ 2 * (N : Int) + 3 := by omega
    have hIk := HI.out.coll k
    have hst := hid (show Calls Tryd.prog 30 #[.pointer (some ⟨K.b, 0, none⟩)] wr fun e w' => ∃ pl, PStatePost (collS E k s).oc (collS E k s).va pl (collS E k s).hs.2.1 (collS E k s).hs.2.2 (locsS E (collS E k s)) (stkS E (collS E k s)) wr e w' from by
      obtain ⟨F, h1, _⟩ := hP
      exact px_state h1 hke he hIk)
    have hsz := hP.size
    have hph := hIk.hok.phz
    have HC : Hid (collS E (k + 1) s = collS E 1 (collS E k s)) := hid (collS_add E k 1 s)
    have HNO : Hid ((collS E k s).hs.2.1 ≠ 0 ∨ k < least → ∀ j, least ≤ j → j < k + 1 → (collS E j s).hs.2.1 ≠ 0) := hid (fun h0 j j1 j2 => by
      rcases Nat.lt_or_ge j k with h | h
      · exact hno j j1 h
      · obtain rfl : j = k := by omega
        rcases h0 with h0 | h0
        · exact h0
        · omega)
    have HNO0 := hid hno
    generalize ht : collS E k s = t at *
    have HT := hid ht
    clear ht
    have hcl := hid (fun (W : World) (hW : PN B n2 M W K t) => pn_coll hW hke he hIk 1 (by omega))
    have hph2 := (hIk.coll 1).hok.phz
    have HP1 := hid hP
    have HK := hid hK
    have HB := hid hB
    clear hP hK hB hno hIk
    go_wp2_with fail
    refine hst.out.mono ?_
    clear hst
    intro e w1 hh
    obtain ⟨pl, hb1, y1, y2, hx, o1, o2, _⟩ := hh
    subst e
    obtain ⟨q1, k1, e1⟩ := owns_slice o1
    obtain ⟨q2, k2, e2⟩ := owns_slice o2
    generalize (locsS E t).length = m1 at *
    generalize (stkS E t).length = m2 at *
    subst e1
    subst e2
    clear o1 o2
    have hb2 : Below w1.heap.size w1 (w1.alloc (stBox t.oc t.va pl t.hs.2.1 t.hs.2.2 (.slice q1 m1 k1) (.slice q2 m2 k2))) := (Below.refl _ _).alloc (Nat.le_refl _) _
    have hb02 := hb1.trans (hb2.mono hb1.size)
    have hP2 := HP1.out.keep hb02
    have hcl2 := hid (hcl.out _ hP2)
    have HP2 := hid hP2
    have HB2 := hid (HB.out.trans (hb02.mono hsz.1))
    have HK2 := hid (HK.out.trans (keepN_below hb02 hsz.2))
    unfold stBox at hcl2 HP2 HB2 HK2
    generalize hpe : (t.hs.2.1) = ph at *
    have HPE := hid hpe
    clear hpe
    clear hb1 hb2 hb02 hP2 HP1 HB HK hcl
    by_cases h0 : ph = 0
    · subst h0
      rcases Nat.lt_or_ge k least with hkl | hkl
      · have d2 : ¬ (least : Int) ≤ (k : Int) := by omega
        have d3 : ¬ least ≤ k := by omega
        go_wp2_with fail
        refine hcl2.out.mono ?_
        clear hcl2
        intro e w3 hh
        obtain ⟨hx, hP3, hK3, hB3⟩ := hh
        subst e
        have HP3 := hid hP3
        have HK3 := hid (HK2.out.trans hK3)
        have HB3 := hid (HB2.out.trans hB3)
        have hwi := hid (within_any (collS E 1 t).hs.2.1 0 2 w3)
        rw [decide_eq_true (show (0 : Int) ≤ ((collS E 1 t).hs.2.1 : Int) by omega), decide_eq_true (show ((collS E 1 t).hs.2.1 : Int) ≤ 2 by omega)] at hwi
        generalize ((collS E 1 t).hs.2.1) = ph3 at *
        clear hP3 hK3 hB3 HP2 HK2 HB2
        go_wp2_with fail
        refine hwi.out.mono ?_
        clear hwi
        intro e w4 hh
        obtain ⟨hx, hw⟩ := hh
        subst e
        subst w4
        go_wp2_with fail
        go_roundg (2 * N + 4 - (k + 1))
        case measure => omega
        case rel => exact ⟨k + 1, by omega, rfl, by go_num, by rw [HC.out]; exact HP3.out, HK3.out, HB3.out, HNO.out (.inr hkl)⟩
      · have d2 : (least : Int) ≤ (k : Int) := by omega
        go_wp2_with fail
        go_ret
        exact ⟨rfl, k, ⟨hkl, by rw [HT.out]; exact HPE.out, HNO0.out⟩, by rw [HT.out]; exact HP2.out, HK2.out, HB2.out⟩
    · have d2 : ((ph : Int) == 0) = false := by simp; omega
      go_wp2_with fail
      refine hcl2.out.mono ?_
      clear hcl2
      intro e w3 hh
      obtain ⟨hx, hP3, hK3, hB3⟩ := hh
      subst e
      have HP3 := hid hP3
      have HK3 := hid (HK2.out.trans hK3)
      have HB3 := hid (HB2.out.trans hB3)
      have hwi := hid (within_any (collS E 1 t).hs.2.1 0 2 w3)
      rw [decide_eq_true (show (0 : Int) ≤ ((collS E 1 t).hs.2.1 : Int) by omega), decide_eq_true (show ((collS E 1 t).hs.2.1 : Int) ≤ 2 by omega)] at hwi
      generalize ((collS E 1 t).hs.2.1) = ph3 at *
      clear hP3 hK3 hB3 HP2 HK2 HB2
      go_wp2_with fail
      refine hwi.out.mono ?_
      clear hwi
      intro e w4 hh
      obtain ⟨hx, hw⟩ := hh
      subst e
      subst w4
      go_wp2_with fail
      go_roundg (2 * N + 4 - (k + 1))
      case measure => omega
      case rel => exact ⟨k + 1, by omega, rfl, by go_num, by rw [HC.out]; exact HP3.out, HK3.out, HB3.out, HNO.out (.inl h0)⟩
end Go.Proofs.YtdmdpindonghdaaDoor
namespace Go.Proofs.YtdmdpindonghdaaDoor
open Go.RowKit
theorem px_seen {w : World} {K : PK} {E : Env} {F : Nat → Prop} {s : MS} (h : PX w K F s) (hke : KE K E) (he : EnvOk E) (hi : MInv E s) :
    Calls Tryd.prog 31 #[.pointer (some ⟨K.b, 0, none⟩)] w fun e w' => ∃ k vT S, e = .returned (.pointer (some ⟨k.b, 0, none⟩)) ∧ Saw (s.hs.1.map toldC) (rootsS E s) k vT S w w' := seen_any h hke he hi
/-- Just what can be reached is there. -/
structure TiOk (cs : List Cl) (N : Nat) (ins : List Bool) : Prop where
  len : cs.length = N
  lens : ins.length = N
  just : ∀ (k : Nat) (c : Cl), cs[k]? = some c → (ins[k]? = some true ↔ c.col ≠ 0)
  weak : ∀ (k : Nat) (c : Cl), cs[k]? = some c → c.weak = true → ∀ j : Nat, c.a = (j : Int) → ins[j]? = some true
theorem tiOk_of {E : Env} (hn : NoMix E) {s : MS} (h : MInv E s) (hg : GS s) (h0 : s.hs.2.1 = 0) (hr : RInvH s.hs (rootsS E s)) {S : Sn} (hlen : S.ins.length = (s.hs.1.map toldC).length) (hs : ∀ j, S.ins[j]? = some true ↔ Rch (s.hs.1.map toldC) (rootsS E s) j) : TiOk (s.hs.1.map toldC) E.n S.ins := by
  have hl : (s.hs.1.map toldC).length = E.n := by rw [List.length_map]; exact h.n
  have g := hg.flag
  rw [← rootsS_flag hn h] at g
  have hj : ∀ (k : Nat) (c : Cl), (s.hs.1.map toldC)[k]? = some c → (S.ins[k]? = some true ↔ c.col ≠ 0) := fun k c hc => by
    rw [hs k, ← colL_some hc]
    exact ⟨fun hk => (g.alive hk).1, fun hk => hr.idle h0 k (List.getElem?_eq_some_iff.1 hc).1 hk⟩
  refine ⟨hl, hlen.trans hl, hj, fun k c hc hw j hj2 => (hs j).2 (hr.weak0 h0 k c hc ((hs k).1 ((hj k c hc).2 ?_)) hw j hj2)⟩
  intro h0
  have := g.blank c (List.mem_of_getElem? hc) h0
  rw [this] at hw
  cases hw
set_option maxRecDepth 100000 in
set_option maxHeartbeats 2000000 in
theorem tidy_any {w : World} {K : PK} {E : Env} {F : Nat → Prop} {s : MS} {N : Nat} (h : PX w K F s) (hke : KE K E) (he : EnvOk E) (hi : MInv E s) (hg : GS s) (hn : NoMix E) (hEN : E.n = N) (h0 : s.hs.2.1 = 0) (hr : RInvH s.hs (rootsS E s)) :
    Calls Tryd.prog 37 #[.pointer (some ⟨K.b, 0, none⟩)] w fun e w' => e = .returned (.bool true) ∧ Below w.heap.size w w' := by
  have hN1 := he.n1
  have hN2 := he.n32
  rw [hEN] at hN1 hN2
  have hse := hid (px_seen h hke he hi)
  have HI := hid hi
  have HG := hid hg
  have HNM := hid hn
  have HR := hid hr
  have H0 := hid h0
  clear h hi hg hn hr h0
  go_enter Tryd.func37, Tryd.ntmps37
  go_wp2_with fail
  refine hse.out.mono ?_
  clear hse
  intro e w3 hh
  obtain ⟨k, vT, S, hx, hS⟩ := hh
  subst e
  have hB3 := hS.below
  have hTi := tiOk_of HNM.out HI.out HG.out H0.out HR.out hS.at_.len hS.ins
  have hgc := good_cells HI.out HG.out
  have hsnd := hS.ok.sound
  have hS3 := hS.sawAt
  rw [hEN] at hTi
  have hlc := hTi.len
  generalize s.hs.1.map toldC = cs at *
  have c0 := hS3.r0
  have hfr := hid (hS3.cells.refs (by omega) hgc)
  rw [hlc] at c0 hfr
  have HS3 := hid hS3
  have HB3 := hid hB3
  have HTI := hid hTi
  have HGC := hid hgc
  have HSND := hid hsnd
  clear hS hB3 hTi hgc hsnd hS3 HG HI HNM HR H0
  go_wp2_with fail
  refine hfr.out.mono ?_
  clear hfr
  intro e w4 hh
  obtain ⟨hx, hb4⟩ := hh
  subst e
  have HS4 := hid (HS3.out.keep hb4)
  have HB4 := hid (HB3.out.trans (hb4.mono HB3.out.size))
  clear hb4 HS3 HB3 c0
  go_wp2_with fail
  go_loopg [5] N (fun gk x w' => ∃ i : Nat, i ≤ N ∧ gk = N - i ∧ x = .int .i64 i ∧ Below w4.heap.size w4 w')
  case atStart => exact ⟨0, by omega, by omega, rfl, Below.refl _ _⟩
  case round =>
    obtain ⟨i, hi, hgk, rfl, hB⟩ := hrel
    have hS5 := HS4.out.keep hB
    have r0 := hS5.r0
    have r1 := hS5.r1
    have r3 := hS5.r3
    rw [hlc] at r0 r1
    rw [HSND.out] at r3
    rcases Nat.lt_or_ge i N with hil | hil
    · have e0 : (0 : Int) ≤ (i : Int) := by omega
      have e1 : (i : Int) < (N : Int) := by omega
      obtain ⟨c, hc⟩ : ∃ c, cs[i]? = some c := ⟨cs[i], List.getElem?_eq_getElem (by omega)⟩
      obtain ⟨bi, hbi⟩ : ∃ b, S.ins[i]? = some b := ⟨S.ins[i]'(by rw [HTI.out.lens]; exact hil), List.getElem?_eq_getElem (by rw [HTI.out.lens]; exact hil)⟩
      have hzk : k.b < wr.heap.size := (Array.getElem?_eq_some_iff.1 hS5.row).1
      have hzi : k.gi < wr.heap.size := (Array.getElem?_eq_some_iff.1 hS5.ins).1
      have q0 := hS5.inAt hbi
      obtain ⟨gx, capx, ex, _, hcx⟩ := hS5.cells.get (by omega)
      cases ex
      obtain ⟨x0, x1, x2, x3, x4⟩ := hcx i c hc
      have hgd := HGC.out c (List.mem_of_getElem? hc)
      have a1 := hgd.a1
      have a2 := hgd.a2
      have hfr := hgd.free
      have f1 := HTI.out.just i c hc
      have f2 := HTI.out.weak i c hc
      rw [hbi] at f1
      have HSS := hid hS5
      obtain ⟨co, wk, ra, rb, nn⟩ := c
      simp only at x0 x1 x2 x3 x4 a1 a2 f1 f2 hfr
      have HBC := hid (hB.alloc hB.size (.cells #[.int .i64 co, .bool wk, .int .i64 ra, .int .i64 rb, .int .i64 nn] 77))
      clear hS5 hcx hc hbi hB hgd
      have gb : ((!((co : Int) == 0)) : Bool) = bi := by
        cases bi
        · have : co = 0 := Classical.byContradiction (fun h => by have := f1.2 h; simp at this)
          subst this; rfl
        · have : co ≠ 0 := f1.1 rfl
          simp; omega
      clear f1
      cases wk
      · clear f2 hfr
        cases bi
        · have g1 : co = 0 := by simpa using gb
          subst g1
          clear gb
          go_wp2_with fail
          go_region
          go_wp2_with fail
          go_region
          go_wp2_with fail
          go_roundg (N - (i + 1))
          case measure => omega
          case rel => exact ⟨i + 1, by omega, rfl, by go_num, by first | exact HBC.out.drew | exact HBC.out.drew.drew | exact HBC.out.drewN _⟩
        · have g1 : ((co : Int) != 0) = true := by simpa using gb
          clear gb
          go_wp2_with fail
          go_region
          go_wp2_with fail
          go_region
          go_wp2_with fail
          go_roundg (N - (i + 1))
          case measure => omega
          case rel => exact ⟨i + 1, by omega, rfl, by go_num, by first | exact HBC.out.drew | exact HBC.out.drew.drew | exact HBC.out.drewN _⟩
      · cases bi
        · exfalso
          have g1 : co = 0 := by simpa using gb
          have := hfr g1
          simp [blankL] at this
        have g1 : ((co : Int) != 0) = true := by simpa using gb
        clear gb hfr
        by_cases hra : ra = -1
        · subst hra
          clear f2
          go_wp2_with fail
          go_region
          go_wp2_with fail
          go_region
          go_wp2_with fail
          go_roundg (N - (i + 1))
          case measure => omega
          case rel => exact ⟨i + 1, by omega, rfl, by go_num, by first | exact HBC.out.drew | exact HBC.out.drew.drew | exact HBC.out.drewN _⟩
        · obtain ⟨jj, rfl⟩ : ∃ jj : Nat, ra = (jj : Int) := ⟨ra.toNat, by omega⟩
          have z0 : ((jj : Int) == -1) = false := by simp
          have z1 : (0 : Int) ≤ (jj : Int) := by omega
          have z2 : (jj : Int) < (N : Int) := by omega
          have q1 := HSS.out.inAt (f2 rfl jj rfl)
          clear f2
          go_wp2_with fail
          go_region
          go_wp2_with fail
          go_region
          · go_wp2_with fail
            go_roundg (N - (i + 1))
            case measure => omega
            case rel => exact ⟨i + 1, by omega, rfl, by go_num, by first | exact HBC.out.drew | exact HBC.out.drew.drew | exact HBC.out.drewN _⟩
          · go_wp2_with fail
            go_roundg (N - (i + 1))
            case measure => omega
            case rel => exact ⟨i + 1, by omega, rfl, by go_num, by first | exact HBC.out.drew | exact HBC.out.drew.drew | exact HBC.out.drewN _⟩
    · have e1 : ¬ (i : Int) < (N : Int) := by omega
      have HBE := hid (HB4.out.trans (hB.mono HB4.out.size))
      clear hS5 hB
      go_wp2_with fail
      go_ret
      exact ⟨rfl, HBE.out⟩
end Go.Proofs.YtdmdpindonghdaaDoor
namespace Go.Proofs.YtdmdpindonghdaaDoor
open Go.RowKit
/-- What a round that was under way and one more have come to. -/
structure TidyEnd (E : Env) (s u : MS) : Prop where
  inv : MInv E u
  gs : GS u
  phase : u.hs.2.1 = 0
  roots : rootsS E u = rootsS E s
  rinv : RInvH u.hs (rootsS E s)
  kept : Kept (s.hs.1.map toldC) (u.hs.1.map toldC) (rootsS E s)
theorem tidy_end {E : Env} (hn : NoMix E) {s : MS} (h : MInv E s) (hg : GS s) {m1 m2 : Nat} (h1 : IdleAt E s 0 m1) (h2 : IdleAt E (collS E m1 s) 1 m2) : TidyEnd E s (collS E m2 (collS E m1 s)) := by
  have hrt := rootsS_flag hn h
  have k0 : GH E.n s.hs (rootsS E s) := ⟨h.hh, by rw [hrt]; exact hg.flag⟩
  have k1 := k0.units m1
  have i1 := h.coll m1
  have g1 := hg.coll hn h m1
  refine ⟨i1.coll m2, g1.coll hn i1 m2, h2.phase, rfl, ?_, ?_⟩
  · exact k1.roundU h1.phase m2 h2.ge h2.first
  · exact (k0.keptU m1).trans (k1.keptU m2)
/-- What is told before and behind. -/
structure TwoOk (cs ds : List Cl) (N : Nat) (ins ins2 : List Bool) : Prop where
  len1 : cs.length = N
  len2 : ds.length = N
  lens : ins.length = N
  eqs : ins2 = ins
  good : ∀ c ∈ cs, CGood N c
  cell : ∀ (i : Nat) (c : Cl), cs[i]? = some c → ins[i]? = some true → ∃ d, ds[i]? = some d ∧ d.weak = c.weak ∧ d.b = c.b ∧ d.num = c.num ∧ (c.weak = false → d.a = c.a) ∧ (c.weak = true → c.a = -1 → d.a = -1) ∧ (c.weak = true → ∀ j : Nat, c.a = (j : Int) → ins[j]? = some true → d.a = c.a) ∧ (c.weak = true → ∀ j : Nat, c.a = (j : Int) → ins[j]? = some false → d.a = -1)
theorem twoOk_of {E : Env} {s u : MS} {N : Nat} (h : TidyEnd E s u) (hi : MInv E s) (hg : GS s) (hEN : E.n = N) {k k2 : SK} {vT vT2 : Value} {S S2 : Sn} {w w1 w2 w3 : World} (h1 : Saw (s.hs.1.map toldC) (rootsS E s) k vT S w w1) (h2 : Saw (u.hs.1.map toldC) (rootsS E u) k2 vT2 S2 w2 w3) : TwoOk (s.hs.1.map toldC) (u.hs.1.map toldC) N S.ins S2.ins := by
  have l1 : (s.hs.1.map toldC).length = N := by rw [List.length_map, hi.n, hEN]
  have l2 : (u.hs.1.map toldC).length = N := by rw [List.length_map, h.inv.n, hEN]
  have n1 := h1.at_.len
  have n2 := h2.at_.len
  rw [l1] at n1
  rw [l2] at n2
  have i1 := h1.ins
  have i2 := h2.ins
  rw [h.roots] at i2
  have hno : ∀ j : Nat, S.ins[j]? = some false → ¬ Rch (s.hs.1.map toldC) (rootsS E s) j := fun j hj hr => by
    rw [(i1 j).2 hr] at hj
    cases hj
  have hei : S2.ins = S.ins := by
    apply List.ext_getElem?
    intro j
    have hk := h.kept.iff j
    rcases Nat.lt_or_ge j N with hj | hj
    · have q1 : S.ins[j]? = some (S.ins[j]'(by omega)) := List.getElem?_eq_getElem (by omega)
      have q2 : S2.ins[j]? = some (S2.ins[j]'(by omega)) := List.getElem?_eq_getElem (by omega)
      have := i1 j
      have := i2 j
      rw [q1, q2]
      cases e1 : S.ins[j]'(by omega) <;> cases e2 : S2.ins[j]'(by omega)
      · rfl
      · rw [e2] at q2
        rw [e1] at q1
        have := (i1 j).2 (hk.1 ((i2 j).1 q2))
        rw [q1] at this
        cases this
      · rw [e2] at q2
        rw [e1] at q1
        have := (i2 j).2 (hk.2 ((i1 j).1 q1))
        rw [q2] at this
        cases this
      · rfl
    · rw [List.getElem?_eq_none (by omega), List.getElem?_eq_none (by omega)]
  refine ⟨l1, l2, n1, hei, by rw [← l1]; exact good_cells hi hg, ?_⟩
  intro i c hc hin
  have hr := (i1 i).1 hin
  obtain ⟨d, g1, g2, g3, g4, g5, g6⟩ := h.kept.cell i c hr hc
  refine ⟨d, g1, g2, g3, g4, g5, fun hw ha => ?_, fun hw j hj hin2 => ?_, fun hw j hj hin2 => ?_⟩
  · rcases g6 hw with e | ⟨e, _⟩
    · rw [e]; exact ha
    · exact e
  · rcases g6 hw with e | ⟨_, e⟩
    · exact e
    · exact absurd ((i1 j).1 hin2) (e j hj)
  · rcases g6 hw with e | ⟨e, _⟩
    · exfalso
      have := h.rinv.weak0 h.phase i d g1 (h.kept.on hr) (by rw [g2]; exact hw) j (by rw [e]; exact hj)
      exact hno j hin2 (h.kept.back j this)
    · exact e
set_option maxRecDepth 100000 in
set_option maxHeartbeats 2000000 in
theorem tidyLaw_any (raw : ByteArray) (vi vo : Value) (zs : List Int) (ops : List (Int × Int)) (cells : Int) (w : World) (hr : raw.size ≤ maxLen) (ht : FlowTab w) (hv : ArgInts w vi zs) (hcap : ∀ p n c, vi = .slice p n c → n ≤ c ∧ c ≤ maxLen) (ho : ArgSc w vo ops) (hol : ops.length ≤ 8796093022200)
    (hc1 : -9223372036854775808 ≤ cells) (hc2 : cells ≤ 9223372036854775807) :
    Calls Tryd.prog 9 #[.string raw, vi, .int .i64 cells, vo] w fun e w' => e = .returned (.bool true) ∧ Below w.heap.size w w' := by
  obtain ⟨q1, q2, q3, q4, q5⟩ := built_ok raw true
  obtain ⟨n1, n2⟩ := roomN_le cells
  have hsz : (builtS raw true).size ≤ maxLen := by
    have h1 := (errOf_zero q1).1
    obtain ⟨⟨⟨h3, h4⟩, _⟩, _⟩ : ((3 ≤ (builtS raw true).size ∧ (builtS raw true).size ≤ 122) ∧ byteAt (builtS raw true) 0 = 84) ∧ byteAt (builtS raw true) 1 ≤ 4 := by simpa [shapedP] using h1
    have : maxLen = 9223372036854775807 := rfl
    omega
  have hzl : (zs.take 64).length ≤ 64 := by rw [List.length_take]; omega
  have hrm := hid (room_any cells w hc1 hc2)
  have hbu := hid (built_any raw true w hr)
  have hso := hid (fun (W : World) (hb : Below w.heap.size w W) => some_any vi zs W (hv.keep hb) hcap)
  obtain ⟨x, hx⟩ : ∃ x, x = builtS raw true := ⟨_, rfl⟩
  rw [← hx] at hbu q1 q2 q3 q4 q5 hsz
  have hmd := hid (fun (W : World) (hb : Below w.heap.size w W) (v : Value) (hv : ArgInts W v (zs.take 64)) => made_any x v (zs.take 64) (roomN cells) W hsz (ht.below hb) hv hzl n1 n2 q1 q4)
  have HO := hid ho
  have HX : Hid (errOf x = 0 ∧ WT (codeOf x) (byteAt x 1) ∧ Det (codeOf x) (byteAt x 1)) := hid ⟨q1, q4, q5⟩
  obtain ⟨p0, c0, e0⟩ := hv.slice
  subst e0
  obtain ⟨po, co, eo⟩ := ho.slice
  subst eo
  clear hr ht hv hcap ho hc1 hc2 q1 q2 q3 q4 q5 hsz hx
  go_enter Tryd.func9, Tryd.ntmps9
  go_wp2_with fail
  refine hrm.out.mono ?_
  clear hrm
  intro e w1 hh
  obtain ⟨hx, hw⟩ := hh
  subst e
  subst w1
  go_wp2_with fail
  refine hbu.out.mono ?_
  clear hbu
  intro e w1 hh
  obtain ⟨hx, hb1⟩ := hh
  subst e
  have hs1 := hid (hso.out w1 hb1)
  have HB1 := hid hb1
  clear hb1 hso
  go_wp2_with fail
  refine hs1.out.mono ?_
  clear hs1
  intro e w2 hh
  obtain ⟨⟨v1, hx, hv1⟩, hw⟩ := hh
  subst e
  subst w2
  have hm1 := hid (hmd.out w1 HB1.out v1 hv1)
  clear hv1 hmd
  go_wp2_with fail
  refine hm1.out.mono ?_
  clear hm1
  intro e w2 hh
  obtain ⟨K, hx, hM⟩ := hh
  subst e
  obtain ⟨hxe, hxw, hxd⟩ := HX.out
  have hke := hM.ke
  have hok := hM.ok
  have hin := hM.inv
  have hnm : NoMix (envOf x K.fs (zs.take 64) (roomN cells)) := noMix_of hxe hxw hM.set hM.still hxd
  have hEz : (envOf x K.fs (zs.take 64) (roomN cells)).zs.length ≤ 64 := hzl
  have hEn : (envOf x K.fs (zs.take 64) (roomN cells)).n = roomN cells := rfl
  have hgs : GS (startS (byteAt x 1) (roomN cells)) := GS.start _ _
  have hP0 := hM.pr.mono HB1.out.size
  obtain ⟨E, hEd⟩ : ∃ E, E = envOf x K.fs (zs.take 64) (roomN cells) := ⟨_, rfl⟩
  obtain ⟨s0, hs0⟩ : ∃ s0, s0 = startS (byteAt x 1) (roomN cells) := ⟨_, rfl⟩
  have h01 : s0.out.length = 0 := by rw [hs0]; rfl
  rw [← hEd] at hke hok hin hnm hEz hEn
  rw [← hs0] at hin hgs hP0
  have HB2 := hid (HB1.out.trans (hM.below.mono HB1.out.size))
  have HIN := hid hin
  have HGS := hid hgs
  have HP0 := hid hP0
  have HNM := hid hnm
  have hpl := hid (fun (W : World) (s : MS) (k a : Int) (h1 : PR w.heap.size W K s) (h2 : MInv E s) (h3 : s.out.length ≤ 8796093022208) => pr_play k a h1 hke hok h2 hEz h3)
  have htl := hid (fun (W : World) (s : MS) (h1 : PR w.heap.size W K s) (h2 : MInv E s) => pr_seen h1 hke hok h2)
  clear hM HX hxe hxw hxd hEd hs0 hin hgs hP0 hnm HB1
  go_wp2_with fail
  go_loopg [13, 12] ops.length (fun gk x y w' => ∃ (j : Nat) (s : MS), j ≤ ops.length ∧ gk = ops.length - j ∧ x = .int .i64 j ∧ y = .bool true ∧ PR w.heap.size w' K s ∧ MInv E s ∧ GS s ∧ s.out.length ≤ j ∧ Below w.heap.size w w')
  case atStart => exact ⟨0, s0, by omega, by omega, rfl, rfl, HP0.out, HIN.out, HGS.out, by omega, HB2.out⟩
  case round =>
    obtain ⟨j, s, hj, hgk, rfl, rfl, hP, hI, hG, hout, hB⟩ := hrel
    rcases Nat.lt_or_ge j ops.length with hlt | hge
    · have d0 : (0 : Int) ≤ (j : Int) := by omega
      have d1 : (j : Int) < (ops.length : Int) := by omega
      have d2 : (j : Int) + 1 ≤ 17592186044416 := by omega
      obtain ⟨g', o', e0, y0, y1⟩ := HO.out.get hB hlt
      cases e0
      generalize ops[j] = xx at *
      obtain ⟨x1, x2⟩ := xx
      have hp1 := hid (hpl.out wr s x1 x2 hP hI (by omega))
      have HI := hid hI
      have HG := hid hG
      have HB := hid hB
      clear hP hI hG hB HP0 HIN HGS HB2 hpl htl
      go_wp2_with fail
      refine hp1.out.mono ?_
      clear hp1
      intro e w6 hh
      obtain ⟨hx, hP6, hB6⟩ := hh
      subst e
      have hI2 := HI.out.opK hok x1 x2
      have hG2 := HG.out.opK hok HNM.out HI.out x1 x2
      have ho2 := opK_out E x1 x2 s
      generalize opK E x1 x2 s = t at *
      have HP6 := hid hP6
      have HI2 := hid hI2
      have HG2 := hid hG2
      have HB6 := hid (HB.out.trans hB6)
      clear hP6 hI2 hG2 hB6 y0 y1 HI HG HB
      go_wp2_with fail
      go_roundg (ops.length - (j + 1))
      case measure => omega
      case rel => exact ⟨j + 1, t, by omega, rfl, by go_num, rfl, HP6.out, HI2.out, HG2.out, by omega, HB6.out⟩
    · have d1 : ¬ (j : Int) < (ops.length : Int) := by omega
      have hse := hid (htl.out wr s hP hI)
      have HP := hid hP
      have HI := hid hI
      have HG := hid hG
      have HB := hid hB
      clear hP hI hG hB HP0 HIN HGS HB2 hpl htl HO
      go_wp2_with fail
      refine hse.out.mono ?_
      clear hse
      intro e w5 hh
      obtain ⟨k, vT, S, hx, hS⟩ := hh
      subst e
      have hS5 := hS.sawAt
      have hgc := good_cells HI.out HG.out
      have hnl := HI.out.n
      have hlc : (s.hs.1.map toldC).length = roomN cells := by rw [List.length_map, hnl, hEn]
      have c0' := hS5.r0
      have hfr := hid (hS5.cells.refs (by omega) hgc)
      rw [hlc] at c0' hfr
      have HS := hid hS
      clear hS hS5 hgc
      go_wp2_with fail
      refine hfr.out.mono ?_
      clear hfr
      intro e w6 hh
      obtain ⟨hx, hb6⟩ := hh
      subst e
      have hb06 := HS.out.below.trans (hb6.mono HS.out.below.size)
      have hPN := PN.of HP.out hb06
      have hid0 := hid (idle_any (least := 0) hPN hke hok HI.out hEn (by omega))
      have HB6 := hid (HB.out.trans (hb06.mono HB.out.size))
      have HK6 : Hid (KeepN wr.heap.size w5.heap.size w5 w6) := hid (keepN_below hb6 (Nat.le_refl _))
      have hz6 := hb6.size
      clear hb6 hb06 hPN c0' HB
      go_wp2_with fail
      refine hid0.out.mono ?_
      clear hid0
      intro e w7 hh
      obtain ⟨hx, m1, hA1, hP7, hK7, hB7⟩ := hh
      subst e
      have hI7 := HI.out.coll m1
      have hid1 := hid (idle_any (least := 1) hP7 hke hok hI7 hEn (by omega))
      have HK7 : Hid (KeepN wr.heap.size w5.heap.size w5 w7) := hid (HK6.out.trans (fun q a b => hK7 q a (by omega)))
      have HB7 := hid (HB6.out.trans hB7)
      have HA1 := hid hA1
      clear hA1 hP7 hK7 hB7 hI7 HK6 HB6
      go_wp2_with fail
      refine hid1.out.mono ?_
      clear hid1
      intro e w8 hh
      obtain ⟨hx, m2, hA2, hP8, hK8, hB8⟩ := hh
      subst e
      have hT := tidy_end HNM.out HI.out HG.out HA1.out hA2
      have hz8 := hP8.size
      have HK8 : Hid (KeepN wr.heap.size w5.heap.size w5 w8) := hid (HK7.out.trans (fun q a b => hK8 q a (by omega)))
      have HB8 := hid (HB7.out.trans hB8)
      obtain ⟨u, hu⟩ : ∃ u, u = collS E m2 (collS E m1 s) := ⟨_, rfl⟩
      rw [← hu] at hT hP8
      have htd := hid (show Calls Tryd.prog 37 #[.pointer (some ⟨K.b, 0, none⟩)] w8 fun e w' => e = .returned (.bool true) ∧ Below w8.heap.size w8 w' from by
        obtain ⟨F, h1, _⟩ := hP8
        exact tidy_any h1 hke hok hT.inv hT.gs HNM.out hEn hT.phase (by rw [hT.roots]; exact hT.rinv))
      have HP8 := hid hP8
      have HT := hid hT
      clear hT hP8 hK8 hB8 hA2 HA1 hu HB7 HK7
      go_wp2_with fail
      refine htd.out.mono ?_
      clear htd
      intro e w9 hh
      obtain ⟨hx, hb9⟩ := hh
      subst e
      have hse2 := hid (show Calls Tryd.prog 31 #[.pointer (some ⟨K.b, 0, none⟩)] w9 fun e w' => ∃ k vT S, e = .returned (.pointer (some ⟨k.b, 0, none⟩)) ∧ Saw (u.hs.1.map toldC) (rootsS E u) k vT S w9 w' from by
        obtain ⟨F, h1, _⟩ := HP8.out.keep hb9
        exact seen_any h1 hke hok HT.out.inv)
      have hS9 := (HS.out.kept HK8.out (Nat.le_trans hz6 (by omega))).keep hb9
      have HS9 := hid hS9
      have HB9 := hid (HB8.out.trans (hb9.mono (HB8.out.size)))
      clear hb9 hS9 HP8 HB8 HK8
      go_wp2_with fail
      refine hse2.out.mono ?_
      clear hse2
      intro e w10 hh
      obtain ⟨k2, vT2, S2, hx, hS2⟩ := hh
      subst e
      have hTw := twoOk_of HT.out HI.out HG.out hEn HS.out hS2
      have hS10 := HS9.out.keep hS2.below
      have hQ10 := hS2.sawAt
      have HB10 := hid (HB9.out.trans (hS2.below.mono HB9.out.size))
      have hl1 := hTw.len1
      have hl2 := hTw.len2
      have hei := hTw.eqs
      generalize s.hs.1.map toldC = cs at *
      generalize u.hs.1.map toldC = ds at *
      generalize roomN cells = N at *
      have r1 := hS10.r1
      have t1 := hQ10.r1
      rw [hl1] at r1
      rw [hl2] at t1
      have HS10 := hid hS10
      have HQ10 := hid hQ10
      have HTW := hid hTw
      clear hS2 hS10 hQ10 hTw HS9 HB9 HT HS HI HG HP
      go_wp2_with fail
      go_loopg [19] N (fun gk x w' => ∃ i : Nat, i ≤ N ∧ gk = N - i ∧ x = .int .i64 i ∧ Below w10.heap.size w10 w')
      case atStart => exact ⟨0, by omega, by omega, rfl, Below.refl _ _⟩
      case round =>
        obtain ⟨i, hi, hgk2, rfl, hBi⟩ := hrel
        rcases Nat.lt_or_ge i N with hil | hil
        · have e0 : (0 : Int) ≤ (i : Int) := by omega
          have e1 : (i : Int) < (N : Int) := by omega
          have hS := HS10.out.keep hBi
          have hQ := HQ10.out.keep hBi
          obtain ⟨c, hc⟩ : ∃ c, cs[i]? = some c := ⟨cs[i], List.getElem?_eq_getElem (by omega)⟩
          obtain ⟨d, hd⟩ : ∃ d, ds[i]? = some d := ⟨ds[i], List.getElem?_eq_getElem (by omega)⟩
          obtain ⟨bi, hbi⟩ : ∃ b, S.ins[i]? = some b := ⟨S.ins[i]'(by rw [HTW.out.lens]; exact hil), List.getElem?_eq_getElem (by rw [HTW.out.lens]; exact hil)⟩
          have r0 := hS.r0
          have r1 := hS.r1
          have t0 := hQ.r0
          have t1 := hQ.r1
          rw [hl1] at r0 r1
          rw [hl2] at t0 t1
          have q0 := hS.inAt hbi
          have q1 := hQ.inAt (i := i) (b := bi) (by rw [hei]; exact hbi)
          have hzk : k.b < wr.heap.size := (Array.getElem?_eq_some_iff.1 hS.row).1
          have hzi : k.gi < wr.heap.size := (Array.getElem?_eq_some_iff.1 hS.ins).1
          have hyk : k2.b < wr.heap.size := (Array.getElem?_eq_some_iff.1 hQ.row).1
          have hyi : k2.gi < wr.heap.size := (Array.getElem?_eq_some_iff.1 hQ.ins).1
          have hzk' : k.b < wr.heap.size + 1 := by omega
          have hzi' : k.gi < wr.heap.size + 1 := by omega
          have hyk' : k2.b < wr.heap.size + 1 := by omega
          have hyi' : k2.gi < wr.heap.size + 1 := by omega
          obtain ⟨gx, capx, ex, hgx, hcx⟩ := hS.cells.get (by omega)
          cases ex
          obtain ⟨gy, capy, ey, hgy, hcy⟩ := hQ.cells.get (by omega)
          cases ey
          have hzc : k.gc < wr.heap.size := Nat.lt_of_lt_of_le hgx hS.cells.le
          have hyc : k2.gc < wr.heap.size := Nat.lt_of_lt_of_le hgy hQ.cells.le
          obtain ⟨x0, x1, x2, x3, x4⟩ := hcx i c hc
          obtain ⟨y0, y1, y2, y3, y4⟩ := hcy i d hd
          have hgd := HTW.out.good c (List.mem_of_getElem? hc)
          have a1 := hgd.a1
          have a2 := hgd.a2
          have hce := HTW.out.cell i c hc
          rw [hbi] at hce
          have HSS := hid hS
          obtain ⟨co, wk, ra, rb, nn⟩ := c
          simp only at x0 x1 x2 x3 x4 a1 a2 hce
          have hd2 : bi = true → d.weak = wk ∧ d.b = rb ∧ d.num = nn ∧ (wk = false → d.a = ra) ∧ (wk = true → ra = -1 → d.a = -1) ∧ (wk = true → ∀ j : Nat, ra = (j : Int) → S.ins[j]? = some true → d.a = ra) ∧ (wk = true → ∀ j : Nat, ra = (j : Int) → S.ins[j]? = some false → d.a = -1) := fun hb => by
            subst hb
            obtain ⟨d', g1, g2⟩ := hce rfl
            rw [hd] at g1
            cases g1
            exact g2
          obtain ⟨do_, dw, da, db, dn⟩ := d
          simp only at y0 y1 y2 y3 y4 hd2
          have HBC := hid (fun (za : Int) => (hBi.alloc hBi.size (.cells #[.int .i64 co, .bool wk, .int .i64 za, .int .i64 rb, .int .i64 nn] 77)).alloc (by have := hBi.size; rw [alloc_size]; omega) (.cells #[.int .i64 do_, .bool dw, .int .i64 da, .int .i64 db, .int .i64 dn] 77))
          have hzw := hBi.size
          clear hS hQ hcx hcy hBi hc hbi hd hgd hce hgx hgy
          cases bi
          · go_wp2_with fail
            go_region
            go_wp2_with fail
            cases wk
            · skip
              clear hd2
              go_region
              all_goals go_wp2_with fail
              all_goals go_roundg (N - (i + 1))
              all_goals first | (case measure => omega) | skip
              all_goals exact ⟨i + 1, by omega, rfl, by go_num, (HBC.out _).drew.drew⟩
            · by_cases hra : ra = -1
              · subst hra
                skip
                clear hd2
                go_region
                all_goals go_wp2_with fail
                all_goals go_roundg (N - (i + 1))
                all_goals first | (case measure => omega) | skip
                all_goals exact ⟨i + 1, by omega, rfl, by go_num, (HBC.out _).drew.drew⟩
              · obtain ⟨jj, rfl⟩ : ∃ jj : Nat, ra = (jj : Int) := ⟨ra.toNat, by omega⟩
                have z0 : ((jj : Int) == -1) = false := by simp
                have z0' : ((jj : Int) != -1) = true := by simp
                have z1 : (0 : Int) ≤ (jj : Int) := by omega
                have z2 : (jj : Int) < (N : Int) := by omega
                obtain ⟨bj, hbj⟩ : ∃ b, S.ins[jj]? = some b := ⟨S.ins[jj]'(by rw [HTW.out.lens]; omega), List.getElem?_eq_getElem (by rw [HTW.out.lens]; omega)⟩
                have qj := HSS.out.inAt hbj
                cases bj
                · skip
                  clear hbj hd2
                  go_region
                  all_goals go_wp2_with fail
                  all_goals go_roundg (N - (i + 1))
                  all_goals first | (case measure => omega) | skip
                  all_goals exact ⟨i + 1, by omega, rfl, by go_num, (HBC.out _).drew.drew⟩
                · skip
                  clear hbj hd2
                  go_region
                  all_goals go_wp2_with fail
                  all_goals go_roundg (N - (i + 1))
                  all_goals first | (case measure => omega) | skip
                  all_goals exact ⟨i + 1, by omega, rfl, by go_num, (HBC.out _).drew.drew⟩
          · obtain ⟨rfl, rfl, rfl, h5, h6, h7, h8⟩ := hd2 rfl
            clear hd2
            go_wp2_with fail
            go_region
            go_wp2_with fail
            cases dw
            · obtain rfl := h5 rfl
              clear h6 h7 h8
              go_region
              all_goals go_wp2_with fail
              all_goals go_roundg (N - (i + 1))
              all_goals first | (case measure => omega) | skip
              all_goals exact ⟨i + 1, by omega, rfl, by go_num, (HBC.out _).drew.drew⟩
            · by_cases hra : ra = -1
              · subst hra
                obtain rfl := h6 rfl rfl
                clear h5 h7 h8
                go_region
                all_goals go_wp2_with fail
                all_goals go_roundg (N - (i + 1))
                all_goals first | (case measure => omega) | skip
                all_goals exact ⟨i + 1, by omega, rfl, by go_num, (HBC.out _).drew.drew⟩
              · obtain ⟨jj, rfl⟩ : ∃ jj : Nat, ra = (jj : Int) := ⟨ra.toNat, by omega⟩
                have z0 : ((jj : Int) == -1) = false := by simp
                have z0' : ((jj : Int) != -1) = true := by simp
                have z1 : (0 : Int) ≤ (jj : Int) := by omega
                have z2 : (jj : Int) < (N : Int) := by omega
                obtain ⟨bj, hbj⟩ : ∃ b, S.ins[jj]? = some b := ⟨S.ins[jj]'(by rw [HTW.out.lens]; omega), List.getElem?_eq_getElem (by rw [HTW.out.lens]; omega)⟩
                have qj := HSS.out.inAt hbj
                cases bj
                · obtain rfl := h8 rfl jj rfl hbj
                  clear hbj h5 h6 h7
                  go_region
                  all_goals go_wp2_with fail
                  all_goals go_roundg (N - (i + 1))
                  all_goals first | (case measure => omega) | skip
                  all_goals exact ⟨i + 1, by omega, rfl, by go_num, (HBC.out _).drew.drew⟩
                · obtain rfl := h7 rfl jj rfl hbj
                  clear hbj h5 h6 h8
                  go_region
                  all_goals go_wp2_with fail
                  all_goals go_roundg (N - (i + 1))
                  all_goals first | (case measure => omega) | skip
                  all_goals exact ⟨i + 1, by omega, rfl, by go_num, (HBC.out _).drew.drew⟩
        · have e1 : ¬ (i : Int) < (N : Int) := by omega
          have HBE := hid (HB10.out.trans (hBi.mono HB10.out.size))
          clear hBi
          go_wp2_with fail
          go_ret
          exact ⟨rfl, HBE.out⟩
end Go.Proofs.YtdmdpindonghdaaDoor
namespace Go.Proofs.YtdmdpindonghdaaDoor
open Go.ChangeShapes Go.WideShapes Go.ChangeAt Go.ChangeMaps Go.RowKit
set_option maxRecDepth 100000 in
theorem tidy_lifted (os : Os) (started : os.Started) (H : Type) (enc : TypeId × Value → H) :
    ReturnsInHanded {} Tryd.checked os 9 .any (fun w args => (Rows.tidySpec.pre enc Tryd.prog Tryd.f9 Rows.tidyRow.domain false w args ∧ laidMetH Tryd.prog Rows.tidyRow.laid w) ∧ sizedMet enc Tryd.prog Tryd.f9 (OpenSpec.ofChange Rows.tidySpec) false w args)
      (Rows.tidySpec.post enc Tryd.prog Tryd.f9 false true false false) := by
  refine returnsInHanded_of_change_and (C := Tryd.checked) (X := fun w _ => laidMetH Tryd.prog Rows.tidyRow.laid w) (fun _ _ _ hh h => h.of_heap hh) knobs started (by kernel_rfl) Tryd.func9
    (ChangeSpec.witness_shaped (enc := enc) (C := Tryd.checked) (os := os) (X := fun w _ => laidMetH Tryd.prog Rows.tidyRow.laid w) false (World.laidAll Tryd.prog os Rows.tidyRow.laid) #[.string ⟨#[]⟩, .slice none 0 0, .int .i64 0, .slice none 0 0] 8 (World.laidAll_os _ _ _)
      (World.shaped_of_ZipB (by kernel_rfl) (by kernel_rfl)) (by kernel_rfl) (by kernel_rfl) (by kernel_rfl)
      (by rw [MakeChecks.laidMetH_plain _ _ _ (by kernel_rfl)]; exact laidMet_laidAll _ (by kernel_rfl) (by kernel_rfl))) ?_
  intro W base args ds gs before hval0 hW _ hsz hL _
  have hval : ∀ (j : Nat) t v, Tryd.f9.params[j]? = some t → args[j]? = some v → Value.okWide Tryd.prog W .any base t v := hval0
  have hW' := hW
  obtain ⟨p, q, hA0, hV, rfl, _, _⟩ := hW
  have hA : DataW.TrodAll enc Tryd.prog W 0 (fun _ => true) true Tryd.f9.params.toList args.toList ds p := hA0
  obtain ⟨rfl, rfl⟩ := trodVars_none hV
  have hlt : ∀ x ∈ p, x.block < W.heap.size := fun x hx => by
    have := hW'.lt x (by simpa using hx)
    exact this
  rw [Tryd.params9] at hA hval hsz
  obtain ⟨v0, v1, v2, v3, d0, d1, d2, d3, p0, p1, p2, p3, rfl, rfl, rfl, h0, h1, h2, h3⟩ := trodAll_four hA
  obtain ⟨s, rfl, rfl, rfl, hs⟩ := open_string Tryd.underlying9 (hval 0 9 v0 rfl rfl) h0
  obtain ⟨n, rfl, rfl, rfl, hn⟩ := open_int Tryd.underlying3 (hval 2 3 v2 rfl rfl) h2
  have hw1 : (d1.weights Tryd.prog 33).all (· ≤ reachBytes) = true := by
    have := hsz
    simp only [List.append_nil, List.cons_append, List.nil_append, DataW.weightsEach, List.all_append, Bool.and_eq_true] at this
    exact this.2.1
  have hw3 : (d3.weights Tryd.prog 34).all (· ≤ reachBytes) = true := by
    have := hsz
    simp only [List.append_nil, List.cons_append, List.nil_append, DataW.weightsEach, List.all_append, Bool.and_eq_true] at this
    exact this.2.2.2.1
  have hlt1 : ∀ x ∈ p1, x.block < W.heap.size := fun x hx => hlt x (by simp [hx])
  have hlt3 : ∀ x ∈ p3, x.block < W.heap.size := fun x hx => hlt x (by simp [hx])
  obtain ⟨ops, ho, hol⟩ := sc_arg (hval 3 34 v3 rfl rfl) h3 hlt3 hw3
  obtain ⟨zs, hz, hzl, hcap⟩ := ints_arg (hval 1 33 v1 rfl rfl) h1 hlt1 hw1
  have t1 := flow_of_laid hL
  obtain ⟨n1, n2⟩ := int_range hn
  refine (tidyLaw_any s v1 v3 zs ops n W hs t1 hz hcap ho hol n1 n2).mono fun e W' ⟨he, hb⟩ => ?_
  subst he
  have hr1 : DataW.Trod enc Tryd.prog W' 0 (fun b => decide (b < W.heap.size)) true 33 v1 d1 p1 := Below.trod laidOutP (by kernel_rfl) (of_decide_eq_true (by kernel_rfl)) h1 hb hlt1
  have hr3 : DataW.Trod enc Tryd.prog W' 0 (fun b => decide (b < W.heap.size)) true 34 v3 d3 p3 := Below.trod laidOutP (by kernel_rfl) (of_decide_eq_true (by kernel_rfl)) h3 hb hlt3
  exact ⟨_, rfl, _, _, _, [], _, [], hW', trodAll_mk1 (shut_bool Tryd.underlying4 _), trodAll_mk4 (shut_string Tryd.underlying9 hs) hr1 (shut_int Tryd.underlying3 hn) hr3, rfl, hb.frame _, fun h => by cases h⟩
theorem tidy_holds : Rows.TidySaid :=
  OpenClaim.holds_of_wide 9 Tryd.f9 rfl rfl rfl rfl rfl rfl rfl ⟨rfl, rfl, rfl, rfl, rfl⟩ rfl rfl rfl rfl rfl (by kernel_rfl) Tryd.func9 (by kernel_rfl)
    (of_decide_eq_true (by kernel_rfl)) (by unfold Func.isWrapper; first | (rw [if_pos (by decide +kernel)]; kernel_rfl) | (rw [if_neg (by decide +kernel)]; exact ⟨rfl, rfl⟩))
    (fun os started H enc _ => tidy_lifted os started H enc)
theorem tidy_card_holds : Rows.TidyCardSaid :=
  Claim7.holds_tied_plain_at .later [] [.data, .data] true Rows.tidyCard.stood.harness false
    tidy_holds (fun _ h => by cases h) (by kernel_rfl) (fun _ h => by cases h) tidy_row_tie rfl ⟨rfl, rfl⟩ (by kernel_rfl) rfl
    (fun f fn hf hfn => by
      obtain rfl : f = 9 := Option.some.inj ((show Tryd.prog.funcNamed "tint/tintkeep.Tidy" = some 9 by kernel_rfl).symm.trans hf) |>.symm
      obtain rfl : fn = Tryd.f9 := (Option.some.inj (Tryd.func9.symm.trans hfn)).symm
      exact ⟨by kernel_rfl, fun j t ht => by
        rw [Tryd.params9] at ht
        have hm : t ∈ [9, 33, 3, 34] := by simpa using Array.mem_of_getElem? ht
        have hall : ([9, 33, 3, 34].all fun u => !Tryd.prog.wantsStandIn u) = true := by kernel_rfl
        exact (show Tryd.prog.wantsStandIn t = false by simpa using List.all_eq_true.1 hall t hm)⟩)
    (by kernel_rfl)
#print axioms tidy_card_holds
end Go.Proofs.YtdmdpindonghdaaDoor
