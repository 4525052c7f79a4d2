/- tintkeep.ByHand is true of all raw bytes, lists of inputs, numbers of cells, lists of units and numbers of steps: the program's Run of a built image is a machine's steps, with the units ahead of each; conditions: the two listed variables hold what the program's text lays in them. -/
import Derived.Test.YtdmdpindonghdabDoorRows
import Derived.Test.YtdmdpindonghdabDoorTie
import Derived.Test.YtdmdpindonghdabDoorCards
import Derived.Test.YtdmdpindonghdabDoorOwn6
import Derived.WalkKit
import Derived.WalkSmall
import Derived.Deep.AppendLies
import Derived.Deep.DeepMust
import Derived.Deep.LoopGhost
import Derived.WalkSpells
import Derived.WalkLawsBesides
import Derived.BigRegion
import Derived.Deep.QuietTactic
import Derived.BigQuiet
import Derived.Deep.RegionHeld3
import Derived.OwnWalk
import Derived.Laws.StructEq
import Derived.Deep.RegionLaw
import Derived.Deep.DeepCutAuto
import Derived.Laws.MakeOwn
import Derived.Laws.IdiomCopy
import Derived.Laws.BytesArg
import Derived.ProofKit
import Derived.OpenShut
import Derived.Lay
import Derived.SevenTiedAt
import Derived.Stop.Joined
import Derived.Carry
import Derived.Deep.SlicePairs
namespace Go.Proofs.YtdmdpindonghdabDoor
open Go.RowKit
set_option maxRecDepth 100000 in
set_option maxHeartbeats 1000000 in
theorem sameK_any (l : List Int) (va vb : Value) (w : World) (ha : ZsAt w va l) (hb : ZsAt w vb l) (hl : l.length ≤ 17592186044416) :
    Calls Tryd.prog 20 #[va, vb] w fun e w' => e = .returned (.bool true) ∧ ∃ n, w' = w.drewN n := by
  obtain ⟨pa, ca, ea⟩ := ha.slice
  obtain ⟨pb, cb, eb⟩ := hb.slice
  subst ea
  subst eb
  have HA := hid ha
  have HB := hid hb
  clear ha hb
  go_enter Tryd.func20, Tryd.ntmps20
  go_wp2_with fail
  go_loopg [5] l.length (fun gk x w' => ∃ k : Nat, k ≤ l.length ∧ gk = l.length - k ∧ x = .int .i64 k ∧ ∃ n, w' = w.drewN n)
  case atStart => exact ⟨0, by omega, by omega, rfl, 0, rfl⟩
  case round =>
    obtain ⟨k, hk, hgk, rfl, n, rfl⟩ := hrel
    rcases Nat.lt_or_ge k l.length with hlt | hge
    · have d0 : (0 : Int) ≤ (k : Int) := by omega
      have d1 : (k : Int) < (l.length : Int) := by omega
      have d2 : (k : Int) + 1 ≤ 17592186044416 := by omega
      have hk2 : l[k]? = some l[k] := List.getElem?_eq_getElem hlt
      rcases HA.out with ⟨_, h0⟩ | ⟨ga, c1, e1, hca⟩
      · rw [h0] at hlt; simp at hlt
      rcases HB.out with ⟨_, h0⟩ | ⟨gb, c2, e2, hcb⟩
      · rw [h0] at hlt; simp at hlt
      have x1 := hca k _ hk2
      have x2 := hcb k _ hk2
      cases e1
      cases e2
      generalize l[k] = c at *
      have hne : (c != c) = false := by simp
      clear hca hcb hk2
      go_wp2_with fail
      go_quiet (fail)
      go_wp2_with fail
      go_roundg (l.length - (k + 1))
      case measure => omega
      case rel => exact ⟨k + 1, by omega, rfl, by go_num, ⟨_, rfl⟩⟩
    · have d1 : ¬ (k : Int) < (l.length : Int) := by omega
      go_wp2_with fail
      go_ret
      exact ⟨rfl, n, rfl⟩
def clipN (us : List Int) : List Int := us.map (fun u => (pickN u 100 : Int))
set_option maxRecDepth 100000 in
set_option maxHeartbeats 1000000 in
theorem clipped_any (vu : Value) (us : List Int) (w : World) (hu : ArgInts w vu us) (hl : us.length ≤ 17592186043904) (hr : ∀ u ∈ us, -9223372036854775808 ≤ u ∧ u ≤ 9223372036854775807) :
    Calls Tryd.prog 21 #[vu] w fun e w' => Below w.heap.size w w' ∧ ∃ v, e = .returned v ∧ w'.ownsRow w.heap.size 3 1 v us.length ((clipN us).map (.int .i64)) := by
  obtain ⟨i0, hi0, hz0, hz1, hz2⟩ := info_parts intInfo
  have HU := hid hu
  obtain ⟨p0, c0, e0⟩ := hu.slice
  subst e0
  have HR := hid hr
  clear hu hr
  go_enter Tryd.func21, Tryd.ntmps21
  go_wp2_with fail
  go_loopg [3, 4] us.length (fun g l x w' => ∃ k : Nat, k ≤ us.length ∧ g = us.length - k ∧ x = .int .i64 k ∧ w'.ownsRow w.heap.size 3 1 l k ((clipN (us.take k)).map (.int .i64)) ∧ Below w.heap.size w w')
  case atStart => exact ⟨0, by omega, by omega, rfl, World.ownsRow_nil _ _ _ _, Below.refl _ _⟩
  case round =>
    obtain ⟨k, hk, hg, rfl, hown, hbel⟩ := hrel
    have hz := hbel.size
    have HB := hid hbel
    rcases Nat.lt_or_ge k us.length with hlt | hge
    · have d1 : (k : Int) < (us.length : Int) := by omega
      have d0 : (0 : Int) ≤ (k : Int) := by omega
      have d2 : (k : Int) + 1 ≤ 17592186044416 := by omega
      rcases (HU.out.keep hbel) with ⟨_, h0⟩ | ⟨a, cap, hv, hcell, _⟩
      · rw [h0] at hlt; simp at hlt
      cases hv
      have y0 := hcell k us[k] (List.getElem?_eq_getElem hlt)
      obtain ⟨m1, m2⟩ := HR.out us[k] (List.getElem_mem hlt)
      have hp := hid (pick_any us[k] 100 wr m1 m2 (by omega) (by omega))
      have HNX : Hid ((clipN (us.take (k + 1))).map (Value.int .i64) = (clipN (us.take k)).map (Value.int .i64) ++ [.int .i64 (pickN us[k] 100)]) := hid (by
        unfold clipN
        rw [List.take_succ_eq_append_getElem hlt, List.map_append, List.map_append]
        rfl)
      clear hcell hbel m1 m2
      generalize us[k] = u at *
      generalize (clipN (us.take k)).map (Value.int .i64) = R at *
      go_wp2_with fail
      refine hp.out.mono ?_
      clear hp
      intro e w5 hh
      obtain ⟨hx, hw⟩ := hh
      subst e
      subst w5
      generalize ((pickN u 100 : Nat) : Int) = qv at *
      go_wp2_with (at_builtin; go_must (refine wpList_append_lies _ (by rfl) _ _ _ (by rfl) w.heap.size 3 i0 _ 1 8 Tryd.underlying22 hi0 hz0 hz1 hz2 rfl (by omega) _ k R (by rfl) (hown.alloc _) ⟨wr.heap.size, 0, none⟩ 1 1 [.int .i64 qv] (by rfl) (by rfl) (World.news_of_block (cs := #[.int .i64 qv]) (t := 3) (fr := (0, 0)) (heap_alloc_new wr _)) (by simp [Value.oneCell']) (by omega) (by unfold maxLen; omega) (by omega) (by simp; omega) _ rfl ?_); intro gg gcap w6 hown6 hgrow6 hat6 hlt6)
      go_roundg (us.length - (k + 1))
      case measure => omega
      case rel =>
        refine ⟨k + 1, by omega, rfl, by go_num, ?_, ?_⟩
        · rw [HNX.out]
          exact hown6
        · exact (HB.out.alloc hz _).grown hgrow6 (by simp; omega) (fun j hj => (hown.lt j hj).1)
    · have d1 : ¬ (k : Int) < (us.length : Int) := by omega
      have hke : k = us.length := by omega
      have HO : Hid (wr.ownsRow w.heap.size 3 1 u3 us.length ((clipN us).map (.int .i64))) := hid (by
        rw [List.take_of_length_le (by omega), hke] at hown
        exact hown)
      clear hown hbel hke
      go_wp2_with fail
      go_ret
      exact ⟨HB.out, _, rfl, HO.out⟩
end Go.Proofs.YtdmdpindonghdabDoor
namespace Go.Proofs.YtdmdpindonghdabDoor
open Go.RowKit
theorem clip_fits (us : List Int) : (clipN us).all fitsB = true := by
  rw [List.all_eq_true]
  intro x hx
  obtain ⟨u, _, rfl⟩ := List.mem_map.1 hx
  have := pickN_lt u (n := 100) (by omega)
  unfold fitsB
  simp only [Bool.and_eq_true, decide_eq_true_eq]
  omega
theorem clip_len (us : List Int) : (clipN us).length = us.length := by simp [clipN]
theorem zsK_owns {w : World} {base : Nat} {v : Value} {o : List Int} (h : w.ownsRow base 3 1 v o.length (o.map (.int .i64))) : ZsAt w v o := by
  rcases h.2 with ⟨h1, h2⟩ | ⟨g, cap, cur, hv, hg, hh, h3, h4, h5, h6⟩
  · exact .inl ⟨h1, List.length_eq_zero_iff.1 h2⟩
  · refine .inr ⟨⟨g, 0, none⟩, cap, hv, fun j x hj => ?_⟩
    have hjl := (List.getElem?_eq_some_iff.1 hj).1
    rw [addr_add, cell_of_row w g j _ _ _ hh]
    rw [Nat.mul_one] at h6
    have : (cur.toList.take o.length)[j]? = (o.map (Value.int .i64))[j]? := by rw [h6]
    rw [List.getElem?_take, if_pos hjl, List.getElem?_map, hj, Array.getElem?_toList] at this
    exact this
theorem zsK_below {w w' : World} {v : Value} {zs : List Int} (h : ZsAt w v zs) (hb : Below w.heap.size w w') : ZsAt w' v zs := by
  rcases h with h | ⟨a, cap, hv, hc⟩
  · exact .inl h
  · exact .inr ⟨a, cap, hv, fun j x hj => (hb.cell (p := a.add j) (World.block_lt_of_cell? w _ (hc j x hj))).trans (hc j x hj)⟩
theorem argsK_owns {w : World} {base : Nat} {v : Value} {o : List Int} (h : w.ownsRow base 3 1 v o.length (o.map (.int .i64))) : ArgInts w v o := by
  rcases zsK_owns h with h1 | ⟨a, cap, hv, hc⟩
  · exact .inl h1
  · refine .inr ⟨a, cap, hv, hc, fun hp => ?_⟩
    have hx : o[0]? = some o[0] := List.getElem?_eq_getElem hp
    have := World.block_lt_of_cell? w _ (hc 0 _ hx)
    rw [addK_block] at this
    exact this
/-- The program's machine lies above B, and not where n2 ≤ k < N. -/
def PN (B n2 N : Nat) (W : World) (K : PK) (t : MS) : Prop := ∃ F, PX W K F t ∧ (∀ k, F k → B ≤ k ∧ (k < n2 ∨ N ≤ k)) ∧ B ≤ n2 ∧ n2 ≤ N ∧ N ≤ W.heap.size
def KeepN (n2 N : Nat) (w w' : World) : Prop := ∀ k, n2 ≤ k → k < N → w'.heap[k]? = w.heap[k]?
theorem PN.next {B n2 N : Nat} {w w' : World} {K : PK} {F : Nat → Prop} {t : MS} (hF : ∀ k, F k → B ≤ k ∧ (k < n2 ∨ N ≤ k)) (h1 : B ≤ n2) (h2 : n2 ≤ N) (h3 : N ≤ w.heap.size) (hp : PX w' K (Grown F w w') t) (ht : Touch F w w') : PN B n2 N w' K t ∧ KeepN n2 N w w' ∧ Below B w w' := by
  refine ⟨⟨_, hp, ?_, h1, h2, Nat.le_trans h3 ht.size⟩, fun k hk1 hk2 => ht.block k (by omega) (fun hf => by have := (hF k hf).2; omega), ht.sub (fun k hk => (hF k hk).1) (by omega)⟩
  rintro k (h | h)
  · exact hF k h
  · exact ⟨by omega, .inr (by omega)⟩
theorem pn_step {B n2 N : Nat} {w : World} {K : PK} {E : Env} {s : MS} (h : PN B n2 N w K s) (hke : KE K E) (he : EnvOk E) (hi : MInv E s) (hoc : s.oc = 0) (hz : E.zs.length ≤ 64) (hlen : s.out.length ≤ 8796093022208) :
    Calls Tryd.prog 25 #[.pointer (some ⟨K.b, 0, none⟩)] w fun e w' => e = .returned (.tuple #[.int .i64 (stepS E s).oc, .int .i64 0]) ∧ PN B n2 N w' K (stepS E s) ∧ KeepN n2 N w w' ∧ Below B w w' := by
  obtain ⟨F, h1, h2, h3, h4, h5⟩ := h
  refine (pstep_x h1 hke he hi hoc hz hlen).mono ?_
  rintro e w' ⟨a, b, c⟩
  exact ⟨a, PN.next h2 h3 h4 h5 b c⟩
theorem pn_coll {B n2 N : Nat} {w : World} {K : PK} {E : Env} {s : MS} (h : PN B n2 N w K s) (hke : KE K E) (he : EnvOk E) (hi : MInv E s) (n : Nat) (hn : n ≤ 1000) :
    Calls Tryd.prog 24 #[.pointer (some ⟨K.b, 0, none⟩), .int .i64 n] w fun e w' => e = .returned (.tuple #[.int .i64 (collS E n s).hs.2.1, .int .i64 0]) ∧ PN B n2 N w' K (collS E n s) ∧ KeepN n2 N w w' ∧ Below B w w' := by
  obtain ⟨F, h1, h2, h3, h4, h5⟩ := h
  refine (pcollect_x h1 hke he hi n hn).mono ?_
  rintro e w' ⟨a, b, c⟩
  exact ⟨a, PN.next h2 h3 h4 h5 (b.mono (fun _ h => .inl h)) c⟩
theorem PN.of {B : Nat} {w W : World} {K : PK} {s : MS} (h : PR B w K s) (hb : Below w.heap.size w W) : PN B w.heap.size W.heap.size W K s := by
  obtain ⟨F, h1, h2, h3⟩ := h
  exact ⟨_, h1.bound.below hb, fun k hk => ⟨h2 k hk.1, .inl hk.2⟩, h3, hb.size, Nat.le_refl _⟩
/-- Numbers in memory between n2 and N. -/
def ArgN (n2 N : Nat) (w : World) (v : Value) (zs : List Int) : Prop := ArgInts w v zs ∧ ∀ a n c, v = .slice (some a) n c → 0 < n → n2 ≤ a.block ∧ a.block < N
theorem ArgN.keep {n2 N : Nat} {w w' : World} {v : Value} {zs : List Int} (h : ArgN n2 N w v zs) (hk : KeepN n2 N w w') (hz : w.heap.size ≤ w'.heap.size) : ArgN n2 N w' v zs := by
  refine ⟨?_, h.2⟩
  rcases h.1 with h1 | ⟨a, cap, hv, hc, hl⟩
  · exact .inl h1
  · refine .inr ⟨a, cap, hv, fun j x hj => ?_, fun hp => Nat.lt_of_lt_of_le (hl hp) hz⟩
    have hz : 0 < zs.length := by have := (List.getElem?_eq_some_iff.1 hj).1; omega
    obtain ⟨g1, g2⟩ := h.2 a _ _ hv hz
    exact (World.cell?_of_block (a := a.add j) (by rw [addK_block]; exact hk _ g1 g2)).trans (hc j x hj)
theorem KeepN.trans {n2 N : Nat} {w w' w'' : World} (h : KeepN n2 N w w') (h' : KeepN n2 N w' w'') : KeepN n2 N w w'' := fun k a b => (h' k a b).trans (h k a b)
/-- What the loop of steps by hand comes to. -/
theorem run_done (E : Env) (us : List Int) (f k : Nat) (t : MS) (h : t.oc ≠ 0) : runS E us f k t = (k, t) := by
  cases f with
  | zero => rfl
  | succ f => simp only [runS, if_neg h]
set_option maxRecDepth 100000 in
set_option maxHeartbeats 2000000 in
theorem byhand_any (raw : ByteArray) (vi vu : Value) (zs us : List Int) (cells steps : Int) (w : World) (hr : raw.size ≤ maxLen) (ht : FlowTab w) (hv : ArgInts w vi zs) (hcap : ∀ p n c, vi = .slice p n c → n ≤ c ∧ c ≤ maxLen) (hu : ArgInts w vu us) (hul : us.length ≤ 17592186043904) (hur : ∀ u ∈ us, -9223372036854775808 ≤ u ∧ u ≤ 9223372036854775807)
    (hc1 : -9223372036854775808 ≤ cells) (hc2 : cells ≤ 9223372036854775807) (hs1 : -9223372036854775808 ≤ steps) (hs2 : steps ≤ 9223372036854775807) :
    Calls Tryd.prog 7 #[.string raw, vi, .int .i64 cells, vu, .int .i64 steps] w fun e w' => e = .returned (.bool true) ∧ Below w.heap.size w w' := by
  obtain ⟨q1, q2, q3, q4, q5⟩ := built_ok raw true
  obtain ⟨n1, n2⟩ := roomN_le cells
  have hsz : (builtS raw true).size ≤ maxLen := by
    have h1 := (errOf_zero q1).1
    obtain ⟨⟨⟨h3, h4⟩, _⟩, _⟩ : ((3 ≤ (builtS raw true).size ∧ (builtS raw true).size ≤ 122) ∧ byteAt (builtS raw true) 0 = 84) ∧ byteAt (builtS raw true) 1 ≤ 4 := by simpa [shapedP] using h1
    have : maxLen = 9223372036854775807 := rfl
    omega
  have hzl : (zs.take 64).length ≤ 64 := by rw [List.length_take]; omega
  have hrm := hid (room_any cells w hc1 hc2)
  have hbu := hid (built_any raw true w hr)
  have hso := hid (fun (W : World) (hb : Below w.heap.size w W) => some_any vi zs W (hv.keep hb) hcap)
  obtain ⟨x, hx⟩ : ∃ x, x = builtS raw true := ⟨_, rfl⟩
  rw [← hx] at hbu q1 q2 q3 q4 q5 hsz
  have hmd := hid (fun (W : World) (hb : Below w.heap.size w W) (v : Value) (hv : ArgInts W v (zs.take 64)) => made_any x v (zs.take 64) (roomN cells) W hsz (ht.below hb) hv hzl n1 n2 q1 q4)
  have hcl := hid (fun (W : World) (hb : Below w.heap.size w W) => clipped_any vu us W (hu.keep hb) hul hur)
  have hpq := hid (fun (W : World) => pick_any steps 400 W hs1 hs2 (by omega) (by omega))
  have hq4 := pickN_lt steps (n := 400) (by omega)
  have hle : (clipN us).length ≤ 17592186044416 := by rw [clip_len]; omega
  have hRE : RunErr x (zs.take 64).length ((roomN cells : Nat) : Int) (clipN us) ((pickN steps 400 : Nat) : Int) 0 := by
    refine .inr (.inr ⟨.inr (.inr (.inr ⟨.inr (.inl ⟨q1, q4, rfl⟩), by omega, by omega, hzl, rfl⟩)), clip_fits us, by omega, by omega, rfl⟩)
  have hru := hid (fun (W : World) (hb : Below w.heap.size w W) (v1 v2 : Value) (h1 : ArgInts W v1 (zs.take 64)) (h2 : ArgInts W v2 (clipN us)) => pRun_any x v1 v2 (zs.take 64) (clipN us) (roomN cells) (pickN steps 400) W hsz (ht.below hb) h1 h2 hle 0 hRE)
  have HX : Hid (errOf x = 0 ∧ WT (codeOf x) (byteAt x 1) ∧ Det (codeOf x) (byteAt x 1)) := hid ⟨q1, q4, q5⟩
  obtain ⟨p0, c0, e0⟩ := hv.slice
  subst e0
  obtain ⟨pu, cu, eu⟩ := hu.slice
  subst eu
  clear hr ht hv hcap hu hur hc1 hc2 hs1 hs2 q1 q2 q3 q4 q5 hsz hx hRE
  go_enter Tryd.func7, Tryd.ntmps7
  go_wp2_with fail
  refine hrm.out.mono ?_
  clear hrm
  intro e w1 hh
  obtain ⟨hx, hw⟩ := hh
  subst e
  subst w1
  go_wp2_with fail
  refine hbu.out.mono ?_
  clear hbu
  intro e w1 hh
  obtain ⟨hx, hb1⟩ := hh
  subst e
  have hs1 := hid (hso.out w1 hb1)
  have HB1 := hid hb1
  clear hb1
  go_wp2_with fail
  refine hs1.out.mono ?_
  clear hs1
  intro e w2 hh
  obtain ⟨⟨v1, hx, hv1⟩, hw⟩ := hh
  subst e
  subst w2
  have hm1 := hid (hmd.out w1 HB1.out v1 hv1)
  clear hv1 hmd
  go_wp2_with fail
  refine hm1.out.mono ?_
  clear hm1
  intro e w2 hh
  obtain ⟨K, hx, hM⟩ := hh
  subst e
  have hB2 := HB1.out.trans (hM.below.mono HB1.out.size)
  have hc2 := hid (hcl.out w2 hB2)
  have HB2 := hid hB2
  have HM := hid hM
  have hz12 := hM.below.size
  have hz01 := HB1.out.size
  clear hM hcl hB2
  go_wp2_with fail
  refine hc2.out.mono ?_
  clear hc2
  intro e w3 hh
  obtain ⟨hb3, vu', hx, hou⟩ := hh
  subst e
  rw [← clip_len us] at hou
  obtain ⟨pv, cv, ev⟩ := owns_slice hou
  subst ev
  have HB3 := hid (HB2.out.trans (hb3.mono HB2.out.size))
  have HAU := hid (argsK_owns hou)
  have HP3 := hid (HM.out.pr.keep hb3)
  have hgu : ∀ b, pv = some b → w2.heap.size ≤ b.block := by
    intro b hb
    rcases hou.2 with ⟨h1, _⟩ | ⟨g, cap, cur, h1, h2, _⟩
    · rw [hb] at h1; cases h1
    · rw [hb] at h1
      cases h1
      exact h2
  have hpq3 := hid (hpq.out w3)
  have hz23 := hb3.size
  have HB23 := hid hb3
  clear hb3 hou hpq
  obtain ⟨cus, hcus⟩ : ∃ cus, cus = clipN us := ⟨_, rfl⟩
  have HCF := hid (clip_fits us)
  rw [← hcus] at HAU hru hle HCF ⊢
  clear hcus
  go_wp2_with fail
  refine hpq3.out.mono ?_
  clear hpq3
  intro e w4 hh
  obtain ⟨hx, hw⟩ := hh
  subst e
  subst w4
  generalize pickN steps 400 = q at *
  have hs3 := hid (hso.out w3 HB3.out)
  clear hso
  go_wp2_with fail
  refine hs3.out.mono ?_
  clear hs3
  intro e w4 hh
  obtain ⟨⟨v2, hx, hv2⟩, hw⟩ := hh
  subst e
  subst w4
  have hr3 := hid (hru.out w3 HB3.out v2 (.slice pv cus.length cv) hv2 HAU.out)
  clear hru hv2
  go_wp2_with fail
  refine hr3.out.mono ?_
  clear hr3
  intro e w5 hh
  rcases hh with ⟨h0, _⟩ | ⟨_, n', q', hn', hq', _, _, _, hb5, fs', vo, he', hwt', hi', hs', hx, hown⟩
  · exact absurd rfl h0
  obtain rfl : n' = roomN cells := by omega
  obtain rfl : q' = q := by omega
  obtain ⟨hxe, hxw, hxd⟩ := HX.out
  have hM := HM.out
  have hE : envOf x fs' (zs.take 64) (roomN cells) = envOf x K.fs (zs.take 64) (roomN cells) := env_det hxe hxw hxd hM.set hM.still hi' hs'
  rw [hE] at hx hown
  have hke := hM.ke
  have hok := hM.ok
  have hin := hM.inv
  have hzs : (envOf x K.fs (zs.take 64) (roomN cells)).zs.length ≤ 64 := hzl
  have hol := run_out (envOf x K.fs (zs.take 64) (roomN cells)) cus q' 0 (startS (byteAt x 1) (roomN cells)) (Nat.le_refl _)
  obtain ⟨E, hEd⟩ : ∃ E, E = envOf x K.fs (zs.take 64) (roomN cells) := ⟨_, rfl⟩
  obtain ⟨s0, hs0⟩ : ∃ s0, s0 = startS (byteAt x 1) (roomN cells) := ⟨_, rfl⟩
  have h00 : s0.oc = 0 := by rw [hs0]; rfl
  have h01 : s0.out.length = 0 := by rw [hs0]; rfl
  rw [← hEd] at hke hok hin hzs hx hown hol
  rw [← hs0] at hin hx hown HP3 hol
  obtain ⟨R, hR⟩ : ∃ R, R = runS E cus q' 0 s0 := ⟨_, rfl⟩
  rw [← hR] at hx hown hol
  subst e
  obtain ⟨po', co', eo'⟩ := owns_slice hown
  subst eo'
  obtain ⟨oR, hoR⟩ : ∃ oR : Obj, oR = .cells #[.int .i64 R.2.oc, .int .i64 R.2.va, .int .i64 R.1, .slice po' R.2.out.length co'] 55 := ⟨_, rfl⟩
  have hb6 : Below w5.heap.size w5 (w5.alloc oR) := (Below.refl _ _).alloc (Nat.le_refl _) _
  have hb36 : Below w3.heap.size w3 (w5.alloc oR) := hb5.trans (hb6.mono hb5.size)
  have hz6 : (w5.alloc oR).heap.size = w5.heap.size + 1 := by simp
  have hz35 := hb5.size
  have HPN : Hid (PN w.heap.size w2.heap.size (w5.alloc oR).heap.size (w5.alloc oR) K s0) := hid (by
    have h1 := PN.of (hM.pr.mono hz01) (W := w5.alloc oR) (HB23.out.trans (hb36.mono hz23))
    rw [← hs0] at h1
    exact h1)
  have HAN : Hid (ArgN w2.heap.size (w5.alloc oR).heap.size (w5.alloc oR) (.slice pv cus.length cv) cus) := hid ⟨HAU.out.keep hb36, fun a n c h _ => by
    cases h
    refine ⟨hgu a rfl, ?_⟩
    rcases HAU.out with ⟨h1, _⟩ | ⟨a', cap, h1, _, h2⟩
    · cases h1
    · cases h1
      have := h2 (by assumption)
      omega⟩
  have HRB := hid (heap_alloc_new w5 oR)
  have HZO := hid (zsK_below (zsK_owns hown) hb6)
  have hgo : ∀ b, po' = some b → w2.heap.size ≤ b.block ∧ b.block < (w5.alloc oR).heap.size := by
    intro b hb
    rcases hown.2 with ⟨h1, _⟩ | ⟨g, cap, cur, h1, h2, h3, _⟩
    · rw [hb] at h1; cases h1
    · rw [hb] at h1
      cases h1
      have := (Array.getElem?_eq_some_iff.1 h3).1
      exact ⟨by simp only; omega, by simp only; omega⟩
  have HB6 := hid (HB3.out.trans (hb36.mono HB3.out.size))
  have HINV := hid hin
  have HRD := hid hR
  have hw2 : w2.heap.size ≤ w5.heap.size := by omega
  obtain ⟨N, hN⟩ : ∃ N, N = (w5.alloc oR).heap.size := ⟨_, rfl⟩
  have hNz : N = w5.heap.size + 1 := by rw [hN, hz6]
  rw [← hN] at HPN HAN hgo
  have HEQ := hid (show oR = .cells #[.int .i64 R.2.oc, .int .i64 R.2.va, .int .i64 R.1, .slice po' R.2.out.length co'] 55 from hoR)
  rw [hoR] at HPN HAN HRB HZO HB6
  unfold endV
  clear hin hR hE hxe hxw hxd hM HX HM he' hwt' hi' hs' hown hb5 hb6 hb36 HB1 HB2 HB3 HP3 HAU HB23 hs0 hEd hn' hq' hN hz6 hoR hgu
  rcases Nat.eq_zero_or_pos cus.length with hc0 | hc0
  · have hnil : cus = [] := List.length_eq_zero_iff.1 hc0
    subst hnil
    simp only [List.length_nil] at *
    go_wp2_with fail
    go_loopg [19, 20] q' (fun gk x y w' => ∃ (k : Nat) (t : MS) (b : Bool), k ≤ q' ∧ gk = q' - k ∧ x = .int .i64 k ∧ y = .bool b ∧ (b = true → t.oc = 0) ∧ (b = false → t.oc ≠ 0) ∧ PN w.heap.size w2.heap.size N w' K t ∧ MInv E t ∧ t.out.length ≤ k ∧ KeepN w2.heap.size N (w5.alloc (.cells #[.int .i64 R.2.oc, .int .i64 R.2.va, .int .i64 R.1, .slice po' R.2.out.length co'] 55)) w' ∧ Below w.heap.size w w' ∧ runS E [] (q' - k) k t = runS E [] q' 0 s0)
    case atStart => exact ⟨0, s0, true, by omega, by omega, rfl, rfl, fun _ => h00, fun h => by (cases h), HPN.out, HINV.out, by omega, fun _ _ _ => rfl, HB6.out, rfl⟩
    case round =>
      obtain ⟨k, t, b, hk, hgk, rfl, rfl, hbt, hbf, hP, hI, ho, hK, hB, hR⟩ := hrel
      have HP := hid hP
      have HI2 := hid hI
      have HB7 := hid hB
      have HK := hid hK
      have HR := hid hR
      clear hP hI hB hK hR HINV HB6
      rcases Nat.lt_or_ge k q' with hlt | hge
      · have d1 : (k : Int) < (q' : Int) := by omega
        cases b
        · have HEND : Hid (runS E [] (q' - k) k t = (k, t)) := hid (run_done E [] _ k t (hbf rfl))
          clear hbt hbf
          have hRk : R = (k, t) := by rw [HRD.out, ← HR.out]; exact HEND.out
          have hPX := HP.out
          obtain ⟨F, hpx, hF, _, _, _⟩ := HP.out
          have hst := hid (px_state hpx hke hok HI2.out)
          have HPX := hid hpx
          have hrb := (HK.out w5.heap.size (by omega) (by omega)).trans HRB.out
          have HRB2 := hid hrb
          have HZO2 : Hid (ZsAt wr (.slice po' R.2.out.length co') R.2.out) := hid (by
            rcases HZO.out with h1 | ⟨a, cap, h1, h2⟩
            · exact .inl h1
            · cases h1
              obtain ⟨g1, g2⟩ := hgo a rfl
              exact .inr ⟨a, co', rfl, fun j y hj => (World.cell?_of_block (a := a.add j) (by rw [addK_block]; exact HK.out _ g1 g2)).trans (h2 j y hj)⟩)
          have hzr : N ≤ wr.heap.size := by
            obtain ⟨_, _, _, _, _, h⟩ := HP.out
            exact h
          subst hRk
          simp only at hol HRB2 HZO2
          clear HP HRB HZO hpx hF hPX HR HEND HRD HAN HPN hrb HK
          go_wp2_with fail
          refine hst.out.mono ?_
          clear hst
          intro e w8 hh
          obtain ⟨pl, hb8, y1, y2, hx, o1, o2, _⟩ := hh
          subst e
          obtain ⟨z1, kz1, e1⟩ := owns_slice o1
          obtain ⟨z2, kz2, e2⟩ := owns_slice o2
          subst e1
          subst e2
          have hb9 : Below w8.heap.size w8 (w8.alloc (stBox t.oc t.va pl t.hs.2.1 t.hs.2.2 (.slice z1 (locsS E t).length kz1) (.slice z2 (stkS E t).length kz2))) := (Below.refl _ _).alloc (Nat.le_refl _) _
          have hb89 := hb8.trans (hb9.mono hb8.size)
          have hPX9 := HPX.out.below hb89
          have hou := hid (show Calls Tryd.prog 19 #[.pointer (some ⟨K.b, 0, none⟩)] _ (CopyPost t.out _) from by
            obtain ⟨vI, vO, lo4, st8, hm, _⟩ := hPX9
            exact poutput_any hm (by omega))
          have RB9 := hid ((hb89.block w5.heap.size (by omega)).trans HRB2.out)
          have ZO9 := hid (zsK_below HZO2.out hb89)
          have RS9 := hid (heap_alloc_new w8 (stBox t.oc t.va pl t.hs.2.1 t.hs.2.2 (.slice z1 (locsS E t).length kz1) (.slice z2 (stkS E t).length kz2)))
          have HB9 := hid (HB7.out.trans (hb89.mono HB7.out.size))
          have hz8 := hb8.size
          have hz9 : (w8.alloc (stBox t.oc t.va pl t.hs.2.1 t.hs.2.2 (.slice z1 (locsS E t).length kz1) (.slice z2 (stkS E t).length kz2))).heap.size = w8.heap.size + 1 := by simp
          unfold stBox at hou RB9 ZO9 RS9 HB9 hz9
          generalize (locsS E t).length = n3 at *
          generalize (stkS E t).length = n4 at *
          clear hb8 hb9 hb89 o1 o2 hPX9 HPX HRB2 HZO2 HB7 HI2
          go_wp2_with fail
          refine hou.out.mono ?_
          clear hou
          intro e w10 hh
          obtain ⟨hb10, vo2, hx, hown2⟩ := hh
          subst e
          obtain ⟨po2, co2, eo2⟩ := owns_slice hown2
          subst eo2
          have hz10 := hb10.size
          rw [hz9] at hz10
          have rB := (hb10.block w5.heap.size (by omega)).trans RB9.out
          have rS := (hb10.block w8.heap.size (by omega)).trans RS9.out
          have b0 := cell_of_row w10 w5.heap.size 0 _ _ _ rB
          have b1 := cell_of_row w10 w5.heap.size 1 _ _ _ rB
          have b2 := cell_of_row w10 w5.heap.size 2 _ _ _ rB
          have b3 := cell_of_row w10 w5.heap.size 3 _ _ _ rB
          simp only [List.getElem?_toArray, List.getElem?_cons_zero, List.getElem?_cons_succ] at b0 b1 b2 b3
          have HRB10 := hid rB
          have HRS10 := hid rS
          have hsk := hid (sameK_any t.out _ _ w10 (zsK_below ZO9.out hb10) (zsK_owns hown2) (by omega))
          have HB10 := hid (HB9.out.trans (hb10.mono HB9.out.size))
          clear hb10 hown2 ZO9 RB9 RS9 HB9 rB rS
          go_wp2_with fail
          refine hsk.out.mono ?_
          clear hsk
          intro e w11 hh
          obtain ⟨hx, nd, hw11⟩ := hh
          subst e
          have hbd : Below w10.heap.size w10 w11 := by rw [hw11]; exact ⟨rfl, rfl, rfl, Nat.le_refl _, fun _ _ => rfl⟩
          have rB := (hbd.block w5.heap.size (by omega)).trans HRB10.out
          have rS := (hbd.block w8.heap.size (by omega)).trans HRS10.out
          have d0 := cell_of_row w11 w5.heap.size 0 _ _ _ rB
          have d1' := cell_of_row w11 w5.heap.size 1 _ _ _ rB
          have d2' := cell_of_row w11 w5.heap.size 2 _ _ _ rB
          have f0 := cell_of_row w11 w8.heap.size 0 _ _ _ rS
          have f1 := cell_of_row w11 w8.heap.size 1 _ _ _ rS
          simp only [List.getElem?_toArray, List.getElem?_cons_zero, List.getElem?_cons_succ] at d0 d1' d2' f0 f1
          have HB11 := hid (HB10.out.trans (hbd.mono HB10.out.size))
          clear hbd rB rS HRB10 HRS10 HB10 hw11 b0 b1 b2 b3
          go_wp2_with fail
          go_ret
          exact ⟨rfl, HB11.out⟩
        · have h0 := hbt rfl
          have HR2 : Hid (runS E [] (q' - (k + 1)) (k + 1) (stepS E (preS E [] k t)) = runS E [] q' 0 s0) := hid (by
            have := HR.out
            rw [show q' - k = (q' - (k + 1)) + 1 by omega] at this
            simp only [runS, if_pos h0] at this
            exact this)
          have hst := hid (fun (W : World) (hW : PN w.heap.size w2.heap.size N W K (preS E [] k t)) => pn_step hW hke hok HI2.out.pre ((pre_oc E [] k t).1.trans h0) hzs (by rw [(pre_oc E [] k t).2]; omega))
          have hout : Hid ((stepS E (preS E [] k t)).out.length ≤ k + 1) := hid (by
            have := stepS_out E (preS E [] k t)
            rw [(pre_oc E [] k t).2] at this
            omega)
          have HI3 : Hid (MInv E (stepS E (preS E [] k t))) := hid (HI2.out.pre.step hok)
          clear hbt hbf h0 HR
          have HPr : Hid (preS E [] k t = t) := hid rfl
          have hs1 := hid (hst.out wr (by rw [HPr.out]; exact HP.out))
          clear hst HP HI2
          go_wp2_with fail
          refine hs1.out.mono ?_
          clear hs1
          intro e w8 hp
          obtain ⟨hx, hP2, hK2, hB2⟩ := hp
          subst e
          have HP2 := hid hP2
          have HB9 := hid (HB7.out.trans hB2)
          have HK9 := hid (HK.out.trans hK2)
          clear hP2 hB2 hK2
          go_wp2_with fail
          go_roundg (q' - (k + 1))
          case measure => omega
          case rel => exact ⟨k + 1, _, ((stepS E (preS E [] k t)).oc : Int) == 0, by omega, rfl, by go_num, rfl, fun h => by simpa using h, fun h => by simpa using h, HP2.out, HI3.out, hout.out, HK9.out, HB9.out, HR2.out⟩
      · have d1 : ¬ (k : Int) < (q' : Int) := by omega
        have HEND : Hid (runS E [] (q' - k) k t = (k, t)) := hid (by rw [show q' - k = 0 by omega]; rfl)
        clear hbt hbf
        have hRk : R = (k, t) := by rw [HRD.out, ← HR.out]; exact HEND.out
        have hPX := HP.out
        obtain ⟨F, hpx, hF, _, _, _⟩ := HP.out
        have hst := hid (px_state hpx hke hok HI2.out)
        have HPX := hid hpx
        have hrb := (HK.out w5.heap.size (by omega) (by omega)).trans HRB.out
        have HRB2 := hid hrb
        have HZO2 : Hid (ZsAt wr (.slice po' R.2.out.length co') R.2.out) := hid (by
          rcases HZO.out with h1 | ⟨a, cap, h1, h2⟩
          · exact .inl h1
          · cases h1
            obtain ⟨g1, g2⟩ := hgo a rfl
            exact .inr ⟨a, co', rfl, fun j y hj => (World.cell?_of_block (a := a.add j) (by rw [addK_block]; exact HK.out _ g1 g2)).trans (h2 j y hj)⟩)
        have hzr : N ≤ wr.heap.size := by
          obtain ⟨_, _, _, _, _, h⟩ := HP.out
          exact h
        subst hRk
        simp only at hol HRB2 HZO2
        clear HP HRB HZO hpx hF hPX HR HEND HRD HAN HPN hrb HK
        go_wp2_with fail
        refine hst.out.mono ?_
        clear hst
        intro e w8 hh
        obtain ⟨pl, hb8, y1, y2, hx, o1, o2, _⟩ := hh
        subst e
        obtain ⟨z1, kz1, e1⟩ := owns_slice o1
        obtain ⟨z2, kz2, e2⟩ := owns_slice o2
        subst e1
        subst e2
        have hb9 : Below w8.heap.size w8 (w8.alloc (stBox t.oc t.va pl t.hs.2.1 t.hs.2.2 (.slice z1 (locsS E t).length kz1) (.slice z2 (stkS E t).length kz2))) := (Below.refl _ _).alloc (Nat.le_refl _) _
        have hb89 := hb8.trans (hb9.mono hb8.size)
        have hPX9 := HPX.out.below hb89
        have hou := hid (show Calls Tryd.prog 19 #[.pointer (some ⟨K.b, 0, none⟩)] _ (CopyPost t.out _) from by
          obtain ⟨vI, vO, lo4, st8, hm, _⟩ := hPX9
          exact poutput_any hm (by omega))
        have RB9 := hid ((hb89.block w5.heap.size (by omega)).trans HRB2.out)
        have ZO9 := hid (zsK_below HZO2.out hb89)
        have RS9 := hid (heap_alloc_new w8 (stBox t.oc t.va pl t.hs.2.1 t.hs.2.2 (.slice z1 (locsS E t).length kz1) (.slice z2 (stkS E t).length kz2)))
        have HB9 := hid (HB7.out.trans (hb89.mono HB7.out.size))
        have hz8 := hb8.size
        have hz9 : (w8.alloc (stBox t.oc t.va pl t.hs.2.1 t.hs.2.2 (.slice z1 (locsS E t).length kz1) (.slice z2 (stkS E t).length kz2))).heap.size = w8.heap.size + 1 := by simp
        unfold stBox at hou RB9 ZO9 RS9 HB9 hz9
        generalize (locsS E t).length = n3 at *
        generalize (stkS E t).length = n4 at *
        clear hb8 hb9 hb89 o1 o2 hPX9 HPX HRB2 HZO2 HB7 HI2
        go_wp2_with fail
        refine hou.out.mono ?_
        clear hou
        intro e w10 hh
        obtain ⟨hb10, vo2, hx, hown2⟩ := hh
        subst e
        obtain ⟨po2, co2, eo2⟩ := owns_slice hown2
        subst eo2
        have hz10 := hb10.size
        rw [hz9] at hz10
        have rB := (hb10.block w5.heap.size (by omega)).trans RB9.out
        have rS := (hb10.block w8.heap.size (by omega)).trans RS9.out
        have b0 := cell_of_row w10 w5.heap.size 0 _ _ _ rB
        have b1 := cell_of_row w10 w5.heap.size 1 _ _ _ rB
        have b2 := cell_of_row w10 w5.heap.size 2 _ _ _ rB
        have b3 := cell_of_row w10 w5.heap.size 3 _ _ _ rB
        simp only [List.getElem?_toArray, List.getElem?_cons_zero, List.getElem?_cons_succ] at b0 b1 b2 b3
        have HRB10 := hid rB
        have HRS10 := hid rS
        have hsk := hid (sameK_any t.out _ _ w10 (zsK_below ZO9.out hb10) (zsK_owns hown2) (by omega))
        have HB10 := hid (HB9.out.trans (hb10.mono HB9.out.size))
        clear hb10 hown2 ZO9 RB9 RS9 HB9 rB rS
        go_wp2_with fail
        refine hsk.out.mono ?_
        clear hsk
        intro e w11 hh
        obtain ⟨hx, nd, hw11⟩ := hh
        subst e
        have hbd : Below w10.heap.size w10 w11 := by rw [hw11]; exact ⟨rfl, rfl, rfl, Nat.le_refl _, fun _ _ => rfl⟩
        have rB := (hbd.block w5.heap.size (by omega)).trans HRB10.out
        have rS := (hbd.block w8.heap.size (by omega)).trans HRS10.out
        have d0 := cell_of_row w11 w5.heap.size 0 _ _ _ rB
        have d1' := cell_of_row w11 w5.heap.size 1 _ _ _ rB
        have d2' := cell_of_row w11 w5.heap.size 2 _ _ _ rB
        have f0 := cell_of_row w11 w8.heap.size 0 _ _ _ rS
        have f1 := cell_of_row w11 w8.heap.size 1 _ _ _ rS
        simp only [List.getElem?_toArray, List.getElem?_cons_zero, List.getElem?_cons_succ] at d0 d1' d2' f0 f1
        have HB11 := hid (HB10.out.trans (hbd.mono HB10.out.size))
        clear hbd rB rS HRB10 HRS10 HB10 hw11 b0 b1 b2 b3
        go_wp2_with fail
        go_ret
        exact ⟨rfl, HB11.out⟩
  · go_wp2_with fail
    go_loopg [19, 20] q' (fun gk x y w' => ∃ (k : Nat) (t : MS) (b : Bool), k ≤ q' ∧ gk = q' - k ∧ x = .int .i64 k ∧ y = .bool b ∧ (b = true → t.oc = 0) ∧ (b = false → t.oc ≠ 0) ∧ PN w.heap.size w2.heap.size N w' K t ∧ MInv E t ∧ t.out.length ≤ k ∧ KeepN w2.heap.size N (w5.alloc (.cells #[.int .i64 R.2.oc, .int .i64 R.2.va, .int .i64 R.1, .slice po' R.2.out.length co'] 55)) w' ∧ Below w.heap.size w w' ∧ runS E cus (q' - k) k t = runS E cus q' 0 s0)
    case atStart => exact ⟨0, s0, true, by omega, by omega, rfl, rfl, fun _ => h00, fun h => by (cases h), HPN.out, HINV.out, by omega, fun _ _ _ => rfl, HB6.out, rfl⟩
    case round =>
      obtain ⟨k, t, b, hk, hgk, rfl, rfl, hbt, hbf, hP, hI, ho, hK, hB, hR⟩ := hrel
      have HP := hid hP
      have HI2 := hid hI
      have HB7 := hid hB
      have HK := hid hK
      have HR := hid hR
      clear hP hI hB hK hR HINV HB6
      rcases Nat.lt_or_ge k q' with hlt | hge
      · have d1 : (k : Int) < (q' : Int) := by omega
        cases b
        · have HEND : Hid (runS E cus (q' - k) k t = (k, t)) := hid (run_done E cus _ k t (hbf rfl))
          clear hbt hbf
          have hRk : R = (k, t) := by rw [HRD.out, ← HR.out]; exact HEND.out
          have hPX := HP.out
          obtain ⟨F, hpx, hF, _, _, _⟩ := HP.out
          have hst := hid (px_state hpx hke hok HI2.out)
          have HPX := hid hpx
          have hrb := (HK.out w5.heap.size (by omega) (by omega)).trans HRB.out
          have HRB2 := hid hrb
          have HZO2 : Hid (ZsAt wr (.slice po' R.2.out.length co') R.2.out) := hid (by
            rcases HZO.out with h1 | ⟨a, cap, h1, h2⟩
            · exact .inl h1
            · cases h1
              obtain ⟨g1, g2⟩ := hgo a rfl
              exact .inr ⟨a, co', rfl, fun j y hj => (World.cell?_of_block (a := a.add j) (by rw [addK_block]; exact HK.out _ g1 g2)).trans (h2 j y hj)⟩)
          have hzr : N ≤ wr.heap.size := by
            obtain ⟨_, _, _, _, _, h⟩ := HP.out
            exact h
          subst hRk
          simp only at hol HRB2 HZO2
          clear HP HRB HZO hpx hF hPX HR HEND HRD HAN HPN hrb HK
          go_wp2_with fail
          refine hst.out.mono ?_
          clear hst
          intro e w8 hh
          obtain ⟨pl, hb8, y1, y2, hx, o1, o2, _⟩ := hh
          subst e
          obtain ⟨z1, kz1, e1⟩ := owns_slice o1
          obtain ⟨z2, kz2, e2⟩ := owns_slice o2
          subst e1
          subst e2
          have hb9 : Below w8.heap.size w8 (w8.alloc (stBox t.oc t.va pl t.hs.2.1 t.hs.2.2 (.slice z1 (locsS E t).length kz1) (.slice z2 (stkS E t).length kz2))) := (Below.refl _ _).alloc (Nat.le_refl _) _
          have hb89 := hb8.trans (hb9.mono hb8.size)
          have hPX9 := HPX.out.below hb89
          have hou := hid (show Calls Tryd.prog 19 #[.pointer (some ⟨K.b, 0, none⟩)] _ (CopyPost t.out _) from by
            obtain ⟨vI, vO, lo4, st8, hm, _⟩ := hPX9
            exact poutput_any hm (by omega))
          have RB9 := hid ((hb89.block w5.heap.size (by omega)).trans HRB2.out)
          have ZO9 := hid (zsK_below HZO2.out hb89)
          have RS9 := hid (heap_alloc_new w8 (stBox t.oc t.va pl t.hs.2.1 t.hs.2.2 (.slice z1 (locsS E t).length kz1) (.slice z2 (stkS E t).length kz2)))
          have HB9 := hid (HB7.out.trans (hb89.mono HB7.out.size))
          have hz8 := hb8.size
          have hz9 : (w8.alloc (stBox t.oc t.va pl t.hs.2.1 t.hs.2.2 (.slice z1 (locsS E t).length kz1) (.slice z2 (stkS E t).length kz2))).heap.size = w8.heap.size + 1 := by simp
          unfold stBox at hou RB9 ZO9 RS9 HB9 hz9
          generalize (locsS E t).length = n3 at *
          generalize (stkS E t).length = n4 at *
          clear hb8 hb9 hb89 o1 o2 hPX9 HPX HRB2 HZO2 HB7 HI2
          go_wp2_with fail
          refine hou.out.mono ?_
          clear hou
          intro e w10 hh
          obtain ⟨hb10, vo2, hx, hown2⟩ := hh
          subst e
          obtain ⟨po2, co2, eo2⟩ := owns_slice hown2
          subst eo2
          have hz10 := hb10.size
          rw [hz9] at hz10
          have rB := (hb10.block w5.heap.size (by omega)).trans RB9.out
          have rS := (hb10.block w8.heap.size (by omega)).trans RS9.out
          have b0 := cell_of_row w10 w5.heap.size 0 _ _ _ rB
          have b1 := cell_of_row w10 w5.heap.size 1 _ _ _ rB
          have b2 := cell_of_row w10 w5.heap.size 2 _ _ _ rB
          have b3 := cell_of_row w10 w5.heap.size 3 _ _ _ rB
          simp only [List.getElem?_toArray, List.getElem?_cons_zero, List.getElem?_cons_succ] at b0 b1 b2 b3
          have HRB10 := hid rB
          have HRS10 := hid rS
          have hsk := hid (sameK_any t.out _ _ w10 (zsK_below ZO9.out hb10) (zsK_owns hown2) (by omega))
          have HB10 := hid (HB9.out.trans (hb10.mono HB9.out.size))
          clear hb10 hown2 ZO9 RB9 RS9 HB9 rB rS
          go_wp2_with fail
          refine hsk.out.mono ?_
          clear hsk
          intro e w11 hh
          obtain ⟨hx, nd, hw11⟩ := hh
          subst e
          have hbd : Below w10.heap.size w10 w11 := by rw [hw11]; exact ⟨rfl, rfl, rfl, Nat.le_refl _, fun _ _ => rfl⟩
          have rB := (hbd.block w5.heap.size (by omega)).trans HRB10.out
          have rS := (hbd.block w8.heap.size (by omega)).trans HRS10.out
          have d0 := cell_of_row w11 w5.heap.size 0 _ _ _ rB
          have d1' := cell_of_row w11 w5.heap.size 1 _ _ _ rB
          have d2' := cell_of_row w11 w5.heap.size 2 _ _ _ rB
          have f0 := cell_of_row w11 w8.heap.size 0 _ _ _ rS
          have f1 := cell_of_row w11 w8.heap.size 1 _ _ _ rS
          simp only [List.getElem?_toArray, List.getElem?_cons_zero, List.getElem?_cons_succ] at d0 d1' d2' f0 f1
          have HB11 := hid (HB10.out.trans (hbd.mono HB10.out.size))
          clear hbd rB rS HRB10 HRS10 HB10 hw11 b0 b1 b2 b3
          go_wp2_with fail
          go_ret
          exact ⟨rfl, HB11.out⟩
        · have h0 := hbt rfl
          have HR2 : Hid (runS E cus (q' - (k + 1)) (k + 1) (stepS E (preS E cus k t)) = runS E cus q' 0 s0) := hid (by
            have := HR.out
            rw [show q' - k = (q' - (k + 1)) + 1 by omega] at this
            simp only [runS, if_pos h0] at this
            exact this)
          have hst := hid (fun (W : World) (hW : PN w.heap.size w2.heap.size N W K (preS E cus k t)) => pn_step hW hke hok HI2.out.pre ((pre_oc E cus k t).1.trans h0) hzs (by rw [(pre_oc E cus k t).2]; omega))
          have hout : Hid ((stepS E (preS E cus k t)).out.length ≤ k + 1) := hid (by
            have := stepS_out E (preS E cus k t)
            rw [(pre_oc E cus k t).2] at this
            omega)
          have HI3 : Hid (MInv E (stepS E (preS E cus k t))) := hid (HI2.out.pre.step hok)
          clear hbt hbf h0 HR
          obtain ⟨m, hm0⟩ : ∃ m, m = k % cus.length := ⟨_, rfl⟩
          have hml : m < cus.length := by rw [hm0]; exact Nat.mod_lt _ hc0
          have hmod : (k : Int) % (cus.length : Int) = (m : Int) := by rw [hm0]; rfl
          have d3 : (0 : Int) ≤ (m : Int) := by omega
          have d4 : (m : Int) < (cus.length : Int) := by omega
          have q0 : (0 : Int) < (cus.length : Int) := by omega
          have hzr : (w5.alloc (.cells #[.int .i64 R.2.oc, .int .i64 R.2.va, .int .i64 R.1, .slice po' R.2.out.length co'] 55)).heap.size ≤ wr.heap.size := by
            obtain ⟨_, _, _, _, _, h⟩ := HP.out
            simp
            omega
          have hub := HAN.out.keep HK.out hzr
          rcases hub.1 with ⟨_, hn⟩ | ⟨a, cap, hv, hcell, _⟩
          · rw [hn] at hc0; simp at hc0
          cases hv
          have y0 := hcell m cus[m] (List.getElem?_eq_getElem hml)
          have hfit := List.all_eq_true.1 HCF.out cus[m] (List.getElem_mem hml)
          unfold fitsB at hfit
          simp only [Bool.and_eq_true, decide_eq_true_eq] at hfit
          obtain ⟨u, hu⟩ : ∃ u : Nat, cus[m] = (u : Int) := ⟨cus[m].toNat, by omega⟩
          rw [hu] at y0 hfit
          have HPr : Hid (preS E cus k t = collS E u t) := hid (by
            unfold preS
            rw [if_neg (by omega), ← hm0, List.getD_eq_getElem?_getD, List.getElem?_eq_getElem hml]
            simp [hu])
          have hcl := hid (pn_coll HP.out hke hok HI2.out u (by omega))
          clear hcell hub hu hfit hm0 HP HI2 hzr
          go_wp2_with fail
          refine hcl.out.mono ?_
          clear hcl
          intro e w7 hp
          obtain ⟨hx, hP1, hK1, hB1⟩ := hp
          subst e
          have hs1 := hid (hst.out w7 (by rw [HPr.out]; exact hP1))
          have HB8 := hid (HB7.out.trans hB1)
          have HK8 := hid (HK.out.trans hK1)
          clear hst hP1 hB1 hK1 HB7 HK y0
          go_wp2_with fail
          refine hs1.out.mono ?_
          clear hs1
          intro e w8 hp
          obtain ⟨hx, hP2, hK2, hB2⟩ := hp
          subst e
          have HP2 := hid hP2
          have HB9 := hid (HB8.out.trans hB2)
          have HK9 := hid (HK8.out.trans hK2)
          clear hP2 hB2 hK2
          go_wp2_with fail
          go_roundg (q' - (k + 1))
          case measure => omega
          case rel => exact ⟨k + 1, _, ((stepS E (preS E cus k t)).oc : Int) == 0, by omega, rfl, by go_num, rfl, fun h => by simpa using h, fun h => by simpa using h, HP2.out, HI3.out, hout.out, HK9.out, HB9.out, HR2.out⟩
      · have d1 : ¬ (k : Int) < (q' : Int) := by omega
        have HEND : Hid (runS E cus (q' - k) k t = (k, t)) := hid (by rw [show q' - k = 0 by omega]; rfl)
        clear hbt hbf
        have hRk : R = (k, t) := by rw [HRD.out, ← HR.out]; exact HEND.out
        have hPX := HP.out
        obtain ⟨F, hpx, hF, _, _, _⟩ := HP.out
        have hst := hid (px_state hpx hke hok HI2.out)
        have HPX := hid hpx
        have hrb := (HK.out w5.heap.size (by omega) (by omega)).trans HRB.out
        have HRB2 := hid hrb
        have HZO2 : Hid (ZsAt wr (.slice po' R.2.out.length co') R.2.out) := hid (by
          rcases HZO.out with h1 | ⟨a, cap, h1, h2⟩
          · exact .inl h1
          · cases h1
            obtain ⟨g1, g2⟩ := hgo a rfl
            exact .inr ⟨a, co', rfl, fun j y hj => (World.cell?_of_block (a := a.add j) (by rw [addK_block]; exact HK.out _ g1 g2)).trans (h2 j y hj)⟩)
        have hzr : N ≤ wr.heap.size := by
          obtain ⟨_, _, _, _, _, h⟩ := HP.out
          exact h
        subst hRk
        simp only at hol HRB2 HZO2
        clear HP HRB HZO hpx hF hPX HR HEND HRD HAN HPN hrb HK
        go_wp2_with fail
        refine hst.out.mono ?_
        clear hst
        intro e w8 hh
        obtain ⟨pl, hb8, y1, y2, hx, o1, o2, _⟩ := hh
        subst e
        obtain ⟨z1, kz1, e1⟩ := owns_slice o1
        obtain ⟨z2, kz2, e2⟩ := owns_slice o2
        subst e1
        subst e2
        have hb9 : Below w8.heap.size w8 (w8.alloc (stBox t.oc t.va pl t.hs.2.1 t.hs.2.2 (.slice z1 (locsS E t).length kz1) (.slice z2 (stkS E t).length kz2))) := (Below.refl _ _).alloc (Nat.le_refl _) _
        have hb89 := hb8.trans (hb9.mono hb8.size)
        have hPX9 := HPX.out.below hb89
        have hou := hid (show Calls Tryd.prog 19 #[.pointer (some ⟨K.b, 0, none⟩)] _ (CopyPost t.out _) from by
          obtain ⟨vI, vO, lo4, st8, hm, _⟩ := hPX9
          exact poutput_any hm (by omega))
        have RB9 := hid ((hb89.block w5.heap.size (by omega)).trans HRB2.out)
        have ZO9 := hid (zsK_below HZO2.out hb89)
        have RS9 := hid (heap_alloc_new w8 (stBox t.oc t.va pl t.hs.2.1 t.hs.2.2 (.slice z1 (locsS E t).length kz1) (.slice z2 (stkS E t).length kz2)))
        have HB9 := hid (HB7.out.trans (hb89.mono HB7.out.size))
        have hz8 := hb8.size
        have hz9 : (w8.alloc (stBox t.oc t.va pl t.hs.2.1 t.hs.2.2 (.slice z1 (locsS E t).length kz1) (.slice z2 (stkS E t).length kz2))).heap.size = w8.heap.size + 1 := by simp
        unfold stBox at hou RB9 ZO9 RS9 HB9 hz9
        generalize (locsS E t).length = n3 at *
        generalize (stkS E t).length = n4 at *
        clear hb8 hb9 hb89 o1 o2 hPX9 HPX HRB2 HZO2 HB7 HI2
        go_wp2_with fail
        refine hou.out.mono ?_
        clear hou
        intro e w10 hh
        obtain ⟨hb10, vo2, hx, hown2⟩ := hh
        subst e
        obtain ⟨po2, co2, eo2⟩ := owns_slice hown2
        subst eo2
        have hz10 := hb10.size
        rw [hz9] at hz10
        have rB := (hb10.block w5.heap.size (by omega)).trans RB9.out
        have rS := (hb10.block w8.heap.size (by omega)).trans RS9.out
        have b0 := cell_of_row w10 w5.heap.size 0 _ _ _ rB
        have b1 := cell_of_row w10 w5.heap.size 1 _ _ _ rB
        have b2 := cell_of_row w10 w5.heap.size 2 _ _ _ rB
        have b3 := cell_of_row w10 w5.heap.size 3 _ _ _ rB
        simp only [List.getElem?_toArray, List.getElem?_cons_zero, List.getElem?_cons_succ] at b0 b1 b2 b3
        have HRB10 := hid rB
        have HRS10 := hid rS
        have hsk := hid (sameK_any t.out _ _ w10 (zsK_below ZO9.out hb10) (zsK_owns hown2) (by omega))
        have HB10 := hid (HB9.out.trans (hb10.mono HB9.out.size))
        clear hb10 hown2 ZO9 RB9 RS9 HB9 rB rS
        go_wp2_with fail
        refine hsk.out.mono ?_
        clear hsk
        intro e w11 hh
        obtain ⟨hx, nd, hw11⟩ := hh
        subst e
        have hbd : Below w10.heap.size w10 w11 := by rw [hw11]; exact ⟨rfl, rfl, rfl, Nat.le_refl _, fun _ _ => rfl⟩
        have rB := (hbd.block w5.heap.size (by omega)).trans HRB10.out
        have rS := (hbd.block w8.heap.size (by omega)).trans HRS10.out
        have d0 := cell_of_row w11 w5.heap.size 0 _ _ _ rB
        have d1' := cell_of_row w11 w5.heap.size 1 _ _ _ rB
        have d2' := cell_of_row w11 w5.heap.size 2 _ _ _ rB
        have f0 := cell_of_row w11 w8.heap.size 0 _ _ _ rS
        have f1 := cell_of_row w11 w8.heap.size 1 _ _ _ rS
        simp only [List.getElem?_toArray, List.getElem?_cons_zero, List.getElem?_cons_succ] at d0 d1' d2' f0 f1
        have HB11 := hid (HB10.out.trans (hbd.mono HB10.out.size))
        clear hbd rB rS HRB10 HRS10 HB10 hw11 b0 b1 b2 b3
        go_wp2_with fail
        go_ret
        exact ⟨rfl, HB11.out⟩
end Go.Proofs.YtdmdpindonghdabDoor
namespace Go.Proofs.YtdmdpindonghdabDoor
open Go.ChangeShapes Go.WideShapes Go.ChangeAt Go.ChangeMaps Go.RowKit
set_option maxRecDepth 100000 in
/-- A list of numbers that is handed in, each in its range. -/
theorem ints_argR {H : Type} {enc : TypeId × Value → H} {W : World} {v : Value} {d : DataW H} {p : List MemPlace} {base : Nat} (hok : Value.okWide Tryd.prog W .any base 22 v) (h : DataW.Trod enc Tryd.prog W 0 (fun _ => true) true 22 v d p) (hlt : ∀ x ∈ p, x.block < W.heap.size) (hw : (d.weights Tryd.prog 22).all (· ≤ reachBytes) = true) :
    ∃ zs : List Int, ArgInts W v zs ∧ zs.length ≤ 17592186043904 ∧ (∀ p n c, v = .slice p n c → n ≤ c ∧ c ≤ maxLen) ∧ ∀ u ∈ zs, -9223372036854775808 ≤ u ∧ u ≤ 9223372036854775807 := by
  obtain ⟨a0, len, cap, rfl⟩ := okWide_slice Tryd.underlying22 hok
  obtain ⟨fuel, hf⟩ := h
  rcases open_ints Tryd.underlying22 Tryd.underlying3 cellsInt hf with ⟨hcs, hx⟩ | ⟨a, len', cap', zs, hcs, _, hl, hm, hz, hx, hcell, hwf⟩
  · simp [Value.cells] at hcs
    obtain ⟨rfl, rfl, rfl⟩ := hcs
    exact ⟨[], .inl ⟨rfl, rfl⟩, by simp, fun p n c h => by cases h; exact ⟨Nat.le_refl _, Nat.zero_le _⟩, fun u hu => by cases hu⟩
  · simp [Value.cells] at hcs
    obtain ⟨rfl, rfl, rfl⟩ := hcs
    simp only [Prod.mk.injEq] at hx
    obtain ⟨rfl, rfl⟩ := hx
    simp only [if_true] at hz
    have hlz : (zs.take len).length = len := by rw [List.length_take]; omega
    refine ⟨zs.take len, .inr ⟨a, cap, by rw [hlz], ?_, ?_⟩, ?_, fun p n c h => by cases h; exact ⟨hl, hm⟩, fun u hu => int_range (hwf u (List.mem_of_mem_take hu))⟩
    · intro j x hj
      have hjl := (List.getElem?_eq_some_iff.1 hj).1
      rw [hlz] at hjl
      rw [List.getElem?_take, if_pos hjl] at hj
      rw [hcell j (by omega), List.getD_eq_getElem?_getD, hj]
      rfl
    · intro hp
      exact hlt (.cell a.block (a.off + 0)) (MemPlace.mem_row.2 ⟨0, by omega, rfl⟩)
    · rw [hlz]
      have := hw
      simp only [DataW.weights, Tryd.underlying22, List.all_cons, Bool.and_eq_true, decide_eq_true_eq, bytesInt] at this
      have h2 := this.1
      simp only [lits, List.length_map, hlz] at h2
      have : reachBytes = 140737488351232 := rfl
      omega
set_option maxRecDepth 100000 in
theorem byHand_lifted (os : Os) (started : os.Started) (H : Type) (enc : TypeId × Value → H) :
    ReturnsInHanded {} Tryd.checked os 7 .any (fun w args => (Rows.byHandSpec.pre enc Tryd.prog Tryd.f7 Rows.byHandRow.domain false w args ∧ laidMetH Tryd.prog Rows.byHandRow.laid w) ∧ sizedMet enc Tryd.prog Tryd.f7 (OpenSpec.ofChange Rows.byHandSpec) false w args)
      (Rows.byHandSpec.post enc Tryd.prog Tryd.f7 false true false false) := by
  refine returnsInHanded_of_change_and (C := Tryd.checked) (X := fun w _ => laidMetH Tryd.prog Rows.byHandRow.laid w) (fun _ _ _ hh h => h.of_heap hh) knobs started (by kernel_rfl) Tryd.func7
    (ChangeSpec.witness_shaped (enc := enc) (C := Tryd.checked) (os := os) (X := fun w _ => laidMetH Tryd.prog Rows.byHandRow.laid w) false (World.laidAll Tryd.prog os Rows.byHandRow.laid) #[.string ⟨#[]⟩, .slice none 0 0, .int .i64 0, .slice none 0 0, .int .i64 0] 8 (World.laidAll_os _ _ _)
      (World.shaped_of_ZipB (by kernel_rfl) (by kernel_rfl)) (by kernel_rfl) (by kernel_rfl) (by kernel_rfl)
      (by rw [MakeChecks.laidMetH_plain _ _ _ (by kernel_rfl)]; exact laidMet_laidAll _ (by kernel_rfl) (by kernel_rfl))) ?_
  intro W base args ds gs before hval0 hW _ hsz hL _
  have hval : ∀ (j : Nat) t v, Tryd.f7.params[j]? = some t → args[j]? = some v → Value.okWide Tryd.prog W .any base t v := hval0
  have hW' := hW
  obtain ⟨p, q, hA0, hV, rfl, _, _⟩ := hW
  have hA : DataW.TrodAll enc Tryd.prog W 0 (fun _ => true) true Tryd.f7.params.toList args.toList ds p := hA0
  obtain ⟨rfl, rfl⟩ := trodVars_none hV
  have hlt : ∀ x ∈ p, x.block < W.heap.size := fun x hx => by
    have := hW'.lt x (by simpa using hx)
    exact this
  rw [Tryd.params7] at hA hval hsz
  obtain ⟨v0, v1, v2, v3, v4, d0, d1, d2, d3, d4, p0, p1, p2, p3, p4, rfl, rfl, rfl, h0, h1, h2, h3, h4⟩ := trodAll_five hA
  obtain ⟨s, rfl, rfl, rfl, hs⟩ := open_string Tryd.underlying9 (hval 0 9 v0 rfl rfl) h0
  obtain ⟨n, rfl, rfl, rfl, hn⟩ := open_int Tryd.underlying3 (hval 2 3 v2 rfl rfl) h2
  obtain ⟨m, rfl, rfl, rfl, hm⟩ := open_int Tryd.underlying3 (hval 4 3 v4 rfl rfl) h4
  have hw1 : (d1.weights Tryd.prog 22).all (· ≤ reachBytes) = true := by
    have := hsz
    simp only [List.append_nil, List.cons_append, List.nil_append, DataW.weightsEach, List.all_append, Bool.and_eq_true] at this
    exact this.2.1
  have hw3 : (d3.weights Tryd.prog 22).all (· ≤ reachBytes) = true := by
    have := hsz
    simp only [List.append_nil, List.cons_append, List.nil_append, DataW.weightsEach, List.all_append, Bool.and_eq_true] at this
    exact this.2.2.2.1
  have hlt1 : ∀ x ∈ p1, x.block < W.heap.size := fun x hx => hlt x (by simp [hx])
  have hlt3 : ∀ x ∈ p3, x.block < W.heap.size := fun x hx => hlt x (by simp [hx])
  obtain ⟨us, hu, hul, _, hur⟩ := ints_argR (hval 3 22 v3 rfl rfl) h3 hlt3 hw3
  obtain ⟨zs, hz, hzl, hcap⟩ := ints_arg (hval 1 22 v1 rfl rfl) h1 hlt1 hw1
  have t1 := flow_of_laid hL
  obtain ⟨n1, n2⟩ := int_range hn
  obtain ⟨m1, m2⟩ := int_range hm
  refine (byhand_any s v1 v3 zs us n m W hs t1 hz hcap hu hul hur n1 n2 m1 m2).mono fun e W' ⟨he, hb⟩ => ?_
  subst he
  have hr1 : DataW.Trod enc Tryd.prog W' 0 (fun b => decide (b < W.heap.size)) true 22 v1 d1 p1 := Below.trod laidOutP (by kernel_rfl) (of_decide_eq_true (by kernel_rfl)) h1 hb hlt1
  have hr3 : DataW.Trod enc Tryd.prog W' 0 (fun b => decide (b < W.heap.size)) true 22 v3 d3 p3 := Below.trod laidOutP (by kernel_rfl) (of_decide_eq_true (by kernel_rfl)) h3 hb hlt3
  exact ⟨_, rfl, _, _, _, [], _, [], hW', trodAll_mk1 (shut_bool Tryd.underlying4 _), trodAll_mk5 (shut_string Tryd.underlying9 hs) hr1 (shut_int Tryd.underlying3 hn) hr3 (shut_int Tryd.underlying3 hm), rfl, hb.frame _, fun h => by cases h⟩
theorem byHand_holds : Rows.ByHandSaid :=
  OpenClaim.holds_of_wide 7 Tryd.f7 rfl rfl rfl rfl rfl rfl rfl ⟨rfl, rfl, rfl, rfl, rfl⟩ rfl rfl rfl rfl rfl (by kernel_rfl) Tryd.func7 (by kernel_rfl)
    (of_decide_eq_true (by kernel_rfl)) (by unfold Func.isWrapper; first | (rw [if_pos (by decide +kernel)]; kernel_rfl) | (rw [if_neg (by decide +kernel)]; exact ⟨rfl, rfl⟩))
    (fun os started H enc _ => byHand_lifted os started H enc)
theorem byHand_card_holds : Rows.ByHandCardSaid :=
  Claim7.holds_tied_plain_at .later [] [.data, .data] true Rows.byHandCard.stood.harness false
    byHand_holds (fun _ h => by cases h) (by kernel_rfl) (fun _ h => by cases h) byHand_row_tie rfl ⟨rfl, rfl⟩ (by kernel_rfl) rfl
    (fun f fn hf hfn => by
      obtain rfl : f = 7 := Option.some.inj ((show Tryd.prog.funcNamed "tint/tintkeep.ByHand" = some 7 by kernel_rfl).symm.trans hf) |>.symm
      obtain rfl : fn = Tryd.f7 := (Option.some.inj (Tryd.func7.symm.trans hfn)).symm
      exact ⟨by kernel_rfl, fun j t ht => by
        rw [Tryd.params7] at ht
        have hm : t ∈ [9, 22, 3, 22, 3] := by simpa using Array.mem_of_getElem? ht
        have hall : ([9, 22, 3, 22, 3].all fun u => !Tryd.prog.wantsStandIn u) = true := by kernel_rfl
        exact (show Tryd.prog.wantsStandIn t = false by simpa using List.all_eq_true.1 hall t hm)⟩)
    (by kernel_rfl)
#print axioms byHand_card_holds
end Go.Proofs.YtdmdpindonghdabDoor
