/- What the proofs of these statements stand on, part 2: RefD, RefE, RefF, SpecJ, FlowJ, TypG, MacD, MacG, MacH, PmA, HpA, HpB, ArrEq, FlowL, HpC, HpD, HpE, HpF, HpG, HpH, HpI, HpJ, MsA, CodeC, CodeD, FlowE, FlowF. -/
import Derived.Test.YtdmdpindonghdaaGreatDoorAll1
import Derived.Laws.MakeOwn
import Derived.Laws.IdiomCopy
set_option maxHeartbeats 4000000
set_option maxRecDepth 100000
namespace Go.Proofs.YtdmdpindonghdaaGreatDoor
open Go.RowKit
theorem Tryz.infoPt : (Tryz.prog.info? 155).map (fun i => (i.zero, i.size, i.bytes)) = some (some (.agg #[.int .i64 0, .string ⟨#[]⟩, .string ⟨#[]⟩]), 3, 40) := by kernel_rfl
theorem keeps_grown {g : Nat} {w wr w1 : World} {o : Obj} {n cap : Nat} (hb : Below w.heap.size w wr) (hg : (wr.alloc o).grownBy w1 (Value.ownBlock (.slice (some ⟨g, 0, none⟩) n cap))) : Keeps g w w1 := by
  intro b hlt hne
  have h1 := hb.size
  rw [hg.block b (by simp; omega) (by simp [Value.ownBlock]; exact hne), Below.heap_alloc _ _ _ (by omega), hb.block b hlt]
theorem joined_lies {w wr : World} {o : Obj} {g gg n cap n2 cap2 : Nat} (hz : w.heap.size + 1 ≤ wr.heap.size) (h : Value.ownBlock (.slice (some ⟨g, 0, none⟩) n cap) = some gg ∨ gg = (wr.alloc o).heap.size) :
    ∀ g', Value.ownBlock (.slice (some ⟨gg, 0, none⟩) n2 cap2) = some g' → g' = g ∨ w.heap.size ≤ g' := by
  intro g' hg'
  cases hg'
  rcases h with h | h
  · cases h; exact .inl rfl
  · right; rw [h]; simp; omega
theorem joined_known {x y kb d : Bool} {z : Bool} (h : x = (kb || y)) (hy : y = z) (hk : kb = true ∧ d = true ∨ ¬ kb = true ∧ d = z) : x = d := by
  rcases hk with ⟨h1, h2⟩ | ⟨h1, h2⟩
  · rw [h, h1, h2]; rfl
  · have : kb = false := by simpa using h1
    rw [h, this, hy, h2]; rfl
theorem joined_any (l : List Ins) (gi ci : Nat) (all : List Pt) (g cap base : Nat) (p : Pt) (w : World) (hat : InsAt w gi l) (hgi : gi < w.heap.size) (hl : p.at_ < l.length)
    (hown : w.ownsRow base 155 3 (.slice (some ⟨g, 0, none⟩) all.length cap) all.length (ptCells all)) (hbase : base ≤ w.heap.size) (hlen : all.length ≤ 100000)
    (hop : l[p.at_].op = 7 → l[p.at_].n < p.lo.size ∧ ∀ q ∈ all, l[p.at_].n < q.lo.size) :
    Calls Tryz.prog 87 #[.slice (some ⟨gi, 0, none⟩) l.length ci, .slice (some ⟨g, 0, none⟩) all.length cap, .agg #[.int .i64 p.at_, .string p.lo, .string p.st]] w (JoinPost l[p.at_] all p base g w) := by
  obtain ⟨i0, hi0, hz0, hz1, hz2⟩ := info_parts Tryz.infoPt
  have hpt := PtAt.of_owns hown
  have hg := (hown.lt g rfl)
  obtain ⟨j0, j1, j2⟩ := hat _ hl
  clear hat
  obtain ⟨a, lo, st⟩ := p
  simp only at hl hop j0 j1 j2 ⊢
  generalize hI : l[a] = I at *
  have HI := hid hI
  clear hI
  obtain ⟨io, inn, ipl⟩ := I
  simp only at hop j0 j1 j2
  go_enter Tryz.func87, Tryz.ntmps87
  go_wp2_with fail
  go_loopw [8, 9] (fun kn i w' => ∃ (k : Nat) (kb : Bool), k ≤ all.length ∧ i = .int .i64 k ∧ kn = .bool kb ∧ (all.take k).any (knownB ⟨a, lo, st⟩) = kb ∧ (all.take k).any (clashB ⟨io, inn, ipl⟩ ⟨a, lo, st⟩) = false ∧
    Below (w.heap.size + 1) (w.alloc (.cells #[.int .i64 a, .string lo, .string st] 155)) w') (fun _ i _ => all.length - (intOf i).toNat)
  case atStart => exact ⟨0, false, Nat.zero_le _, rfl, rfl, rfl, rfl, Below.refl _ _⟩
  case round =>
    obtain ⟨k, kb, hk, rfl, rfl, hkb, hcl, hbel⟩ := hrel
    have HC := hid hcl
    have HKB := hid hkb
    clear hcl hkb
    obtain ⟨bx, bo, hz⟩ := box_cells hbel
    have hz' : w.heap.size < wr.heap.size := by omega
    have hz3 : w.heap.size ≤ wr.heap.size := by omega
    have hg1 : g < wr.heap.size := by omega
    have hg2 : g ≤ wr.heap.size := by omega
    have hgi1 : gi < wr.heap.size := by omega
    have hgi2 : gi ≤ wr.heap.size := by omega
    have x0 := bx 0
    have x1 := bx 1
    have x2 := bx 2
    simp only [List.getElem?_toArray, List.getElem?_cons_zero, List.getElem?_cons_succ] at x0 x1 x2
    by_cases hlt : k < all.length
    · obtain ⟨q0, q1, q2⟩ := hpt k hlt
      rw [← bo _ _ hg.2] at q0 q1 q2
      rw [← bo _ _ hgi] at j0 j1 j2
      have HQ : Hid ((∀ q ∈ all, io = 7 → inn < q.lo.size)) := hid fun q hq h => (hop h).2 q hq
      have HKN : Hid ((all.take (k + 1)).any (knownB ⟨a, lo, st⟩) = (kb || knownB ⟨a, lo, st⟩ all[k])) := hid (by rw [any_take_succ _ _ _ hlt, HKB.out])
      have HCN : Hid ((all.take (k + 1)).any (clashB ⟨io, inn, ipl⟩ ⟨a, lo, st⟩) = clashB ⟨io, inn, ipl⟩ ⟨a, lo, st⟩ all[k]) := hid (by rw [any_take_succ _ _ _ hlt, HC.out]; rfl)
      have HN : Hid ((all[k].lo.toList == lo.toList) = decide (all[k].lo = lo)) := hid (by
        by_cases h : all[k].lo = lo
        · rw [str_eq h]; simp [h]
        · rw [str_ne h]; simp [h])
      clear bx bo hpt
      by_cases ha : all[k].at_ = a
      · have ha' : (((all[k].at_ : Nat) : Int) != (a : Int)) = false := by simp; omega
        have hl0 : (0 : Int) ≤ (a : Int) := by omega
        have hl1 : (a : Int) < (l.length : Int) := by omega
        have HK1 : Hid (knownB ⟨a, lo, st⟩ all[k] = (all[k].lo.toList == lo.toList)) := hid (by rw [HN.out]; simp [knownB, ha])
        by_cases hst : all[k].st = st
        · have hst' := str_eq hst
          by_cases h7 : io = 7
          · have h7' : ((io : Int) == 7) = true := by simp; omega
            have n0 := (hop h7).1
            have n1 := HQ.out all[k] (List.getElem_mem hlt) h7
            have hin0 : (0 : Int) ≤ (inn : Int) := by omega
            have hin1 : (inn : Int) < (lo.size : Int) := by omega
            have hin2 : (inn : Int) < (all[k].lo.size : Int) := by omega
            have b0 := byteAt_eq lo inn n0
            have b1 := byteAt_eq all[k].lo inn n1
            have b2 := byteAt_lt lo inn
            have b3 := byteAt_lt all[k].lo inn
            by_cases hb : byteAt all[k].lo inn = byteAt lo inn
            · have hb' : (((byteAt all[k].lo inn : Nat) : Int) != (byteAt lo inn : Nat)) = false := by simp; omega
              have HCL : Hid (clashB ⟨io, inn, ipl⟩ ⟨a, lo, st⟩ all[k] = false) := hid (by simp [clashB, hst, hb])
              clear hb hst ha h7 hop
              go_wp2_with fail
              go_quiet (fail)
              go_wp2_with fail
              all_goals
                rename_i hkb2
                exact ⟨⟨k + 1, _, by omega, by go_num, rfl, by first | exact joined_known HKN.out HK1.out (.inl ⟨hkb2, rfl⟩) | exact joined_known HKN.out HK1.out (.inr ⟨hkb2, rfl⟩), HCN.out.trans HCL.out, below_drewN ((hbel.alloc hz _).alloc (by simp; omega) _) _⟩, by simp [intOf]; omega⟩
            · have hb' : (((byteAt all[k].lo inn : Nat) : Int) != (byteAt lo inn : Nat)) = true := by simp; omega
              have HCL : Hid (clashB ⟨io, inn, ipl⟩ ⟨a, lo, st⟩ all[k] = true) := hid (by simp [clashB, hst, hb, ha, h7])
              clear hb hst ha h7 hop
              go_wp2_with fail
              go_quiet (fail)
              go_wp2_with fail
              go_ret2
              exact joinPost_mk (box_below hbase (below_drewN ((hbel.alloc hz _).alloc (by simp; omega) _) _)) (.of_below (box_below (Nat.le_refl _) (below_drewN ((hbel.alloc hz _).alloc (by simp; omega) _) _))) (fun g' hg' => by cases hg'; exact .inl rfl) (joinedP_clash hlt HCL.out) rfl rfl (owns_below hown (box_below (Nat.le_refl _) (below_drewN ((hbel.alloc hz _).alloc (by simp; omega) _) _)) (fun g' hg' => by cases hg'; exact hg.2))
          · have h7' : ((io : Int) == 7) = false := by simp; omega
            have HCL : Hid (clashB ⟨io, inn, ipl⟩ ⟨a, lo, st⟩ all[k] = false) := hid (by simp [clashB, hst, h7])
            clear hst ha h7 hop
            go_wp2_with fail
            go_quiet (fail)
            go_wp2_with fail
            all_goals
              rename_i hkb2
              exact ⟨⟨k + 1, _, by omega, by go_num, rfl, by first | exact joined_known HKN.out HK1.out (.inl ⟨hkb2, rfl⟩) | exact joined_known HKN.out HK1.out (.inr ⟨hkb2, rfl⟩), HCN.out.trans HCL.out, below_drewN ((hbel.alloc hz _).alloc (by simp; omega) _) _⟩, by simp [intOf]; omega⟩
        · have hst' := str_ne hst
          have HCL : Hid (clashB ⟨io, inn, ipl⟩ ⟨a, lo, st⟩ all[k] = true) := hid (by simp [clashB, hst, ha])
          clear hst ha hop
          go_wp2_with fail
          go_quiet (fail)
          go_wp2_with fail
          go_ret2
          exact joinPost_mk (box_below hbase (below_drewN ((hbel.alloc hz _).alloc (by simp; omega) _) _)) (.of_below (box_below (Nat.le_refl _) (below_drewN ((hbel.alloc hz _).alloc (by simp; omega) _) _))) (fun g' hg' => by cases hg'; exact .inl rfl) (joinedP_clash hlt HCL.out) rfl rfl (owns_below hown (box_below (Nat.le_refl _) (below_drewN ((hbel.alloc hz _).alloc (by simp; omega) _) _)) (fun g' hg' => by cases hg'; exact hg.2))
      · have ha' : (((all[k].at_ : Nat) : Int) != (a : Int)) = true := by simp; omega
        have HK1 : Hid (knownB ⟨a, lo, st⟩ all[k] = false) := hid (by simp [knownB, ha])
        have HCL : Hid (clashB ⟨io, inn, ipl⟩ ⟨a, lo, st⟩ all[k] = false) := hid (by simp [clashB, ha])
        clear ha
        go_wp2_with fail
        exact ⟨⟨k + 1, _, by omega, by go_num, rfl, by rw [HKN.out, HK1.out]; simp, HCN.out.trans HCL.out, hbel.alloc hz _⟩, by simp [intOf]; omega⟩
    · have hke : all.take k = all := List.take_of_length_le (by omega)
      have HKB' : Hid (all.any (knownB ⟨a, lo, st⟩) = kb) := hid (by rw [← HKB.out, hke])
      have HC' : Hid (all.any (clashB ⟨io, inn, ipl⟩ ⟨a, lo, st⟩) = false) := hid (by rw [← HC.out, hke])
      clear hke HKB HC
      cases kb
      · have HJ : Hid (joinedP ⟨io, inn, ipl⟩ all ⟨a, lo, st⟩ = (all ++ [⟨a, lo, st⟩], true)) := hid (by simp [joinedP, HC'.out, HKB'.out])
        have hown2 := owns_below hown (box_below (Nat.le_refl _) hbel) (fun g' hg' => by cases hg'; exact hg.2)
        go_wp2_with (at_builtin; go_must (refine wpList_append_lies _ (by rfl) _ _ _ (by rfl) base 155 i0 _ 3 40 Tryz.underlying121 hi0 hz0 hz1 hz2 rfl (by omega) _ all.length (ptCells all) (by rfl) (hown2.alloc _) ⟨_, 0, none⟩ 1 1 [.int .i64 a, .string lo, .string st] (by rfl) (by rfl) (World.news_of_block (cs := #[.int .i64 a, .string lo, .string st]) (t := 155) (fr := (0, 0)) (heap_alloc_new _ _)) (by simp [Value.oneCell']) (by omega) (by unfold maxLen; omega) (by omega) (by simp; omega) _ rfl ?_); intro gg cap2 w1 hown1 hgrow hat hlt2)
        go_ret2
        exact joinPost_mk (((box_below hbase hbel).alloc (by omega) _).grown hgrow (by simp; omega) (fun k' hk' => by cases hk'; exact hg.1)) (keeps_grown (box_below (Nat.le_refl _) hbel) hgrow) (joined_lies hz hat) HJ.out (by simp) (by rw [ptCells_snoc]) hown1
      · have HJ : Hid (joinedP ⟨io, inn, ipl⟩ all ⟨a, lo, st⟩ = (all, true)) := hid (by simp [joinedP, HC'.out, HKB'.out])
        go_wp2_with fail
        go_ret2
        exact joinPost_mk (box_below hbase hbel) (.of_below (box_below (Nat.le_refl _) hbel)) (fun g' hg' => by cases hg'; exact .inl rfl) HJ.out rfl rfl (owns_below hown (box_below (Nat.le_refl _) hbel) (fun g' hg' => by cases hg'; exact hg.2))
theorem InsAt.get {w : World} {g : Nat} {l : List Ins} (h : InsAt w g l) {a : Nat} {i : Ins} (hi : l[a]? = some i) :
    w.cell? ⟨g, a * 3, none⟩ = some (.int .i64 i.op) ∧ w.cell? ⟨g, a * 3 + 1, none⟩ = some (.int .i64 i.n) ∧ w.cell? ⟨g, a * 3 + 2, none⟩ = some (.int .i64 i.place) := by
  obtain ⟨h1, rfl⟩ := List.getElem?_eq_some_iff.1 hi
  exact h a h1
theorem PtAt.get {w : World} {g : Nat} {l : List Pt} (h : PtAt w g l) {a : Nat} {i : Pt} (hi : l[a]? = some i) :
    w.cell? ⟨g, a * 3, none⟩ = some (.int .i64 i.at_) ∧ w.cell? ⟨g, a * 3 + 1, none⟩ = some (.string i.lo) ∧ w.cell? ⟨g, a * 3 + 2, none⟩ = some (.string i.st) := by
  obtain ⟨h1, rfl⟩ := List.getElem?_eq_some_iff.1 hi
  exact h a h1
theorem bcell_r {W w1 : World} (hb : Below W.heap.size W w1) : (∀ b o, b < W.heap.size → w1.cell? ⟨b, o, none⟩ = W.cell? ⟨b, o, none⟩) ∧ (∀ b o, b < W.heap.size → w1.frozen? ⟨b, o, none⟩ = W.frozen? ⟨b, o, none⟩) :=
  ⟨fun b o h => hb.cell (p := ⟨b, o, none⟩) h, fun b o h => hb.frozen (p := ⟨b, o, none⟩) h⟩
theorem cut_i {wr w2 : World} {nb : Obj} (c : Obj) (hb : Below (wr.alloc nb).drew.heap.size (wr.alloc nb).drew w2) : wr.heap.size + 1 ≤ w2.heap.size ∧ (w2.alloc c).heap[w2.heap.size]? = some c ∧ Below (wr.heap.size + 1) (wr.alloc nb) (w2.alloc c) := by
  have e : (wr.alloc nb).drew.heap.size = wr.heap.size + 1 := by simp
  have hs := hb.size
  rw [e] at hb hs
  exact ⟨hs, heap_alloc_new _ _, ((Below.refl _ _).drew.trans hb).alloc hs _⟩
theorem cut_ii {wr w2 : World} {nb : Obj} {z0 z1 z2 : Value} {t : TypeId} (v0 v1 v2 : Value) (hb : Below ((wr.alloc nb).alloc (.cells #[z0, z1, z2] t)).drew.heap.size ((wr.alloc nb).alloc (.cells #[z0, z1, z2] t)).drew w2) :
    (((w2.setCell ⟨wr.heap.size + 1, 0, none⟩ v0).setCell ⟨wr.heap.size + 1, 1, none⟩ v1).setCell ⟨wr.heap.size + 1, 2, none⟩ v2).heap[wr.heap.size + 1]? = some (.cells #[v0, v1, v2] t) ∧
    Below (wr.heap.size + 1) (wr.alloc nb) (((w2.setCell ⟨wr.heap.size + 1, 0, none⟩ v0).setCell ⟨wr.heap.size + 1, 1, none⟩ v1).setCell ⟨wr.heap.size + 1, 2, none⟩ v2) := by
  have e : ((wr.alloc nb).alloc (.cells #[z0, z1, z2] t)).drew.heap.size = wr.heap.size + 1 + 1 := by simp
  rw [e] at hb
  have h0 : w2.heap[wr.heap.size + 1]? = some (.cells #[z0, z1, z2] t) := (hb.block _ (by omega)).trans (heap_two_new wr _ _)
  have h1 := setCell_row 0 v0 h0
  have h2 := setCell_row 1 v1 h1
  have h3 := setCell_row 2 v2 h2
  refine ⟨by simpa using h3, ?_⟩
  have hb1 : Below (wr.heap.size + 1) (wr.alloc nb) w2 := (((Below.refl _ _).alloc (by simp) _).drew).trans (hb.mono (by omega))
  exact ((hb1.setCell (by simp) _).setCell (by simp) _).setCell (by simp) _
theorem joined_wf {l : List Ins} {L gi ci g cap base : Nat} {all : List Pt} {s : Pt} {i : Ins} {W : World} {x : Int} (hw : Wf l L) (hb : Base l L all) (ho : Okp l L s) (hi : l[s.at_]? = some i) (hat : InsAt W gi l) (hgi : gi < W.heap.size)
    (hown : W.ownsRow base 155 3 (.slice (some ⟨g, 0, none⟩) all.length cap) all.length (ptCells all)) (hbase : base ≤ W.heap.size) (hx : x = (s.at_ : Int)) :
    Calls Tryz.prog 87 #[.slice (some ⟨gi, 0, none⟩) l.length ci, .slice (some ⟨g, 0, none⟩) all.length cap, .agg #[.int .i64 x, .string s.lo, .string s.st]] W (JoinPost i all s base g W) := by
  subst hx
  obtain ⟨h1, rfl⟩ := List.getElem?_eq_some_iff.1 hi
  have hlen := hb.len hw
  have hl120 := hw.len
  refine joined_any l gi ci all g cap base s W hat hgi h1 hown hbase (by omega) (fun h => ?_)
  have hn := hw.arg _ (List.getElem_mem h1) (.inl h)
  exact ⟨by rw [ho.lo]; exact hn, fun q hq => by rw [(hb.ok q hq).lo]; exact hn⟩
theorem ways_world {w wr W : World} {nb : Obj} {l : List Ins} {gi g n cap e : Nat} {xs : List Value} (hbel : Below w.heap.size w wr) (hb : Below (wr.heap.size + 1) (wr.alloc nb) W) (hat : InsAt w gi l) (hgi : gi < w.heap.size)
    (hown : wr.ownsRow w.heap.size e 3 (.slice (some ⟨g, 0, none⟩) n cap) n xs) (hg : g < wr.heap.size) :
    Below w.heap.size w W ∧ InsAt W gi l ∧ gi < W.heap.size ∧ W.ownsRow w.heap.size e 3 (.slice (some ⟨g, 0, none⟩) n cap) n xs ∧ w.heap.size ≤ W.heap.size := by
  have h1 : Below wr.heap.size wr W := box_below (Nat.le_refl _) hb
  have hs := hbel.size
  have h2 : Below w.heap.size w W := hbel.trans (h1.mono hs)
  have h3 := h2.size
  exact ⟨h2, hat.below h2 hgi, by omega, owns_below hown h1 (fun g' hg' => by cases hg'; exact hg), h3⟩
theorem done_step {l : List Ins} {all ext ss : List Pt} {k : Nat} {p : Pt} (hd : Done l all k) (hk : k ≤ all.length) (hp : all[k]? = some p) (hs : stepP l p = some ss) (hm : ∀ s ∈ ss, s ∈ all ++ ext) : Done l (all ++ ext) (k + 1) := by
  intro j q hj hq
  by_cases h : j < k
  · exact hd.ext hk j q h hq
  · have : j = k := by omega
    subst this
    obtain ⟨h1, _⟩ := List.getElem?_eq_some_iff.1 hp
    rw [List.getElem?_append_left h1, hp] at hq
    cases hq
    exact ⟨ss, hs, hm⟩
def WaysPost (l : List Ins) (L : Nat) (w : World) (e : Ending) (w' : World) : Prop :=
  Below w.heap.size w w' ∧ ((WT l L ∧ ∃ g cap all, e = .returned (.tuple #[.slice (some ⟨g, 0, none⟩) all.length cap, .bool true]) ∧ w.heap.size ≤ g ∧ g < w'.heap.size ∧ PtAt w' g all ∧ Base l L all ∧ ∀ p, Reach l L p ↔ p ∈ all) ∨
    (¬ WT l L ∧ e = .returned (.tuple #[.slice none 0 0, .bool false])))
theorem ways_any (l : List Ins) (L gi ci : Nat) (w : World) (hw : Wf l L) (hat : InsAt w gi l) (hgi : gi < w.heap.size) (htab : TypeTab w) :
    Calls Tryz.prog 52 #[.slice (some ⟨gi, 0, none⟩) l.length ci, .int .i64 L] w (WaysPost l L w) := by
  have hL := hw.loc
  have hL0 : (0 : Int) ≤ (L : Int) := by omega
  have hL4 : (L : Int) ≤ 4 := by omega
  go_enter Tryz.func52, Tryz.ntmps52
  go_wp2_with fail
  go_loopw [7, 8] (fun v i w' => ∃ (k : Nat) (all : List Pt) (g cap : Nat), i = .int .i64 k ∧ v = .slice (some ⟨g, 0, none⟩) all.length cap ∧ w'.ownsRow w.heap.size 155 3 (.slice (some ⟨g, 0, none⟩) all.length cap) all.length (ptCells all) ∧
    Below w.heap.size w w' ∧ Base l L all ∧ Done l all k ∧ k ≤ all.length) (fun _ i _ => 16 * l.length + 1 - (intOf i).toNat)
  case atStart =>
    refine ⟨0, [initP L], w.heap.size + 1, 1, rfl, rfl, ⟨rfl, .inr ⟨w.heap.size + 1, 1, #[.int .i64 0, .string ((⟨#[105, 105, 105, 105]⟩ : ByteArray).extract 0 L), .string ⟨#[]⟩], rfl, by omega, heap_two_new w _ _, by simp, by unfold maxLen; simp, rfl, rfl⟩⟩, ((Below.refl _ _).alloc (Nat.le_refl _) _).alloc (by simp) _, Base.init hw, fun j p hj => by omega, by simp⟩
  case round =>
    obtain ⟨k, all, g, cap, rfl, rfl, hown, hbel, hbase, hdone, hk⟩ := hrel
    have hpt := PtAt.of_owns hown
    have hg := hown.lt g rfl
    have hlen := hbase.len hw
    have hl120 := hw.len
    have HB := hid hbase
    have HD := hid hdone
    have hsz := hbel.size
    have hgi2 : gi < wr.heap.size := by omega
    clear hbase hdone
    by_cases hlt : k < all.length
    · obtain ⟨p, hp⟩ : ∃ p, all[k]? = some p := ⟨_, List.getElem?_eq_getElem hlt⟩
      have HPM := hid (List.mem_of_getElem? hp)
      have HOK := hid (HB.out.ok p HPM.out)
      obtain ⟨ins, hins⟩ : ∃ i, l[p.at_]? = some i := ⟨_, List.getElem?_eq_getElem HOK.out.at_⟩
      have HM := hid (List.mem_of_getElem? hins)
      have hop := hw.op ins HM.out
      have harg := hid (hw.arg ins HM.out)
      have hnum := hw.num ins HM.out
      obtain ⟨q0, q1, q2⟩ := hpt.get hp
      obtain ⟨j0, j1, j2⟩ := (hat.below hbel hgi).get hins
      have HP := hid hp
      have HI := hid hins
      have ha0 : (0 : Int) ≤ (p.at_ : Int) := by omega
      have ha1 : (p.at_ : Int) < (l.length : Int) := by have := HOK.out.at_; omega
      have hk0 : (0 : Int) ≤ (k : Int) := by omega
      have hk1 : (k : Int) < (all.length : Int) := by omega
      have hlo : p.lo.size ≤ 4 := by have := HOK.out.lo; omega
      have hst := HOK.out.st
      clear hp hins hpt
      obtain ⟨a, lo, st⟩ := p
      obtain ⟨op, n, pl⟩ := ins
      simp only at q0 q1 q2 j0 j1 j2 ha0 ha1 hop hnum hlo hst
      have HA := hid (fun W (hW : TypeTab W) => after_any a op n pl lo st W hlo hst hop (fun h => by have := harg.out h; have := HOK.out.lo; simp only at *; omega) hW)
      have htab2 := htab.below hbel
      generalize hav : afterV lo st op n = A at *
      have HAV := hid hav
      clear hav
      obtain ⟨lo2, st2, ok⟩ := A
      go_upto_region 7 with fail
      go_cut [10, 11] (fun x10 x11 wc => ∃ B : Nat, x10 = .pointer (some ⟨B, 0, none⟩) ∧ x11 = .bool ok ∧ wr.heap.size + 1 ≤ B ∧ wc.heap[B]? = some (.cells #[.int .i64 a, .string lo2, .string st2] 155) ∧
        Below (wr.heap.size + 1) (wr.alloc (.cells #[.int .i64 op, .int .i64 n, .int .i64 pl] 113)) wc)
      case first =>
        go_region_with (go_at_call 86; go_must (refine (HA.out _ (htab2.below (by repeat (first | exact Below.refl _ _ | refine Below.drew ?_ | refine Below.alloc ?_ (by simp) _)))).mono ?_; intro e w2 hpost; obtain ⟨hb2, he2⟩ := hpost; rw [HAV.out] at he2; subst he2; obtain ⟨hc2, hf2⟩ := bcell_r hb2; have hz2 := hb2.size; simp at hc2 hf2 hz2))
        all_goals (go_wp2_with fail; go_meet)
        all_goals
          first
          | exact ⟨_, rfl, rfl, (cut_i (.cells #[] 0) hb2).1, (cut_i _ hb2).2.1, (cut_i _ hb2).2.2⟩
          | exact ⟨_, rfl, rfl, Nat.le_refl _, (cut_ii _ _ _ hb2).1, (cut_ii _ _ _ hb2).2⟩
      case rest =>
        obtain ⟨B, rfl, rfl, hB, hrow, hbc⟩ := hcut
        obtain ⟨bx, bo, hz⟩ := box_cells hbc
        have n0 := bx 0
        have n1 := bx 1
        have n2 := bx 2
        simp only [List.getElem?_toArray, List.getElem?_cons_zero, List.getElem?_cons_succ] at n0 n1 n2
        have r0 := cell_of_row wc B 0 _ _ _ hrow
        have r1 := cell_of_row wc B 1 _ _ _ hrow
        have r2 := cell_of_row wc B 2 _ _ _ hrow
        simp only [List.getElem?_toArray, List.getElem?_cons_zero, List.getElem?_cons_succ] at r0 r1 r2
        have rf := frozen_of_row wc B 0 _ _ hrow
        have hBz := World.block_lt_of_cell? wc _ r0
        simp only at hBz
        have hbc1 : Below wr.heap.size wr wc := box_below (Nat.le_refl _) hbc
        have hbw : Below w.heap.size w wc := hbel.trans (hbc1.mono (by omega))
        have hown1 := owns_below hown hbc1 (fun g' hg' => by cases hg'; exact hg.2)
        clear q0 q1 q2 j0 j1 j2 bx bo HA
        cases ok
        · have hno : Hid (¬ WT l L) := hid (fun hwt => hwt.1 _ (HB.out.reach _ HPM.out) (by rw [stepP_eq HI.out]; simp [HAV.out]))
          go_wp2_with fail
          go_ret2
          exact ⟨hbw, .inr ⟨hno.out, rfl⟩⟩
        by_cases h8 : 8 < st2.size
        · have hno : Hid (¬ WT l L) := hid (fun hwt => hwt.1 _ (HB.out.reach _ HPM.out) (by rw [stepP_eq HI.out]; simp [HAV.out, h8]))
          go_wp2_with fail
          go_ret2
          exact ⟨hbw, .inr ⟨hno.out, rfl⟩⟩
        have HSS : Hid (stepP l ⟨a, lo, st⟩ = some ((if isJump op = true then [⟨(findP n l 0).toNat, lo2, st2⟩] else []) ++ (if op ≠ 0 ∧ op ≠ 19 then [⟨a + 1, lo2, st2⟩] else []))) := hid (by
          rw [stepP_eq HI.out]; simp only [HAV.out]; rw [if_neg (by simp; omega)])
        have HRCH := hid (HB.out.reach _ HPM.out)
        obtain ⟨q0, q1, q2⟩ := (PtAt.of_owns hown1).get HP.out
        simp only at q0 q1 q2
        clear HAV harg q1 q2
        by_cases h0 : op = 0
        · have t0 : ((op : Int) == 19) = false := by simp; omega
          have t1 : ((op : Int) == 20) = false := by simp; omega
          have t2 : ((op : Int) != 0) = false := by simp; omega
          have HS0 : Hid (stepP l ⟨a, lo, st⟩ = some []) := hid (by rw [HSS.out]; simp [h0, isJump])
          clear h0
          go_wp2_with fail
          refine ⟨⟨k + 1, all, g, cap, by go_num, rfl, hown1, hbw, HB.out, ?_, by omega⟩, by simp [intOf]; omega⟩
          have := done_step (ext := []) HD.out hk HP.out HS0.out (fun s hs => by simp at hs)
          simpa using this
        by_cases h19 : op = 19
        · obtain ⟨tn, htn⟩ : ∃ tn : Nat, findP n l 0 = (tn : Int) := ⟨(findP n l 0).toNat, by have := hw.jump _ HM.out (by simp [isJump, h19]); simp only at this; omega⟩
          have t0 : ((op : Int) == 19) = true := by simp; omega
          have t2 : ((op : Int) != 0) = true := by simp; omega
          have t3 : ((op : Int) != 19) = false := by simp; omega
          have HS0 : Hid (stepP l ⟨a, lo, st⟩ = some [⟨tn, lo2, st2⟩]) := hid (by rw [HSS.out]; simp [h19, isJump, htn])
          have HTN := hid htn
          have HR2 := hid (HRCH.out.step HS0.out (List.mem_singleton.2 rfl))
          have HO2 := hid (step_ok hw HOK.out HS0.out (List.mem_singleton.2 rfl))
          obtain ⟨i2, hi2⟩ : ∃ i, l[tn]? = some i := ⟨_, List.getElem?_eq_getElem HO2.out.at_⟩
          have HI2 := hid hi2
          clear hi2 h0 h19 htn
          have HWS := hid (fun v => ways_world hbel (hbc.setCell (p := ⟨B, 0, none⟩) hB v) hat hgi hown hg.2)
          have HBX := hid (fun v => box_cells (hbc.setCell (p := ⟨B, 0, none⟩) hB v))
          go_wp2_with fail
          refine (find_any l gi ci n wc (by omega) (hat.below hbw hgi)).mono ?_
          intro e w9 hfd
          obtain ⟨he9, hw9⟩ := hfd
          subst e
          subst w9
          rw [HTN.out]
          go_wp2_with fail
          refine (joined_wf (s := ⟨tn, lo2, st2⟩) hw HB.out HO2.out HI2.out (HWS.out _).2.1 (HWS.out _).2.2.1 (HWS.out _).2.2.2.1 (HWS.out _).2.2.2.2 rfl).mono ?_
          intro e w3 hjp
          obtain ⟨hb3, hk3, v3, rfl, hv3, hown3⟩ := hjp
          have hbw3 := (HWS.out _).1.trans hb3
          have m0 := (hk3.cell (b := wr.heap.size) (o := 0) (by have := (HBX.out (.int .i64 tn)).2.2; omega) (by omega)).trans ((HBX.out _).1 0)
          simp only [List.getElem?_toArray, List.getElem?_cons_zero] at m0
          generalize hJ : joinedP i2 all ⟨tn, lo2, st2⟩ = J at *
          have HJ := hid hJ
          clear hJ
          obtain ⟨all2, ok2⟩ := J
          cases ok2
          · have hno := hid (joined_no HB.out HR2.out HI2.out (by rw [HJ.out]))
            clear hk3 hv3 HWS HBX
            go_wp2_with fail
            go_ret2
            exact ⟨hbw3, .inr ⟨hno.out, rfl⟩⟩
          · obtain ⟨hbase2, ⟨ext, hext⟩, hmem⟩ := joined_yes hw HB.out HR2.out HO2.out HI2.out (by rw [HJ.out])
            rw [HJ.out] at hbase2 hext hmem
            simp only at hbase2 hext hmem hown3
            have hlen2 : all.length ≤ all2.length := by rw [hext]; simp
            have hlen3 := hbase2.len hw
            obtain ⟨g3, cap3, rfl, hg3, hg4⟩ := hown3.form (by omega)
            have HB2 := hid hbase2
            have HD2 : Hid (Done l all2 (k + 1)) := hid (by
              rw [hext] at hmem ⊢
              exact done_step HD.out hk HP.out HS0.out (fun s hs => by rw [List.mem_singleton] at hs; subst hs; exact hmem))
            clear hk3 hv3 HWS HBX hbase2 hext hmem
            go_wp2_with fail
            exact ⟨⟨k + 1, all2, g3, cap3, by go_num, rfl, hown3, hbw3, HB2.out, HD2.out, by omega⟩, by simp [intOf]; omega⟩
        by_cases h20 : op = 20
        · obtain ⟨tn, htn⟩ : ∃ tn : Nat, findP n l 0 = (tn : Int) := ⟨(findP n l 0).toNat, by have := hw.jump _ HM.out (by simp [isJump, h20]); simp only at this; omega⟩
          have t0 : ((op : Int) == 19) = false := by simp; omega
          have t1 : ((op : Int) == 20) = true := by simp; omega
          have t2 : ((op : Int) != 0) = true := by simp; omega
          have t3 : ((op : Int) != 19) = true := by simp; omega
          have HS0 : Hid (stepP l ⟨a, lo, st⟩ = some [⟨tn, lo2, st2⟩, ⟨a + 1, lo2, st2⟩]) := hid (by rw [HSS.out]; simp [h20, isJump, htn])
          have HTN := hid htn
          have HR2 := hid (HRCH.out.step HS0.out (p := ⟨tn, lo2, st2⟩) (by simp))
          have HO2 := hid (step_ok hw HOK.out HS0.out (s := ⟨tn, lo2, st2⟩) (by simp))
          have HR4 := hid (HRCH.out.step HS0.out (p := ⟨a + 1, lo2, st2⟩) (by simp))
          have HO4 := hid (step_ok hw HOK.out HS0.out (s := ⟨a + 1, lo2, st2⟩) (by simp))
          obtain ⟨i2, hi2⟩ : ∃ i, l[tn]? = some i := ⟨_, List.getElem?_eq_getElem HO2.out.at_⟩
          have HI2 := hid hi2
          obtain ⟨i4, hi4⟩ : ∃ i, l[a + 1]? = some i := ⟨_, List.getElem?_eq_getElem HO4.out.at_⟩
          have HI4 := hid hi4
          clear hi2 hi4 h0 h19 h20 htn
          have HWS := hid (fun v => ways_world hbel (hbc.setCell (p := ⟨B, 0, none⟩) hB v) hat hgi hown hg.2)
          have HBX := hid (fun v => box_cells (hbc.setCell (p := ⟨B, 0, none⟩) hB v))
          go_wp2_with fail
          refine (find_any l gi ci n wc (by omega) (hat.below hbw hgi)).mono ?_
          intro e w9 hfd
          obtain ⟨he9, hw9⟩ := hfd
          subst e
          subst w9
          rw [HTN.out]
          go_wp2_with fail
          refine (joined_wf (s := ⟨tn, lo2, st2⟩) hw HB.out HO2.out HI2.out (HWS.out _).2.1 (HWS.out _).2.2.1 (HWS.out _).2.2.2.1 (HWS.out _).2.2.2.2 rfl).mono ?_
          intro e w3 hjp
          obtain ⟨hb3, hk3, v3, rfl, hv3, hown3⟩ := hjp
          have hbw3 := (HWS.out _).1.trans hb3
          have hwz := (HBX.out (.int .i64 tn)).2.2
          have hBz2 : B < (wc.setCell ⟨B, 0, none⟩ (.int .i64 tn)).heap.size := by simpa [World.setCell] using hBz
          have m0 := (hk3.cell (b := wr.heap.size) (o := 0) (by omega) (by omega)).trans ((HBX.out _).1 0)
          simp only [List.getElem?_toArray, List.getElem?_cons_zero] at m0
          have hrow3 := (hk3 B hBz2 (by omega)).trans (setCell_row 0 (.int .i64 tn) hrow)
          simp at hrow3
          generalize hJ : joinedP i2 all ⟨tn, lo2, st2⟩ = J at *
          have HJ := hid hJ
          clear hJ
          obtain ⟨all2, ok2⟩ := J
          cases ok2
          · have hno := hid (joined_no HB.out HR2.out HI2.out (by rw [HJ.out]))
            clear hk3 hv3 HWS HBX hrow3
            go_wp2_with fail
            go_ret2
            exact ⟨hbw3, .inr ⟨hno.out, rfl⟩⟩
          obtain ⟨hbase2, ⟨ext, hext⟩, hmem⟩ := joined_yes hw HB.out HR2.out HO2.out HI2.out (by rw [HJ.out])
          rw [HJ.out] at hbase2 hext hmem
          simp only at hbase2 hext hmem hown3
          have hlen2 : all.length ≤ all2.length := by rw [hext]; simp
          have hlen3 := hbase2.len hw
          obtain ⟨g3, cap3, rfl, hg3, hg4⟩ := hown3.form (by omega)
          have hBg : B ≠ g3 := by
            rcases hv3 g3 rfl with h | h
            · omega
            · omega
          have HB2 := hid hbase2
          have HP2 : Hid (all2[k]? = some ⟨a, lo, st⟩) := hid (by rw [hext, List.getElem?_append_left hlt]; exact HP.out)
          have HX2 := hid hext
          have HM2 := hid hmem
          obtain ⟨s0, s1, s2⟩ := (PtAt.of_owns hown3).get HP2.out
          simp only at s0
          have v0 := cell_of_row w3 B 0 _ _ _ hrow3
          have v1 := cell_of_row w3 B 1 _ _ _ hrow3
          have v2 := cell_of_row w3 B 2 _ _ _ hrow3
          simp only [List.getElem?_toArray, List.getElem?_cons_zero, List.getElem?_cons_succ] at v0 v1 v2
          have vf := frozen_of_row w3 B 0 _ _ hrow3
          have hk2a : (k : Int) < (all2.length : Int) := by omega
          have HW3 : Hid (∀ v, Below w.heap.size w (w3.setCell ⟨B, 0, none⟩ v) ∧ (w3.setCell ⟨B, 0, none⟩ v).ownsRow w.heap.size 155 3 (.slice (some ⟨g3, 0, none⟩) all2.length cap3) all2.length (ptCells all2)) := hid (fun v =>
            ⟨hbw3.setCell (p := ⟨B, 0, none⟩) (by simp only; omega) v, owns_set hown3 (by simp only [Value.ownBlock]; intro h; cases h; exact hBg rfl) v⟩)
          clear hk3 hv3 HWS HBX hbase2 hext hmem s1 s2 hrow3
          go_wp2_with fail
          refine (joined_wf (s := ⟨a + 1, lo2, st2⟩) hw HB2.out HO4.out HI4.out (hat.below (HW3.out _).1 hgi) (by have := (HW3.out (.int .i64 0)).1.size; simp [World.setCell] at *; omega) (HW3.out _).2 (HW3.out _).1.size (by simp)).mono ?_
          intro e w5 hjp
          obtain ⟨hb5, hk5, v5, rfl, hv5, hown5⟩ := hjp
          have hbw5 := (HW3.out _).1.trans hb5
          generalize hJ : joinedP i4 all2 ⟨a + 1, lo2, st2⟩ = J at *
          have HJ4 := hid hJ
          clear hJ
          obtain ⟨all4, ok4⟩ := J
          cases ok4
          · have hno := hid (joined_no HB2.out HR4.out HI4.out (by rw [HJ4.out]))
            clear hk5 hv5 HW3
            go_wp2_with fail
            go_ret2
            exact ⟨hbw5, .inr ⟨hno.out, rfl⟩⟩
          obtain ⟨hbase4, ⟨ext4, hext4⟩, hmem4⟩ := joined_yes hw HB2.out HR4.out HO4.out HI4.out (by rw [HJ4.out])
          rw [HJ4.out] at hbase4 hext4 hmem4
          simp only at hbase4 hext4 hmem4 hown5
          have hlen4 : all2.length ≤ all4.length := by rw [hext4]; simp
          have hlen5 := hbase4.len hw
          obtain ⟨g5, cap5, rfl, hg5, hg6⟩ := hown5.form (by omega)
          have HB4 := hid hbase4
          have HD4 : Hid (Done l all4 (k + 1)) := hid (by
            have e : all4 = all ++ (ext ++ ext4) := by rw [hext4, HX2.out, List.append_assoc]
            have hm2 := HM2.out
            rw [HX2.out] at hm2
            rw [e] at hmem4 ⊢
            refine done_step HD.out hk HP.out HS0.out (fun s hs => ?_)
            simp only [List.mem_cons, List.not_mem_nil, or_false] at hs
            rcases hs with rfl | rfl
            · rw [← List.append_assoc]; exact List.mem_append_left _ hm2
            · exact hmem4)
          clear hk5 hv5 HW3 hbase4 hext4 hmem4
          go_wp2_with fail
          exact ⟨⟨k + 1, all4, g5, cap5, by go_num, rfl, hown5, hbw5, HB4.out, HD4.out, by omega⟩, by simp [intOf]; omega⟩
        have t0 : ((op : Int) == 19) = false := by simp; omega
        have t1 : ((op : Int) == 20) = false := by simp; omega
        have t2 : ((op : Int) != 0) = true := by simp; omega
        have t3 : ((op : Int) != 19) = true := by simp; omega
        have HS0 : Hid (stepP l ⟨a, lo, st⟩ = some [⟨a + 1, lo2, st2⟩]) := hid (by rw [HSS.out]; simp [h0, h19, h20, isJump])
        have HR2 := hid (HRCH.out.step HS0.out (List.mem_singleton.2 rfl))
        have HO2 := hid (step_ok hw HOK.out HS0.out (List.mem_singleton.2 rfl))
        obtain ⟨i2, hi2⟩ : ∃ i, l[a + 1]? = some i := ⟨_, List.getElem?_eq_getElem HO2.out.at_⟩
        have HI2 := hid hi2
        clear hi2 h0 h19 h20
        have HWS := hid (fun v => ways_world hbel (hbc.setCell (p := ⟨B, 0, none⟩) hB v) hat hgi hown hg.2)
        go_wp2_with fail
        refine (joined_wf (s := ⟨a + 1, lo2, st2⟩) hw HB.out HO2.out HI2.out (HWS.out _).2.1 (HWS.out _).2.2.1 (HWS.out _).2.2.2.1 (HWS.out _).2.2.2.2 (by simp)).mono ?_
        intro e w3 hjp
        obtain ⟨hb3, hk3, v3, rfl, hv3, hown3⟩ := hjp
        have hbw3 := (HWS.out _).1.trans hb3
        generalize hJ : joinedP i2 all ⟨a + 1, lo2, st2⟩ = J at *
        have HJ := hid hJ
        clear hJ
        obtain ⟨all2, ok2⟩ := J
        cases ok2
        · have hno := hid (joined_no HB.out HR2.out HI2.out (by rw [HJ.out]))
          clear hk3 hv3 HWS
          go_wp2_with fail
          go_ret2
          exact ⟨hbw3, .inr ⟨hno.out, rfl⟩⟩
        · obtain ⟨hbase2, ⟨ext, hext⟩, hmem⟩ := joined_yes hw HB.out HR2.out HO2.out HI2.out (by rw [HJ.out])
          rw [HJ.out] at hbase2 hext hmem
          simp only at hbase2 hext hmem hown3
          have hlen2 : all.length ≤ all2.length := by rw [hext]; simp
          have hlen3 := hbase2.len hw
          obtain ⟨g3, cap3, rfl, hg3, hg4⟩ := hown3.form (by omega)
          have HB2 := hid hbase2
          have HD2 : Hid (Done l all2 (k + 1)) := hid (by
            rw [hext] at hmem ⊢
            exact done_step HD.out hk HP.out HS0.out (fun s hs => by rw [List.mem_singleton] at hs; subst hs; exact hmem))
          clear hk3 hv3 HWS hbase2 hext hmem
          go_wp2_with fail
          exact ⟨⟨k + 1, all2, g3, cap3, by go_num, rfl, hown3, hbw3, HB2.out, HD2.out, by omega⟩, by simp [intOf]; omega⟩
    · have hke : k = all.length := by omega
      subst hke
      have hend := hid (ways_end HB.out HD.out)
      go_wp2_with fail
      go_ret2
      exact ⟨hbel, .inl ⟨hend.out.1, g, cap, all, rfl, hg.1, hg.2, hpt, HB.out, hend.out.2⟩⟩
def CheckPost (s : ByteArray) (w : World) (e : Ending) (w' : World) : Prop := Below w.heap.size w w' ∧ ∃ r : Nat, e = .returned (.int .i64 r) ∧ IsErr s r
theorem checkPost_mk {s : ByteArray} {w w' : World} {r : Nat} {x : Int} (hb : Below w.heap.size w w') (hx : x = (r : Int)) (h : IsErr s r) : CheckPost s w (.returned (.int .i64 x)) w' := by
  subst hx; exact ⟨hb, r, rfl, h⟩
theorem refCheck_any (s : ByteArray) (w : World) (hs : s.size ≤ maxLen) (ht : TakesTab w) (htt : TypeTab w) :
    Calls Tryz.prog 30 #[.string s] w (CheckPost s w) := by
  have hc := hid (code_any s w hs ht)
  clear hs
  go_enter Tryz.func30, Tryz.ntmps30
  go_wp2_with fail
  refine hc.out.mono ?_
  intro e w1 hp
  obtain ⟨hb, hp⟩ := hp
  clear hc
  rcases hp with ⟨he, rfl⟩ | ⟨he, g, cap, rfl, h1, h2, h3⟩
  · have he' : (((errOf s : Nat) : Int) != 0) = true := by simp; omega
    have HE := hid he
    clear he
    go_wp2_with fail
    go_ret
    exact checkPost_mk hb rfl (.inl ⟨HE.out, rfl⟩)
  · have HE := hid he
    have htt1 := htt.below hb
    have hw := hid (wf_of he)
    clear he
    go_wp2_with fail
    refine (ways_any (codeOf s) (byteAt s 1) g cap w1 hw.out h3 h2 htt1).mono ?_
    intro e w2 hp
    obtain ⟨hb2, hp⟩ := hp
    have hbb : Below w.heap.size w w2 := hb.trans (hb2.mono hb.size)
    rcases hp with ⟨hwt, g2, cap2, all, rfl, _⟩ | ⟨hwt, rfl⟩
    · have HWT := hid hwt
      clear hwt
      go_wp2_with fail
      go_ret
      exact checkPost_mk (r := 0) hbb rfl (.inr (.inl ⟨HE.out, HWT.out, rfl⟩))
    · have HWT := hid hwt
      clear hwt
      go_wp2_with fail
      go_ret
      exact checkPost_mk (r := 5) hbb rfl (.inr (.inr ⟨HE.out, HWT.out, rfl⟩))
def allL (fs : List Fr) : List Value := fs.flatMap frL
theorem frL_len {f : Fr} (h : FrOk f) : (frL f).length = 15 := by
  simp [frL, h.lo, h.stk]
def AllOk (fs : List Fr) : Prop := ∀ f ∈ fs, FrOk f
theorem allL_len {fs : List Fr} (h : AllOk fs) : (allL fs).length = fs.length * 15 := by
  induction fs with
  | nil => rfl
  | cons f r ih =>
    have h1 := frL_len (h f (by simp))
    have h2 := ih (fun g hg => h g (by simp [hg]))
    simp only [allL, List.flatMap_cons, List.length_append, List.length_cons] at *
    omega
theorem allL_at {fs : List Fr} (h : AllOk fs) {k j : Nat} {f : Fr} (hk : fs[k]? = some f) (hj : j < 15) : (allL fs)[k * 15 + j]? = (frL f)[j]? := by
  induction fs generalizing k with
  | nil => simp at hk
  | cons a r ih =>
    have h1 := frL_len (h a (by simp))
    have e : allL (a :: r) = frL a ++ allL r := rfl
    cases k with
    | zero =>
      simp only [List.getElem?_cons_zero, Option.some.injEq] at hk
      subst hk
      rw [e, List.getElem?_append_left (by omega)]
      simp
    | succ k =>
      rw [e, List.getElem?_append_right (by omega)]
      rw [show (k + 1) * 15 + j - (frL a).length = k * 15 + j by omega]
      exact ih (fun g hg => h g (by simp [hg])) (by simpa using hk)
/-- Writing v into cell j of frame k, again and again: the row of fifteen that is left. -/
def putL (l : List Value) (o : Nat) : List Value → List Value
  | [] => l
  | v :: r => putL (l.set o v) (o + 1) r
theorem putL_append (a b : List Value) (vs : List Value) (o : Nat) : putL (a ++ b) (a.length + o) vs = a ++ putL b o vs := by
  induction vs generalizing b o with
  | nil => rfl
  | cons v r ih =>
    simp only [putL]
    rw [List.set_append_right _ _ (by omega), show a.length + o - a.length = o by omega, Nat.add_assoc]
    exact ih _ _
theorem putL_head (pre b vs : List Value) (o : Nat) (ho : o = pre.length) (h : vs.length ≤ b.length) : putL (pre ++ b) o vs = pre ++ (vs ++ b.drop vs.length) := by
  induction vs generalizing pre b o with
  | nil => simp [putL]
  | cons v r ih =>
    subst ho
    cases b with
    | nil => simp at h
    | cons c b =>
      simp only [putL]
      rw [List.set_append_right _ _ (by omega)]
      simp only [Nat.sub_self, List.set_cons_zero]
      have e : pre ++ v :: b = (pre ++ [v]) ++ b := by simp
      rw [e, ih (pre ++ [v]) b (pre.length + 1) (by simp) (by simpa using h)]
      simp
theorem allL_put {fs : List Fr} (h : AllOk fs) {k : Nat} (hk : k < fs.length) {f : Fr} (hf : FrOk f) : putL (allL fs) (k * 15) (frL f) = allL (fs.set k f) := by
  induction fs generalizing k with
  | nil => simp at hk
  | cons a r ih =>
    have h1 := frL_len (h a (by simp))
    have h2 := frL_len hf
    have e : allL (a :: r) = frL a ++ allL r := rfl
    cases k with
    | zero =>
      rw [e]
      have := putL_head [] (frL a ++ allL r) (frL f) 0 rfl (by simp; omega)
      simp only [List.nil_append] at this
      rw [show 0 * 15 = 0 from rfl, this, h2, List.drop_append_of_le_length (by omega), List.drop_of_length_le (by omega)]
      rfl
    | succ k =>
      have e2 : (k + 1) * 15 = (frL a).length + k * 15 := by omega
      rw [e, e2, putL_append, ih (fun g hg => h g (by simp [hg])) (by simpa using hk)]
      rfl
theorem AllOk.set {fs : List Fr} (h : AllOk fs) {f : Fr} (hf : FrOk f) (k : Nat) : AllOk (fs.set k f) := by
  intro g hg
  rcases List.mem_or_eq_of_mem_set hg with h1 | h1
  · exact h g h1
  · rw [h1]; exact hf
/-- All frames lie in block b. -/
def AllAt (w : World) (b : Nat) (fs : List Fr) : Prop := w.heap[b]? = some (.cells (allL fs).toArray 125)
theorem AllAt.cell {w : World} {b k j : Nat} {fs : List Fr} {f : Fr} (h : AllAt w b fs) (ha : AllOk fs) (hk : fs[k]? = some f) (hj : j < 15) : w.cell? ⟨b, k * 15 + j, none⟩ = (frL f)[j]? := by
  rw [cell_of_row w b (k * 15 + j) _ _ _ h]
  simp only [List.getElem?_toArray]
  exact allL_at ha hk hj
theorem AllAt.frozen {w : World} {b : Nat} {fs : List Fr} (h : AllAt w b fs) (j : Nat) : w.frozen? ⟨b, j, none⟩ = false := frozen_of_row w b j _ _ h
theorem put15 {w : World} {b : Nat} {t : TypeId} {l : List Value} (o : Nat) (h : w.heap[b]? = some (.cells l.toArray t)) (v0 v1 v2 v3 v4 v5 v6 v7 v8 v9 v10 v11 v12 v13 v14 : Value) :
    (((((((((((((((w.setCell ⟨b, o, none⟩ v0).setCell ⟨b, o + 1, none⟩ v1).setCell ⟨b, o + 2, none⟩ v2).setCell ⟨b, o + 3, none⟩ v3).setCell ⟨b, o + 4, none⟩ v4).setCell ⟨b, o + 5, none⟩ v5).setCell ⟨b, o + 6, none⟩ v6).setCell ⟨b, o + 7, none⟩ v7).setCell ⟨b, o + 8, none⟩ v8).setCell ⟨b, o + 9, none⟩ v9).setCell ⟨b, o + 10, none⟩ v10).setCell ⟨b, o + 11, none⟩ v11).setCell ⟨b, o + 12, none⟩ v12).setCell ⟨b, o + 13, none⟩ v13).setCell ⟨b, o + 14, none⟩ v14).heap[b]? = some (.cells (putL l o [v0, v1, v2, v3, v4, v5, v6, v7, v8, v9, v10, v11, v12, v13, v14]).toArray t) := by
  have := (setCell_row (o + 14) v14 (setCell_row (o + 13) v13 (setCell_row (o + 12) v12 (setCell_row (o + 11) v11 (setCell_row (o + 10) v10 (setCell_row (o + 9) v9 (setCell_row (o + 8) v8 (setCell_row (o + 7) v7 (setCell_row (o + 6) v6 (setCell_row (o + 5) v5 (setCell_row (o + 4) v4 (setCell_row (o + 3) v3 (setCell_row (o + 2) v2 (setCell_row (o + 1) v1 (setCell_row (o) v0 h)))))))))))))))
  simpa [putL, Nat.add_assoc] using this
theorem same15 {w : World} {b c : Nat} (o : Nat) (hc : c ≠ b) (v0 v1 v2 v3 v4 v5 v6 v7 v8 v9 v10 v11 v12 v13 v14 : Value) : (((((((((((((((w.setCell ⟨b, o, none⟩ v0).setCell ⟨b, o + 1, none⟩ v1).setCell ⟨b, o + 2, none⟩ v2).setCell ⟨b, o + 3, none⟩ v3).setCell ⟨b, o + 4, none⟩ v4).setCell ⟨b, o + 5, none⟩ v5).setCell ⟨b, o + 6, none⟩ v6).setCell ⟨b, o + 7, none⟩ v7).setCell ⟨b, o + 8, none⟩ v8).setCell ⟨b, o + 9, none⟩ v9).setCell ⟨b, o + 10, none⟩ v10).setCell ⟨b, o + 11, none⟩ v11).setCell ⟨b, o + 12, none⟩ v12).setCell ⟨b, o + 13, none⟩ v13).setCell ⟨b, o + 14, none⟩ v14).heap[c]? = w.heap[c]? := by
  iterate 15 rw [Below.heap_setCell _ _ _ _ hc]
theorem size15 {w : World} {b : Nat} (o : Nat) (v0 v1 v2 v3 v4 v5 v6 v7 v8 v9 v10 v11 v12 v13 v14 : Value) : (((((((((((((((w.setCell ⟨b, o, none⟩ v0).setCell ⟨b, o + 1, none⟩ v1).setCell ⟨b, o + 2, none⟩ v2).setCell ⟨b, o + 3, none⟩ v3).setCell ⟨b, o + 4, none⟩ v4).setCell ⟨b, o + 5, none⟩ v5).setCell ⟨b, o + 6, none⟩ v6).setCell ⟨b, o + 7, none⟩ v7).setCell ⟨b, o + 8, none⟩ v8).setCell ⟨b, o + 9, none⟩ v9).setCell ⟨b, o + 10, none⟩ v10).setCell ⟨b, o + 11, none⟩ v11).setCell ⟨b, o + 12, none⟩ v12).setCell ⟨b, o + 13, none⟩ v13).setCell ⟨b, o + 14, none⟩ v14).heap.size = w.heap.size := by
  simp [World.setCell]
def WalkAt (w : World) (bw : Nat) (lv : Value) (bf n cap : Nat) (ch : Bool) : Prop := w.heap[bw]? = some (.cells #[lv, .slice (some ⟨bf, 0, none⟩) n cap, .bool ch] 172)
/-- Of what was there only the blocks a and b may have turned. -/
structure Two (a b : Nat) (w w' : World) : Prop where
  os : w'.os = w.os
  tape : w'.tape = w.tape
  output : w'.output = w.output
  size : w.heap.size ≤ w'.heap.size
  block : ∀ k, k < w.heap.size → k ≠ a → k ≠ b → w'.heap[k]? = w.heap[k]?
theorem Two.refl (a b : Nat) (w : World) : Two a b w w := ⟨rfl, rfl, rfl, Nat.le_refl _, fun _ _ _ _ => rfl⟩
theorem Two.alloc {a b : Nat} {w w' : World} (h : Two a b w w') (o : Obj) : Two a b w (w'.alloc o) :=
  ⟨h.os, h.tape, h.output, by have := h.size; simp; omega, fun k hk h1 h2 => by rw [Below.heap_alloc _ _ _ (Nat.lt_of_lt_of_le hk h.size)]; exact h.block k hk h1 h2⟩
theorem Two.setB {a b : Nat} {w w' : World} (h : Two a b w w') (o : Nat) (v : Value) : Two a b w (w'.setCell ⟨b, o, none⟩ v) :=
  ⟨h.os, h.tape, h.output, by simpa [World.setCell] using h.size, fun k hk h1 h2 => by rw [Below.heap_setCell _ _ _ _ h2]; exact h.block k hk h1 h2⟩
theorem Two.drew {a b : Nat} {w w' : World} (h : Two a b w w') : Two a b w w'.drew := ⟨h.os, h.tape, h.output, h.size, h.block⟩
theorem alloc_size (w : World) (o : Obj) : (w.alloc o).heap.size = w.heap.size + 1 := by simp
theorem drew_heap (w : World) : w.drew.heap = w.heap := rfl
theorem reach_put {w : World} {bw bf cap k n d : Nat} {fs : List Fr} {lv : Value} {ch : Bool} (r u : Bool) (a b c e t0 t1 t2 t3 t4 t5 t6 t7 : Nat) (x y : Obj) (hall : AllAt w bf fs) (hok : AllOk fs) (hk : k < fs.length)
    (hwalk : WalkAt w bw lv bf n cap ch) (hne : bw ≠ bf) (hd : d ≤ 8) (hbf : bf < w.heap.size) (hbw : bw < w.heap.size) :
    AllAt (((((((((((((((((w.setCell ⟨bf, k * 15, none⟩ (.bool r)).setCell ⟨bf, k * 15 + 1, none⟩ (.int .i64 a)).setCell ⟨bf, k * 15 + 2, none⟩ (.int .i64 b)).setCell ⟨bf, k * 15 + 3, none⟩ (.int .i64 c)).setCell ⟨bf, k * 15 + 4, none⟩ (.int .i64 e)).setCell ⟨bf, k * 15 + 5, none⟩ (.int .i64 d)).setCell ⟨bf, k * 15 + 6, none⟩ (.int .i64 t0)).setCell ⟨bf, k * 15 + 7, none⟩ (.int .i64 t1)).setCell ⟨bf, k * 15 + 8, none⟩ (.int .i64 t2)).setCell ⟨bf, k * 15 + 9, none⟩ (.int .i64 t3)).setCell ⟨bf, k * 15 + 10, none⟩ (.int .i64 t4)).setCell ⟨bf, k * 15 + 11, none⟩ (.int .i64 t5)).setCell ⟨bf, k * 15 + 12, none⟩ (.int .i64 t6)).setCell ⟨bf, k * 15 + 13, none⟩ (.int .i64 t7)).setCell ⟨bf, k * 15 + 14, none⟩ (.bool u)).alloc x).alloc y).drew bf (fs.set k ⟨r, [a, b, c, e], d, [t0, t1, t2, t3, t4, t5, t6, t7], u⟩) ∧
    WalkAt (((((((((((((((((w.setCell ⟨bf, k * 15, none⟩ (.bool r)).setCell ⟨bf, k * 15 + 1, none⟩ (.int .i64 a)).setCell ⟨bf, k * 15 + 2, none⟩ (.int .i64 b)).setCell ⟨bf, k * 15 + 3, none⟩ (.int .i64 c)).setCell ⟨bf, k * 15 + 4, none⟩ (.int .i64 e)).setCell ⟨bf, k * 15 + 5, none⟩ (.int .i64 d)).setCell ⟨bf, k * 15 + 6, none⟩ (.int .i64 t0)).setCell ⟨bf, k * 15 + 7, none⟩ (.int .i64 t1)).setCell ⟨bf, k * 15 + 8, none⟩ (.int .i64 t2)).setCell ⟨bf, k * 15 + 9, none⟩ (.int .i64 t3)).setCell ⟨bf, k * 15 + 10, none⟩ (.int .i64 t4)).setCell ⟨bf, k * 15 + 11, none⟩ (.int .i64 t5)).setCell ⟨bf, k * 15 + 12, none⟩ (.int .i64 t6)).setCell ⟨bf, k * 15 + 13, none⟩ (.int .i64 t7)).setCell ⟨bf, k * 15 + 14, none⟩ (.bool u)).alloc x).alloc y).drew bw lv bf n cap ch ∧
    Two bw bf w (((((((((((((((((w.setCell ⟨bf, k * 15, none⟩ (.bool r)).setCell ⟨bf, k * 15 + 1, none⟩ (.int .i64 a)).setCell ⟨bf, k * 15 + 2, none⟩ (.int .i64 b)).setCell ⟨bf, k * 15 + 3, none⟩ (.int .i64 c)).setCell ⟨bf, k * 15 + 4, none⟩ (.int .i64 e)).setCell ⟨bf, k * 15 + 5, none⟩ (.int .i64 d)).setCell ⟨bf, k * 15 + 6, none⟩ (.int .i64 t0)).setCell ⟨bf, k * 15 + 7, none⟩ (.int .i64 t1)).setCell ⟨bf, k * 15 + 8, none⟩ (.int .i64 t2)).setCell ⟨bf, k * 15 + 9, none⟩ (.int .i64 t3)).setCell ⟨bf, k * 15 + 10, none⟩ (.int .i64 t4)).setCell ⟨bf, k * 15 + 11, none⟩ (.int .i64 t5)).setCell ⟨bf, k * 15 + 12, none⟩ (.int .i64 t6)).setCell ⟨bf, k * 15 + 13, none⟩ (.int .i64 t7)).setCell ⟨bf, k * 15 + 14, none⟩ (.bool u)).alloc x).alloc y).drew := by
  have hs := size15 (w := w) (b := bf) (k * 15) (.bool r) (.int .i64 a) (.int .i64 b) (.int .i64 c) (.int .i64 e) (.int .i64 d) (.int .i64 t0) (.int .i64 t1) (.int .i64 t2) (.int .i64 t3) (.int .i64 t4) (.int .i64 t5) (.int .i64 t6) (.int .i64 t7) (.bool u)
  refine ⟨?_, ?_, ((((((((((((((((((Two.refl bw bf w).setB (k * 15) (.bool r)).setB (k * 15 + 1) (.int .i64 a)).setB (k * 15 + 2) (.int .i64 b)).setB (k * 15 + 3) (.int .i64 c)).setB (k * 15 + 4) (.int .i64 e)).setB (k * 15 + 5) (.int .i64 d)).setB (k * 15 + 6) (.int .i64 t0)).setB (k * 15 + 7) (.int .i64 t1)).setB (k * 15 + 8) (.int .i64 t2)).setB (k * 15 + 9) (.int .i64 t3)).setB (k * 15 + 10) (.int .i64 t4)).setB (k * 15 + 11) (.int .i64 t5)).setB (k * 15 + 12) (.int .i64 t6)).setB (k * 15 + 13) (.int .i64 t7)).setB (k * 15 + 14) (.bool u)).alloc x).alloc y).drew⟩
  · unfold AllAt
    rw [drew_heap, Below.heap_alloc _ _ _ (by rw [alloc_size, hs]; omega), Below.heap_alloc _ _ _ (by rw [hs]; exact hbf), ← allL_put hok hk (f := ⟨r, [a, b, c, e], d, [t0, t1, t2, t3, t4, t5, t6, t7], u⟩) ⟨rfl, rfl, hd⟩]
    exact put15 (k * 15) hall (.bool r) (.int .i64 a) (.int .i64 b) (.int .i64 c) (.int .i64 e) (.int .i64 d) (.int .i64 t0) (.int .i64 t1) (.int .i64 t2) (.int .i64 t3) (.int .i64 t4) (.int .i64 t5) (.int .i64 t6) (.int .i64 t7) (.bool u)
  · unfold WalkAt
    rw [drew_heap, Below.heap_alloc _ _ _ (by rw [alloc_size, hs]; omega), Below.heap_alloc _ _ _ (by rw [hs]; exact hbw), same15 (k * 15) hne (.bool r) (.int .i64 a) (.int .i64 b) (.int .i64 c) (.int .i64 e) (.int .i64 d) (.int .i64 t0) (.int .i64 t1) (.int .i64 t2) (.int .i64 t3) (.int .i64 t4) (.int .i64 t5) (.int .i64 t6) (.int .i64 t7) (.bool u)]
    exact hwalk
theorem Two.set {a b : Nat} {w w' : World} (h : Two a b w w') {o : Nat} {v : Value} : Two a b w (w'.setCell ⟨a, o, none⟩ v) :=
  ⟨h.os, h.tape, h.output, by simpa [World.setCell] using h.size, fun k hk h1 h2 => by rw [Below.heap_setCell _ _ _ _ h1]; exact h.block k hk h1 h2⟩
theorem reach_new (bw bf cap k : Nat) (fs : List Fr) (way known : Fr) (ch : Bool) (lv : Value) (w : World) (hall : AllAt w bf fs) (hok : AllOk fs) (hk : fs[k]? = some known) (hway : FrOk way)
    (hwalk : WalkAt w bw lv bf fs.length cap ch) (hne : bw ≠ bf) (hr : known.reached = false) :
    Calls Tryz.prog 111 #[.pointer (some ⟨bw, 0, none⟩), .int .i64 k, .agg (frL way).toArray] w fun e w' =>
      e = .returned (.bool true) ∧ AllAt w' bf (fs.set k { way with reached := true }) ∧ WalkAt w' bw lv bf fs.length cap true ∧ Two bw bf w w' := by
  have hkl : k < fs.length := (List.getElem?_eq_some_iff.1 hk).1
  have hkn : FrOk known := hok known (List.mem_of_getElem? hk)
  have HAL := hid hall
  have HWK := hid hwalk
  have w0 := cell_of_row w bw 0 _ _ _ hwalk
  have w1 := cell_of_row w bw 1 _ _ _ hwalk
  have w2 := cell_of_row w bw 2 _ _ _ hwalk
  simp only [List.getElem?_toArray, List.getElem?_cons_zero, List.getElem?_cons_succ] at w0 w1 w2
  have hbw := World.block_lt_of_cell? w _ w0
  have fw2 := frozen_of_row w bw 2 _ _ hwalk
  have c0 := hall.cell hok hk (j := 0) (by omega)
  have c1 := hall.cell hok hk (j := 1) (by omega)
  have c2 := hall.cell hok hk (j := 2) (by omega)
  have c3 := hall.cell hok hk (j := 3) (by omega)
  have c4 := hall.cell hok hk (j := 4) (by omega)
  have c5 := hall.cell hok hk (j := 5) (by omega)
  have c6 := hall.cell hok hk (j := 6) (by omega)
  have c7 := hall.cell hok hk (j := 7) (by omega)
  have c8 := hall.cell hok hk (j := 8) (by omega)
  have c9 := hall.cell hok hk (j := 9) (by omega)
  have c10 := hall.cell hok hk (j := 10) (by omega)
  have c11 := hall.cell hok hk (j := 11) (by omega)
  have c12 := hall.cell hok hk (j := 12) (by omega)
  have c13 := hall.cell hok hk (j := 13) (by omega)
  have c14 := hall.cell hok hk (j := 14) (by omega)
  have f0 := hall.frozen (k * 15)
  have f1 := hall.frozen (k * 15 + 1)
  have f2 := hall.frozen (k * 15 + 2)
  have f3 := hall.frozen (k * 15 + 3)
  have f4 := hall.frozen (k * 15 + 4)
  have f5 := hall.frozen (k * 15 + 5)
  have f6 := hall.frozen (k * 15 + 6)
  have f7 := hall.frozen (k * 15 + 7)
  have f8 := hall.frozen (k * 15 + 8)
  have f9 := hall.frozen (k * 15 + 9)
  have f10 := hall.frozen (k * 15 + 10)
  have f11 := hall.frozen (k * 15 + 11)
  have f12 := hall.frozen (k * 15 + 12)
  have f13 := hall.frozen (k * 15 + 13)
  have f14 := hall.frozen (k * 15 + 14)
  have hbf := World.block_lt_of_cell? w _ (c0.trans (by rfl : (frL known)[0]? = some (.bool known.reached)))
  simp only at hbw hbf
  obtain ⟨kr, klo, kd, kst, kw⟩ := known
  obtain ⟨h1, h2, h3⟩ := hkn
  simp only at h1 h2 hr
  subst hr
  obtain ⟨a, b, c, e, rfl⟩ := four h1
  obtain ⟨s0, s1, s2, s3, s4, s5, s6, s7, rfl⟩ := eight h2
  simp only [frL, List.map_cons, List.map_nil, List.cons_append, List.nil_append, numV, List.getElem?_cons_zero, List.getElem?_cons_succ] at c0 c1 c2 c3 c4 c5 c6 c7 c8 c9 c10 c11 c12 c13 c14
  rw [Nat.add_zero] at c0
  have HWAY := hid hway
  obtain ⟨yr, ylo, yd, yst, yw⟩ := way
  obtain ⟨g1, g2, g3⟩ := hway
  simp only at g1 g2
  obtain ⟨a', b', c', e', rfl⟩ := four g1
  obtain ⟨t0, t1, t2, t3, t4, t5, t6, t7, rfl⟩ := eight g2
  simp only [frL, List.map_cons, List.map_nil, List.cons_append, List.nil_append, numV]
  have i0 : (0 : Int) ≤ (k : Int) := by omega
  have i1 : (k : Int) < (fs.length : Int) := by omega
  have hbw2 : bw ≤ w.heap.size := by omega
  have hbf2 : bf ≤ w.heap.size := by omega
  have d1 : decide ((k : Int) < 0) = false := by simp
  clear hall hwalk
  go_enter Tryz.func111, Tryz.ntmps111
  go_wp2_with fail
  go_cut [6] (fun x6 wc => x6 = .bool false ∧ AllAt wc bf (fs.set k ⟨true, [a', b', c', e'], yd, [t0, t1, t2, t3, t4, t5, t6, t7], yw⟩) ∧ WalkAt wc bw lv bf fs.length cap ch ∧ Two bw bf w wc)
  case first =>
    go_region
    go_wp2_with fail
    go_meet
    exact ⟨rfl, reach_put true yw a' b' c' e' t0 t1 t2 t3 t4 t5 t6 t7 _ _ HAL.out hok hkl HWK.out hne g3 hbf hbw⟩
  case rest =>
    obtain ⟨rfl, hA, hW, hT⟩ := hcut
    have v2 := cell_of_row wc bw 2 _ _ _ hW
    simp only [List.getElem?_toArray, List.getElem?_cons_zero, List.getElem?_cons_succ] at v2
    have u2 := frozen_of_row wc bw 2 _ _ hW
    have HA := hid hA
    have HW := hid hW
    clear hA hW c0 c1 c2 c3 c4 c5 c6 c7 c8 c9 c10 c11 c12 c13 c14 f0 f1 f2 f3 f4 f5 f6 f7 f8 f9 f10 f11 f12 f13 f14
    go_wp2_with fail
    go_ret
    refine ⟨rfl, ?_, by have := setCell_row 2 (.bool true) HW.out; simpa [WalkAt] using this, hT.set⟩
    unfold AllAt
    rw [Below.heap_setCell _ _ _ _ (Ne.symm hne)]
    exact HA.out
def toldM (l : List Ins) (all : List Pt) (i : Nat) : MP := ⟨(l.getD i ⟨0, 0, 0⟩).place, (toldF i all).r, (toldF i all).lo, (toldF i all).st⟩
def toldAll (l : List Ins) (all : List Pt) : List MP := (List.range l.length).map (toldM l all)
def RMapsPost (s : ByteArray) (w : World) (e : Ending) (w' : World) : Prop :=
  Below w.heap.size w w' ∧ ((∃ r : Nat, r ≠ 0 ∧ IsErr s r ∧ e = .returned (.tuple #[.slice none 0 0, .int .i64 r])) ∨
    (∃ v all, e = .returned (.tuple #[v, .int .i64 0]) ∧ errOf s = 0 ∧ WT (codeOf s) (byteAt s 1) ∧ (∀ p, Reach (codeOf s) (byteAt s 1) p ↔ p ∈ all) ∧ OwnPts w' w.heap.size v (toldAll (codeOf s) all)))
theorem refMaps_any (s : ByteArray) (w : World) (hs : s.size ≤ maxLen) (ht : TakesTab w) (htt : TypeTab w) :
    Calls Tryz.prog 32 #[.string s] w (RMapsPost s w) := by
  obtain ⟨i0, hi0, hz0, hz1, hz2⟩ := info_parts pointInfo
  have hc := hid (code_any s w hs ht)
  have HTT := hid htt
  clear hs ht htt
  go_enter Tryz.func32, Tryz.ntmps32
  go_wp2_with fail
  refine hc.out.mono ?_
  clear hc
  intro e w1 hp
  obtain ⟨hb, hp⟩ := hp
  have HB := hid hb
  have hz := hb.size
  rcases hp with ⟨he, rfl⟩ | ⟨he, g, cap, rfl, h1, h2, h3⟩
  · have he' : (((errOf s : Nat) : Int) != 0) = true := by simp; omega
    have HE := hid he
    clear he hb
    go_wp2_with fail
    exact bodyPost_ret (v := .tuple #[.slice none 0 0, .int .i64 (errOf s : Nat)]) (by simp [results, Tryz.results32, go_sem]) rfl ⟨HB.out, .inl ⟨errOf s, HE.out, .inl ⟨HE.out, rfl⟩, rfl⟩⟩
  · have HE := hid he
    have hw := hid (wf_of he)
    have hwy := hid (ways_any (codeOf s) (byteAt s 1) g cap w1 hw.out h3 h2 (HTT.out.below hb))
    have HIN := hid h3
    have h120 := hw.out.len
    have hL := hw.out.loc
    generalize hLL : byteAt s 1 = L at *
    have HLL := hid hLL
    generalize hl : codeOf s = l at *
    have HL := hid hl
    clear he hb h3 hLL hl
    go_wp2_with fail
    refine hwy.out.mono ?_
    clear hwy
    intro e w2 hp
    obtain ⟨hb2, hp⟩ := hp
    have HBB : Hid (Below w.heap.size w w2) := hid (HB.out.trans (hb2.mono hz))
    have hz2b := hb2.size
    rcases hp with ⟨hwt, g2, cap2, all, rfl, hg2, hg3, hpt, hbase, hall⟩ | ⟨hwt, rfl⟩
    · have HWT := hid hwt
      have HPT := hid hpt
      have HALL := hid hall
      have HBASE := hid hbase
      have hal := hbase.len hw.out
      have HIN2 := hid (HIN.out.below hb2 h2)
      clear hwt hpt hall hbase hb2
      go_wp2_with fail
      go_loopg [9, 10] l.length (fun gk v x w' => ∃ k : Nat, k ≤ l.length ∧ gk = l.length - k ∧ x = .int .i64 k ∧ OwnPts w' w2.heap.size v ((toldAll l all).take k) ∧ Below w2.heap.size w2 w')
      case atStart => exact ⟨0, by omega, by omega, rfl, OwnPts.nil _ _, Below.refl _ _⟩
      case round =>
        obtain ⟨k, hk, hgk, rfl, hown, hbel⟩ := hrel
        have hzr := hbel.size
        have HOWN := hid hown
        have HBEL := hid hbel
        rcases Nat.lt_or_ge k l.length with hlt | hge
        · have d1 : (k : Int) < (l.length : Int) := by omega
          have htd := hid (told_any l all k L g cap g2 cap2 wr (HIN2.out.below hbel (by omega)) (by omega) (HPT.out.below hbel hg3) (by omega) hlt (fun p hp => (HBASE.out.ok p hp).lo) hL (fun p hp => (HBASE.out.ok p hp).st) (by omega))
          have HNX : Hid ((toldAll l all).take (k + 1) = (toldAll l all).take k ++ [⟨l[k].place, (toldF k all).r, (toldF k all).lo, (toldF k all).st⟩]) := hid (by
            have hkm : k < (toldAll l all).length := by simp [toldAll]; omega
            rw [List.take_succ_eq_append_getElem hkm]
            simp [toldAll, toldM, List.getD_eq_getElem?_getD, hlt])
          generalize (⟨l[k].place, (toldF k all).r, (toldF k all).lo, (toldF k all).st⟩ : MP) = M at htd HNX
          obtain ⟨cs, hrow, hpts⟩ := hown
          rw [List.length_take, Nat.min_eq_left (by simp [toldAll]; omega)] at hrow
          have HPTS := hid hpts
          clear hbel hpts HOWN
          go_wp2_with fail
          refine htd.out.mono ?_
          clear htd
          intro x w5 hpost
          obtain ⟨hb5, v1, v2, hx5, hi1, hi2⟩ := hpost
          obtain ⟨p1, q1, hv1⟩ := hi1.slice
          obtain ⟨p2, q2, hv2⟩ := hi2.slice
          subst hv1
          subst hv2
          subst x
          have hz5 := hb5.size
          have hrow5 := owns_keep hrow (fun g' hg' => hb5.block g' (hrow.lt g' hg').2)
          have HB5 := hid hb5
          have HI1 := hid hi1
          have HI2 := hid hi2
          have HROW := hid hrow
          clear hb5 hi1 hi2 hrow
          go_wp2_with (at_builtin; go_must (refine wpList_append_lies _ (by rfl) _ _ _ (by rfl) w2.heap.size 102 i0 _ 4 64 Tryz.underlying76 hi0 hz0 hz1 hz2 rfl (by omega) _ k cs (by rfl) ((hrow5.alloc _).alloc _) ⟨w5.heap.size + 1, 0, none⟩ 1 1 [.int .i64 M.place, .bool M.reached, .slice p1 M.lo.length q1, .slice p2 M.st.length q2] (by rfl) (by rfl) (World.news_of_block (cs := #[.int .i64 M.place, .bool M.reached, .slice p1 M.lo.length q1, .slice p2 M.st.length q2]) (t := 102) (fr := (0, 0)) (heap_two_new w5 _ _)) (by simp [Value.oneCell']) (by omega) (by unfold maxLen; omega) (by omega) (by simp; omega) (w5.heap.size + 1 + 1) (by simp) ?_); intro gg gcap w6 hown6 hgrow6 hat6 hlt6)
          go_roundg (l.length - (k + 1))
          case measure => omega
          case rel =>
            have hlt7 : ∀ g', u9.ownBlock = some g' → g' < wr.heap.size := fun g' hg' => (HROW.out.lt g' hg').2
            have hmk : k + 1 = ((toldAll l all).take (k + 1)).length := by rw [List.length_take, Nat.min_eq_left (by simp [toldAll]; omega)]
            refine ⟨k + 1, by omega, rfl, by go_num, ?_, ?_⟩
            · have hblk : ∀ g' o o', g' < w5.heap.size → ((w5.alloc o).alloc o').heap[g']? = w5.heap[g']? := fun g' o o' h => by
                rw [Below.heap_alloc _ _ _ (by rw [alloc_size]; omega), Below.heap_alloc _ _ _ h]
              have := OwnPts.push (m := M) (v := u9) (by rw [List.length_take, Nat.min_eq_left (by simp [toldAll]; omega)])
                (PtsIn.keep (fun g' hg' => ⟨⟨hg'.1, by rw [alloc_size, alloc_size]; omega, hg'.2.2⟩, (hblk _ _ _ (by omega)).trans (HB5.out.block g' hg'.2.1)⟩) _ _ HPTS.out)
                (HI1.out.keep (fun g' hg' => ⟨⟨by omega, by rw [alloc_size, alloc_size]; omega, fun e => by have := hlt7 g' e; omega⟩, hblk _ _ _ hg'.2⟩))
                (HI2.out.keep (fun g' hg' => ⟨⟨by omega, by rw [alloc_size, alloc_size]; omega, fun e => by have := hlt7 g' e; omega⟩, hblk _ _ _ hg'.2⟩)) hown6 hgrow6 (by rw [alloc_size, alloc_size]; exact hat6)
              rw [← HNX.out, ← hmk] at this
              exact this
            · exact (((HBEL.out.trans (HB5.out.mono hzr)).alloc (by omega) _).alloc (by rw [alloc_size]; omega) _).grown hgrow6 (by rw [alloc_size, alloc_size]; omega) (fun j hj => (HROW.out.lt j hj).1)
        · have d1 : ¬ (k : Int) < (l.length : Int) := by omega
          have hkl : k = l.length := by omega
          clear hbel hown
          go_wp2_with fail
          refine bodyPost_ret (v := .tuple #[u9, .int .i64 0]) (by simp [results, Tryz.results32, go_sem]) rfl ⟨HBB.out.trans (HBEL.out.mono (by omega)), .inr ⟨u9, all, rfl, HE.out, by rw [HL.out, HLL.out]; exact HWT.out, by rw [HL.out, HLL.out]; exact HALL.out, ?_⟩⟩
          have := HOWN.out
          rw [hkl, List.take_of_length_le (by simp [toldAll])] at this
          rw [HL.out]
          obtain ⟨cs, a1, a2⟩ := this
          exact ⟨cs, owns_mono a1 (by omega), PtsIn.keep (fun g' hg' => ⟨⟨by omega, hg'.2⟩, rfl⟩) _ _ a2⟩
    · have HE5 : Hid (IsErr s 5) := hid (.inr (.inr ⟨HE.out, by rw [HL.out, HLL.out]; exact hwt, rfl⟩))
      clear hwt hb2
      go_wp2_with fail
      exact bodyPost_ret (v := .tuple #[.slice none 0 0, .int .i64 5]) (by simp [results, Tryz.results32, go_sem]) rfl ⟨HBB.out, .inl ⟨5, by decide, HE5.out, rfl⟩⟩
theorem made_flat {α : Type} (f : α → List Value) (m : Nat) (hf : ∀ x, (f x).length = m) (hm : 0 < m) (x : α) (n : Nat) : madeCells (f x).toArray (n * m) = ((List.replicate n x).flatMap f).toArray := by
  apply Array.toList_inj.1
  apply List.ext_getElem?
  intro i
  have hl : ((List.replicate n x).flatMap f).length = n * m := by
    induction n with
    | zero => simp
    | succ n ih => rw [List.replicate_succ, List.flatMap_cons, List.length_append, ih, hf, Nat.succ_mul, Nat.add_comm]
  by_cases hi : i < n * m
  · have h1 : i / m < n := Nat.div_lt_of_lt_mul (by rw [Nat.mul_comm]; exact hi)
    have h2 : i % m < m := Nat.mod_lt _ hm
    have e : i / m * m + i % m = i := by rw [Nat.mul_comm]; exact Nat.div_add_mod i m
    have h3 := flat_at f m hf (List.replicate n x) (i / m) (i % m) (by simpa using h1) h2
    rw [e] at h3
    simp only [List.getElem_replicate] at h3
    simp only [madeCells, Array.toList_map, Array.toList_range, List.getElem?_map, List.getElem?_range hi, Option.map_some]
    rw [h3]
    have h4 : i % m < (f x).length := by rw [hf]; exact h2
    rw [List.getElem?_eq_getElem h4]
    simp [hf, List.getElem?_eq_getElem h4]
  · rw [List.getElem?_eq_none (by simp [size_madeCells]; omega), List.getElem?_eq_none (by simp only; omega)]
theorem wordInfo : (Tryz.prog.info? 116).map (fun i => (i.zero, i.size, i.bytes)) = some (some (.agg (wdCells (false, 0)).toArray), 2, 16) := by kernel_rfl
theorem make_words (n : Nat) (h : n ≤ 4) (w : World) : Sem.run Tryz.prog (Instr.makeSlice 77 (.int .i64 n) (.int .i64 n)) w = .ok (.slice (some ⟨w.heap.size, 0, none⟩) n n) (w.alloc (.cells ((List.replicate n (false, (0 : Int))).flatMap wdCells).toArray 116)) := by
  obtain ⟨i0, hi, hz0, hz1, hz2⟩ := info_parts wordInfo
  have := run_make (P := Tryz.prog) w 77 116 i0 _ Tryz.underlying77 hi hz0 .i64 .i64 n n (by omega) (by omega) (by rw [hz2]; omega) (by omega)
  rw [this, hz1, show Value.cells (.agg (wdCells (false, 0)).toArray) = (wdCells (false, 0)).toArray from rfl]
  simp only [Int.toNat_natCast]
  rw [made_flat wdCells 2 (fun _ => rfl) (by omega)]
theorem rcInfo : (Tryz.prog.info? 109).map (fun i => (i.zero, i.size, i.bytes)) = some (some (.agg #[.bool false, .bool false, .bool false, .bool false, .int .i64 0, .int .i64 0, .int .i64 0]), 7, 32) := by kernel_rfl
/-- A list of numbers that was handed in. -/
def ArgInts (w : World) (v : Value) (zs : List Int) : Prop :=
  (v = .slice none 0 0 ∧ zs = []) ∨ ∃ a cap, v = .slice (some a) zs.length cap ∧ (∀ (j : Nat) (x : Int), zs[j]? = some x → w.cell? (a.add j) = some (.int .i64 x)) ∧ (0 < zs.length → a.block < w.heap.size)
theorem ArgInts.slice {w : World} {v : Value} {zs : List Int} (h : ArgInts w v zs) : ∃ p cap, v = .slice p zs.length cap := by
  rcases h with ⟨h1, h2⟩ | ⟨a, cap, hv, _⟩
  · exact ⟨none, 0, by rw [h1, h2]; rfl⟩
  · exact ⟨_, cap, hv⟩
/-- The error of New. -/
def NewErr (s : ByteArray) (n : Nat) (cells : Int) (r : Nat) : Prop :=
  (r ≠ 0 ∧ IsErr s r) ∨ (IsErr s 0 ∧ (cells < 1 ∨ 32 < cells) ∧ r = 6) ∨ (IsErr s 0 ∧ 1 ≤ cells ∧ cells ≤ 32 ∧ 64 < n ∧ r = 7) ∨ (IsErr s 0 ∧ 1 ≤ cells ∧ cells ≤ 32 ∧ n ≤ 64 ∧ r = 0)
theorem rnew_bad (s : ByteArray) (vi : Value) (zs : List Int) (cells : Int) (w : World) (hs : s.size ≤ maxLen) (ht : TakesTab w) (htt : TypeTab w) (hv : ArgInts w vi zs) (hlen : zs.length ≤ 9223372036854775807) (r : Nat) (hr : r ≠ 0) (he : NewErr s zs.length cells r) :
    Calls Tryz.prog 22 #[.string s, vi, .int .i64 cells] w fun e w' => e = .returned (.tuple #[.pointer none, .int .i64 r]) ∧ Below w.heap.size w w' := by
  obtain ⟨p0, c0, e0⟩ := hv.slice
  subst e0
  have hck := hid (refCheck_any s w hs ht htt)
  clear hs ht htt hv
  go_enter Tryz.func22, Tryz.ntmps22
  go_wp2_with fail
  refine hck.out.mono ?_
  clear hck
  intro x w1 hp
  obtain ⟨hb, r1, hx, he1⟩ := hp
  subst x
  have HB := hid hb
  clear hb
  rcases he with ⟨h1, h2⟩ | ⟨h1, h2, h3⟩ | ⟨h1, h2, h3, h4, h5⟩ | ⟨h1, h2, h3, h4, h5⟩
  · have e : r1 = r := he1.unique h2
    subst e
    have hne : ((r1 : Int) != 0) = true := by simp; omega
    clear he1 h2
    go_wp2_with fail
    exact bodyPost_ret (v := .tuple #[.pointer none, .int .i64 r1]) (by simp [results, Tryz.results22, go_sem]) rfl ⟨rfl, HB.out⟩
  · have e : r1 = 0 := he1.unique h1
    subst e
    subst h3
    clear he1 h1 hr
    rcases h2 with h2 | h2
    · go_wp2_with fail
      exact bodyPost_ret (v := .tuple #[.pointer none, .int .i64 6]) (by simp [results, Tryz.results22, go_sem]) rfl ⟨rfl, HB.out⟩
    · have h2' : ¬ cells < 1 := by omega
      go_wp2_with fail
      exact bodyPost_ret (v := .tuple #[.pointer none, .int .i64 6]) (by simp [results, Tryz.results22, go_sem]) rfl ⟨rfl, HB.out⟩
  · have e : r1 = 0 := he1.unique h1
    subst e
    subst h5
    have h2' : ¬ cells < 1 := by omega
    have h3' : ¬ 32 < cells := by omega
    have h4' : (64 : Int) < (zs.length : Int) := by omega
    clear he1 h1 hr
    go_wp2_with fail
    exact bodyPost_ret (v := .tuple #[.pointer none, .int .i64 7]) (by simp [results, Tryz.results22, go_sem]) rfl ⟨rfl, HB.out⟩
  · exact absurd h5 hr
theorem setCells_row {t : TypeId} (b : Nat) : ∀ (vs : List Value) (o : Nat) (w : World) (l : List Value), w.heap[b]? = some (.cells l.toArray t) → (w.setCells b o vs).heap[b]? = some (.cells (putL l o vs).toArray t)
  | [], _, _, _, h => h
  | v :: r, o, w, l, h => by
    have := setCell_row o v h
    rw [List.setIfInBounds_toArray] at this
    exact setCells_row b r (o + 1) _ _ this
theorem setCells_below {B : Nat} (b : Nat) (hb : B ≤ b) : ∀ (vs : List Value) (o : Nat) (w0 w : World), Below B w0 w → Below B w0 (w.setCells b o vs)
  | [], _, _, _, h => h
  | _ :: r, o, w0, _, h => setCells_below b hb r (o + 1) w0 _ (h.setCell hb _)
theorem make_ints (n : Nat) (h : n ≤ 17592186044416) (w : World) : Sem.run Tryz.prog (Instr.makeSlice 22 (.int .i64 ((n : Int) + 2)) (.int .i64 ((n : Int) + 2))) w = .ok (.slice (some ⟨w.heap.size, 0, none⟩) (n + 2) (n + 2)) (w.alloc (.cells (Array.replicate (n + 2) (Value.int .i64 0)) 3)) := by
  obtain ⟨i0, hi, hz0, hz1, hz2⟩ := info_parts intInfo
  have := run_make (P := Tryz.prog) w 22 3 i0 _ Tryz.underlying22 hi hz0 .i64 .i64 ((n : Int) + 2) ((n : Int) + 2) (by omega) (by omega) (by rw [hz2]; omega) (by omega)
  rw [this, hz1, show Value.cells (.int .i64 0) = #[.int .i64 0] from rfl, show ((n : Int) + 2).toNat = n + 2 by omega, Nat.mul_one]
  rw [show madeCells #[Value.int .i64 0] (n + 2) = Array.replicate (n + 2) (Value.int .i64 0) from Array.toList_inj.1 (by rw [toList_madeCells_one]; simp)]
theorem intSize : (Tryz.prog.info? 3).map (·.size) = some 1 := by kernel_rfl
theorem copy_arg {w W : World} {v : Value} {zs : List Int} {g n : Nat} (hv : ArgInts w v zs) (hn : zs.length = n) (hb : Below w.heap.size w W) (hrow : W.heap[g]? = some (.cells (Array.replicate (n + 2) (Value.int .i64 0)) 3)) (ty : TypeId) :
    (Builtin.copy_ #[22, 22] ty #[.slice (some ⟨g, 0, none⟩) (n + 2) (n + 2), v]).run Tryz.prog W = .ok (goInt n) (W.setCells g 0 (zs.map (Value.int .i64))) := by
  subst hn
  by_cases h0 : zs.length = 0
  · have hz : zs = [] := List.length_eq_zero_iff.1 h0
    obtain ⟨p, cap, e⟩ := hv.slice
    subst e
    rw [run_copy_none W _ _ ty 3 _ _ _ _ _ _ Tryz.underlying22 intSize (by rw [h0]; simp), hz]
    rfl
  · rcases hv with ⟨_, h⟩ | ⟨a, cap, rfl, hc, hab⟩
    · rw [h] at h0; exact absurd rfl h0
    have := run_copy_cells (P := Tryz.prog) W 22 22 ty 3 g 0 (zs.length + 2) (zs.length + 2) a zs.length cap (zs.map (Value.int .i64)) Tryz.underlying22 intSize (by simp) (fun j u hu => by
      rw [List.getElem?_map] at hu
      cases hj : zs[j]? with
      | none => rw [hj] at hu; cases hu
      | some x =>
        rw [hj] at hu
        simp only [Option.map_some, Option.some.injEq] at hu
        subst hu
        have hbl : (a.add j).block = a.block := by unfold Addr.add; split <;> rfl
        rw [hb.cell (by rw [hbl]; exact hab (by omega))]
        exact hc j x hj) (fun j hj => by
          rw [cell_of_row W g _ _ _ _ hrow]
          simp at hj ⊢
          omega) (fun j _ => frozen_of_row W g _ _ _ hrow) (by simp [Value.oneCell'])
    rw [this]
    simp
theorem spare_put (zs : List Value) : putL (List.replicate (zs.length + 2) (Value.int .i64 0)) 0 zs = zs ++ [Value.int .i64 0, Value.int .i64 0] := by
  have h := putL_head [] (List.replicate (zs.length + 2) (Value.int .i64 0)) zs 0 rfl (by simp)
  simp only [List.nil_append] at h
  rw [h, List.drop_replicate]
  simp [show zs.length + 2 - zs.length = 2 by omega, List.replicate_succ]
theorem spare_any (v : Value) (zs : List Int) (w : World) (hv : ArgInts w v zs) (hn : zs.length ≤ 17592186044416) :
    Calls Tryz.prog 10 #[v] w fun e w' => Below w.heap.size w w' ∧ ∃ g, w.heap.size ≤ g ∧ e = .returned (.slice (some ⟨g, 0, none⟩) zs.length (zs.length + 2)) ∧ w'.heap[g]? = some (.cells (zs.map (Value.int .i64) ++ [Value.int .i64 7, Value.int .i64 7]).toArray 3) := by
  have hmk := make_ints zs.length hn
  have HV := hid hv
  obtain ⟨p0, c0, e0⟩ := hv.slice
  clear hv
  have hbW : Below w.heap.size w (w.alloc (.cells (Array.replicate (zs.length + 2) (Value.int .i64 0)) 3)) := (Below.refl _ _).alloc (Nat.le_refl _) _
  have hcp := fun ty => copy_arg HV.out rfl hbW (heap_alloc_new w _) ty
  have HBW := hid hbW
  have HR : Hid ((((w.alloc (.cells (Array.replicate (zs.length + 2) (Value.int .i64 0)) 3))).setCells w.heap.size 0 (zs.map (Value.int .i64))).heap[w.heap.size]? = some (.cells (zs.map (Value.int .i64) ++ [Value.int .i64 0, Value.int .i64 0]).toArray 3)) := hid (by
    have ha := heap_alloc_new w (.cells (Array.replicate (zs.length + 2) (Value.int .i64 0)) 3)
    rw [show Array.replicate (zs.length + 2) (Value.int .i64 0) = (List.replicate (zs.length + 2) (Value.int .i64 0)).toArray from by simp] at ha ⊢
    rw [setCells_row w.heap.size _ 0 _ _ ha]
    have := spare_put (zs.map (Value.int .i64))
    rw [List.length_map] at this
    rw [this])
  have HBL : Hid (Below w.heap.size w ((w.alloc (.cells (Array.replicate (zs.length + 2) (Value.int .i64 0)) 3)).setCells w.heap.size 0 (zs.map (Value.int .i64)))) := hid (setCells_below _ (Nat.le_refl _) _ _ _ _ hbW)
  subst e0
  clear hbW
  have n0 : (zs.length : Int) ≤ 17592186044416 := by omega
  go_enter Tryz.func10, Tryz.ntmps10
  go_upto_region 2 with fail
  go_cut [] (fun wc => wc.heap[w.heap.size]? = some (.cells (zs.map (Value.int .i64) ++ [Value.int .i64 0, Value.int .i64 0]).toArray 3) ∧ Below w.heap.size w wc)
  case first =>
    go_wp2
    go_meet
    exact ⟨HR.out, HBL.out⟩
  case rest =>
    obtain ⟨hr, hb⟩ := hcut
    clear hcp hmk HR HBL HBW
    have hrow2 := hr
    have z1 : (zs.map (Value.int .i64) ++ [Value.int .i64 0, Value.int .i64 0])[zs.length]? = some (.int .i64 0) := by rw [List.getElem?_append_right (by simp)]; simp
    have z2 : (zs.map (Value.int .i64) ++ [Value.int .i64 0, Value.int .i64 0])[zs.length + 1]? = some (.int .i64 0) := by rw [List.getElem?_append_right (by simp)]; simp
    have c1 := cell_of_row wc w.heap.size zs.length _ _ _ hr
    have c2 := cell_of_row wc w.heap.size (zs.length + 1) _ _ _ hr
    rw [List.getElem?_toArray] at c1 c2
    rw [z1] at c1
    rw [z2] at c2
    have f1 := frozen_of_row wc w.heap.size zs.length _ _ hr
    have f2 := frozen_of_row wc w.heap.size (zs.length + 1) _ _ hr
    have HR2 : Hid (((wc.setCell ⟨w.heap.size, zs.length, none⟩ (.int .i64 7)).setCell ⟨w.heap.size, zs.length + 1, none⟩ (.int .i64 7)).heap[w.heap.size]? = some (.cells (zs.map (Value.int .i64) ++ [Value.int .i64 7, Value.int .i64 7]).toArray 3)) := hid (by
      have h1 := setCell_row zs.length (.int .i64 7) hr
      rw [List.setIfInBounds_toArray] at h1
      have h2 := setCell_row (zs.length + 1) (.int .i64 7) h1
      rw [List.setIfInBounds_toArray] at h2
      rw [h2, List.set_append_right _ _ (by simp), List.set_append_right _ _ (by simp)]
      simp)
    have HB2 := hid hb
    have n1 : (0 : Int) ≤ (zs.length : Int) := by omega
    have n2 : (zs.length : Int) < (zs.length : Int) + 2 := by omega
    have n3 : (zs.length : Int) + 1 < (zs.length : Int) + 2 := by omega
    clear hr hb hrow2 z1 z2
    go_wp2_with fail
    go_ret
    exact ⟨(HB2.out.setCell (by simp) _).setCell (by simp) _, w.heap.size, Nat.le_refl _, rfl, HR2.out⟩
def ZsAt (w : World) (v : Value) (zs : List Int) : Prop :=
  (v = .slice none 0 0 ∧ zs = []) ∨ ∃ a cap, v = .slice (some a) zs.length cap ∧ ∀ (j : Nat) (x : Int), zs[j]? = some x → w.cell? (a.add j) = some (.int .i64 x)
theorem ArgInts.zs {w w' : World} {v : Value} {zs : List Int} (h : ArgInts w v zs) (hb : Below w.heap.size w w') : ZsAt w' v zs := by
  rcases h with h | ⟨a, cap, hv, hc, hab⟩
  · exact .inl h
  · refine .inr ⟨a, cap, hv, fun j x hj => ?_⟩
    have hbl : (a.add j).block = a.block := by unfold Addr.add; split <;> rfl
    have hl := (List.getElem?_eq_some_iff.1 hj).1
    rw [hb.cell (by rw [hbl]; exact hab (by omega))]
    exact hc j x hj
theorem ZsAt.slice {w : World} {v : Value} {zs : List Int} (h : ZsAt w v zs) : ∃ p cap, v = .slice p zs.length cap := by
  rcases h with ⟨h1, h2⟩ | ⟨a, cap, hv, _⟩
  · exact ⟨none, 0, by rw [h1, h2]; rfl⟩
  · exact ⟨_, cap, hv⟩
theorem ZsAt.of_row {w : World} {g cap : Nat} {zs : List Int} {r : List Value} {t : TypeId} (h : w.heap[g]? = some (.cells (zs.map (Value.int .i64) ++ r).toArray t)) : ZsAt w (.slice (some ⟨g, 0, none⟩) zs.length cap) zs := by
  refine .inr ⟨⟨g, 0, none⟩, cap, rfl, fun j x hj => ?_⟩
  have hl := (List.getElem?_eq_some_iff.1 hj).1
  rw [addr_add, cell_of_row w g j _ _ _ h, List.getElem?_toArray, List.getElem?_append_left (by simpa using hl), List.getElem?_map, hj]
  rfl
theorem sameZs_any (l : List Int) (va vb : Value) (w : World) (ha : ZsAt w va l) (hb : ZsAt w vb l) (hl : l.length ≤ 17592186044416) :
    Calls Tryz.prog 28 #[va, vb] w fun e w' => e = .returned (.bool true) ∧ ∃ n, w' = w.drewN n := by
  obtain ⟨pa, ca, ea⟩ := ha.slice
  obtain ⟨pb, cb, eb⟩ := hb.slice
  subst ea
  subst eb
  have HA := hid ha
  have HB := hid hb
  clear ha hb
  go_enter Tryz.func28, Tryz.ntmps28
  go_wp2_with fail
  go_loopg [5] l.length (fun gk x w' => ∃ k : Nat, k ≤ l.length ∧ gk = l.length - k ∧ x = .int .i64 k ∧ ∃ n, w' = w.drewN n)
  case atStart => exact ⟨0, by omega, by omega, rfl, 0, rfl⟩
  case round =>
    obtain ⟨k, hk, hgk, rfl, n, rfl⟩ := hrel
    rcases Nat.lt_or_ge k l.length with hlt | hge
    · have d0 : (0 : Int) ≤ (k : Int) := by omega
      have d1 : (k : Int) < (l.length : Int) := by omega
      have d2 : (k : Int) + 1 ≤ 17592186044416 := by omega
      have hk2 : l[k]? = some l[k] := List.getElem?_eq_getElem hlt
      rcases HA.out with ⟨_, h0⟩ | ⟨ga, c1, e1, hca⟩
      · rw [h0] at hlt; simp at hlt
      rcases HB.out with ⟨_, h0⟩ | ⟨gb, c2, e2, hcb⟩
      · rw [h0] at hlt; simp at hlt
      have x1 := hca k _ hk2
      have x2 := hcb k _ hk2
      cases e1
      cases e2
      generalize l[k] = c at *
      have hne : (c != c) = false := by simp
      clear hca hcb hk2
      go_wp2_with fail
      go_quiet (fail)
      go_wp2_with fail
      go_roundg (l.length - (k + 1))
      case measure => omega
      case rel => exact ⟨k + 1, by omega, rfl, by go_num, ⟨_, rfl⟩⟩
    · have d1 : ¬ (k : Int) < (l.length : Int) := by omega
      go_wp2_with fail
      go_ret
      exact ⟨rfl, n, rfl⟩
theorem still_any (v : Value) (zs : List Int) (g : Nat) (w : World) (hv : ZsAt w v zs) (hn : zs.length ≤ 17592186044416) (hr : w.heap[g]? = some (.cells (zs.map (Value.int .i64) ++ [Value.int .i64 7, Value.int .i64 7]).toArray 3)) :
    Calls Tryz.prog 15 #[.slice (some ⟨g, 0, none⟩) zs.length (zs.length + 2), v] w fun e w' => e = .returned (.bool true) ∧ ∃ n, w' = w.drewN n := by
  have hsm := hid (sameZs_any zs _ v w (ZsAt.of_row (cap := zs.length + 2) hr) hv hn)
  obtain ⟨p0, c0, e0⟩ := hv.slice
  subst e0
  have z1 : (zs.map (Value.int .i64) ++ [Value.int .i64 7, Value.int .i64 7])[zs.length]? = some (.int .i64 7) := by rw [List.getElem?_append_right (by simp)]; simp
  have z2 : (zs.map (Value.int .i64) ++ [Value.int .i64 7, Value.int .i64 7])[zs.length + 1]? = some (.int .i64 7) := by rw [List.getElem?_append_right (by simp)]; simp
  have c1 := cell_of_row w g zs.length _ _ _ hr
  have c2 := cell_of_row w g (zs.length + 1) _ _ _ hr
  rw [List.getElem?_toArray] at c1 c2
  rw [z1] at c1
  rw [z2] at c2
  have n0 : (zs.length : Int) ≤ 17592186044416 := by omega
  have n1 : (0 : Int) ≤ (zs.length : Int) := by omega
  have n2 : (zs.length : Int) < (zs.length : Int) + 2 := by omega
  have n3 : (zs.length : Int) + 1 < (zs.length : Int) + 2 := by omega
  clear hv hr z1 z2
  go_enter Tryz.func15, Tryz.ntmps15
  go_wp2_with fail
  refine hsm.out.mono ?_
  clear hsm
  intro x w1 hh
  obtain ⟨hx, n, hw1⟩ := hh
  subst x
  subst w1
  go_wp2_with fail
  go_ret
  exact ⟨rfl, n, rfl⟩
def CopyPost (zs : List Int) (w : World) (e : Ending) (w' : World) : Prop :=
  Below w.heap.size w w' ∧ ∃ v, e = .returned v ∧ w'.ownsRow w.heap.size 3 1 v zs.length (zs.map (.int .i64))
theorem ints_next {zs : List Int} {k : Nat} (h : k < zs.length) : (zs.take (k + 1)).map (Value.int .i64) = (zs.take k).map (Value.int .i64) ++ [Value.int .i64 zs[k]] := by
  rw [List.take_succ_eq_append_getElem h, List.map_append]
  rfl
theorem copied_any (zs : List Int) (v : Value) (w : World) (hv : ZsAt w v zs) (hl : zs.length ≤ 8796093022208) :
    Calls Tryz.prog 41 #[v] w (CopyPost zs w) := by
  obtain ⟨i0, hi0, hz0, hz1, hz2⟩ := info_parts intInfo
  obtain ⟨p0, c0, e0⟩ := hv.slice
  subst e0
  have HV := hid hv
  clear hv
  go_enter Tryz.func41, Tryz.ntmps41
  go_wp2_with fail
  go_loopg [3, 8] zs.length (fun g l x w' => ∃ k : Nat, k ≤ zs.length ∧ g = zs.length - k ∧ x = .int .i64 k ∧ w'.ownsRow w.heap.size 3 1 l k ((zs.take k).map (.int .i64)) ∧ Below w.heap.size w w')
  case atStart => exact ⟨0, by omega, by omega, rfl, World.ownsRow_nil _ _ _ _, Below.refl _ _⟩
  case round =>
    obtain ⟨k, hk, hg, rfl, hown, hbel⟩ := hrel
    have hz := hbel.size
    have HB := hid hbel
    clear hbel
    rcases Nat.lt_or_ge k zs.length with hlt | hge
    · have d1 : (k : Int) < (zs.length : Int) := by omega
      have d0 : (0 : Int) ≤ (k : Int) := by omega
      have d2 : (k : Int) + 1 ≤ 8796093022208 := by omega
      rcases HV.out with ⟨_, h0⟩ | ⟨a, ca, ea, hca⟩
      · rw [h0] at hlt; simp at hlt
      have x0 := hca k _ (List.getElem?_eq_getElem hlt)
      cases ea
      have hab := World.block_lt_of_cell? w _ x0
      rw [← HB.out.cell hab] at x0
      have HNX := hid (ints_next hlt)
      generalize zs[k] = x at *
      clear hca hab
      go_wp2_with (at_builtin; go_must (refine wpList_append_lies _ (by rfl) _ _ _ (by rfl) w.heap.size 3 i0 _ 1 8 Tryz.underlying22 hi0 hz0 hz1 hz2 rfl (by omega) _ k ((zs.take k).map (.int .i64)) (by rfl) (hown.alloc _) ⟨_, 0, none⟩ 1 1 [.int .i64 x] (by rfl) (by rfl) (World.news_of_block (cs := #[.int .i64 x]) (t := 3) (fr := (0, 0)) (heap_alloc_new _ _)) (by simp [Value.oneCell']) (by omega) (by unfold maxLen; omega) (by omega) (by simp; omega) _ rfl ?_); intro gg cap w3 hown3 hgrow hat hlt2)
      go_roundg (zs.length - (k + 1))
      case measure => omega
      case rel => exact ⟨k + 1, by omega, rfl, by go_num, by rw [HNX.out]; exact hown3, (HB.out.alloc (by omega) _).grown hgrow (by simp; omega) (fun k hk => (hown.lt k hk).1)⟩
    · have d1 : ¬ (k : Int) < (zs.length : Int) := by omega
      have hkl : k = zs.length := by omega
      go_wp2_with fail
      go_ret
      refine ⟨HB.out, _, rfl, ?_⟩
      rw [hkl, List.take_length] at hown
      exact hown
/-- What slots tells of a type and the numbers that are held. -/
def slotAt (held : List Int) (k t : Nat) : Nat × Int := (t, if t ≠ 2 ∧ k < held.length then held.getD k 0 else 0)
def slotsF (tl : List Nat) (held : List Int) : List (Nat × Int) := tl.mapIdx (fun k t => slotAt held k t)
theorem slotsF_next {tl : List Nat} {held : List Int} {k : Nat} (h : k < tl.length) : ((slotsF tl held).take (k + 1)).flatMap slCells = ((slotsF tl held).take k).flatMap slCells ++ slCells (slotAt held k tl[k]) := by
  have hk : k < (slotsF tl held).length := by simpa [slotsF] using h
  rw [List.take_succ_eq_append_getElem hk, List.flatMap_append]
  simp [slotsF]
def SlotsPost (q : List (Nat × Int)) (w : World) (e : Ending) (w' : World) : Prop :=
  Below w.heap.size w w' ∧ ∃ v, e = .returned v ∧ w'.ownsRow w.heap.size 98 2 v q.length (q.flatMap slCells)
theorem pslots_any (tl : List Nat) (held : List Int) (P : Nat → Prop) (v : Value) (b o cap : Nat) (w : World) (hv : IntsAt w P v tl) (hh : ∀ (j : Nat) (x : Int), held[j]? = some x → w.cell? ⟨b, o + j, none⟩ = some (.int .i64 x)) (hl : tl.length ≤ 1000) (hl2 : held.length ≤ 1000) :
    Calls Tryz.prog 102 #[v, .slice (some ⟨b, o, none⟩) held.length cap] w (SlotsPost (slotsF tl held) w) := by
  obtain ⟨i0, hi0, hz0, hz1, hz2⟩ := info_parts slotInfo
  obtain ⟨p0, c0, e0⟩ := hv.slice
  subst e0
  have HV := hid hv
  have HH := hid hh
  have hlen : (slotsF tl held).length = tl.length := by simp [slotsF]
  clear hv hh
  go_enter Tryz.func102, Tryz.ntmps102
  go_wp2_with fail
  go_loopg [5, 11] tl.length (fun g l x w' => ∃ k : Nat, k ≤ tl.length ∧ g = tl.length - k ∧ x = .int .i64 k ∧ w'.ownsRow w.heap.size 98 2 l k (((slotsF tl held).take k).flatMap slCells) ∧ Below w.heap.size w w')
  case atStart => exact ⟨0, by omega, by omega, rfl, World.ownsRow_nil _ _ _ _, Below.refl _ _⟩
  case round =>
    obtain ⟨k, hk, hg, rfl, hown, hbel⟩ := hrel
    have hz := hbel.size
    have HB := hid hbel
    clear hbel
    rcases Nat.lt_or_ge k tl.length with hlt | hge
    · have d1 : (k : Int) < (tl.length : Int) := by omega
      have d0 : (0 : Int) ≤ (k : Int) := by omega
      rcases HV.out with ⟨_, h0⟩ | ⟨g, ca, ea, _, hca⟩
      · rw [h0] at hlt; simp at hlt
      have x0 := hca k _ (List.getElem?_eq_getElem hlt)
      cases ea
      have hab := World.block_lt_of_cell? w _ x0
      rw [← HB.out.cell hab] at x0
      have HNX := hid (slotsF_next (held := held) hlt)
      generalize tl[k] = t at *
      unfold numV at x0
      clear hca hab
      by_cases ht : t = 2
      · subst ht
        have HE : Hid (slotAt held k 2 = (2, 0)) := hid (by simp [slotAt])
        go_wp2_with (at_builtin; go_must (refine wpList_append_lies _ (by rfl) _ _ _ (by rfl) w.heap.size 98 i0 _ 2 16 Tryz.underlying96 hi0 hz0 hz1 hz2 rfl (by omega) _ k (((slotsF tl held).take k).flatMap slCells) (by rfl) ((hown.alloc _).alloc _) ⟨wr.heap.size + 1, 0, none⟩ 1 1 [.int .i64 2, .int .i64 0] (by rfl) (by rfl) (World.news_of_block (cs := #[.int .i64 2, .int .i64 0]) (t := 98) (fr := (0, 0)) (heap_two_new wr _ _)) (by simp [Value.oneCell']) (by omega) (by unfold maxLen; omega) (by omega) (by simp; omega) _ rfl ?_); intro gg gcap w3 hown3 hgrow hat hlt2)
        go_roundg (tl.length - (k + 1))
        case measure => omega
        case rel => exact ⟨k + 1, by omega, rfl, by go_num, by rw [HNX.out, HE.out]; exact hown3, ((HB.out.alloc (by omega) _).alloc (by simp; omega) _).grown hgrow (by simp; omega) (fun k hk => (hown.lt k hk).1)⟩
      · have q2 : ((t : Int) != 2) = true := by simp; omega
        by_cases hkh : k < held.length
        · have d3 : (k : Int) < (held.length : Int) := by omega
          have y0 := HH.out k _ (List.getElem?_eq_getElem hkh)
          have hab2 := World.block_lt_of_cell? w _ y0
          rw [← HB.out.cell hab2] at y0
          have hab3 : b < wr.heap.size := World.block_lt_of_cell? wr _ y0
          have HE : Hid (slotAt held k t = (t, held[k])) := hid (by simp [slotAt, ht, hkh])
          generalize held[k] = x at *
          clear hab2
          go_wp2_with (at_builtin; go_must (refine wpList_append_lies _ (by rfl) _ _ _ (by rfl) w.heap.size 98 i0 _ 2 16 Tryz.underlying96 hi0 hz0 hz1 hz2 rfl (by omega) _ k (((slotsF tl held).take k).flatMap slCells) (by rfl) ((hown.alloc _).alloc _) ⟨wr.heap.size + 1, 0, none⟩ 1 1 [.int .i64 t, .int .i64 x] (by rfl) (by rfl) (World.news_of_block (cs := #[.int .i64 t, .int .i64 x]) (t := 98) (fr := (0, 0)) (heap_two_new wr _ _)) (by simp [Value.oneCell']) (by omega) (by unfold maxLen; omega) (by omega) (by simp; omega) _ rfl ?_); intro gg gcap w3 hown3 hgrow hat hlt2)
          go_roundg (tl.length - (k + 1))
          case measure => omega
          case rel => exact ⟨k + 1, by omega, rfl, by go_num, by rw [HNX.out, HE.out]; exact hown3, ((HB.out.alloc (by omega) _).alloc (by simp; omega) _).grown hgrow (by simp; omega) (fun k hk => (hown.lt k hk).1)⟩
        · have d3 : ¬ (k : Int) < (held.length : Int) := by omega
          have HE : Hid (slotAt held k t = (t, 0)) := hid (by simp [slotAt, hkh])
          go_wp2_with (at_builtin; go_must (refine wpList_append_lies _ (by rfl) _ _ _ (by rfl) w.heap.size 98 i0 _ 2 16 Tryz.underlying96 hi0 hz0 hz1 hz2 rfl (by omega) _ k (((slotsF tl held).take k).flatMap slCells) (by rfl) ((hown.alloc _).alloc _) ⟨wr.heap.size + 1, 0, none⟩ 1 1 [.int .i64 t, .int .i64 0] (by rfl) (by rfl) (World.news_of_block (cs := #[.int .i64 t, .int .i64 0]) (t := 98) (fr := (0, 0)) (heap_two_new wr _ _)) (by simp [Value.oneCell']) (by omega) (by unfold maxLen; omega) (by omega) (by simp; omega) _ rfl ?_); intro gg gcap w3 hown3 hgrow hat hlt2)
          go_roundg (tl.length - (k + 1))
          case measure => omega
          case rel => exact ⟨k + 1, by omega, rfl, by go_num, by rw [HNX.out, HE.out]; exact hown3, ((HB.out.alloc (by omega) _).alloc (by simp; omega) _).grown hgrow (by simp; omega) (fun k hk => (hown.lt k hk).1)⟩
    · have d1 : ¬ (k : Int) < (tl.length : Int) := by omega
      have hkl : k = tl.length := by omega
      go_wp2_with fail
      go_ret
      refine ⟨HB.out, _, rfl, ?_⟩
      rw [List.take_of_length_le (by omega)] at hown
      rw [hlen, ← hkl]
      exact hown
theorem pcells_any (b o : Nat) (cs : List Cl) (P : Nat → Prop) (v : Value) (w : World) (hv : w.cell? ⟨b, o, none⟩ = some v) (hls : LsAt w P v cs.length (cs.flatMap clCells)) (hl : cs.length ≤ 1000) :
    Calls Tryz.prog 105 #[.pointer (some ⟨b, o, none⟩)] w fun e w' => Below w.heap.size w w' ∧ ∃ v', e = .returned v' ∧ w'.ownsRow w.heap.size 100 5 v' cs.length (cs.flatMap clCells) := by
  obtain ⟨i0, hi0, hz0, hz1, hz2⟩ := info_parts cellInfo
  obtain ⟨p0, q0, e0⟩ := hls.slice
  subst e0
  have HLS := hid hls
  clear hls
  go_enter Tryz.func105, Tryz.ntmps105
  go_wp2_with fail
  go_loopg [3, 11] cs.length (fun g l x w' => ∃ k : Nat, k ≤ cs.length ∧ g = cs.length - k ∧ x = .int .i64 k ∧ w'.ownsRow w.heap.size 100 5 l k ((cs.take k).flatMap clCells) ∧ Below w.heap.size w w')
  case atStart => exact ⟨0, by omega, by omega, rfl, World.ownsRow_nil _ _ _ _, Below.refl _ _⟩
  case round =>
    obtain ⟨k, hk, hg, rfl, hown, hbel⟩ := hrel
    have hz := hbel.size
    have HB := hid hbel
    clear hbel
    rcases Nat.lt_or_ge k cs.length with hlt | hge
    · have d1 : (k : Int) < (cs.length : Int) := by omega
      have d0 : (0 : Int) ≤ (k : Int) := by omega
      obtain ⟨g, cap, eg, _, hc⟩ := HLS.out.some (by omega)
      cases eg
      have hgz : g < w.heap.size := World.block_lt_of_cell? w _ (hc 0 _ (by
        have := flat_at clCells 5 (fun _ => rfl) cs 0 0 (by omega) (by omega)
        simpa [clCells] using this))
      have hcell : ∀ j, j < 5 → ∀ u, (clCells cs[k])[j]? = some u → wr.cell? ⟨g, k * 5 + j, none⟩ = some u := fun j hj u hu => by
        rw [HB.out.cell (p := ⟨g, k * 5 + j, none⟩) hgz]
        exact hc _ _ ((flat_at clCells 5 (fun _ => rfl) cs k j hlt hj).trans hu)
      have c0 := hcell 0 (by omega) _ rfl
      have c1 := hcell 1 (by omega) _ rfl
      have c2 := hcell 2 (by omega) _ rfl
      have c3 := hcell 3 (by omega) _ rfl
      have c4 := hcell 4 (by omega) _ rfl
      rw [Nat.add_zero] at c0
      have HNX : Hid ((cs.take (k + 1)).flatMap clCells = (cs.take k).flatMap clCells ++ clCells cs[k]) := hid (by
        rw [List.take_succ_eq_append_getElem hlt, List.flatMap_append]
        simp)
      clear hc hcell
      generalize cs[k] = c at *
      obtain ⟨co, wk, a, b', n⟩ := c
      simp only at c0 c1 c2 c3 c4
      go_wp2_with (at_builtin; go_must (refine wpList_append_lies _ (by rfl) _ _ _ (by rfl) w.heap.size 100 i0 _ 5 40 Tryz.underlying70 hi0 hz0 hz1 hz2 rfl (by omega) _ k ((cs.take k).flatMap clCells) (by rfl) ((hown.alloc _).alloc _) ⟨wr.heap.size + 1, 0, none⟩ 1 1 [.int .i64 co, .bool wk, .int .i64 a, .int .i64 b', .int .i64 n] (by rfl) (by rfl) (World.news_of_block (cs := #[.int .i64 co, .bool wk, .int .i64 a, .int .i64 b', .int .i64 n]) (t := 100) (fr := (0, 0)) (heap_two_new wr _ _)) (by simp [Value.oneCell']) (by omega) (by unfold maxLen; omega) (by omega) (by simp; omega) _ rfl ?_); intro gg gcap w6 hown6 hgrow6 hat6 hlt6)
      go_roundg (cs.length - (k + 1))
      case measure => omega
      case rel =>
        refine ⟨k + 1, by omega, rfl, by go_num, ?_, ?_⟩
        · rw [HNX.out]
          exact hown6
        · exact ((HB.out.alloc (by omega) _).alloc (by simp; omega) _).grown hgrow6 (by simp; omega) (fun j hj => (hown.lt j hj).1)
    · have d1 : ¬ (k : Int) < (cs.length : Int) := by omega
      have hkl : k = cs.length := by omega
      go_wp2_with fail
      go_ret
      refine ⟨HB.out, _, rfl, ?_⟩
      rw [hkl, List.take_length] at hown
      exact hown
theorem flat_set {α : Type} (f : α → List Value) (m : Nat) (hf : ∀ x, (f x).length = m) : ∀ (l : List α) (k j : Nat) (c : α) (v : Value) (h : k < l.length), j < m → f c = (f l[k]).set j v → (l.flatMap f).set (k * m + j) v = (l.set k c).flatMap f := by
  intro l
  induction l with
  | nil => intro k j c v h; simp at h
  | cons a r ih =>
    intro k j c v h hj e
    have h1 := hf a
    cases k with
    | zero =>
      simp only [List.getElem_cons_zero] at e
      rw [Nat.zero_mul, Nat.zero_add, List.flatMap_cons, List.set_append_left _ _ (by omega), List.set_cons_zero, List.flatMap_cons, e]
    | succ k =>
      simp only [List.getElem_cons_succ] at e
      rw [List.flatMap_cons, List.set_append_right _ _ (by rw [h1, Nat.add_mul]; omega), h1, show (k + 1) * m + j - m = k * m + j by rw [Nat.add_mul]; omega, List.set_cons_succ, List.flatMap_cons, ih k j c v (by simpa using h) hj e]
theorem owns_cell {w : World} {base e size N n : Nat} {g cap : Nat} {xs : List Value} (h : w.ownsRow base e size (.slice (some ⟨g, 0, none⟩) N cap) N xs) (v : Value) : (w.setCell ⟨g, n, none⟩ v).ownsRow base e size (.slice (some ⟨g, 0, none⟩) N cap) N (xs.set n v) := by
  have h1 := h.1
  refine ⟨by simpa using h1, ?_⟩
  rcases h.2 with ⟨h2, _⟩ | ⟨g', cap', cur, hv, hg, hh, r1, r2, r3, r4⟩
  · cases h2
  · cases hv
    refine .inr ⟨g, cap, cur.setIfInBounds n v, rfl, hg, setCell_row n _ hh, r1, r2, by simpa using r3, ?_⟩
    rw [Array.toList_setIfInBounds, List.take_set, r4]
/-- The room of a list; a row of a block, its type. -/
structure CK where
  cap : Nat
  row : Array Value
  ty : TypeId
/-- The reference's heap: its cells in block gC, phase and hand in block b. -/
structure HpAt (w : World) (b gC : Nat) (cC : CK) (base : Nat) (cs : List RC) (ph hd : Nat) : Prop where
  c0 : w.cell? ⟨b, 10, none⟩ = some (.slice (some ⟨gC, 0, none⟩) cs.length cC.cap)
  c1 : w.cell? ⟨b, 11, none⟩ = some (.int .i64 ph)
  c2 : w.cell? ⟨b, 12, none⟩ = some (.int .i64 hd)
  f1 : w.frozen? ⟨b, 11, none⟩ = false
  f2 : w.frozen? ⟨b, 12, none⟩ = false
  row : w.ownsRow base 109 7 (.slice (some ⟨gC, 0, none⟩) cs.length cC.cap) cs.length (cs.flatMap rcCells)
  ne : b ≠ gC
  blk : w.heap[b]? = some (.cells ((cC.row.setIfInBounds 11 (.int .i64 ph)).setIfInBounds 12 (.int .i64 hd)) cC.ty)
theorem HpAt.cell {w : World} {b gC : Nat} {cC : CK} {base ph hd : Nat} {cs : List RC} (h : HpAt w b gC cC base cs ph hd) {k j : Nat} (hk : k < cs.length) (hj : j < 7) : w.cell? ⟨gC, k * 7 + j, none⟩ = (rcCells cs[k])[j]? := by
  rw [World.ownsRow.cellAt h.row (k * 7 + j) (by omega)]
  exact flat_at rcCells 7 (fun _ => rfl) cs k j hk hj
theorem HpAt.frozen {w : World} {b gC : Nat} {cC : CK} {base ph hd : Nat} {cs : List RC} (h : HpAt w b gC cC base cs ph hd) (j : Nat) : w.frozen? ⟨gC, j, none⟩ = false := World.ownsRow.frozenAt h.row j
/-- A field of a cell is written. -/
theorem HpAt.upd {w : World} {b gC : Nat} {cC : CK} {base ph hd k j : Nat} {cs : List RC} {c : RC} {v : Value} (h : HpAt w b gC cC base cs ph hd) (hk : k < cs.length) (hj : j < 7) (e : rcCells c = (rcCells cs[k]).set j v) : HpAt (w.setCell ⟨gC, k * 7 + j, none⟩ v) b gC cC base (cs.set k c) ph hd := by
  have hb : (w.setCell ⟨gC, k * 7 + j, none⟩ v).heap[b]? = w.heap[b]? := Below.heap_setCell _ _ _ _ h.ne
  have hc : ∀ o, (w.setCell ⟨gC, k * 7 + j, none⟩ v).cell? ⟨b, o, none⟩ = w.cell? ⟨b, o, none⟩ := fun o => World.cell?_of_block (a := ⟨b, o, none⟩) hb
  have hf : ∀ o, (w.setCell ⟨gC, k * 7 + j, none⟩ v).frozen? ⟨b, o, none⟩ = w.frozen? ⟨b, o, none⟩ := fun o => World.frozen?_of_block (a := ⟨b, o, none⟩) hb
  have hr := owns_cell (n := k * 7 + j) h.row v
  rw [flat_set rcCells 7 (fun _ => rfl) cs k j c v hk hj e] at hr
  refine ⟨?_, (hc _).trans h.c1, (hc _).trans h.c2, (hf _).trans h.f1, (hf _).trans h.f2, ?_, h.ne, hb.trans h.blk⟩
  · rw [hc, List.length_set]; exact h.c0
  · rw [List.length_set]; exact hr
theorem HpAt.below {w w' : World} {b gC : Nat} {cC : CK} {base ph hd : Nat} {cs : List RC} (h : HpAt w b gC cC base cs ph hd) (hb : Below w.heap.size w w') : HpAt w' b gC cC base cs ph hd := by
  have h1 := World.block_lt_of_cell? w _ h.c0
  simp only at h1
  exact ⟨(hb.cell (p := ⟨b, 10, none⟩) h1).trans h.c0, (hb.cell (p := ⟨b, 11, none⟩) h1).trans h.c1, (hb.cell (p := ⟨b, 12, none⟩) h1).trans h.c2, (hb.frozen (p := ⟨b, 11, none⟩) h1).trans h.f1, (hb.frozen (p := ⟨b, 12, none⟩) h1).trans h.f2, owns_keep h.row (fun g hg => hb.block g (h.row.lt g hg).2), h.ne, (hb.block b h1).trans h.blk⟩
theorem HpAt.drew {w : World} {b gC : Nat} {cC : CK} {base ph hd : Nat} {cs : List RC} (h : HpAt w b gC cC base cs ph hd) : HpAt w.drew b gC cC base cs ph hd := h.below ⟨rfl, rfl, rfl, Nat.le_refl _, fun _ _ => rfl⟩
def firstP (p : RC → Bool) : List RC → Nat → Int
  | [], _ => -1
  | c :: r, k => if p c = true then (k : Int) else firstP p r (k + 1)
theorem firstP_hit {p : RC → Bool} {cs : List RC} {k : Nat} (h : k < cs.length) (hp : p cs[k] = true) : firstP p (cs.drop k) k = k := by
  rw [List.drop_eq_getElem_cons h]; simp [firstP, hp]
theorem firstP_miss {p : RC → Bool} {cs : List RC} {k : Nat} (h : k < cs.length) (hp : p cs[k] = false) : firstP p (cs.drop k) k = firstP p (cs.drop (k + 1)) (k + 1) := by
  rw [List.drop_eq_getElem_cons h]; simp [firstP, hp]
theorem lowest_any (b gC : Nat) (cC : CK) (base ph hd : Nat) (cs : List RC) (w : World) (h : HpAt w b gC cC base cs ph hd) (hl : cs.length ≤ 1000) :
    Calls Tryz.prog 79 #[.pointer (some ⟨b, 10, none⟩)] w fun e w' => e = .returned (.int .i64 (firstP (fun c => !c.used) cs 0)) ∧ w' = w := by
  have h0 := h.c0
  have H := hid h
  clear h
  go_enter Tryz.func79, Tryz.ntmps79
  go_wp2_with fail
  go_loopg [3] cs.length (fun g x w' => ∃ k : Nat, k ≤ cs.length ∧ g = cs.length - k ∧ x = .int .i64 k ∧ w' = w ∧ firstP (fun c => !c.used) cs 0 = firstP (fun c => !c.used) (cs.drop k) k)
  case atStart => exact ⟨0, by omega, by omega, rfl, rfl, rfl⟩
  case round =>
    obtain ⟨k, hk, hg, rfl, hw, hf⟩ := hrel
    subst hw
    have HF := hid hf
    clear hf
    rcases Nat.lt_or_ge k cs.length with hlt | hge
    · have d0 : (0 : Int) ≤ (k : Int) := by omega
      have d1 : (k : Int) < (cs.length : Int) := by omega
      have c0 := H.out.cell hlt (j := 0) (by omega)
      rw [Nat.add_zero] at c0
      have HH := hid (fun hp => firstP_hit (p := fun c => !c.used) hlt hp)
      have HM := hid (fun hp => firstP_miss (p := fun c => !c.used) hlt hp)
      generalize cs[k] = c at *
      obtain ⟨u, r, lk, wk, a, b', n⟩ := c
      simp only [rcCells, List.getElem?_cons_zero] at c0
      cases u
      · have HE := hid (HH.out rfl)
        clear HH HM
        go_wp2_with fail
        go_ret
        exact ⟨by rw [HF.out, HE.out]; rfl, rfl⟩
      · have HE := hid (HM.out rfl)
        clear HH HM
        go_wp2_with fail
        go_roundg (cs.length - (k + 1))
        case measure => omega
        case rel => exact ⟨k + 1, by omega, rfl, by go_num, rfl, by rw [HF.out, HE.out]⟩
    · have d1 : ¬ (k : Int) < (cs.length : Int) := by omega
      go_wp2_with fail
      go_ret
      refine ⟨?_, rfl⟩
      rw [HF.out, List.drop_of_length_le hge]
      rfl
theorem grey_any (b gC : Nat) (cC : CK) (base ph hd : Nat) (cs : List RC) (w : World) (h : HpAt w b gC cC base cs ph hd) (hl : cs.length ≤ 1000) :
    Calls Tryz.prog 76 #[.pointer (some ⟨b, 10, none⟩)] w fun e w' => e = .returned (.int .i64 (firstP (fun c => colR c == 2) cs 0)) ∧ Below w.heap.size w w' := by
  have H := hid h
  have h0 := h.c0
  clear h
  go_enter Tryz.func76, Tryz.ntmps76
  go_wp2_with fail
  go_loopg [3] cs.length (fun g x w' => ∃ k : Nat, k ≤ cs.length ∧ g = cs.length - k ∧ x = .int .i64 k ∧ Below w.heap.size w w' ∧ firstP (fun c => colR c == 2) cs 0 = firstP (fun c => colR c == 2) (cs.drop k) k)
  case atStart => exact ⟨0, by omega, by omega, rfl, Below.refl _ _, rfl⟩
  case round =>
    obtain ⟨k, hk, hg, rfl, hb, hf⟩ := hrel
    have HF := hid hf
    have HB := hid hb
    have h0' := (H.out.below hb).c0
    clear hf hb h0
    rcases Nat.lt_or_ge k cs.length with hlt | hge
    · have d0 : (0 : Int) ≤ (k : Int) := by omega
      have d1 : (k : Int) < (cs.length : Int) := by omega
      have hc := fun j hj => (H.out.below HB.out).cell hlt (j := j) hj
      have c0 := hc 0 (by omega)
      have c1 := hc 1 (by omega)
      have c2 := hc 2 (by omega)
      have c3 := hc 3 (by omega)
      have c4 := hc 4 (by omega)
      have c5 := hc 5 (by omega)
      have c6 := hc 6 (by omega)
      rw [Nat.add_zero] at c0
      have HH := hid (fun hp => firstP_hit (p := fun c => colR c == 2) hlt hp)
      have HM := hid (fun hp => firstP_miss (p := fun c => colR c == 2) hlt hp)
      have hcol := hid (fun W => colour_any cs[k] W)
      clear hc
      generalize cs[k] = c at *
      generalize hco : colR c = co at *
      clear hco
      obtain ⟨u, r, lk, wk, a, b', n⟩ := c
      simp only [rcCells, List.getElem?_cons_zero, List.getElem?_cons_succ] at c0 c1 c2 c3 c4 c5 c6 hcol
      go_wp2_with fail
      refine (hcol.out _).mono ?_
      clear hcol
      intro x w5 hh
      obtain ⟨hx, hb5⟩ := hh
      subst x
      have HB5 : Hid (Below w.heap.size w w5) := hid (HB.out.trans (hb5.mono HB.out.size))
      clear hb5
      by_cases h2 : co = 2
      · have q2 : ((co : Int) == 2) = true := by simp; omega
        have HE := hid (HH.out (by simp [h2]))
        clear HH HM h2
        go_wp2_with fail
        go_ret
        exact ⟨by rw [HF.out, HE.out]; rfl, HB5.out⟩
      · have q2 : ((co : Int) == 2) = false := by simp; omega
        have HE := hid (HM.out (by simp [h2]))
        clear HH HM h2
        go_wp2_with fail
        go_roundg (cs.length - (k + 1))
        case measure => omega
        case rel => exact ⟨k + 1, by omega, rfl, by go_num, HB5.out, by rw [HF.out, HE.out]⟩
    · have d1 : ¬ (k : Int) < (cs.length : Int) := by omega
      go_wp2_with fail
      go_ret
      refine ⟨?_, HB.out⟩
      rw [HF.out, List.drop_of_length_le hge]
      rfl
def markC (c : RC) : RC := { c with reached := true }
/-- The cells to which these refer are reached. -/
def reachC (cs : List RC) : List Int → List RC
  | [] => cs
  | r :: rs => reachC (if 0 ≤ r then cs.modify r.toNat markC else cs) rs
theorem reachC_snoc (rs : List Int) : ∀ (cs : List RC) (r : Int), reachC cs (rs ++ [r]) = (if 0 ≤ r then (reachC cs rs).modify r.toNat markC else reachC cs rs) := by
  induction rs with
  | nil => intro cs r; rfl
  | cons x xs ih => intro cs r; exact ih _ r
theorem reachC_len (rs : List Int) : ∀ (cs : List RC), (reachC cs rs).length = cs.length := by
  induction rs with
  | nil => intro cs; rfl
  | cons x xs ih =>
    intro cs
    simp only [reachC]
    rw [ih]
    split
    · simp
    · rfl
theorem modify_set {cs : List RC} {k : Nat} (h : k < cs.length) (f : RC → RC) : cs.modify k f = cs.set k (f cs[k]) := by
  induction cs generalizing k with
  | nil => simp at h
  | cons a r ih =>
    cases k with
    | zero => rfl
    | succ k =>
      have := ih (k := k) (by simpa using h)
      simp only [List.modify_succ_cons, List.set_cons_succ, List.getElem_cons_succ]
      rw [this]
theorem hreach_any (b gC : Nat) (cC : CK) (base ph hd : Nat) (cs : List RC) (rs : List Int) (a : Addr) (ca : Nat) (w : World) (h : HpAt w b gC cC base cs ph hd) (hrl : rs.length ≤ 1000) (hr : ∀ r ∈ rs, r < (cs.length : Int)) (hne : a.block ≠ gC)
    (hcell : ∀ (j : Nat) (x : Int), rs[j]? = some x → w.cell? (a.add j) = some (.int .i64 x)) :
    Calls Tryz.prog 74 #[.pointer (some ⟨b, 10, none⟩), .slice (some a) rs.length ca] w fun e w' => e = .returned (.tuple #[]) ∧ HpAt w' b gC cC base (reachC cs rs) ph hd ∧ Only gC w w' := by
  have H := hid h
  have HC := hid hcell
  have HR := hid hr
  clear h hcell hr
  go_enter Tryz.func74, Tryz.ntmps74
  go_wp2_with fail
  go_loopg [4] rs.length (fun g x w' => ∃ k : Nat, k ≤ rs.length ∧ g = rs.length - k ∧ x = .int .i64 k ∧ HpAt w' b gC cC base (reachC cs (rs.take k)) ph hd ∧ Only gC w w')
  case atStart => exact ⟨0, by omega, by omega, rfl, H.out, Only.refl _ _⟩
  case round =>
    obtain ⟨k, hk, hg, rfl, hh, ho⟩ := hrel
    have HH := hid hh
    have HO := hid ho
    have h0 := hh.c0
    rw [reachC_len] at h0
    rcases Nat.lt_or_ge k rs.length with hlt | hge
    · have d0 : (0 : Int) ≤ (k : Int) := by omega
      have d1 : (k : Int) < (rs.length : Int) := by omega
      have x0 := HC.out k _ (List.getElem?_eq_getElem hlt)
      have hbl : (a.add k).block = a.block := by unfold Addr.add; split <;> rfl
      have x1 : wr.cell? (a.add k) = some (.int .i64 rs[k]) := (World.cell?_of_block (a := a.add k) (ho.block _ (by rw [hbl]; exact hne))).trans x0
      have hrk := HR.out rs[k] (List.getElem_mem hlt)
      have HT : Hid (rs.take (k + 1) = rs.take k ++ [rs[k]]) := hid (List.take_succ_eq_append_getElem hlt)
      generalize rs[k] = r at *
      clear x0 hbl hh ho
      by_cases hneg : 0 ≤ r
      · obtain ⟨q, hq⟩ : ∃ q : Nat, r = (q : Int) := ⟨r.toNat, by omega⟩
        subst hq
        have hql : q < (reachC cs (rs.take k)).length := by rw [reachC_len]; omega
        have q1 : (q : Int) < (cs.length : Int) := hrk
        have c1 := HH.out.cell hql (j := 1) (by omega)
        have f1 := HH.out.frozen (q * 7 + 1)
        simp only [rcCells, List.getElem?_cons_zero, List.getElem?_cons_succ] at c1
        have HE : Hid (reachC cs (rs.take (k + 1)) = (reachC cs (rs.take k)).set q (markC (reachC cs (rs.take k))[q])) := hid (by
          rw [HT.out, reachC_snoc, if_pos hneg, Int.toNat_natCast, modify_set hql])
        have HU : Hid (HpAt (wr.drew.setCell ⟨gC, q * 7 + 1, none⟩ (.bool true)) b gC cC base ((reachC cs (rs.take k)).set q (markC (reachC cs (rs.take k))[q])) ph hd) := hid (HH.out.drew.upd hql (by omega) rfl)
        go_wp2_with fail
        go_region
        go_wp2_with fail
        go_roundg (rs.length - (k + 1))
        case measure => omega
        case rel => exact ⟨k + 1, by omega, rfl, by go_num, by rw [HE.out]; exact HU.out, (HO.out.drew).set _ _⟩
      · have HE : Hid (reachC cs (rs.take (k + 1)) = reachC cs (rs.take k)) := hid (by rw [HT.out, reachC_snoc, if_neg hneg])
        go_wp2_with fail
        go_roundg (rs.length - (k + 1))
        case measure => omega
        case rel => exact ⟨k + 1, by omega, rfl, by go_num, by rw [HE.out]; exact HH.out, HO.out⟩
    · have d1 : ¬ (k : Int) < (rs.length : Int) := by omega
      go_wp2_with fail
      go_end0
      refine ⟨rfl, ?_, HO.out⟩
      have := HH.out
      rw [List.take_of_length_le hge] at this
      exact this
theorem eq4 (a0 a1 a2 a3 b0 b1 b2 b3 : Int) (w : World) :
    (Op.equalIn 10000 66 (.agg #[.int .i64 a0, .int .i64 a1, .int .i64 a2, .int .i64 a3]) (.agg #[.int .i64 b0, .int .i64 b1, .int .i64 b2, .int .i64 b3])).run Tryz.prog w = .ok (a0 == b0 && (a1 == b1 && (a2 == b2 && (a3 == b3)))) w := by
  rw [show (10000 : Nat) = 9998 + 1 + 1 from rfl, Op.equalIn]
  simp only [Sem.run_bind, run_underlying Tryz.underlying66, Result.andThen_ok, Std.Legacy.Range.forIn_eq_forIn_range']
  simp [go_sem, Std.Legacy.Range.size, List.range'_succ]
  by_cases h0 : a0 = b0
  case neg => simp [h0]
  by_cases h1 : a1 = b1
  case neg => simp [h0, h1]
  by_cases h2 : a2 = b2
  case neg => simp [h0, h1, h2]
  by_cases h3 : a3 = b3
  case neg => simp [h0, h1, h2, h3]
  simp [h0, h1, h2, h3]
theorem eq8 (a0 a1 a2 a3 a4 a5 a6 a7 b0 b1 b2 b3 b4 b5 b6 b7 : Int) (w : World) :
    (Op.equalIn 10000 67 (.agg #[.int .i64 a0, .int .i64 a1, .int .i64 a2, .int .i64 a3, .int .i64 a4, .int .i64 a5, .int .i64 a6, .int .i64 a7]) (.agg #[.int .i64 b0, .int .i64 b1, .int .i64 b2, .int .i64 b3, .int .i64 b4, .int .i64 b5, .int .i64 b6, .int .i64 b7])).run Tryz.prog w = .ok (a0 == b0 && (a1 == b1 && (a2 == b2 && (a3 == b3 && (a4 == b4 && (a5 == b5 && (a6 == b6 && (a7 == b7)))))))) w := by
  rw [show (10000 : Nat) = 9998 + 1 + 1 from rfl, Op.equalIn]
  simp only [Sem.run_bind, run_underlying Tryz.underlying67, Result.andThen_ok, Std.Legacy.Range.forIn_eq_forIn_range']
  simp [go_sem, Std.Legacy.Range.size, List.range'_succ]
  by_cases h0 : a0 = b0
  case neg => simp [h0]
  by_cases h1 : a1 = b1
  case neg => simp [h0, h1]
  by_cases h2 : a2 = b2
  case neg => simp [h0, h1, h2]
  by_cases h3 : a3 = b3
  case neg => simp [h0, h1, h2, h3]
  by_cases h4 : a4 = b4
  case neg => simp [h0, h1, h2, h3, h4]
  by_cases h5 : a5 = b5
  case neg => simp [h0, h1, h2, h3, h4, h5]
  by_cases h6 : a6 = b6
  case neg => simp [h0, h1, h2, h3, h4, h5, h6]
  by_cases h7 : a7 = b7
  case neg => simp [h0, h1, h2, h3, h4, h5, h6, h7]
  simp [h0, h1, h2, h3, h4, h5, h6, h7]
attribute [local go_sem] eq4 eq8
theorem bcell {W w1 : World} (hb : Below W.heap.size W w1) : (∀ b o, b < W.heap.size → w1.cell? ⟨b, o, none⟩ = W.cell? ⟨b, o, none⟩) ∧ (∀ b o, b < W.heap.size → w1.frozen? ⟨b, o, none⟩ = W.frozen? ⟨b, o, none⟩) :=
  ⟨fun b o h => hb.cell (p := ⟨b, o, none⟩) h, fun b o h => hb.frozen (p := ⟨b, o, none⟩) h⟩
theorem reach_put2 {w : World} {bw bf cap k n d : Nat} {fs : List Fr} {lv : Value} {ch : Bool} (r u : Bool) (a b c e t0 t1 t2 t3 t4 t5 t6 t7 : Nat) (hall : AllAt w bf fs) (hok : AllOk fs) (hk : k < fs.length)
    (hwalk : WalkAt w bw lv bf n cap ch) (hne : bw ≠ bf) (hd : d ≤ 8) :
    AllAt (((((((((((((((w.setCell ⟨bf, k * 15, none⟩ (.bool r)).setCell ⟨bf, k * 15 + 1, none⟩ (.int .i64 a)).setCell ⟨bf, k * 15 + 2, none⟩ (.int .i64 b)).setCell ⟨bf, k * 15 + 3, none⟩ (.int .i64 c)).setCell ⟨bf, k * 15 + 4, none⟩ (.int .i64 e)).setCell ⟨bf, k * 15 + 5, none⟩ (.int .i64 d)).setCell ⟨bf, k * 15 + 6, none⟩ (.int .i64 t0)).setCell ⟨bf, k * 15 + 7, none⟩ (.int .i64 t1)).setCell ⟨bf, k * 15 + 8, none⟩ (.int .i64 t2)).setCell ⟨bf, k * 15 + 9, none⟩ (.int .i64 t3)).setCell ⟨bf, k * 15 + 10, none⟩ (.int .i64 t4)).setCell ⟨bf, k * 15 + 11, none⟩ (.int .i64 t5)).setCell ⟨bf, k * 15 + 12, none⟩ (.int .i64 t6)).setCell ⟨bf, k * 15 + 13, none⟩ (.int .i64 t7)).setCell ⟨bf, k * 15 + 14, none⟩ (.bool u)).drew bf (fs.set k ⟨r, [a, b, c, e], d, [t0, t1, t2, t3, t4, t5, t6, t7], u⟩) ∧ WalkAt (((((((((((((((w.setCell ⟨bf, k * 15, none⟩ (.bool r)).setCell ⟨bf, k * 15 + 1, none⟩ (.int .i64 a)).setCell ⟨bf, k * 15 + 2, none⟩ (.int .i64 b)).setCell ⟨bf, k * 15 + 3, none⟩ (.int .i64 c)).setCell ⟨bf, k * 15 + 4, none⟩ (.int .i64 e)).setCell ⟨bf, k * 15 + 5, none⟩ (.int .i64 d)).setCell ⟨bf, k * 15 + 6, none⟩ (.int .i64 t0)).setCell ⟨bf, k * 15 + 7, none⟩ (.int .i64 t1)).setCell ⟨bf, k * 15 + 8, none⟩ (.int .i64 t2)).setCell ⟨bf, k * 15 + 9, none⟩ (.int .i64 t3)).setCell ⟨bf, k * 15 + 10, none⟩ (.int .i64 t4)).setCell ⟨bf, k * 15 + 11, none⟩ (.int .i64 t5)).setCell ⟨bf, k * 15 + 12, none⟩ (.int .i64 t6)).setCell ⟨bf, k * 15 + 13, none⟩ (.int .i64 t7)).setCell ⟨bf, k * 15 + 14, none⟩ (.bool u)).drew bw lv bf n cap ch ∧ Two bw bf w (((((((((((((((w.setCell ⟨bf, k * 15, none⟩ (.bool r)).setCell ⟨bf, k * 15 + 1, none⟩ (.int .i64 a)).setCell ⟨bf, k * 15 + 2, none⟩ (.int .i64 b)).setCell ⟨bf, k * 15 + 3, none⟩ (.int .i64 c)).setCell ⟨bf, k * 15 + 4, none⟩ (.int .i64 e)).setCell ⟨bf, k * 15 + 5, none⟩ (.int .i64 d)).setCell ⟨bf, k * 15 + 6, none⟩ (.int .i64 t0)).setCell ⟨bf, k * 15 + 7, none⟩ (.int .i64 t1)).setCell ⟨bf, k * 15 + 8, none⟩ (.int .i64 t2)).setCell ⟨bf, k * 15 + 9, none⟩ (.int .i64 t3)).setCell ⟨bf, k * 15 + 10, none⟩ (.int .i64 t4)).setCell ⟨bf, k * 15 + 11, none⟩ (.int .i64 t5)).setCell ⟨bf, k * 15 + 12, none⟩ (.int .i64 t6)).setCell ⟨bf, k * 15 + 13, none⟩ (.int .i64 t7)).setCell ⟨bf, k * 15 + 14, none⟩ (.bool u)).drew := by
  refine ⟨?_, ?_, ((((((((((((((((Two.refl bw bf w).setB (k * 15) (.bool r)).setB (k * 15 + 1) (.int .i64 a)).setB (k * 15 + 2) (.int .i64 b)).setB (k * 15 + 3) (.int .i64 c)).setB (k * 15 + 4) (.int .i64 e)).setB (k * 15 + 5) (.int .i64 d)).setB (k * 15 + 6) (.int .i64 t0)).setB (k * 15 + 7) (.int .i64 t1)).setB (k * 15 + 8) (.int .i64 t2)).setB (k * 15 + 9) (.int .i64 t3)).setB (k * 15 + 10) (.int .i64 t4)).setB (k * 15 + 11) (.int .i64 t5)).setB (k * 15 + 12) (.int .i64 t6)).setB (k * 15 + 13) (.int .i64 t7)).setB (k * 15 + 14) (.bool u)).drew⟩
  · unfold AllAt
    rw [drew_heap, ← allL_put hok hk (f := ⟨r, [a, b, c, e], d, [t0, t1, t2, t3, t4, t5, t6, t7], u⟩) ⟨rfl, rfl, hd⟩]
    exact put15 (k * 15) hall (.bool r) (.int .i64 a) (.int .i64 b) (.int .i64 c) (.int .i64 e) (.int .i64 d) (.int .i64 t0) (.int .i64 t1) (.int .i64 t2) (.int .i64 t3) (.int .i64 t4) (.int .i64 t5) (.int .i64 t6) (.int .i64 t7) (.bool u)
  · unfold WalkAt
    rw [drew_heap, same15 (k * 15) hne (.bool r) (.int .i64 a) (.int .i64 b) (.int .i64 c) (.int .i64 e) (.int .i64 d) (.int .i64 t0) (.int .i64 t1) (.int .i64 t2) (.int .i64 t3) (.int .i64 t4) (.int .i64 t5) (.int .i64 t6) (.int .i64 t7) (.bool u)]
    exact hwalk
theorem Two.of_below {a b : Nat} {w w' : World} (h : Below w.heap.size w w') : Two a b w w' := ⟨h.os, h.tape, h.output, h.size, fun k hk _ _ => h.block k hk⟩
theorem Two.trans {a b : Nat} {w1 w2 w3 : World} (h : Two a b w1 w2) (g : Two a b w2 w3) : Two a b w1 w3 :=
  ⟨g.os.trans h.os, g.tape.trans h.tape, g.output.trans h.output, Nat.le_trans h.size g.size, fun k hk h1 h2 => (g.block k (Nat.lt_of_lt_of_le hk h.size) h1 h2).trans (h.block k hk h1 h2)⟩
theorem four_set {w w5 : World} {x y : Array Value} {t s : TypeId} {r yw : Bool} {a b c e d : Nat} {t0 t1 t2 t3 t4 t5 t6 t7 : Nat} (j0 j1 j2 j3 : Nat) (hx : x = #[.bool r, .int .i64 a, .int .i64 b, .int .i64 c, .int .i64 e, .int .i64 d, .int .i64 t0, .int .i64 t1, .int .i64 t2, .int .i64 t3, .int .i64 t4, .int .i64 t5, .int .i64 t6, .int .i64 t7, .bool yw])
    (hb : Below ((w.alloc (.cells x t)).alloc (.cells y s)).heap.size ((w.alloc (.cells x t)).alloc (.cells y s)) w5) :
    ((((w5.setCell ⟨w.heap.size, 1, none⟩ (.int .i64 j0)).setCell ⟨w.heap.size, 2, none⟩ (.int .i64 j1)).setCell ⟨w.heap.size, 3, none⟩ (.int .i64 j2)).setCell ⟨w.heap.size, 4, none⟩ (.int .i64 j3)).heap[w.heap.size]? =
      some (.cells #[.bool r, .int .i64 j0, .int .i64 j1, .int .i64 j2, .int .i64 j3, .int .i64 d, .int .i64 t0, .int .i64 t1, .int .i64 t2, .int .i64 t3, .int .i64 t4, .int .i64 t5, .int .i64 t6, .int .i64 t7, .bool yw] t) ∧
    ((((w5.setCell ⟨w.heap.size, 1, none⟩ (.int .i64 j0)).setCell ⟨w.heap.size, 2, none⟩ (.int .i64 j1)).setCell ⟨w.heap.size, 3, none⟩ (.int .i64 j2)).setCell ⟨w.heap.size, 4, none⟩ (.int .i64 j3)).heap[w.heap.size + 1]? = some (.cells y s) ∧
    Below w.heap.size w ((((w5.setCell ⟨w.heap.size, 1, none⟩ (.int .i64 j0)).setCell ⟨w.heap.size, 2, none⟩ (.int .i64 j1)).setCell ⟨w.heap.size, 3, none⟩ (.int .i64 j2)).setCell ⟨w.heap.size, 4, none⟩ (.int .i64 j3)) := by
  subst hx
  rw [alloc_size, alloc_size] at hb
  have h0 := (hb.block w.heap.size (by omega)).trans ((Below.heap_alloc _ _ _ (by rw [alloc_size]; omega)).trans (heap_alloc_new w _))
  have h1 := (hb.block (w.heap.size + 1) (by omega)).trans (heap_two_new w _ _)
  refine ⟨?_, ?_, ?_⟩
  · have := setCell_row 4 (.int .i64 j3) (setCell_row 3 (.int .i64 j2) (setCell_row 2 (.int .i64 j1) (setCell_row 1 (.int .i64 j0) h0)))
    simpa using this
  · iterate 4 rw [Below.heap_setCell _ _ _ _ (by simp)]
    exact h1
  · have hbw : Below w.heap.size w w5 := (((Below.refl _ _).alloc (Nat.le_refl _) _).alloc (by simp) _).trans (hb.mono (by omega))
    exact (((hbw.setCell (by simp) _).setCell (by simp) _).setCell (by simp) _).setCell (by simp) _
def ReachPost (bw bf cap k : Nat) (fs : List Fr) (way known : Fr) (ch : Bool) (lv : Value) (w : World) (e : Ending) (w' : World) : Prop :=
  e = .returned (.bool true) ∧ Two bw bf w w' ∧ ((known.lo = List.zipWith joinN known.lo way.lo ∧ AllAt w' bf fs ∧ WalkAt w' bw lv bf fs.length cap ch) ∨
    (known.lo ≠ List.zipWith joinN known.lo way.lo ∧ AllAt w' bf (fs.set k { way with reached := true, lo := List.zipWith joinN known.lo way.lo }) ∧ WalkAt w' bw lv bf fs.length cap true))
theorem reach_join (bw bf cap k : Nat) (fs : List Fr) (way known : Fr) (ch : Bool) (lv : Value) (w : World) (hall : AllAt w bf fs) (hok : AllOk fs) (hk : fs[k]? = some known) (hway : FrOk way)
    (hwalk : WalkAt w bw lv bf fs.length cap ch) (hr : known.reached = true) (hne : bw ≠ bf) (hd : known.depth = way.depth) (hst : known.stk = way.stk) :
    Calls Tryz.prog 111 #[.pointer (some ⟨bw, 0, none⟩), .int .i64 k, .agg (frL way).toArray] w (ReachPost bw bf cap k fs way known ch lv w) := by
  have hkl : k < fs.length := (List.getElem?_eq_some_iff.1 hk).1
  have hkn : FrOk known := hok known (List.mem_of_getElem? hk)
  have HAL := hid hall
  have HWK := hid hwalk
  have w0 := cell_of_row w bw 0 _ _ _ hwalk
  have w1 := cell_of_row w bw 1 _ _ _ hwalk
  have w2 := cell_of_row w bw 2 _ _ _ hwalk
  simp only [List.getElem?_toArray, List.getElem?_cons_zero, List.getElem?_cons_succ] at w0 w1 w2
  have hbw := World.block_lt_of_cell? w _ w0
  have fw2 := frozen_of_row w bw 2 _ _ hwalk
  have c0 := hall.cell hok hk (j := 0) (by omega)
  have c1 := hall.cell hok hk (j := 1) (by omega)
  have c2 := hall.cell hok hk (j := 2) (by omega)
  have c3 := hall.cell hok hk (j := 3) (by omega)
  have c4 := hall.cell hok hk (j := 4) (by omega)
  have c5 := hall.cell hok hk (j := 5) (by omega)
  have c6 := hall.cell hok hk (j := 6) (by omega)
  have c7 := hall.cell hok hk (j := 7) (by omega)
  have c8 := hall.cell hok hk (j := 8) (by omega)
  have c9 := hall.cell hok hk (j := 9) (by omega)
  have c10 := hall.cell hok hk (j := 10) (by omega)
  have c11 := hall.cell hok hk (j := 11) (by omega)
  have c12 := hall.cell hok hk (j := 12) (by omega)
  have c13 := hall.cell hok hk (j := 13) (by omega)
  have c14 := hall.cell hok hk (j := 14) (by omega)
  have f0 := hall.frozen (k * 15)
  have f1 := hall.frozen (k * 15 + 1)
  have f2 := hall.frozen (k * 15 + 2)
  have f3 := hall.frozen (k * 15 + 3)
  have f4 := hall.frozen (k * 15 + 4)
  have f5 := hall.frozen (k * 15 + 5)
  have f6 := hall.frozen (k * 15 + 6)
  have f7 := hall.frozen (k * 15 + 7)
  have f8 := hall.frozen (k * 15 + 8)
  have f9 := hall.frozen (k * 15 + 9)
  have f10 := hall.frozen (k * 15 + 10)
  have f11 := hall.frozen (k * 15 + 11)
  have f12 := hall.frozen (k * 15 + 12)
  have f13 := hall.frozen (k * 15 + 13)
  have f14 := hall.frozen (k * 15 + 14)
  have hbf := World.block_lt_of_cell? w _ (c0.trans (by rfl : (frL known)[0]? = some (.bool known.reached)))
  simp only at hbw hbf
  obtain ⟨kr, klo, kd, kst, kw⟩ := known
  obtain ⟨h1, h2, h3⟩ := hkn
  simp only at h1 h2 hr
  subst hr
  obtain ⟨a, b, c, e, rfl⟩ := four h1
  obtain ⟨s0, s1, s2, s3, s4, s5, s6, s7, rfl⟩ := eight h2
  simp only [frL, List.map_cons, List.map_nil, List.cons_append, List.nil_append, numV, List.getElem?_cons_zero, List.getElem?_cons_succ] at c0 c1 c2 c3 c4 c5 c6 c7 c8 c9 c10 c11 c12 c13 c14
  rw [Nat.add_zero] at c0
  have HWAY := hid hway
  obtain ⟨yr, ylo, yd, yst, yw⟩ := way
  obtain ⟨g1, g2, g3⟩ := hway
  simp only at g1 g2 hd hst
  obtain ⟨a', b', c', e', rfl⟩ := four g1
  obtain ⟨t0, t1, t2, t3, t4, t5, t6, t7, rfl⟩ := eight g2
  simp only [frL, List.map_cons, List.map_nil, List.cons_append, List.nil_append, numV]
  have i0 : (0 : Int) ≤ (k : Int) := by omega
  have i1 : (k : Int) < (fs.length : Int) := by omega
  have hbw2 : bw ≤ w.heap.size := by omega
  have hbf2 : bf ≤ w.heap.size := by omega
  have d1 : decide ((k : Int) < 0) = false := by simp
  clear hall hwalk
  subst hd
  simp only [List.cons.injEq, and_true] at hst
  obtain ⟨rfl, rfl, rfl, rfl, rfl, rfl, rfl, rfl⟩ := hst
  have hjn := hid (fun W => flowJoined_any a b c e a' b' c' e' W)
  have HPS : Hid (∀ w', Two bw bf w w' → ([a, b, c, e] = [joinN a a', joinN b b', joinN c c', joinN e e'] ∧ AllAt w' bf fs ∧ WalkAt w' bw lv bf fs.length cap ch ∨
      [a, b, c, e] ≠ [joinN a a', joinN b b', joinN c c', joinN e e'] ∧ AllAt w' bf (fs.set k ⟨true, [joinN a a', joinN b b', joinN c c', joinN e e'], kd, [s0, s1, s2, s3, s4, s5, s6, s7], yw⟩) ∧ WalkAt w' bw lv bf fs.length cap true) →
      ReachPost bw bf cap k fs ⟨yr, [a', b', c', e'], kd, [s0, s1, s2, s3, s4, s5, s6, s7], yw⟩ ⟨true, [a, b, c, e], kd, [s0, s1, s2, s3, s4, s5, s6, s7], kw⟩ ch lv w (.returned (.bool true)) w') := hid (fun w' h1 h2 => ⟨rfl, h1, h2⟩)
  generalize joinN a a' = j0 at *
  generalize joinN b b' = j1 at *
  generalize joinN c c' = j2 at *
  generalize joinN e e' = j3 at *
  go_enter Tryz.func111, Tryz.ntmps111

  go_upto_region 8 with fail
  go_cut [6] (fun x6 wc => x6 = .bool false ∧ wc.heap[w.heap.size]? = some (.cells #[.bool true, .int .i64 j0, .int .i64 j1, .int .i64 j2, .int .i64 j3, .int .i64 kd, .int .i64 s0, .int .i64 s1, .int .i64 s2, .int .i64 s3, .int .i64 s4, .int .i64 s5, .int .i64 s6, .int .i64 s7, .bool yw] 125) ∧ wc.heap[w.heap.size + 1]? = some (.cells #[.bool true, .int .i64 a, .int .i64 b, .int .i64 c, .int .i64 e, .int .i64 kd, .int .i64 s0, .int .i64 s1, .int .i64 s2, .int .i64 s3, .int .i64 s4, .int .i64 s5, .int .i64 s6, .int .i64 s7, .bool kw] 125) ∧ Below w.heap.size w wc)
  case first =>
    go_wp2_with fail
    refine (hjn.out _).mono ?_
    clear hjn
    intro x w5 hh
    obtain ⟨hx5, hb5⟩ := hh
    subst x
    have hr5 := hid (four_set j0 j1 j2 j3 rfl hb5)
    obtain ⟨hc5, hf5⟩ := bcell hb5
    have hz5 := hb5.size
    simp at hc5 hf5 hz5
    go_wp2_with fail
    go_meet
    exact ⟨rfl, hr5.out.1, hr5.out.2.1, hr5.out.2.2⟩
  case rest =>
    obtain ⟨rfl, hR1, hR2, hB⟩ := hcut
    have hA : AllAt wc bf fs := (hB.block bf hbf).trans HAL.out
    have hW : WalkAt wc bw lv bf fs.length cap ch := (hB.block bw hbw).trans HWK.out
    clear hjn c0 c1 c2 c3 c4 c5 c6 c7 c8 c9 c10 c11 c12 c13 c14 f0 f1 f2 f3 f4 f5 f6 f7 f8 f9 f10 f11 f12 f13 f14 w0 w1 w2 fw2
    have m0 := cell_of_row wc w.heap.size 0 _ _ _ hR1
    have m1 := cell_of_row wc w.heap.size 1 _ _ _ hR1
    have m2 := cell_of_row wc w.heap.size 2 _ _ _ hR1
    have m3 := cell_of_row wc w.heap.size 3 _ _ _ hR1
    have m4 := cell_of_row wc w.heap.size 4 _ _ _ hR1
    have m5 := cell_of_row wc w.heap.size 5 _ _ _ hR1
    have m6 := cell_of_row wc w.heap.size 6 _ _ _ hR1
    have m7 := cell_of_row wc w.heap.size 7 _ _ _ hR1
    have m8 := cell_of_row wc w.heap.size 8 _ _ _ hR1
    have m9 := cell_of_row wc w.heap.size 9 _ _ _ hR1
    have m10 := cell_of_row wc w.heap.size 10 _ _ _ hR1
    have m11 := cell_of_row wc w.heap.size 11 _ _ _ hR1
    have m12 := cell_of_row wc w.heap.size 12 _ _ _ hR1
    have m13 := cell_of_row wc w.heap.size 13 _ _ _ hR1
    have m14 := cell_of_row wc w.heap.size 14 _ _ _ hR1
    have p0 := cell_of_row wc (w.heap.size + 1) 0 _ _ _ hR2
    have p1 := cell_of_row wc (w.heap.size + 1) 1 _ _ _ hR2
    have p2 := cell_of_row wc (w.heap.size + 1) 2 _ _ _ hR2
    have p3 := cell_of_row wc (w.heap.size + 1) 3 _ _ _ hR2
    have p4 := cell_of_row wc (w.heap.size + 1) 4 _ _ _ hR2
    have c0 := hA.cell hok hk (j := 0) (by omega)
    have c1 := hA.cell hok hk (j := 1) (by omega)
    have c2 := hA.cell hok hk (j := 2) (by omega)
    have c3 := hA.cell hok hk (j := 3) (by omega)
    have c4 := hA.cell hok hk (j := 4) (by omega)
    have c5 := hA.cell hok hk (j := 5) (by omega)
    have c6 := hA.cell hok hk (j := 6) (by omega)
    have c7 := hA.cell hok hk (j := 7) (by omega)
    have c8 := hA.cell hok hk (j := 8) (by omega)
    have c9 := hA.cell hok hk (j := 9) (by omega)
    have c10 := hA.cell hok hk (j := 10) (by omega)
    have c11 := hA.cell hok hk (j := 11) (by omega)
    have c12 := hA.cell hok hk (j := 12) (by omega)
    have c13 := hA.cell hok hk (j := 13) (by omega)
    have c14 := hA.cell hok hk (j := 14) (by omega)
    have f0 := hA.frozen (k * 15)
    have f1 := hA.frozen (k * 15 + 1)
    have f2 := hA.frozen (k * 15 + 2)
    have f3 := hA.frozen (k * 15 + 3)
    have f4 := hA.frozen (k * 15 + 4)
    have f5 := hA.frozen (k * 15 + 5)
    have f6 := hA.frozen (k * 15 + 6)
    have f7 := hA.frozen (k * 15 + 7)
    have f8 := hA.frozen (k * 15 + 8)
    have f9 := hA.frozen (k * 15 + 9)
    have f10 := hA.frozen (k * 15 + 10)
    have f11 := hA.frozen (k * 15 + 11)
    have f12 := hA.frozen (k * 15 + 12)
    have f13 := hA.frozen (k * 15 + 13)
    have f14 := hA.frozen (k * 15 + 14)
    rw [Nat.add_zero] at c0
    have v1 := cell_of_row wc bw 1 _ _ _ hW
    simp only [frL, List.map_cons, List.map_nil, List.cons_append, List.nil_append, numV, List.getElem?_toArray, List.getElem?_cons_zero, List.getElem?_cons_succ] at v1 m0 m1 m2 m3 m4 m5 m6 m7 m8 m9 m10 m11 m12 m13 m14 p0 p1 p2 p3 p4 c0 c1 c2 c3 c4 c5 c6 c7 c8 c9 c10 c11 c12 c13 c14
    have HA := hid hA
    have HW := hid hW
    clear hA hW hR1 hR2
    by_cases hsame : a = j0 ∧ b = j1 ∧ c = j2 ∧ e = j3
    · obtain ⟨q0, q1, q2, q3⟩ := hsame
      have y0 : ((a : Int) == (j0 : Int)) = true := by simp; omega
      have y1 : ((b : Int) == (j1 : Int)) = true := by simp; omega
      have y2 : ((c : Int) == (j2 : Int)) = true := by simp; omega
      have y3 : ((e : Int) == (j3 : Int)) = true := by simp; omega
      have HQ : Hid ([a, b, c, e] = [j0, j1, j2, j3]) := hid (by rw [q0, q1, q2, q3])
      clear q0 q1 q2 q3
      go_wp2_with fail
      go_ret
      exact HPS.out _ (.of_below hB) (.inl ⟨HQ.out, HA.out, HW.out⟩)
    · have HQ : Hid ([a, b, c, e] ≠ [j0, j1, j2, j3]) := hid (by
        intro h
        simp only [List.cons.injEq, and_true] at h
        exact hsame h)
      clear hsame
      go_wp2_with fail
      · go_cut [6] (fun x6 wd => x6 = .bool false ∧ AllAt wd bf (fs.set k ⟨true, [j0, j1, j2, j3], kd, [s0, s1, s2, s3, s4, s5, s6, s7], yw⟩) ∧ WalkAt wd bw lv bf fs.length cap ch ∧ Two bw bf wc wd)
        case first =>
          go_region
          go_wp2_with fail
          go_meet
          exact ⟨rfl, reach_put2 true yw j0 j1 j2 j3 s0 s1 s2 s3 s4 s5 s6 s7 HA.out hok hkl HW.out hne h3⟩
        case rest =>
          obtain ⟨rfl, hA2, hW2, hT2⟩ := hcut
          have z2 := cell_of_row wc bw 2 _ _ _ hW2
          simp only [List.getElem?_toArray, List.getElem?_cons_zero, List.getElem?_cons_succ] at z2
          have u2 := frozen_of_row wc bw 2 _ _ hW2
          have HA2 := hid hA2
          have HW2 := hid hW2
          have HT2 := hid ((Two.of_below (a := bw) (b := bf) hB).trans hT2)
          clear hA2 hW2 hT2
          go_wp2_with fail
          go_ret
          refine HPS.out _ HT2.out.set (.inr ⟨HQ.out, ?_, by have := setCell_row 2 (.bool true) HW2.out; simpa [WalkAt] using this⟩)
          unfold AllAt
          rw [Below.heap_setCell _ _ _ _ (Ne.symm hne)]
          exact HA2.out
      · have hsm := ‹(!((a : Int) == (j0 : Int))) = false ∧ _›
        exfalso
        apply HQ.out
        simp only [Bool.not_eq_false', beq_iff_eq] at hsm
        obtain ⟨q0, q1, q2, q3⟩ := hsm
        rw [show a = j0 by omega, show b = j1 by omega, show c = j2 by omega, show e = j3 by omega]
end Go.Proofs.YtdmdpindonghdaaGreatDoor
namespace Go.Proofs.YtdmdpindonghdaaGreatDoor
open Go.RowKit
def doneB (ph hd i : Nat) : Bool := ph == 1 || (ph == 2 && decide (hd ≤ i))
def freshC (d : Bool) : RC := ⟨true, d, d, false, -1, -1, 0⟩
/-- A whole cell is written. -/
theorem HpAt.put {w : World} {b gC : Nat} {cC : CK} {base ph hd k : Nat} {cs : List RC} (h : HpAt w b gC cC base cs ph hd) (hk : k < cs.length) (u r l wk : Bool) (x y z : Int) :
    HpAt (((((((w.setCell ⟨gC, k * 7, none⟩ (.bool u)).setCell ⟨gC, k * 7 + 1, none⟩ (.bool r)).setCell ⟨gC, k * 7 + 2, none⟩ (.bool l)).setCell ⟨gC, k * 7 + 3, none⟩ (.bool wk)).setCell ⟨gC, k * 7 + 4, none⟩ (.int .i64 x)).setCell ⟨gC, k * 7 + 5, none⟩ (.int .i64 y)).setCell ⟨gC, k * 7 + 6, none⟩ (.int .i64 z)) b gC cC base (cs.set k ⟨u, r, l, wk, x, y, z⟩) ph hd := by
  obtain ⟨c, g0⟩ : ∃ c, cs[k] = c := ⟨_, rfl⟩
  obtain ⟨u0, r0, l0, w0, x0, y0, z0⟩ := c
  have h0 := h.upd (j := 0) (v := .bool u) (c := ⟨u, r0, l0, w0, x0, y0, z0⟩) hk (by omega) (by rw [g0]; rfl)
  rw [Nat.add_zero] at h0
  have h1 := h0.upd (k := k) (j := 1) (v := .bool r) (c := ⟨u, r, l0, w0, x0, y0, z0⟩) (by simpa using hk) (by omega) (by simp [rcCells])
  have h2 := h1.upd (k := k) (j := 2) (v := .bool l) (c := ⟨u, r, l, w0, x0, y0, z0⟩) (by simpa using hk) (by omega) (by simp [rcCells])
  have h3 := h2.upd (k := k) (j := 3) (v := .bool wk) (c := ⟨u, r, l, wk, x0, y0, z0⟩) (by simpa using hk) (by omega) (by simp [rcCells])
  have h4 := h3.upd (k := k) (j := 4) (v := .int .i64 x) (c := ⟨u, r, l, wk, x, y0, z0⟩) (by simpa using hk) (by omega) (by simp [rcCells])
  have h5 := h4.upd (k := k) (j := 5) (v := .int .i64 y) (c := ⟨u, r, l, wk, x, y, z0⟩) (by simpa using hk) (by omega) (by simp [rcCells])
  have h6 := h5.upd (k := k) (j := 6) (v := .int .i64 z) (c := ⟨u, r, l, wk, x, y, z⟩) (by simpa using hk) (by omega) (by simp [rcCells])
  simpa using h6
theorem begun_any (b gC : Nat) (cC : CK) (base ph hd i : Nat) (cs : List RC) (w : World) (h : HpAt w b gC cC base cs ph hd) (hi : i < cs.length) :
    Calls Tryz.prog 80 #[.pointer (some ⟨b, 10, none⟩), .int .i64 i] w fun e w' => e = .returned (.int .i64 i) ∧ HpAt w' b gC cC base (cs.set i (freshC (doneB ph hd i))) ph hd ∧ Only gC w w' := by
  have h0 := h.c0
  have h1 := h.c1
  have h2 := h.c2
  have hc := fun j hj => h.cell hi (j := j) hj
  have c0 := hc 0 (by omega)
  have c1 := hc 1 (by omega)
  have c2 := hc 2 (by omega)
  have c3 := hc 3 (by omega)
  have c4 := hc 4 (by omega)
  have c5 := hc 5 (by omega)
  have c6 := hc 6 (by omega)
  rw [Nat.add_zero] at c0
  simp only [rcCells, List.getElem?_cons_zero, List.getElem?_cons_succ] at c0 c1 c2 c3 c4 c5 c6
  have f0 := h.frozen (i * 7)
  have f1 := h.frozen (i * 7 + 1)
  have f2 := h.frozen (i * 7 + 2)
  have f3 := h.frozen (i * 7 + 3)
  have f4 := h.frozen (i * 7 + 4)
  have f5 := h.frozen (i * 7 + 5)
  have f6 := h.frozen (i * 7 + 6)
  have i0 : (0 : Int) ≤ (i : Int) := by omega
  have i1 : (i : Int) < (cs.length : Int) := by omega
  have HP := hid (fun d => h.put hi true d d false (-1) (-1) 0)
  clear h hc
  have HO : Hid (∀ (u0 u1 u2 u3 u4 u5 u6 : Value), Only gC w (((((((w.setCell ⟨gC, i * 7, none⟩ u0).setCell ⟨gC, i * 7 + 1, none⟩ u1).setCell ⟨gC, i * 7 + 2, none⟩ u2).setCell ⟨gC, i * 7 + 3, none⟩ u3).setCell ⟨gC, i * 7 + 4, none⟩ u4).setCell ⟨gC, i * 7 + 5, none⟩ u5).setCell ⟨gC, i * 7 + 6, none⟩ u6)) := hid (fun u0 u1 u2 u3 u4 u5 u6 => (((((((Only.refl _ _).set _ _).set _ _).set _ _).set _ _).set _ _).set _ _).set _ _)
  by_cases e1 : ph = 1
  · have HD : Hid (doneB ph hd i = true) := hid (by simp [doneB, e1])
    have q1 : ((ph : Int) == 1) = true := by simp; omega
    clear e1
    go_enter Tryz.func80, Tryz.ntmps80
    go_wp2_with fail
    go_ret
    exact ⟨rfl, by rw [HD.out]; exact HP.out true, HO.out _ _ _ _ _ _ _⟩
  have q1 : ((ph : Int) == 1) = false := by simp; omega
  by_cases e2 : ph = 2
  · have q2 : ((ph : Int) == 2) = true := by simp; omega
    by_cases e3 : hd ≤ i
    · have HD : Hid (doneB ph hd i = true) := hid (by simp [doneB, e2, e3])
      have q3 : (hd : Int) ≤ (i : Int) := by omega
      clear e1 e2 e3
      go_enter Tryz.func80, Tryz.ntmps80
      go_wp2_with fail
      go_ret
      exact ⟨rfl, by rw [HD.out]; exact HP.out true, HO.out _ _ _ _ _ _ _⟩
    · have HD : Hid (doneB ph hd i = false) := hid (by simp [doneB, e2, e3])
      have q3 : ¬ (hd : Int) ≤ (i : Int) := by omega
      clear e1 e2 e3
      go_enter Tryz.func80, Tryz.ntmps80
      go_wp2_with fail
      go_ret
      exact ⟨rfl, by rw [HD.out]; exact HP.out false, HO.out _ _ _ _ _ _ _⟩
  · have HD : Hid (doneB ph hd i = false) := hid (by simp [doneB, e1, e2])
    have q2 : ((ph : Int) == 2) = false := by simp; omega
    clear e1 e2
    go_enter Tryz.func80, Tryz.ntmps80
    go_wp2_with fail
    go_ret
    exact ⟨rfl, by rw [HD.out]; exact HP.out false, HO.out _ _ _ _ _ _ _⟩
def setAB (n : Nat) (s : Int) (c : RC) : RC := if n = 0 then { c with a := s } else { c with b := s }
def storeC (cs : List RC) (ph r n : Nat) (s : Int) : List RC := if ph = 1 then reachC (cs.modify r (setAB n s)) [s] else cs.modify r (setAB n s)
theorem Two.of_only {g : Nat} {w w' : World} (h : Only g w w') : Two g g w w' := ⟨h.os, h.tape, h.output, by rw [h.size]; exact Nat.le_refl _, fun k _ h1 _ => h.block k h1⟩
theorem hstore_any (b gC : Nat) (cC : CK) (base ph hd r n : Nat) (s : Int) (cs : List RC) (w : World) (h : HpAt w b gC cC base cs ph hd) (hr : r < cs.length) (hs : s < (cs.length : Int)) :
    Calls Tryz.prog 113 #[.pointer (some ⟨b, 10, none⟩), .int .i64 r, .int .i64 n, .int .i64 s] w fun e w' => e = .returned (.tuple #[]) ∧ HpAt w' b gC cC base (storeC cs ph r n s) ph hd ∧ Two gC gC w w' := by
  have h0 := h.c0
  have h1 := h.c1
  have hc := fun j hj => h.cell hr (j := j) hj
  have c4 := hc 4 (by omega)
  have c5 := hc 5 (by omega)
  simp only [rcCells, List.getElem?_cons_zero, List.getElem?_cons_succ] at c4 c5
  have f4 := h.frozen (r * 7 + 4)
  have f5 := h.frozen (r * 7 + 5)
  have i0 : (0 : Int) ≤ (r : Int) := by omega
  have i1 : (r : Int) < (cs.length : Int) := by omega
  have hgz := (h.row.lt gC rfl).2
  have h4 : Hid (HpAt (w.setCell ⟨gC, r * 7 + 4, none⟩ (.int .i64 s)) b gC cC base (cs.set r { cs[r] with a := s }) ph hd) := hid (h.upd hr (by omega) rfl)
  have h5 : Hid (HpAt (w.setCell ⟨gC, r * 7 + 5, none⟩ (.int .i64 s)) b gC cC base (cs.set r { cs[r] with b := s }) ph hd) := hid (h.upd hr (by omega) rfl)
  have HM : Hid (cs.modify r (setAB n s) = cs.set r (setAB n s cs[r])) := hid (modify_set hr _)
  clear hc
  -- what follows the store, in whatever world
  have tail : ∀ (W : World) (cs' : List RC), HpAt W b gC cC base cs' ph hd → cs'.length = cs.length → Only gC w W → gC < W.heap.size →
      Hid (Calls Tryz.prog 74 #[.pointer (some ⟨b, 10, none⟩), .slice (some ⟨W.heap.size, 0, none⟩) 1 1] (W.alloc (.cells #[.int .i64 s] 3)) fun e w' => e = .returned (.tuple #[]) ∧ HpAt w' b gC cC base (reachC cs' [s]) ph hd ∧ Only gC (W.alloc (.cells #[.int .i64 s] 3)) w') := fun W cs' hW hl _ hg => hid (by
    have := hreach_any b gC cC base ph hd cs' [s] ⟨W.heap.size, 0, none⟩ 1 (W.alloc (.cells #[.int .i64 s] 3)) (hW.below ((Below.refl _ _).alloc (Nat.le_refl _) _)) (by simp) (by simp; omega) (by simp only; omega) (fun j x hj => by
      cases j with
      | zero =>
        simp at hj
        subst hj
        rw [addr_add]
        simp
      | succ j => simp at hj)
    exact this)
  have HT := hid tail
  clear tail h
  have O4 : Hid (Only gC w (w.setCell ⟨gC, r * 7 + 4, none⟩ (.int .i64 s))) := hid ((Only.refl _ _).set _ _)
  have O5 : Hid (Only gC w (w.setCell ⟨gC, r * 7 + 5, none⟩ (.int .i64 s))) := hid ((Only.refl _ _).set _ _)
  by_cases e1 : ph = 1
  · have q1 : ((ph : Int) == 1) = true := by simp; omega
    have HS : Hid (storeC cs ph r n s = reachC (cs.modify r (setAB n s)) [s]) := hid (if_pos e1)
    clear e1
    by_cases en : n = 0
    · have qn : ((n : Int) == 0) = true := by simp; omega
      have HE : Hid (cs.modify r (setAB n s) = cs.set r { cs[r] with a := s }) := hid (by rw [HM.out]; unfold setAB; rw [if_pos en])
      have ht := HT.out _ _ h4.out (by simp) O4.out (by simpa [World.setCell] using hgz)
      have k1 := h4.out.c1
      have hsz : (w.setCell ⟨gC, r * 7 + 4, none⟩ (.int .i64 s)).heap.size = w.heap.size := by simp [World.setCell]
      rw [hsz] at ht
      clear en hsz
      go_enter Tryz.func113, Tryz.ntmps113
      go_wp2_with fail
      refine ht.out.mono ?_
      clear ht
      intro x w5 hh
      obtain ⟨hx, hH5, hO5⟩ := hh
      subst x
      have HH5 := hid hH5
      have HO5 := hid hO5
      clear hH5 hO5
      go_wp2_with fail
      go_end0
      refine ⟨rfl, by rw [HS.out, HE.out]; exact HH5.out, ?_⟩
      exact (Two.alloc (Two.of_only O4.out) _).trans (Two.of_only HO5.out)
    · have qn : ((n : Int) == 0) = false := by simp; omega
      have HE : Hid (cs.modify r (setAB n s) = cs.set r { cs[r] with b := s }) := hid (by rw [HM.out]; unfold setAB; rw [if_neg en])
      have ht := HT.out _ _ h5.out (by simp) O5.out (by simpa [World.setCell] using hgz)
      have k1 := h5.out.c1
      have hsz : (w.setCell ⟨gC, r * 7 + 5, none⟩ (.int .i64 s)).heap.size = w.heap.size := by simp [World.setCell]
      rw [hsz] at ht
      clear en hsz
      go_enter Tryz.func113, Tryz.ntmps113
      go_wp2_with fail
      refine ht.out.mono ?_
      clear ht
      intro x w5 hh
      obtain ⟨hx, hH5, hO5⟩ := hh
      subst x
      have HH5 := hid hH5
      have HO5 := hid hO5
      clear hH5 hO5
      go_wp2_with fail
      go_end0
      refine ⟨rfl, by rw [HS.out, HE.out]; exact HH5.out, ?_⟩
      exact (Two.alloc (Two.of_only O5.out) _).trans (Two.of_only HO5.out)
  · have q1 : ((ph : Int) == 1) = false := by simp; omega
    have HS : Hid (storeC cs ph r n s = cs.modify r (setAB n s)) := hid (if_neg e1)
    clear e1
    by_cases en : n = 0
    · have qn : ((n : Int) == 0) = true := by simp; omega
      have HE : Hid (cs.modify r (setAB n s) = cs.set r { cs[r] with a := s }) := hid (by rw [HM.out]; unfold setAB; rw [if_pos en])
      have k1 := h4.out.c1
      clear en
      go_enter Tryz.func113, Tryz.ntmps113
      go_wp2_with fail
      go_end0
      exact ⟨rfl, by rw [HS.out, HE.out]; exact h4.out, Two.of_only O4.out⟩
    · have qn : ((n : Int) == 0) = false := by simp; omega
      have HE : Hid (cs.modify r (setAB n s) = cs.set r { cs[r] with b := s }) := hid (by rw [HM.out]; unfold setAB; rw [if_neg en])
      have k1 := h5.out.c1
      clear en
      go_enter Tryz.func113, Tryz.ntmps113
      go_wp2_with fail
      go_end0
      exact ⟨rfl, by rw [HS.out, HE.out]; exact h5.out, Two.of_only O5.out⟩
/-- A weak cell looks no longer at what was not reached. -/
def fgB (cs : List RC) (c : RC) : Bool := c.used && (c.weak && (decide (0 ≤ c.a) && (colR (cs.getD c.a.toNat ⟨false, false, false, false, 0, 0, 0⟩) == 1)))
def fgC (cs : List RC) (c : RC) : RC := if fgB cs c = true then { c with a := -1 } else c
def forgetC (cs : List RC) : List RC := cs.map (fgC cs)
def midC (cs : List RC) (k : Nat) : List RC := (cs.take k).map (fgC cs) ++ cs.drop k
theorem midC_len (cs : List RC) (k : Nat) : (midC cs k).length = cs.length := by simp [midC]; omega
theorem midC_get {cs : List RC} {k : Nat} (h : k < cs.length) : (midC cs k)[k]'(by rw [midC_len]; exact h) = cs[k] := by
  unfold midC
  rw [List.getElem_append_right (by simp; omega)]
  simp [Nat.min_eq_left (Nat.le_of_lt h)]
theorem midC_next {cs : List RC} {k : Nat} (h : k < cs.length) : midC cs (k + 1) = (midC cs k).set k (fgC cs cs[k]) := by
  unfold midC
  rw [List.take_succ_eq_append_getElem h, List.map_append, List.drop_eq_getElem_cons h, List.set_append_right _ _ (by simp; omega), show k - ((cs.take k).map (fgC cs)).length = 0 by simp; omega, List.set_cons_zero, List.append_assoc]
  rfl
theorem fgC_col (cs : List RC) (c : RC) : colR (fgC cs c) = colR c := by
  unfold fgC
  split
  · rfl
  · rfl
theorem midC_col {cs : List RC} {k j : Nat} (h : j < cs.length) : colR ((midC cs k)[j]'(by rw [midC_len]; exact h)) = colR cs[j] := by
  unfold midC
  by_cases hj : j < (cs.take k).length
  · rw [List.getElem_append_left (by simpa using hj), List.getElem_map, fgC_col]
    simp
  · rw [List.getElem_append_right (by simpa using hj)]
    simp only [List.length_map]
    rw [List.getElem_drop]
    simp only [List.length_take] at hj ⊢
    congr 2
    omega
theorem forget_any (b gC : Nat) (cC : CK) (base ph hd : Nat) (cs : List RC) (w : World) (h : HpAt w b gC cC base cs ph hd) (hl : cs.length ≤ 1000) (ha : ∀ c ∈ cs, c.a < (cs.length : Int)) :
    Calls Tryz.prog 77 #[.pointer (some ⟨b, 10, none⟩)] w fun e w' => e = .returned (.tuple #[]) ∧ HpAt w' b gC cC base (forgetC cs) ph hd ∧ Two gC gC w w' := by
  have H := hid h
  have HA := hid ha
  have h0' := h.c0
  clear h ha
  go_enter Tryz.func77, Tryz.ntmps77
  go_wp2_with fail
  go_loopg [2] cs.length (fun g x w' => ∃ k : Nat, k ≤ cs.length ∧ g = cs.length - k ∧ x = .int .i64 k ∧ HpAt w' b gC cC base (midC cs k) ph hd ∧ Two gC gC w w')
  case atStart => exact ⟨0, by omega, by omega, rfl, by simpa [midC] using H.out, Two.refl _ _ _⟩
  case round =>
    obtain ⟨k, hk, hg, rfl, hh, ht⟩ := hrel
    clear h0'
    have h0 := hh.c0
    rw [midC_len] at h0
    have HH := hid hh
    have HT := hid ht
    clear hh ht
    rcases Nat.lt_or_ge k cs.length with hlt | hge
    · have d0 : (0 : Int) ≤ (k : Int) := by omega
      have d1 : (k : Int) < (cs.length : Int) := by omega
      have hkm : k < (midC cs k).length := by rw [midC_len]; exact hlt
      have hbz := World.block_lt_of_cell? wr _ h0
      have hgz := (HH.out.row.lt gC rfl).2
      simp only at hbz
      have hc := fun j hj => HH.out.cell hkm (j := j) hj
      simp only [midC_get hlt] at hc
      have c0 := hc 0 (by omega)
      have c1 := hc 1 (by omega)
      have c2 := hc 2 (by omega)
      have c3 := hc 3 (by omega)
      have c4 := hc 4 (by omega)
      have c5 := hc 5 (by omega)
      have c6 := hc 6 (by omega)
      rw [Nat.add_zero] at c0
      have hak := HA.out cs[k] (List.getElem_mem hlt)
      have HNX := hid (midC_next hlt)
      have HG : Hid ((midC cs k)[k] = cs[k]) := hid (midC_get hlt)
      have HFB : Hid (fgC cs cs[k] = if fgB cs cs[k] = true then { cs[k] with a := -1 } else cs[k]) := hid rfl
      have HSS : Hid ((midC cs k).set k cs[k] = midC cs k) := hid (by rw [← midC_get hlt, List.set_getElem_self])
      clear hc
      generalize hck : cs[k] = c at *
      obtain ⟨u, r, lk, wk, a, b', nn⟩ := c
      simp only [rcCells, List.getElem?_cons_zero, List.getElem?_cons_succ] at c0 c1 c2 c3 c4 c5 c6
      simp only at hak
      have stay : fgB cs ⟨u, r, lk, wk, a, b', nn⟩ = false → Hid (midC cs (k + 1) = midC cs k) := fun hf => hid (by rw [HNX.out, HFB.out, hf, if_neg (by simp), HSS.out])
      have HST := hid stay
      clear stay hck
      have HAL : Hid (HpAt (wr.alloc (.cells #[.bool u, .bool r, .bool lk, .bool wk, .int .i64 a, .int .i64 b', .int .i64 nn] 109)) b gC cC base (midC cs k) ph hd) := hid (HH.out.below ((Below.refl _ _).alloc (Nat.le_refl _) _))
      have HTA : Hid (Two gC gC w (wr.alloc (.cells #[.bool u, .bool r, .bool lk, .bool wk, .int .i64 a, .int .i64 b', .int .i64 nn] 109))) := hid (HT.out.alloc _)
      cases u
      · have HE := HST.out (by simp [fgB])
        go_wp2_with fail
        go_roundg (cs.length - (k + 1))
        case measure => omega
        case rel => exact ⟨k + 1, by omega, rfl, by go_num, by rw [HE.out]; exact HAL.out, HTA.out⟩
      cases wk
      · have HE := HST.out (by simp [fgB])
        go_wp2_with fail
        go_roundg (cs.length - (k + 1))
        case measure => omega
        case rel => exact ⟨k + 1, by omega, rfl, by go_num, by rw [HE.out]; exact HAL.out, HTA.out⟩
      by_cases han : 0 ≤ a
      · obtain ⟨q, hq⟩ : ∃ q : Nat, a = (q : Int) := ⟨a.toNat, by omega⟩
        subst hq
        have hql : q < cs.length := by omega
        have hqm : q < (midC cs k).length := by rw [midC_len]; exact hql
        have q0 : (0 : Int) ≤ (q : Int) := by omega
        have q1 : (q : Int) < (cs.length : Int) := hak
        have hm := fun j hj => HH.out.cell hqm (j := j) hj
        have m0 := hm 0 (by omega)
        have m1 := hm 1 (by omega)
        have m2 := hm 2 (by omega)
        have m3 := hm 3 (by omega)
        have m4 := hm 4 (by omega)
        have m5 := hm 5 (by omega)
        have m6 := hm 6 (by omega)
        rw [Nat.add_zero] at m0
        have hcol := hid (fun W => colour_any ((midC cs k)[q]) W)
        rw [midC_col hql] at hcol
        have HFQ : Hid (fgB cs ⟨true, r, lk, true, (q : Int), b', nn⟩ = (colR cs[q] == 1)) := hid (by simp [fgB, List.getD_eq_getElem?_getD, List.getElem?_eq_getElem hql])
        clear hm
        generalize (midC cs k)[q] = d at *
        generalize colR cs[q] = co at *
        obtain ⟨du, dr, dl, dw, da, db, dn⟩ := d
        simp only [rcCells, List.getElem?_cons_zero, List.getElem?_cons_succ] at m0 m1 m2 m3 m4 m5 m6 hcol
        go_upto_region 5 with fail
        go_region_law ((go_simp; go_at_call 75; refine (hcol.out _).mono ?_; intro x w9 hh; obtain ⟨hx9, hb9⟩ := hh; subst hx9; dsimp only))
        all_goals
          have hb9' : Below (wr.alloc (.cells #[.bool true, .bool r, .bool lk, .bool true, .int .i64 (q : Int), .int .i64 b', .int .i64 nn] 109)).heap.size (wr.alloc (.cells #[.bool true, .bool r, .bool lk, .bool true, .int .i64 (q : Int), .int .i64 b', .int .i64 nn] 109)) w9 := ⟨hb9.os, hb9.tape, hb9.output, hb9.size, hb9.block⟩
          have HH9 : Hid (HpAt w9 b gC cC base (midC cs k) ph hd) := hid (HAL.out.below hb9')
          have HT9 : Hid (Two gC gC w w9) := hid (HTA.out.trans (Two.of_below hb9'))
          have k0 := HH9.out.c0
          rw [midC_len] at k0
          have k4 := HH9.out.cell hkm (j := 4) (by omega)
          rw [HG.out] at k4
          simp only [rcCells, List.getElem?_cons_zero, List.getElem?_cons_succ] at k4
          have kf := HH9.out.frozen (k * 7 + 4)
          clear hb9 hb9' c0 c1 c2 c3 c4 c5 c6 m0 m1 m2 m3 m4 m5 m6 hcol h0
          by_cases h1 : co = 1
          · have q2 : ((co : Int) == 1) = true := by simp; omega
            have HE : Hid (midC cs (k + 1) = (midC cs k).set k ⟨true, r, lk, true, -1, b', nn⟩) := hid (by rw [HNX.out, HFB.out, HFQ.out, h1]; rfl)
            have HU : Hid (HpAt (w9.setCell ⟨gC, k * 7 + 4, none⟩ (.int .i64 (-1))) b gC cC base ((midC cs k).set k ⟨true, r, lk, true, -1, b', nn⟩) ph hd) := hid (HH9.out.upd hkm (by omega) (by rw [HG.out]; rfl))
            clear h1
            go_wp2_with fail
            go_roundg (cs.length - (k + 1))
            case measure => omega
            case rel => exact ⟨k + 1, by omega, rfl, by go_num, by rw [HE.out]; exact HU.out, HT9.out.setB _ _⟩
          · have q2 : ((co : Int) == 1) = false := by simp; omega
            have HE := HST.out (by rw [HFQ.out]; simp [h1])
            clear h1
            go_wp2_with fail
            go_roundg (cs.length - (k + 1))
            case measure => omega
            case rel => exact ⟨k + 1, by omega, rfl, by go_num, by rw [HE.out]; exact HH9.out, HT9.out⟩
      · have HE := HST.out (by simp [fgB]; intro h; omega)
        have han' : ¬ 0 ≤ a := han
        go_wp2_with fail
        go_roundg (cs.length - (k + 1))
        case measure => omega
        case rel => exact ⟨k + 1, by omega, rfl, by go_num, by rw [HE.out]; exact HAL.out, HTA.out⟩
    · have d1 : ¬ (k : Int) < (cs.length : Int) := by omega
      go_wp2_with fail
      go_end0
      refine ⟨rfl, ?_, HT.out⟩
      have := HH.out
      unfold midC at this
      rw [List.take_of_length_le hge, List.drop_of_length_le hge, List.append_nil] at this
      exact this
/-- A list of references that is handed on, apart from the cells. -/
def RefsAt (w : World) (gC : Nat) (v : Value) (rs : List Int) : Prop :=
  (v = .slice none 0 0 ∧ rs = []) ∨ ∃ a ca, v = .slice (some a) rs.length ca ∧ a.block ≠ gC ∧ a.block < w.heap.size ∧ ∀ (j : Nat) (x : Int), rs[j]? = some x → w.cell? (a.add j) = some (.int .i64 x)
theorem RefsAt.slice {w : World} {gC : Nat} {v : Value} {rs : List Int} (h : RefsAt w gC v rs) : ∃ p cap, v = .slice p rs.length cap := by
  rcases h with ⟨h1, h2⟩ | ⟨a, cap, hv, _⟩
  · exact ⟨none, 0, by rw [h1, h2]; rfl⟩
  · exact ⟨_, cap, hv⟩
theorem hreach_v (b gC : Nat) (cC : CK) (base ph hd : Nat) (cs : List RC) (rs : List Int) (v : Value) (w : World) (h : HpAt w b gC cC base cs ph hd) (hrl : rs.length ≤ 1000) (hr : ∀ r ∈ rs, r < (cs.length : Int)) (hv : RefsAt w gC v rs) :
    Calls Tryz.prog 74 #[.pointer (some ⟨b, 10, none⟩), v] w fun e w' => e = .returned (.tuple #[]) ∧ HpAt w' b gC cC base (reachC cs rs) ph hd ∧ Only gC w w' := by
  rcases hv with ⟨h1, h2⟩ | ⟨a, ca, h1, h2, _, h3⟩
  · subst h1
    subst h2
    have H := hid h
    clear h hr
    go_enter Tryz.func74, Tryz.ntmps74
    go_wp2_with fail
    go_loopg [4] 1 (fun g x w' => x = .int .i64 0 ∧ w' = w)
    case atStart => exact ⟨rfl, rfl⟩
    case round =>
      obtain ⟨rfl, hw⟩ := hrel
      subst hw
      go_wp2_with fail
      go_end0
      exact ⟨rfl, H.out, Only.refl _ _⟩
  · subst h1
    exact hreach_any b gC cC base ph hd cs rs a ca w h hrl hr h2 h3
theorem row_11 (r : Array Value) (a b c : Value) : ((r.setIfInBounds 11 a).setIfInBounds 12 b).setIfInBounds 11 c = (r.setIfInBounds 11 c).setIfInBounds 12 b := by
  apply Array.toList_inj.1
  simp only [Array.toList_setIfInBounds]
  rw [List.set_comm _ _ (by decide), List.set_set]
theorem row_12 (r : Array Value) (a b c : Value) : ((r.setIfInBounds 11 a).setIfInBounds 12 b).setIfInBounds 12 c = (r.setIfInBounds 11 a).setIfInBounds 12 c := by
  apply Array.toList_inj.1
  simp only [Array.toList_setIfInBounds]
  rw [List.set_set]
theorem HpAt.phase {w : World} {b gC : Nat} {cC : CK} {base ph hd : Nat} {cs : List RC} (h : HpAt w b gC cC base cs ph hd) (p : Nat) : HpAt (w.setCell ⟨b, 11, none⟩ (.int .i64 p)) b gC cC base cs p hd := by
  have hg : (w.setCell ⟨b, 11, none⟩ (.int .i64 (p : Int))).heap[gC]? = w.heap[gC]? := Below.heap_setCell _ _ _ _ (fun e => h.ne e.symm)
  exact ⟨(World.cell?_setCell_other _ _ _ _ (by simp)).trans h.c0, World.cell?_setCell_same _ _ _ h.c1, (World.cell?_setCell_other _ _ _ _ (by simp)).trans h.c2, (World.frozen?_setCell _ _ _ _).trans h.f1, (World.frozen?_setCell _ _ _ _).trans h.f2, owns_keep h.row (fun g e => by
    have : gC = g := by simpa [Value.ownBlock] using e
    subst this; exact hg), h.ne, by rw [← row_11 cC.row (.int .i64 ph) (.int .i64 hd) (.int .i64 p)]; exact setCell_row 11 _ h.blk⟩
theorem HpAt.hand {w : World} {b gC : Nat} {cC : CK} {base ph hd : Nat} {cs : List RC} (h : HpAt w b gC cC base cs ph hd) (p : Nat) : HpAt (w.setCell ⟨b, 12, none⟩ (.int .i64 p)) b gC cC base cs ph p := by
  have hg : (w.setCell ⟨b, 12, none⟩ (.int .i64 (p : Int))).heap[gC]? = w.heap[gC]? := Below.heap_setCell _ _ _ _ (fun e => h.ne e.symm)
  exact ⟨(World.cell?_setCell_other _ _ _ _ (by simp)).trans h.c0, (World.cell?_setCell_other _ _ _ _ (by simp)).trans h.c1, World.cell?_setCell_same _ _ _ h.c2, (World.frozen?_setCell _ _ _ _).trans h.f1, (World.frozen?_setCell _ _ _ _).trans h.f2, owns_keep h.row (fun g e => by
    have : gC = g := by simpa [Value.ownBlock] using e
    subst this; exact hg), h.ne, by rw [← row_12 cC.row (.int .i64 ph) (.int .i64 hd) (.int .i64 p)]; exact setCell_row 12 _ h.blk⟩
theorem Two.swap {a b : Nat} {w w' : World} (h : Two a b w w') : Two b a w w' := ⟨h.os, h.tape, h.output, h.size, fun k hk h1 h2 => h.block k hk h2 h1⟩
theorem Two.widen {a c : Nat} {w w' : World} (h : Two a a w w') : Two c a w w' := ⟨h.os, h.tape, h.output, h.size, fun k hk _ h2 => h.block k hk h2 h2⟩
/-- A unit of the collector's. -/
def wipeC (c : RC) : RC := { c with reached := false, looked := false }
def sweepC (cs : List RC) (hd : Nat) : List RC := if colR (cs.getD hd ⟨false, false, false, false, 0, 0, 0⟩) = 1 then cs.set hd ⟨false, false, false, false, -1, -1, 0⟩ else cs.modify hd wipeC
def greyC (cs : List RC) : Int := firstP (fun c => colR c == 2) cs 0
def lookC (c : RC) : RC := { c with looked := true }
def markStep (cs : List RC) (g : Nat) : List RC :=
  if (cs.getD g ⟨false, false, false, false, 0, 0, 0⟩).weak = true then cs.modify g lookC
  else reachC (cs.modify g lookC) [(cs.getD g ⟨false, false, false, false, 0, 0, 0⟩).a, (cs.getD g ⟨false, false, false, false, 0, 0, 0⟩).b]
def unitC (cs : List RC) (ph hd : Nat) (rs : List Int) : List RC × Nat × Nat :=
  if ph = 0 then (reachC cs rs, 1, hd)
  else if ph = 2 then (if hd + 1 = cs.length then (sweepC cs hd, 0, 0) else (sweepC cs hd, 2, hd + 1))
  else if 0 ≤ greyC cs then (markStep cs (greyC cs).toNat, ph, hd)
  else if greyC (reachC cs rs) < 0 then (forgetC (reachC cs rs), 2, hd) else (reachC cs rs, ph, hd)
def UnitPost (b gC : Nat) (cC : CK) (base : Nat) (cs : List RC) (ph hd : Nat) (rs : List Int) (w : World) (e : Ending) (w' : World) : Prop :=
  e = .returned (.tuple #[]) ∧ HpAt w' b gC cC base (unitC cs ph hd rs).1 (unitC cs ph hd rs).2.1 (unitC cs ph hd rs).2.2 ∧ Two b gC w w'
theorem unit_idle (b gC : Nat) (cC : CK) (base hd : Nat) (cs : List RC) (rs : List Int) (v : Value) (w : World) (h : HpAt w b gC cC base cs 0 hd) (hrl : rs.length ≤ 1000) (hr : ∀ r ∈ rs, r < (cs.length : Int)) (hv : RefsAt w gC v rs) :
    Calls Tryz.prog 46 #[.pointer (some ⟨b, 10, none⟩), v] w (UnitPost b gC cC base cs 0 hd rs w) := by
  have hrc := hid (hreach_v b gC cC base 0 hd cs rs v w h hrl hr hv)
  obtain ⟨p0, c0, e0⟩ := hv.slice
  subst e0
  have h1 := h.c1
  have HE : Hid (unitC cs 0 hd rs = (reachC cs rs, 1, hd)) := hid (if_pos rfl)
  clear h hr hv
  go_enter Tryz.func46, Tryz.ntmps46
  go_wp2_with fail
  refine hrc.out.mono ?_
  clear hrc
  intro x w1 hh
  obtain ⟨hx, hH, hO⟩ := hh
  subst x
  have k1 := hH.c1
  have kf := hH.f1
  have HH := hid (hH.phase 1)
  have HO := hid hO
  clear hH hO
  go_wp2_with fail
  go_end0
  exact ⟨rfl, by rw [HE.out]; exact HH.out, (Two.of_only HO.out).widen.trans (Two.refl _ _ _).set⟩
theorem firstP_lt (p : RC → Bool) : ∀ (cs : List RC) (k : Nat), (firstP p cs k = -1) ∨ ((k : Int) ≤ firstP p cs k ∧ firstP p cs k < (k : Int) + cs.length) := by
  intro cs
  induction cs with
  | nil => intro k; exact .inl rfl
  | cons c r ih =>
    intro k
    simp only [firstP]
    split
    · exact .inr ⟨Int.le_refl _, by simp; omega⟩
    · rcases ih (k + 1) with h | h
      · exact .inl h
      · exact .inr ⟨by omega, by simp; omega⟩
theorem greyC_lt {cs : List RC} (h : 0 ≤ greyC cs) : (greyC cs).toNat < cs.length := by
  rcases firstP_lt (fun c => colR c == 2) cs 0 with e | e
  · unfold greyC at h; omega
  · unfold greyC at *; omega
theorem unit_grey (b gC : Nat) (cC : CK) (base hd g : Nat) (cs : List RC) (rs : List Int) (v : Value) (w : World) (h : HpAt w b gC cC base cs 1 hd) (hl : cs.length ≤ 1000) (hv : RefsAt w gC v rs) (hg : greyC cs = (g : Int)) (hgl : g < cs.length) (hab : ∀ c ∈ cs, c.a < (cs.length : Int) ∧ c.b < (cs.length : Int)) :
    Calls Tryz.prog 46 #[.pointer (some ⟨b, 10, none⟩), v] w (UnitPost b gC cC base cs 1 hd rs w) := by
  have hgr := hid (grey_any b gC cC base 1 hd cs w h hl)
  rw [show firstP (fun c => colR c == 2) cs 0 = (g : Int) from hg] at hgr
  obtain ⟨p0, c0, e0⟩ := hv.slice
  subst e0
  have h1 := h.c1
  have H := hid h
  have HE : Hid (unitC cs 1 hd rs = (markStep cs g, 1, hd)) := hid (by
    unfold unitC
    rw [if_neg (by decide), if_neg (by decide), if_pos (by omega), hg]
    rfl)
  obtain ⟨ha, hb⟩ := hab cs[g] (List.getElem_mem hgl)
  have g0 : (0 : Int) ≤ (g : Int) := by omega
  have g1 : (g : Int) < (cs.length : Int) := by omega
  clear h hv hg hab
  go_enter Tryz.func46, Tryz.ntmps46
  go_wp2_with fail
  refine hgr.out.mono ?_
  clear hgr
  intro x w1 hh
  obtain ⟨hx, hB⟩ := hh
  subst x
  have hH := H.out.below hB
  have k0 := hH.c0
  have k2 := hH.cell hgl (j := 2) (by omega)
  have k3 := hH.cell hgl (j := 3) (by omega)
  have kf := hH.frozen (g * 7 + 2)
  simp only [rcCells, List.getElem?_cons_zero, List.getElem?_cons_succ] at k2 k3
  have hU := hH.upd (k := g) (j := 2) (c := lookC cs[g]) (v := .bool true) hgl (by omega) rfl
  have HB := hid hB
  have HMS : Hid (cs.modify g lookC = cs.set g (lookC cs[g])) := hid (modify_set hgl _)
  have HGD : Hid (cs.getD g ⟨false, false, false, false, 0, 0, 0⟩ = cs[g]) := hid (by simp [List.getD_eq_getElem?_getD, List.getElem?_eq_getElem hgl])
  have HTW : Hid (Two b gC w (w1.setCell ⟨gC, g * 7 + 2, none⟩ (.bool true))) := hid ((Two.of_below hB).setB _ _)
  have hgz := (hU.row.lt gC rfl).2
  clear hB hH H
  have u0 := hU.c0
  rw [List.length_set] at u0
  have hgs : g < (cs.set g (lookC cs[g])).length := by simpa using hgl
  have u3 := hU.cell hgs (j := 3) (by omega)
  have u4 := hU.cell hgs (j := 4) (by omega)
  have u5 := hU.cell hgs (j := 5) (by omega)
  simp only [List.getElem_set_self, lookC, rcCells, List.getElem?_cons_zero, List.getElem?_cons_succ] at u3 u4 u5
  have HU := hid hU
  clear hU
  cases hwk : cs[g].weak
  · rw [hwk] at u3 k3
    have HMK : Hid (markStep cs g = reachC (cs.set g (lookC cs[g])) [cs[g].a, cs[g].b]) := hid (by unfold markStep; rw [HGD.out, hwk, if_neg (by simp), HMS.out])
    clear hwk
    generalize cs[g].a = aa at *
    generalize cs[g].b = bb at *
    go_wp2_with fail
    clear k0 k2 k3 kf
    generalize w1.setCell ⟨gC, g * 7 + 2, none⟩ (.bool true) = W0 at *
    have hne0 : W0.heap.size ≠ gC := by omega
    have hrc := hid (hreach_any b gC cC base 1 hd _ [aa, bb] ⟨W0.heap.size, 0, none⟩ 2 (W0.alloc (.cells #[.int .i64 aa, .int .i64 bb] 3)).drew (HU.out.below ((Below.refl _ _).alloc (Nat.le_refl _) _)).drew (by simp) (by simp; exact ⟨ha, hb⟩) hne0 (fun j x hj => by
      show (W0.alloc (.cells #[.int .i64 aa, .int .i64 bb] 3)).cell? _ = _
      match j, hj with
      | 0, hj => simp at hj; subst hj; rw [addr_add]; simp
      | 1, hj => simp at hj; subst hj; rw [addr_add]; simp
      | j + 2, hj => simp at hj))
    have hbz := World.block_lt_of_cell? W0 _ u0
    simp only at hbz
    go_region_law ((go_simp; go_at_call 74; refine hrc.out.mono ?_; intro x w9 hh; obtain ⟨hx9, hH9, hO9⟩ := hh; subst hx9; dsimp only))
    all_goals
      have HH9 := hid hH9
      have HO9 := hid hO9
      clear hH9 hO9 u0 u3 u4 u5 hrc
      go_wp2_with fail
      go_end0
      exact ⟨rfl, by rw [HE.out, HMK.out]; exact HH9.out, (HTW.out.alloc _).drew.trans (Two.of_only HO9.out).widen⟩
  · rw [hwk] at u3 k3
    have HMK : Hid (markStep cs g = cs.set g (lookC cs[g])) := hid (by unfold markStep; rw [HGD.out, hwk, if_pos rfl, HMS.out])
    clear hwk
    go_wp2_with fail
    go_end0
    exact ⟨rfl, by rw [HE.out, HMK.out]; exact HU.out, HTW.out⟩
theorem reachC_a {P : RC → Prop} (hP : ∀ c, P c → P (markC c)) : ∀ (rs : List Int) (cs : List RC), (∀ c ∈ cs, P c) → ∀ c ∈ reachC cs rs, P c := by
  intro rs
  induction rs with
  | nil => intro cs h; exact h
  | cons r rs ih =>
    intro cs h
    refine ih _ ?_
    split
    · intro c hc
      by_cases hl : r.toNat < cs.length
      · rw [modify_set hl] at hc
        rcases List.mem_or_eq_of_mem_set hc with h1 | h1
        · exact h c h1
        · rw [h1]; exact hP _ (h _ (List.getElem_mem hl))
      · rw [List.modify_eq_self (by omega)] at hc
        exact h c hc
    · exact h
theorem unit_none (b gC : Nat) (cC : CK) (base hd : Nat) (cs : List RC) (rs : List Int) (v : Value) (w : World) (h : HpAt w b gC cC base cs 1 hd) (hl : cs.length ≤ 1000) (hrl : rs.length ≤ 1000) (hr : ∀ r ∈ rs, r < (cs.length : Int)) (hv : RefsAt w gC v rs) (hg : greyC cs < 0) (ha : ∀ c ∈ cs, c.a < (cs.length : Int)) :
    Calls Tryz.prog 46 #[.pointer (some ⟨b, 10, none⟩), v] w (UnitPost b gC cC base cs 1 hd rs w) := by
  have hgr := hid (grey_any b gC cC base 1 hd cs w h hl)
  have hg' : firstP (fun c => colR c == 2) cs 0 = -1 := by
    rcases firstP_lt (fun c => colR c == 2) cs 0 with e | e
    · exact e
    · unfold greyC at hg; omega
  rw [hg'] at hgr
  have HV := hid hv
  have HR := hid hr
  obtain ⟨p0, c0, e0⟩ := hv.slice
  subst e0
  have h1 := h.c1
  have H := hid h
  have HE : Hid (unitC cs 1 hd rs = if greyC (reachC cs rs) < 0 then (forgetC (reachC cs rs), 2, hd) else (reachC cs rs, 1, hd)) := hid (by
    unfold unitC
    rw [if_neg (by decide), if_neg (by decide), if_neg (by omega)])
  have HA : Hid (∀ c ∈ reachC cs rs, c.a < ((reachC cs rs).length : Int)) := hid (by
    rw [reachC_len]
    exact reachC_a (P := fun c => c.a < (cs.length : Int)) (fun _ h => h) rs cs ha)
  clear h hv hg hg' hr ha
  go_enter Tryz.func46, Tryz.ntmps46
  go_wp2_with fail
  refine hgr.out.mono ?_
  clear hgr
  intro x w1 hh
  obtain ⟨hx, hB⟩ := hh
  subst x
  have hv1 : RefsAt w1 gC (.slice p0 rs.length c0) rs := by
    rcases HV.out with h | ⟨a, ca, e1, e2, e3, e4⟩
    · exact .inl h
    · refine .inr ⟨a, ca, e1, e2, Nat.lt_of_lt_of_le e3 hB.size, fun j x hj => ?_⟩
      have hbl : (a.add j).block = a.block := by unfold Addr.add; split <;> rfl
      rw [hB.cell (by rw [hbl]; exact e3)]
      exact e4 j x hj
  have hrc := hid (hreach_v b gC cC base 1 hd cs rs _ w1 (H.out.below hB) hrl HR.out hv1)
  have HT1 : Hid (Two b gC w w1) := hid (Two.of_below hB)
  clear hB hv1 H HV HR
  go_wp2_with fail
  refine hrc.out.mono ?_
  clear hrc
  intro x w2 hh
  obtain ⟨hx, hH, hO⟩ := hh
  subst x
  have HT2 : Hid (Two b gC w w2) := hid (HT1.out.trans (Two.of_only hO).widen)
  have hgr2 := hid (grey_any b gC cC base 1 hd (reachC cs rs) w2 hH (by rw [reachC_len]; exact hl))
  have HH := hid hH
  clear hH hO HT1
  generalize hcr : reachC cs rs = cr at *
  have hlr : cr.length ≤ 1000 := by rw [← hcr, reachC_len]; exact hl
  clear hcr
  go_wp2_with fail
  refine hgr2.out.mono ?_
  clear hgr2
  intro x w3 hh
  obtain ⟨hx, hB⟩ := hh
  subst x
  have HT3 : Hid (Two b gC w w3) := hid (HT2.out.trans (Two.of_below hB))
  have hH3 := HH.out.below hB
  have HH3 := hid hH3
  clear hB HT2 HH
  by_cases hg : greyC cr < 0
  · have g1 : firstP (fun c => colR c == 2) cr 0 < 0 := hg
    have hfg := hid (forget_any b gC cC base 1 hd cr w3 hH3 hlr HA.out)
    have HE2 : Hid (unitC cs 1 hd rs = (forgetC cr, 2, hd)) := hid (by rw [HE.out, if_pos hg])
    clear hH3 hg
    go_wp2_with fail
    refine hfg.out.mono ?_
    clear hfg
    intro x w4 hh
    obtain ⟨hx, hH4, hT4⟩ := hh
    subst x
    have k1 := hH4.c1
    have kf := hH4.f1
    have HP := hid (hH4.phase 2)
    have HT4 : Hid (Two b gC w w4) := hid (HT3.out.trans hT4.widen)
    clear hH4 hT4
    go_wp2_with fail
    go_end0
    exact ⟨rfl, by rw [HE2.out]; exact HP.out, HT4.out.set⟩
  · have g1 : ¬ firstP (fun c => colR c == 2) cr 0 < 0 := hg
    have HE2 : Hid (unitC cs 1 hd rs = (cr, 1, hd)) := hid (by rw [HE.out, if_neg hg])
    clear hH3 hg
    go_wp2_with fail
    go_end0
    exact ⟨rfl, by rw [HE2.out]; exact HH3.out, HT3.out⟩
/-- The cell that the hand is at lies in a block of its own, beside the heap. -/
structure SwAt (w w' : World) (b gC : Nat) (cC : CK) (base hd : Nat) (cs : List RC) (c : RC) : Prop where
  hp : HpAt w' b gC cC base cs 2 hd
  box : w'.heap[w.heap.size]? = some (.cells (rcCells c).toArray 109)
  two : Two b gC w w'
  bz : b < w.heap.size
  gz : gC < w.heap.size
theorem SwAt.upd {w w' : World} {b gC : Nat} {cC : CK} {base hd j : Nat} {cs : List RC} {c d : RC} {v : Value} (h : SwAt w w' b gC cC base hd cs c) (hk : hd < cs.length) (hj : j < 7) (e : rcCells d = (rcCells cs[hd]).set j v) : SwAt w (w'.drew.setCell ⟨gC, hd * 7 + j, none⟩ v) b gC cC base hd (cs.set hd d) c :=
  ⟨h.hp.drew.upd hk hj e, (Below.heap_setCell _ _ _ _ (by have := h.gz; simp only; omega)).trans h.box, h.two.drew.setB _ _, h.bz, h.gz⟩
theorem unit_sweep (b gC : Nat) (cC : CK) (base hd : Nat) (cs : List RC) (rs : List Int) (v : Value) (w : World) (h : HpAt w b gC cC base cs 2 hd) (hl : cs.length ≤ 1000) (hv : RefsAt w gC v rs) (hh : hd < cs.length) :
    Calls Tryz.prog 46 #[.pointer (some ⟨b, 10, none⟩), v] w (UnitPost b gC cC base cs 2 hd rs w) := by
  obtain ⟨p0, c0, e0⟩ := hv.slice
  subst e0
  have h0 := h.c0
  have h1 := h.c1
  have h2 := h.c2
  have H := hid h
  have i0 : (0 : Int) ≤ (hd : Int) := by omega
  have i1 : (hd : Int) < (cs.length : Int) := by omega
  have hbz := World.block_lt_of_cell? w _ h0
  simp only at hbz
  have hgz := (h.row.lt gC rfl).2
  have hc := fun j hj => h.cell hh (j := j) hj
  have c0' := hc 0 (by omega)
  have c1 := hc 1 (by omega)
  have c2 := hc 2 (by omega)
  have c3 := hc 3 (by omega)
  have c4 := hc 4 (by omega)
  have c5 := hc 5 (by omega)
  have c6 := hc 6 (by omega)
  rw [Nat.add_zero] at c0'
  have HMS : Hid (cs.modify hd wipeC = cs.set hd (wipeC cs[hd])) := hid (modify_set hh _)
  have HGD : Hid (cs.getD hd ⟨false, false, false, false, 0, 0, 0⟩ = cs[hd]) := hid (by simp [List.getD_eq_getElem?_getD, List.getElem?_eq_getElem hh])
  have HE : Hid (unitC cs 2 hd rs = if hd + 1 = cs.length then (sweepC cs hd, 0, 0) else (sweepC cs hd, 2, hd + 1)) := hid (by
    unfold unitC
    rw [if_neg (by decide), if_pos rfl])
  have HSW : Hid (sweepC cs hd = if colR cs[hd] = 1 then cs.set hd ⟨false, false, false, false, -1, -1, 0⟩ else cs.set hd (wipeC cs[hd])) := hid (by unfold sweepC; rw [HGD.out, HMS.out])
  have hcol := hid (fun W => colour_any cs[hd] W)
  clear h hv hc
  obtain ⟨c, hcc⟩ : ∃ c, cs[hd] = c := ⟨_, rfl⟩
  have HCC := hid hcc
  rw [hcc] at hcol HSW c0' c1 c2 c3 c4 c5 c6
  clear hcc HMS HGD
  generalize hco : colR c = co at *
  have HCO := hid hco
  clear hco
  obtain ⟨u, r, lk, wk, a, b', nn⟩ := c
  simp only [rcCells, List.getElem?_cons_zero, List.getElem?_cons_succ] at c0' c1 c2 c3 c4 c5 c6 hcol
  go_enter Tryz.func46, Tryz.ntmps46
  go_upto_region 5 with fail
  go_cut [4] (fun x wc => x = .pointer (some ⟨w.heap.size, 0, none⟩) ∧ SwAt w wc b gC cC base hd cs ⟨u, r, lk, wk, a, b', nn⟩)
  case first =>
    go_region
    go_wp2_with fail
    go_meet
    have hbl : Below w.heap.size w (w.alloc (.cells #[.bool u, .bool r, .bool lk, .bool wk, .int .i64 a, .int .i64 b', .int .i64 nn] 109)) := (Below.refl _ _).alloc (Nat.le_refl _) _
    exact ⟨rfl, (H.out.below hbl).drew, heap_alloc_new w _, (Two.of_below hbl).drew, hbz, hgz⟩
  case rest =>
    obtain ⟨rfl, hS⟩ := hcut
    have HS := hid hS
    have k0 := hS.hp.c0
    have k2 := hS.hp.c2
    have kc := hS.hp.cell hh (j := 1) (by omega)
    rw [HCC.out] at kc
    simp only [rcCells, List.getElem?_cons_zero, List.getElem?_cons_succ] at kc
    have kf := hS.hp.frozen (hd * 7 + 1)
    clear hS h0 h1 h2 c0' c1 c2 c3 c4 c5 c6
    go_upto_region 6 with fail
    go_cut [] (fun wd => SwAt w wd b gC cC base hd (cs.set hd ⟨u, false, lk, wk, a, b', nn⟩) ⟨u, r, lk, wk, a, b', nn⟩)
    case first =>
      go_region
      go_wp2_with fail
      go_meet
      exact HS.out.upd hh (by omega) (by rw [HCC.out]; rfl)
    case rest =>
      have hh2 : hd < (cs.set hd (⟨u, false, lk, wk, a, b', nn⟩ : RC)).length := by simpa using hh
      have hS := hcut
      have HS2 := hid hcut
      clear hcut k0 k2 kc kf HS
      have k0 := hS.hp.c0
      rw [List.length_set] at k0
      have k2 := hS.hp.c2
      have kc := hS.hp.cell hh2 (j := 2) (by omega)
      simp only [List.getElem_set_self, rcCells, List.getElem?_cons_zero, List.getElem?_cons_succ] at kc
      have kf := hS.hp.frozen (hd * 7 + 2)
      clear hS
      go_upto_region 7 with fail
      go_cut [] (fun we => SwAt w we b gC cC base hd (cs.set hd ⟨u, false, false, wk, a, b', nn⟩) ⟨u, r, lk, wk, a, b', nn⟩)
      case first =>
        go_region
        go_wp2_with fail
        go_meet
        have := HS2.out.upd (d := ⟨u, false, false, wk, a, b', nn⟩) (j := 2) (v := .bool false) hh2 (by omega) (by simp [rcCells])
        rw [List.set_set] at this
        exact this
      case rest =>
        have hS := hcut
        have HS3 := hid hcut
        clear hcut k0 k2 kc kf HS2
        have y0 := cell_of_row wc w.heap.size 0 _ _ _ hS.box
        have y1 := cell_of_row wc w.heap.size 1 _ _ _ hS.box
        have y2 := cell_of_row wc w.heap.size 2 _ _ _ hS.box
        have y3 := cell_of_row wc w.heap.size 3 _ _ _ hS.box
        have y4 := cell_of_row wc w.heap.size 4 _ _ _ hS.box
        have y5 := cell_of_row wc w.heap.size 5 _ _ _ hS.box
        have y6 := cell_of_row wc w.heap.size 6 _ _ _ hS.box
        simp only [rcCells, List.getElem?_toArray, List.getElem?_cons_zero, List.getElem?_cons_succ] at y0 y1 y2 y3 y4 y5 y6
        clear hS
        go_wp2_with fail
        refine (hcol.out _).mono ?_
        clear hcol
        intro x w5 hx5
        obtain ⟨hx, hb5⟩ := hx5
        subst x
        have HH5 := hid (HS3.out.hp.below hb5)
        have HT5 : Hid (Two b gC w w5) := hid (HS3.out.two.trans (Two.of_below hb5))
        clear hb5 HS3 y0 y1 y2 y3 y4 y5 y6
        -- behind the cell: the hand goes on, in whatever world
        by_cases h1c : co = 1
        · have q1 : ((co : Int) == 1) = true := by simp; omega
          have HR : Hid (sweepC cs hd = cs.set hd ⟨false, false, false, false, -1, -1, 0⟩) := hid (by rw [HSW.out, if_pos h1c])
          clear h1c
          have k0 := HH5.out.c0
          rw [List.length_set] at k0
          have k2 := HH5.out.c2
          have hh3 : hd < (cs.set hd (⟨u, false, false, wk, a, b', nn⟩ : RC)).length := by simpa using hh
          have hc := fun j hj => HH5.out.cell hh3 (j := j) hj
          have z0 := hc 0 (by omega)
          have z1 := hc 1 (by omega)
          have z2 := hc 2 (by omega)
          have z3 := hc 3 (by omega)
          have z4 := hc 4 (by omega)
          have z5 := hc 5 (by omega)
          have z6 := hc 6 (by omega)
          rw [Nat.add_zero] at z0
          simp only [List.getElem_set_self, rcCells, List.getElem?_cons_zero, List.getElem?_cons_succ] at z0 z1 z2 z3 z4 z5 z6
          have f0 := HH5.out.frozen (hd * 7)
          have f1 := HH5.out.frozen (hd * 7 + 1)
          have f2 := HH5.out.frozen (hd * 7 + 2)
          have f3 := HH5.out.frozen (hd * 7 + 3)
          have f4 := HH5.out.frozen (hd * 7 + 4)
          have f5 := HH5.out.frozen (hd * 7 + 5)
          have f6 := HH5.out.frozen (hd * 7 + 6)
          clear hc
          have hP := HH5.out.put hh3 false false false false (-1) (-1) 0
          rw [List.set_set] at hP
          have HWW := hid hP.drew
          have HTT : Hid (Two b gC w (((((((w5.setCell ⟨gC, hd * 7, none⟩ (.bool false)).setCell ⟨gC, hd * 7 + 1, none⟩ (.bool false)).setCell ⟨gC, hd * 7 + 2, none⟩ (.bool false)).setCell ⟨gC, hd * 7 + 3, none⟩ (.bool false)).setCell ⟨gC, hd * 7 + 4, none⟩ (.int .i64 (-1))).setCell ⟨gC, hd * 7 + 5, none⟩ (.int .i64 (-1))).setCell ⟨gC, hd * 7 + 6, none⟩ (.int .i64 0)).drew) := hid ((((((((HT5.out.setB _ _).setB _ _).setB _ _).setB _ _).setB _ _).setB _ _).setB _ _).drew)
          clear hP
          go_wp2_with fail
          go_region
          clear k0 k2 z0 z1 z2 z3 z4 z5 z6 f0 f1 f2 f3 f4 f5 f6 HH5 HT5
          generalize (((((((w5.setCell ⟨gC, hd * 7, none⟩ (.bool false)).setCell ⟨gC, hd * 7 + 1, none⟩ (.bool false)).setCell ⟨gC, hd * 7 + 2, none⟩ (.bool false)).setCell ⟨gC, hd * 7 + 3, none⟩ (.bool false)).setCell ⟨gC, hd * 7 + 4, none⟩ (.int .i64 (-1))).setCell ⟨gC, hd * 7 + 5, none⟩ (.int .i64 (-1))).setCell ⟨gC, hd * 7 + 6, none⟩ (.int .i64 0)).drew = W at *
          have t2 := HWW.out.c2
          have t1 := HWW.out.c1
          have t0 := HWW.out.c0
          rw [List.length_set] at t0
          have tf1 := HWW.out.f1
          have tf2 := HWW.out.f2
          have hd9 : (hd : Int) + 1 ≤ 1001 := by omega
          have HHN := hid (HWW.out.hand (hd + 1))
          have n2 := HHN.out.c2
          have n0 := HHN.out.c0
          have n1 := HHN.out.c1
          have nf1 := HHN.out.f1
          have nf2 := HHN.out.f2
          rw [List.length_set] at n0
          rw [show (((hd + 1 : Nat)) : Int) = (hd : Int) + 1 by omega] at n2 n0 n1 nf1 nf2
          by_cases hend : hd + 1 = cs.length
          · have qe : ((hd : Int) + 1 == (cs.length : Int)) = true := by simp; omega
            have HE2 : Hid (unitC cs 2 hd rs = (sweepC cs hd, 0, 0)) := hid (by rw [HE.out, if_pos hend])
            clear hend
            go_wp2_with fail
            go_quiet (fail)
            go_wp2_with fail
            go_end0
            refine ⟨rfl, ?_, ?_⟩
            · rw [HE2.out, HR.out]
              exact ((HHN.out.below (below_drewN (Below.refl _ _) _)).phase 0).hand 0
            · exact (((HTT.out.set).trans (Two.of_below (below_drewN (Below.refl _ _) _))).set).set
          · have qe : ((hd : Int) + 1 == (cs.length : Int)) = false := by simp; omega
            have HE2 : Hid (unitC cs 2 hd rs = (sweepC cs hd, 2, hd + 1)) := hid (by rw [HE.out, if_neg hend])
            clear hend
            go_wp2_with fail
            go_quiet (fail)
            go_wp2_with fail
            go_end0
            refine ⟨rfl, ?_, ?_⟩
            · rw [HE2.out, HR.out]
              exact HHN.out.below (below_drewN (Below.refl _ _) _)
            · exact ((HTT.out.set).trans (Two.of_below (below_drewN (Below.refl _ _) _)))
        · have q1 : ((co : Int) == 1) = false := by simp; omega
          have HR : Hid (sweepC cs hd = cs.set hd ⟨u, false, false, wk, a, b', nn⟩) := hid (by rw [HSW.out, if_neg h1c]; rfl)
          clear h1c
          have HWW := HH5
          have HTT := HT5
          have t2 := HWW.out.c2
          have t1 := HWW.out.c1
          have t0 := HWW.out.c0
          rw [List.length_set] at t0
          have tf1 := HWW.out.f1
          have tf2 := HWW.out.f2
          have hd9 : (hd : Int) + 1 ≤ 1001 := by omega
          have HHN := hid (HWW.out.hand (hd + 1))
          have n2 := HHN.out.c2
          have n0 := HHN.out.c0
          have n1 := HHN.out.c1
          have nf1 := HHN.out.f1
          have nf2 := HHN.out.f2
          rw [List.length_set] at n0
          rw [show (((hd + 1 : Nat)) : Int) = (hd : Int) + 1 by omega] at n2 n0 n1 nf1 nf2
          by_cases hend : hd + 1 = cs.length
          · have qe : ((hd : Int) + 1 == (cs.length : Int)) = true := by simp; omega
            have HE2 : Hid (unitC cs 2 hd rs = (sweepC cs hd, 0, 0)) := hid (by rw [HE.out, if_pos hend])
            clear hend
            go_wp2_with fail
            go_quiet (fail)
            go_wp2_with fail
            go_end0
            refine ⟨rfl, ?_, ?_⟩
            · rw [HE2.out, HR.out]
              exact ((HHN.out.below (below_drewN (Below.refl _ _) _)).phase 0).hand 0
            · exact (((HTT.out.set).trans (Two.of_below (below_drewN (Below.refl _ _) _))).set).set
          · have qe : ((hd : Int) + 1 == (cs.length : Int)) = false := by simp; omega
            have HE2 : Hid (unitC cs 2 hd rs = (sweepC cs hd, 2, hd + 1)) := hid (by rw [HE.out, if_neg hend])
            clear hend
            go_wp2_with fail
            go_quiet (fail)
            go_wp2_with fail
            go_end0
            refine ⟨rfl, ?_, ?_⟩
            · rw [HE2.out, HR.out]
              exact HHN.out.below (below_drewN (Below.refl _ _) _)
            · exact ((HTT.out.set).trans (Two.of_below (below_drewN (Below.refl _ _) _)))
/-- A heap in order: its references refer to cells or to none. -/
structure HpOk (cs : List RC) (ph hd : Nat) : Prop where
  pos : 0 < cs.length
  len : cs.length ≤ 32
  refs : ∀ c ∈ cs, c.a < (cs.length : Int) ∧ c.b < (cs.length : Int)
  phz : ph ≤ 2
  hand : ph = 2 → hd < cs.length
  nohand : ph ≠ 2 → hd = 0
theorem modify_mem {P : RC → Prop} {f : RC → RC} (hf : ∀ c, P c → P (f c)) {cs : List RC} {k : Nat} (h : ∀ c ∈ cs, P c) : ∀ c ∈ cs.modify k f, P c := by
  intro c hc
  by_cases hl : k < cs.length
  · rw [modify_set hl] at hc
    rcases List.mem_or_eq_of_mem_set hc with h1 | h1
    · exact h c h1
    · rw [h1]; exact hf _ (h _ (List.getElem_mem hl))
  · rw [List.modify_eq_self (by omega)] at hc
    exact h c hc
theorem unitC_len (cs : List RC) (ph hd : Nat) (rs : List Int) : (unitC cs ph hd rs).1.length = cs.length := by
  unfold unitC
  split
  · exact reachC_len _ _
  split
  · have : (sweepC cs hd).length = cs.length := by unfold sweepC; split <;> simp
    split <;> exact this
  split
  · show (markStep cs _).length = _
    unfold markStep
    split
    · simp
    · rw [reachC_len]; simp
  split
  · show (forgetC _).length = _
    simp [forgetC, reachC_len]
  · exact reachC_len _ _
theorem unitC_refs {n : Int} (hn : 0 < n) (cs : List RC) (ph hd : Nat) (rs : List Int) (h : ∀ c ∈ cs, c.a < n ∧ c.b < n) : ∀ c ∈ (unitC cs ph hd rs).1, c.a < n ∧ c.b < n := by
  have hr : ∀ (l : List RC) (rs : List Int), (∀ c ∈ l, c.a < n ∧ c.b < n) → ∀ c ∈ reachC l rs, c.a < n ∧ c.b < n := fun l rs hl => reachC_a (P := fun c => c.a < n ∧ c.b < n) (fun _ h => h) rs l hl
  unfold unitC
  split
  · exact hr _ _ h
  split
  · have hs : ∀ c ∈ sweepC cs hd, c.a < n ∧ c.b < n := by
      unfold sweepC
      split
      · intro c hc
        rcases List.mem_or_eq_of_mem_set hc with h1 | h1
        · exact h c h1
        · rw [h1]; exact ⟨by simp only; omega, by simp only; omega⟩
      · exact modify_mem (P := fun c => c.a < n ∧ c.b < n) (f := wipeC) (fun _ h => h) h
    split <;> exact hs
  split
  · show ∀ c ∈ markStep cs _, _
    unfold markStep
    have hm : ∀ g, ∀ c ∈ cs.modify g lookC, c.a < n ∧ c.b < n := fun g => modify_mem (P := fun c => c.a < n ∧ c.b < n) (f := lookC) (fun _ h => h) h
    split
    · exact hm _
    · exact hr _ _ (hm _)
  split
  · show ∀ c ∈ forgetC _, _
    intro c hc
    unfold forgetC at hc
    obtain ⟨d, hd', rfl⟩ := List.mem_map.1 hc
    have := hr _ _ h d hd'
    unfold fgC
    split
    · exact ⟨by simp only; omega, this.2⟩
    · exact this
  · exact hr _ _ h
theorem HpOk.unit {cs : List RC} {ph hd : Nat} (h : HpOk cs ph hd) (rs : List Int) : HpOk (unitC cs ph hd rs).1 (unitC cs ph hd rs).2.1 (unitC cs ph hd rs).2.2 := by
  have hl := unitC_len cs ph hd rs
  have hp := h.pos
  refine ⟨by omega, by have := h.len; omega, ?_, ?_, ?_, ?_⟩
  · rw [hl]
    exact unitC_refs (by omega) cs ph hd rs h.refs
  · unfold unitC
    split
    · simp only; omega
    split
    · split <;> simp
    split
    · exact h.phz
    split
    · simp
    · exact h.phz
  · intro e
    rw [hl]
    unfold unitC at e ⊢
    split at e
    · simp at e
    rename_i h0
    rw [if_neg h0]
    split at e
    · rename_i h2
      rw [if_pos h2]
      split at e
      · simp at e
      · rename_i h3
        rw [if_neg h3]
        have := h.hand h2
        simp only; omega
    · rename_i h2
      rw [if_neg h2]
      have hz := h.nohand h2
      split
      · simp only; omega
      · split <;> (simp only; omega)
  · intro e
    unfold unitC at e ⊢
    split at e
    · rename_i h0
      rw [if_pos h0]
      exact h.nohand (by omega)
    rename_i h0
    rw [if_neg h0]
    split at e
    · rename_i h2
      rw [if_pos h2]
      split at e
      · rename_i h3; rw [if_pos h3]
      · simp at e
    · rename_i h2
      rw [if_neg h2]
      have hz := h.nohand h2
      split
      · exact hz
      · split <;> exact hz
theorem unit_any (b gC : Nat) (cC : CK) (base ph hd : Nat) (cs : List RC) (rs : List Int) (v : Value) (w : World) (h : HpAt w b gC cC base cs ph hd) (ho : HpOk cs ph hd) (hrl : rs.length ≤ 1000) (hr : ∀ r ∈ rs, r < (cs.length : Int)) (hv : RefsAt w gC v rs) :
    Calls Tryz.prog 46 #[.pointer (some ⟨b, 10, none⟩), v] w (UnitPost b gC cC base cs ph hd rs w) := by
  have hl : cs.length ≤ 1000 := by have := ho.len; omega
  have hp := ho.phz
  by_cases h0 : ph = 0
  · subst h0
    exact unit_idle b gC cC base hd cs rs v w h hrl hr hv
  by_cases h2 : ph = 2
  · subst h2
    exact unit_sweep b gC cC base hd cs rs v w h hl hv (ho.hand rfl)
  have h1 : ph = 1 := by omega
  subst h1
  by_cases hg : 0 ≤ greyC cs
  · exact unit_grey b gC cC base hd (greyC cs).toNat cs rs v w h hl hv (by omega) (greyC_lt hg) ho.refs
  · exact unit_none b gC cC base hd cs rs v w h hl hrl hr hv (by omega) (fun c hc => (ho.refs c hc).1)
abbrev HSt := List RC × Nat × Nat
def unl (cs : List RC) : Nat := cs.countP (fun c => !c.looked)
theorem unl_modify {cs : List RC} {k : Nat} {f : RC → RC} (hf : ∀ c, (f c).looked = c.looked) : unl (cs.modify k f) = unl cs := by
  induction cs generalizing k with
  | nil => simp [unl]
  | cons a r ih =>
    cases k with
    | zero => simp [unl, List.countP_cons, hf]
    | succ k =>
      have := ih (k := k)
      simp only [unl, List.modify_succ_cons, List.countP_cons] at *
      omega
theorem unl_look {cs : List RC} {k : Nat} (h : k < cs.length) (hl : cs[k].looked = false) : unl (cs.modify k lookC) + 1 = unl cs := by
  induction cs generalizing k with
  | nil => simp at h
  | cons a r ih =>
    cases k with
    | zero =>
      simp only [List.getElem_cons_zero] at hl
      simp [unl, lookC, hl]
    | succ k =>
      have := ih (k := k) (by simpa using h) (by simpa using hl)
      simp only [unl, List.modify_succ_cons, List.countP_cons] at *
      omega
theorem unl_reach (rs : List Int) : ∀ cs : List RC, unl (reachC cs rs) = unl cs := by
  induction rs with
  | nil => intro cs; rfl
  | cons r rs ih =>
    intro cs
    simp only [reachC]
    rw [ih]
    split
    · exact unl_modify (fun _ => rfl)
    · rfl
theorem firstP_spec (p : RC → Bool) : ∀ (cs : List RC) (k : Nat), firstP p cs k = -1 ∨ ∃ (j : Nat) (h : j < cs.length), firstP p cs k = ((k + j : Nat) : Int) ∧ p cs[j] = true := by
  intro cs
  induction cs with
  | nil => intro k; exact .inl rfl
  | cons c r ih =>
    intro k
    simp only [firstP]
    by_cases hp : p c = true
    · rw [if_pos hp]
      exact .inr ⟨0, by simp, by simp, by simpa using hp⟩
    · rw [if_neg hp]
      rcases ih (k + 1) with h | ⟨j, hj, e, hq⟩
      · exact .inl h
      · exact .inr ⟨j + 1, by simp; omega, by rw [e]; omega, by simpa using hq⟩
def muC (s : HSt) : Nat := if s.2.1 = 0 then 0 else if s.2.1 = 2 then s.1.length - s.2.2 else 2 * unl s.1 + (if 0 ≤ greyC s.1 then 0 else 1) + (s.1.length + 1)
def stepC (rs : List Int) (s : HSt) : HSt := unitC s.1 s.2.1 s.2.2 rs
def OkS (s : HSt) : Prop := HpOk s.1 s.2.1 s.2.2
theorem OkS.step {s : HSt} (h : OkS s) (rs : List Int) : OkS (stepC rs s) := HpOk.unit h rs
theorem mu_dec {s : HSt} (h : OkS s) (h0 : s.2.1 ≠ 0) (rs : List Int) : muC (stepC rs s) < muC s := by
  obtain ⟨cs, ph, hd⟩ := s
  have hp := h.phz
  have hpos := h.pos
  simp only at h0 hp hpos
  unfold stepC muC
  simp only
  rw [if_neg h0]
  unfold unitC
  rw [if_neg h0]
  by_cases h2 : ph = 2
  · have hh := h.hand h2
    simp only at hh
    rw [if_pos h2, if_pos h2]
    by_cases he : hd + 1 = cs.length
    · rw [if_pos he]
      simp only [if_true]
      omega
    · rw [if_neg he]
      have hl : (sweepC cs hd).length = cs.length := by unfold sweepC; split <;> simp
      simp only
      rw [if_neg (by decide), if_pos trivial, hl]
      omega
  · rw [if_neg h2, if_neg h2]
    have h1 : ph = 1 := by omega
    subst h1
    by_cases hg : 0 ≤ greyC cs
    · rw [if_pos hg, if_pos hg]
      simp only
      rw [if_neg (by decide), if_neg (by decide)]
      obtain ⟨j, hj, e, hq⟩ : ∃ (j : Nat) (h : j < cs.length), greyC cs = (j : Int) ∧ (colR cs[j] == 2) = true := by
        rcases firstP_spec (fun c => colR c == 2) cs 0 with e | ⟨j, hj, e, hq⟩
        · unfold greyC at hg; omega
        · exact ⟨j, hj, by unfold greyC; rw [e]; simp, hq⟩
      have hlk : cs[j].looked = false := by
        simp only [beq_iff_eq] at hq
        unfold colR at hq
        cases hx : cs[j].looked
        · rfl
        · rw [hx] at hq
          simp only [if_true] at hq
          split at hq <;> omega
      have hu : unl (markStep cs (greyC cs).toNat) + 1 = unl cs := by
        rw [e, Int.toNat_natCast]
        unfold markStep
        split
        · exact unl_look hj hlk
        · rw [unl_reach]; exact unl_look hj hlk
      have hl : (markStep cs (greyC cs).toNat).length = cs.length := by
        unfold markStep
        split
        · simp
        · rw [reachC_len]; simp
      rw [hl]
      split <;> omega
    · rw [if_neg hg, if_neg hg]
      by_cases hg2 : greyC (reachC cs rs) < 0
      · rw [if_pos hg2]
        have hz : hd = 0 := h.nohand (show (1 : Nat) ≠ 2 by decide)
        have hl : (forgetC (reachC cs rs)).length = cs.length := by simp [forgetC, reachC_len]
        simp only
        rw [if_neg (by decide), if_pos trivial, hl]
        omega
      · rw [if_neg hg2]
        simp only
        rw [if_neg (by decide), if_neg (by decide), if_pos (by omega), unl_reach, reachC_len]
        omega
def toIdle (rs : List Int) : Nat → HSt → HSt
  | 0, s => s
  | n + 1, s => if s.2.1 = 0 then s else toIdle rs n (stepC rs s)
theorem toIdle_fuel (rs : List Int) : ∀ (n m : Nat) (s : HSt), OkS s → muC s ≤ n → muC s ≤ m → toIdle rs n s = toIdle rs m s := by
  intro n
  induction n with
  | zero =>
    intro m s h hn hm
    have h0 : s.2.1 = 0 := by
      by_cases e : s.2.1 = 0
      · exact e
      · have := mu_dec h e rs; omega
    cases m with
    | zero => rfl
    | succ m => simp [toIdle, h0]
  | succ n ih =>
    intro m s h hn hm
    by_cases e : s.2.1 = 0
    · cases m with
      | zero => simp [toIdle, e]
      | succ m => simp [toIdle, e]
    · have hd := mu_dec h e rs
      cases m with
      | zero => omega
      | succ m =>
        simp only [toIdle, if_neg e]
        exact ih m _ (h.step rs) (by omega) (by omega)
/-- The heap when the phase is Idle again. -/
def idleC (rs : List Int) (s : HSt) : HSt := toIdle rs (muC s) s
theorem idleC_zero {rs : List Int} {s : HSt} (h : s.2.1 = 0) : idleC rs s = s := by
  unfold idleC
  cases muC s with
  | zero => rfl
  | succ n => simp [toIdle, h]
theorem idleC_step {rs : List Int} {s : HSt} (ho : OkS s) (h : s.2.1 ≠ 0) : idleC rs s = idleC rs (stepC rs s) := by
  have hd := mu_dec ho h rs
  unfold idleC
  obtain ⟨n, hn⟩ : ∃ n, muC s = n + 1 := ⟨muC s - 1, by omega⟩
  rw [hn]
  simp only [toIdle, if_neg h]
  exact toIdle_fuel rs n _ _ (ho.step rs) (by omega) (Nat.le_refl _)
def lowC (s : HSt) : Int := firstP (fun c => !c.used) s.1 0
def beginC (s : HSt) : Int × HSt := (lowC s, (s.1.set (lowC s).toNat (freshC (doneB s.2.1 s.2.2 (lowC s).toNat)), s.2.1, s.2.2))
/-- The cell that is taken, or -1; the heap behind it. -/
def takeC (rs : List Int) (s : HSt) : Int × HSt :=
  if 0 ≤ lowC s then beginC s
  else if 0 ≤ lowC (idleC rs s) then beginC (idleC rs s)
  else if 0 ≤ lowC (idleC rs (stepC rs (idleC rs s))) then beginC (idleC rs (stepC rs (idleC rs s)))
  else (-1, idleC rs (stepC rs (idleC rs s)))
/-- A machine's state. -/
structure MS where
  at_ : Nat
  lo : List (Bool × Int)
  st : List (Bool × Int)
  rd : Nat
  out : List Int
  oc : Nat
  va : Int
  hs : HSt
/-- The machine at its beginning. -/
def startS (L : Nat) (n : Nat) : MS := ⟨0, List.replicate L (false, 0), [], 0, [], 0, 0, (List.replicate n ⟨false, false, false, false, -1, -1, 0⟩, 0, 0)⟩
theorem plains_get {ls : List Ins} {k : Nat} (h : k < ls.length) : (plains ls)[k]? = some ⟨ls[k], 0⟩ := by
  simp [plains, plain, h]
theorem indexOf_any (ls : List Ins) (g cap p : Nat) (w : World) (hl : ls.length ≤ 200) (hat : CiAt w g (plains ls)) (hg : g < w.heap.size) :
    Calls Tryz.prog 133 #[.slice (some ⟨g, 0, none⟩) ls.length cap, .int .i64 p] w fun e w' => e = .returned (.int .i64 (findP p ls 0)) ∧ Below w.heap.size w w' := by
  go_enter Tryz.func133, Tryz.ntmps133
  go_wp2_with fail
  go_loopw [9] (fun i w' => ∃ k : Nat, k ≤ ls.length ∧ i = .int .i64 k ∧ findP p ls 0 = findP p (ls.drop k) k ∧ Below w.heap.size w w') (fun i _ => ls.length - (intOf i).toNat)
  case atStart => exact ⟨0, Nat.zero_le _, rfl, by simp, Below.refl _ _⟩
  case round =>
    obtain ⟨k, hk, rfl, hf, hbel⟩ := hrel
    have HF : Hid (findP p ls 0 = findP p (ls.drop k) k) := hf
    clear hf
    have hsz := hbel.size
    by_cases hlt : k < ls.length
    · obtain ⟨h0, h1, h2, h3⟩ := (hat.below hbel hg) k _ (plains_get hlt)
      simp only at h0 h1 h2 h3
      have HD : Hid (ls.drop k = ls[k] :: ls.drop (k + 1)) := List.drop_eq_getElem_cons hlt
      by_cases hp : ls[k].place = p
      · have hp' : (((ls[k].place : Nat) : Int) == (p : Int)) = true := by simp; omega
        have HP : Hid (ls[k].place = p) := hp
        clear hp
        go_wp2_with fail
        go_ret
        exact ⟨ret_int (by rw [HF.out, HD.out]; simp [findP, HP.out]), hbel.alloc hsz _⟩
      · have hp' : (((ls[k].place : Nat) : Int) == (p : Int)) = false := by simp; omega
        have HP := hid hp
        clear hp
        go_wp2_with fail
        exact ⟨⟨k + 1, by omega, by go_num, by rw [HF.out, HD.out]; simp [findP, HP.out], hbel.alloc hsz _⟩, by simp [intOf]; omega⟩
    · go_wp2_with fail
      go_ret
      exact ⟨ret_int (by rw [HF.out, List.drop_of_length_le (by omega)]; simp [findP]), hbel⟩
def aim1 (ls : List Ins) (i : Ins) : CI := ⟨i, aimOf ls i⟩
theorem take_map_snoc {ls : List Ins} {k : Nat} (h : k < ls.length) : (ls.take (k + 1)).map (aim1 ls) = (ls.take k).map (aim1 ls) ++ [aim1 ls ls[k]] := by
  rw [List.take_succ_eq_append_getElem h, List.map_append]
  rfl
theorem jumps_false {ls : List Ins} {k : Nat} (h : k < ls.length) (hj : isJump ls[k].op = true) (hf : findP ls[k].n ls 0 < 0) : jumpsOk ls = false := by
  unfold jumpsOk
  rw [List.all_eq_false]
  refine ⟨ls[k], List.getElem_mem h, ?_⟩
  simp [hj]
  exact hf
theorem jumps_true {ls : List Ins} (h : ∀ j (h : j < ls.length), isJump ls[j].op = false ∨ 0 ≤ findP ls[j].n ls 0) : jumpsOk ls = true := by
  unfold jumpsOk
  rw [List.all_eq_true]
  intro i hi
  obtain ⟨j, hj, rfl⟩ := List.getElem_of_mem hi
  rcases h j hj with h | h
  · simp [h]
  · simp [h]
def AimPost (ls : List Ins) (w : World) (e : Ending) (w' : World) : Prop :=
  Below w.heap.size w w' ∧ ((jumpsOk ls = false ∧ e = .returned (.tuple #[.slice none 0 0, .bool false])) ∨
    (jumpsOk ls = true ∧ ∃ g cap, e = .returned (.tuple #[.slice (some ⟨g, 0, none⟩) ls.length cap, .bool true]) ∧ w.heap.size ≤ g ∧ g < w'.heap.size ∧ CiAt w' g (aims ls)))
theorem withTargets_any (ls : List Ins) (g cap : Nat) (w : World) (hpos : 0 < ls.length) (hl : ls.length ≤ 200) (hat : CiAt w g (plains ls)) (hg : g < w.heap.size) :
    Calls Tryz.prog 109 #[.slice (some ⟨g, 0, none⟩) ls.length cap] w (AimPost ls w) := by
  obtain ⟨i0, hi0, hz0, hz1, hz2⟩ := info_parts Tryz.infoCI
  go_enter Tryz.func109, Tryz.ntmps109
  go_wp2_with fail
  go_loopw [4, 10] (fun v i w' => ∃ k : Nat, k ≤ ls.length ∧ i = .int .i64 k ∧ w'.ownsRow w.heap.size 128 4 v k (ciCells ((ls.take k).map (aim1 ls))) ∧ Below w.heap.size w w' ∧ (∀ j (h : j < ls.length), j < k → isJump ls[j].op = false ∨ 0 ≤ findP ls[j].n ls 0)) (fun _ i _ => ls.length - (intOf i).toNat)
  case atStart => exact ⟨0, Nat.zero_le _, rfl, World.ownsRow_nil _ _ _ _, Below.refl _ _, fun j _ h => by omega⟩
  case round =>
    obtain ⟨k, hk, rfl, hown, hbel, hall⟩ := hrel
    have HA := hid hall
    clear hall
    have hsz := hbel.size
    by_cases hlt : k < ls.length
    · obtain ⟨h0, h1, h2, h3⟩ := (hat.below hbel hg) k _ (plains_get hlt)
      simp only at h0 h1 h2 h3
      have HS := hid (take_map_snoc hlt)
      have hgr : g < wr.heap.size := by omega
      cases hj : isJump ls[k].op
      · have hj' : ((ls[k].op : Int) == 19) = false ∧ ((ls[k].op : Int) == 20) = false := by
          simp [isJump] at hj; simp only [beq_eq_false_iff_ne]; omega
        obtain ⟨t0, t1⟩ := hj'
        have HJ := hid hj
        have HC : Hid (aim1 ls ls[k] = ⟨ls[k], 0⟩) := hid (by simp [aim1, aimOf, hj])
        clear hj
        go_wp2_with (at_builtin; go_must (refine wpList_append_lies _ (by rfl) _ _ _ (by rfl) w.heap.size 128 i0 _ 4 32 Tryz.underlying62 hi0 hz0 hz1 hz2 rfl (by omega) _ k (ciCells ((ls.take k).map (aim1 ls))) (by rfl) ((hown.alloc _).alloc _) ⟨wr.heap.size + 1, 0, none⟩ 1 1 [.int .i64 ls[k].place, .int .i64 ls[k].op, .int .i64 ls[k].n, .int .i64 0] (by rfl) (by rfl) (World.news_of_block (cs := #[.int .i64 ls[k].place, .int .i64 ls[k].op, .int .i64 ls[k].n, .int .i64 0]) (t := 128) (fr := (0, 0)) (heap_two_new wr _ _)) (by simp [Value.oneCell']) (by omega) (by unfold maxLen; omega) (by omega) (by simp; omega) (wr.heap.size + 1 + 1) (by simp) ?_); intro gg cap3 w3 hown3 hgrow hat3 hlt3)
        refine ⟨⟨k + 1, by omega, by go_num, by rw [HS.out, HC.out, ciCells_snoc]; exact hown3, ((hbel.alloc hsz _).alloc (by simp; omega) _).grown hgrow (by simp; omega) (fun k' hk' => (hown.lt k' hk').1), fun j hj2 hjk => ?_⟩, by simp [intOf]; omega⟩
        rcases Nat.lt_or_ge j k with h | h
        · exact HA.out j hj2 h
        · have : j = k := by omega
          subst this
          exact .inl HJ.out
      · have HJ := hid hj
        have hj' : ((ls[k].op : Int) == 19) = true ∧ (0 : Int) ≤ 1 ∨ ((ls[k].op : Int) == 19) = false ∧ ((ls[k].op : Int) == 20) = true := by
          simp [isJump] at hj; simp only [beq_eq_false_iff_ne, beq_iff_eq]; omega
        clear hj
        have hidx := hid (indexOf_any ls g cap ls[k].n (wr.alloc (.cells #[.int .i64 ls[k].place, .int .i64 ls[k].op, .int .i64 ls[k].n, .int .i64 0] 128)) hl (hat.below (hbel.alloc hsz _) hg) (by simp; omega))
        by_cases hf : findP ls[k].n ls 0 < 0
        · have HN := hid (jumps_false hlt HJ.out hf)
          generalize findP ls[k].n ls 0 = F at *
          rcases hj' with ⟨t0, t1⟩ | ⟨t0, t1⟩
          all_goals
            go_wp2_with fail
            refine hidx.out.mono ?_
            clear hidx
            intro e w2 hh
            obtain ⟨he2, hb2⟩ := hh
            subst e
            have hbel2 : Below w.heap.size w w2 := (hbel.alloc hsz _).trans (hb2.mono (by simp; omega))
            go_wp2_with fail
            go_ret2
            exact ⟨hbel2, .inl ⟨HN.out, rfl⟩⟩
        · obtain ⟨tn, htn⟩ : ∃ tn : Nat, findP ls[k].n ls 0 = (tn : Int) := ⟨(findP ls[k].n ls 0).toNat, by omega⟩
          have HC : Hid (aim1 ls ls[k] = ⟨ls[k], tn⟩) := hid (by simp [aim1, aimOf, HJ.out, htn])
          have HTN := hid htn
          have HFN := hid hf
          rw [htn] at hidx
          clear htn hf
          rcases hj' with ⟨t0, t1⟩ | ⟨t0, t1⟩
          all_goals
            go_wp2_with fail
            refine hidx.out.mono ?_
            clear hidx
            intro e w2 hh
            obtain ⟨he2, hb2⟩ := hh
            subst e
            have hb3 := instr_below hb2
            obtain ⟨bx, bo, hz⟩ := box_cells hb3
            have x0 := bx 0
            have x1 := bx 1
            have x2 := bx 2
            have x3 := bx 3
            simp only [List.getElem?_toArray, List.getElem?_cons_zero, List.getElem?_cons_succ] at x0 x1 x2 x3
            have hfz := hb3.frozen (p := ⟨wr.heap.size, 3, none⟩) (by simp)
            have hb4 : Below wr.heap.size wr w2 := box_below (Nat.le_refl _) hb3
            have hown2 := owns_below hown hb4 (fun g' hg' => (hown.lt g' hg').2)
            have hbel2 : Below w.heap.size w w2 := hbel.trans (hb4.mono hsz)
            clear bx bo hb2
            have hown4 := owns_set (a := ⟨wr.heap.size, 3, none⟩) hown2 (by intro h; have := (hown.lt _ h).2; simp at this) (.int .i64 tn)
            have hz5 : (w2.setCell ⟨wr.heap.size, 3, none⟩ (.int .i64 tn)).heap.size = w2.heap.size := by simp [World.setCell]
            have HZ5 := hid hz5
            have hbel4 := hbel2.setCell (p := ⟨wr.heap.size, 3, none⟩) (by simp; omega) (.int .i64 tn)
            clear hz5
            go_wp2_with (at_builtin; go_must (refine wpList_append_lies _ (by rfl) _ _ _ (by rfl) w.heap.size 128 i0 _ 4 32 Tryz.underlying62 hi0 hz0 hz1 hz2 rfl (by omega) _ k (ciCells ((ls.take k).map (aim1 ls))) (by rfl) (hown4.alloc _) ⟨w2.heap.size, 0, none⟩ 1 1 [.int .i64 ls[k].place, .int .i64 ls[k].op, .int .i64 ls[k].n, .int .i64 tn] (by rfl) (by rfl) (World.news_of_block (cs := #[.int .i64 ls[k].place, .int .i64 ls[k].op, .int .i64 ls[k].n, .int .i64 tn]) (t := 128) (fr := (0, 0)) (heap_set_new w2 _ _ _)) (by simp [Value.oneCell']) (by omega) (by unfold maxLen; omega) (by omega) (by simp [World.setCell]; omega) (w2.heap.size + 1) (by simp [World.setCell]) ?_); intro gg cap3 w3 hown3 hgrow hat3 hlt3)
            refine ⟨⟨k + 1, by omega, by go_num, by rw [HS.out, HC.out, ciCells_snoc]; exact hown3, (hbel4.alloc (by rw [HZ5.out]; omega) _).grown hgrow (by simp [World.setCell]; omega) (fun k' hk' => (hown.lt k' hk').1), fun j hj2 hjk => ?_⟩, by simp [intOf]; omega⟩
            rcases Nat.lt_or_ge j k with h | h
            · exact HA.out j hj2 h
            · have : j = k := by omega
              subst this
              exact .inr (by rw [HTN.out]; omega)
    · have hke : k = ls.length := by omega
      subst hke
      have HJ := hid (jumps_true (ls := ls) fun j h => HA.out j h h)
      obtain ⟨g3, cap3, rfl, hg3, hg4⟩ := hown.form (by omega)
      have hat3 := CiAt.of_owns (l := aims ls) (by rw [aims_len]; rw [List.take_length] at hown; exact hown)
      go_wp2_with fail
      go_ret2
      exact ⟨hbel, .inr ⟨HJ.out, g3, cap3, rfl, hg3, hg4, hat3⟩⟩
theorem endsWell_any (ls : List Ins) (cl : List CI) (g cap : Nat) (w : World) (hpos : 0 < ls.length) (hl : ls.length ≤ 200) (hcl : cl = aims ls) (hat : CiAt w g cl) :
    Calls Tryz.prog 110 #[.slice (some ⟨g, 0, none⟩) ls.length cap] w fun e w' => e = .returned (.bool (endsOk ls)) ∧ w' = w := by
  obtain ⟨h0, h1, h2, h3⟩ := hat (ls.length - 1) (aim1 ls (ls[ls.length - 1]'(by omega))) (by
    rw [hcl]; simp only [aims, List.getElem?_map]; rw [List.getElem?_eq_getElem (by omega)]; rfl)
  simp only [aim1] at h0 h1 h2 h3
  have HO : Hid (endsOk ls = ((ls[ls.length - 1]'(by omega)).op == 0 || (ls[ls.length - 1]'(by omega)).op == 19)) := hid (by
    unfold endsOk lastOp
    rw [List.getLast?_eq_getElem?, List.getElem?_eq_getElem (by omega)]
    rfl)
  generalize endsOk ls = E at *
  clear hat hcl
  have hne : (((ls.length : Nat) : Int) == 0) = false := by rw [beq_eq_false_iff_ne]; omega
  go_enter Tryz.func110, Tryz.ntmps110
  go_wp2
  all_goals go_ret
  all_goals simp only [beq_eq_false_iff_ne, ne_eq] at *
  all_goals exact ⟨ret_bool (by rw [HO.out, Bool.eq_iff_iff]; simp; omega), by first | rfl | trivial⟩
def ReadPost (s : ByteArray) (w : World) (e : Ending) (w' : World) : Prop :=
  Below w.heap.size w w' ∧ ((errOf s ≠ 0 ∧ e = .returned (.tuple #[.agg #[.int .i64 0, .slice none 0 0], .int .i64 (errOf s : Nat)])) ∨
    (errOf s = 0 ∧ ∃ g cap, e = .returned (.tuple #[.agg #[.int .i64 (byteAt s 1 : Nat), .slice (some ⟨g, 0, none⟩) (codeOf s).length cap], .int .i64 0]) ∧ w.heap.size ≤ g ∧ g < w'.heap.size ∧ CiAt w' g (aims (codeOf s))))
theorem readPost_err {s : ByteArray} {w w' : World} {k : Nat} {z : Int} (hb : Below w.heap.size w w') (he : errOf s = k) (hk : k ≠ 0) (hz : z = (k : Int)) : ReadPost s w (.returned (.tuple #[.agg #[.int .i64 0, .slice none 0 0], .int .i64 z])) w' := by
  subst he; subst hz; exact ⟨hb, .inl ⟨hk, rfl⟩⟩
theorem two_set {w w2 : World} {o : Obj} {u v : Value} (hb : Below (w.heap.size + 1) (w.alloc o) w2) : Below w.heap.size w ((w2.setCell ⟨w.heap.size, 0, none⟩ u).setCell ⟨w.heap.size, 1, none⟩ v) :=
  ((box_below (Nat.le_refl _) hb).setCell (by simp) _).setCell (by simp) _
theorem read_any (s : ByteArray) (w : World) (hs : s.size ≤ maxLen) :
    Calls Tryz.prog 70 #[.string s] w (ReadPost s w) := by
  have hshp := hid (shaped_any s (w.alloc (.cells #[.int .i64 0, .slice none 0 0] 64)) hs)
  cases hsh : shapedP s
  · have HE : Hid (errOf s = 1) := hid (by simp [errOf, hsh])
    rw [hsh] at hshp
    clear hsh hs
    go_enter Tryz.func70, Tryz.ntmps70
    go_wp2_with fail
    refine hshp.out.mono ?_
    intro e w9 hh
    obtain ⟨he9, hw9⟩ := hh
    subst e
    subst w9
    clear hshp
    go_wp2_with fail
    exact bodyPost_ret (v := .tuple #[.agg #[.int .i64 0, .slice none 0 0], .int .i64 1]) (by simp [results, Tryz.results70, go_sem]) rfl (readPost_err ((Below.refl _ _).alloc (Nat.le_refl _) _) HE.out (by decide) rfl)
  · obtain ⟨⟨⟨h3, h4⟩, h0⟩, h1⟩ : ((3 ≤ s.size ∧ s.size ≤ 122) ∧ byteAt s 0 = 84) ∧ byteAt s 1 ≤ 4 := by simpa [shapedP] using hsh
    have hsz : (textOf s).size = s.size - 2 := by simp [textOf]
    have e1 := byteAt_eq s 1 (by omega)
    have HB : Hid (errOf s = match dec (textOf s) (byteAt s 1) 0 with
      | none => 2
      | some l => if jumpsOk l = false then 3 else if endsOk l = false then 4 else 0) := hid (by unfold errOf; rw [hsh]; rfl)
    have HC : Hid (codeOf s = (dec (textOf s) (byteAt s 1) 0).getD []) := hid rfl
    rw [hsh] at hshp
    have HT : Hid (textOf s = s.extract 2 s.size) := hid rfl
    have hins := hid (fun W => instructions_any (textOf s) (byteAt s 1) W (by omega) (by omega))
    generalize hL : byteAt s 1 = L at *
    have HL := hid hL
    have t2 : (textOf s).size ≤ 120 := by omega
    clear hsh h0 hL hs hsz
    go_enter Tryz.func70, Tryz.ntmps70
    go_wp2_with fail
    refine hshp.out.mono ?_
    intro e w9 hh
    obtain ⟨he9, hw9⟩ := hh
    subst e
    subst w9
    clear hshp
    go_wp2_with fail
    rw [← HT.out]
    refine (hins.out _).mono ?_
    clear hins
    intro e w2 hp
    obtain ⟨hb, hp⟩ := hp
    have hb1 := instr_below hb
    obtain ⟨bx, bo, hz⟩ := box_cells hb1
    have x0 := bx 0
    have x1 := bx 1
    simp only [List.getElem?_toArray, List.getElem?_cons_zero, List.getElem?_cons_succ] at x0 x1
    clear bx bo hb
    rcases hp with ⟨hd, rfl⟩ | ⟨ls, g, cap, hd, hpos, hle, rfl, hg1, hg2, hat⟩
    · have HE : Hid (errOf s = 2) := hid (by have := HB.out; rw [hd] at this; exact this)
      clear hd
      have hf0 := hb1.frozen (p := ⟨w.heap.size, 0, none⟩) (by simp)
      have hf1 := hb1.frozen (p := ⟨w.heap.size, 1, none⟩) (by simp)
      go_wp2_with fail
      exact bodyPost_ret (v := .tuple #[.agg #[.int .i64 0, .slice none 0 0], .int .i64 2]) (by simp [results, Tryz.results70, go_sem, x0, x1]) rfl (readPost_err (two_set hb1) HE.out (by decide) rfl)
    · have hws := hid (withTargets_any ls g cap w2 hpos (by omega) hat hg2)
      have hgz : w.heap.size + 1 ≤ g := by simpa using hg1
      clear hg1 hat
      have HD := hid hd
      clear hd
      go_wp2_with fail
      refine hws.out.mono ?_
      clear hws
      intro e w3 hp
      obtain ⟨hb3, hp⟩ := hp
      have hb4 : Below (w.heap.size + 1) (w.alloc (.cells #[.int .i64 0, .slice none 0 0] 64)) w3 := hb1.trans (hb3.mono hz)
      have hz3 := hb3.size
      obtain ⟨bx, bo, hz4⟩ := box_cells hb4
      have y0 := bx 0
      have y1 := bx 1
      simp only [List.getElem?_toArray, List.getElem?_cons_zero, List.getElem?_cons_succ] at y0 y1
      have hf0 := hb4.frozen (p := ⟨w.heap.size, 0, none⟩) (by simp)
      have hf1 := hb4.frozen (p := ⟨w.heap.size, 1, none⟩) (by simp)
      clear bx bo x0 x1
      rcases hp with ⟨hj, rfl⟩ | ⟨hj, g3, cap3, rfl, hg3, hg4, hat3⟩
      · have HE : Hid (errOf s = 3) := hid (by have := HB.out; rw [HD.out] at this; simpa [hj] using this)
        clear hj
        go_wp2_with fail
        exact bodyPost_ret (v := .tuple #[.agg #[.int .i64 0, .slice none 0 0], .int .i64 3]) (by simp [results, Tryz.results70, go_sem, y0, y1]) rfl (readPost_err (two_set hb4) HE.out (by decide) rfl)
      · have HJ := hid hj
        clear hj
        have hew := hid (endsWell_any ls (aims ls) g3 cap3 w3 hpos (by omega) rfl hat3)
        go_wp2_with fail
        refine hew.out.mono ?_
        clear hew
        intro e w9 hh
        obtain ⟨he9, hw9⟩ := hh
        subst e
        subst w9
        cases hen : endsOk ls
        · have HE : Hid (errOf s = 4) := hid (by have := HB.out; rw [HD.out] at this; simpa [HJ.out, hen] using this)
          clear hen
          go_wp2_with fail
          exact bodyPost_ret (v := .tuple #[.agg #[.int .i64 0, .slice none 0 0], .int .i64 4]) (by simp [results, Tryz.results70, go_sem, y0, y1]) rfl (readPost_err (two_set hb4) HE.out (by decide) rfl)
        · have HE : Hid (errOf s = 0) := hid (by have := HB.out; rw [HD.out] at this; simpa [HJ.out, hen] using this)
          have HCO : Hid (codeOf s = ls) := hid (by rw [HC.out, HD.out]; rfl)
          clear hen
          go_wp2_with fail
          refine bodyPost_ret (v := .tuple #[.agg #[.int .i64 L, .slice (some ⟨g3, 0, none⟩) ls.length cap3], .int .i64 0]) (by simp [results, Tryz.results70, go_sem, y0, y1]) rfl ⟨two_set hb4, .inr ⟨HE.out, ?_⟩⟩
          rw [HL.out, HCO.out]
          exact ⟨g3, cap3, rfl, by omega, by simp [World.setCell]; exact hg4, hat3.same (by rw [Below.heap_setCell _ _ _ _ (by simp; omega), Below.heap_setCell _ _ _ _ (by simp; omega)])⟩
theorem aft_load (f : Fr) (n pl tg : Nat) (w : World) (ok : FrOk f) (hn : n < 4) :
    Calls Tryz.prog 140 #[.agg (frL f).toArray, .agg #[.int .i64 pl, .int .i64 (7 : Nat), .int .i64 n, .int .i64 tg]] w (AftPost f 7 n w) := by
  have HF : Hid (afterF f 7 n = loadF f n) := hid (rfl)
  have hld := hid (fun W hW => load_any w.heap.size f n W hW ok hn)
  obtain ⟨r, lo, d, st, wg⟩ := f
  obtain ⟨h1, h2, h3d⟩ := ok
  simp only at h1 h2
  obtain ⟨a, b, c, e, rfl⟩ := four h1
  obtain ⟨s0, s1, s2, s3, s4, s5, s6, s7, rfl⟩ := eight h2
  simp only [frL, List.map_cons, List.map_nil, List.cons_append, List.nil_append, numV]
  go_enter Tryz.func140, Tryz.ntmps140
  go_wp2_with fail
  refine (hld.out _ (heap_three_first w _ _ _)).mono ?_
  rintro x w2 ⟨rfl, h3, h4⟩
  have hz := h4.size
  simp at hz
  have hres := hid ((h4.block (w.heap.size + 1 + 1) (by omega)).trans (heap_three_third w _ _ _))
  rw [← HF.out] at h3
  have hok3 : FrOk (afterF ⟨r, [a, b, c, e], d, [s0, s1, s2, s3, s4, s5, s6, s7], wg⟩ 7 n) := afterF_ok ⟨rfl, rfl, h3d⟩ 7 n
  have HPM := hid (fun W b' hb' hr' => aftPost_mk (f := ⟨r, [a, b, c, e], d, [s0, s1, s2, s3, s4, s5, s6, s7], wg⟩) (op := 7) (n := n) (w := w) (W := W) b' hb' hr')
  generalize afterF ⟨r, [a, b, c, e], d, [s0, s1, s2, s3, s4, s5, s6, s7], wg⟩ 7 n = G at *
  obtain ⟨r', lo', d', st', wg'⟩ := G
  obtain ⟨j1, j2, j3⟩ := hok3
  simp only at j1 j2
  obtain ⟨a', b', c', e', rfl⟩ := four j1
  obtain ⟨t0, t1, t2, t3, t4, t5, t6, t7, rfl⟩ := eight j2
  have c0 := RowAt.cell h3 0
  have c1 := RowAt.cell h3 1
  have c2 := RowAt.cell h3 2
  have c3 := RowAt.cell h3 3
  have c4 := RowAt.cell h3 4
  have c5 := RowAt.cell h3 5
  have c6 := RowAt.cell h3 6
  have c7 := RowAt.cell h3 7
  have c8 := RowAt.cell h3 8
  have c9 := RowAt.cell h3 9
  have c10 := RowAt.cell h3 10
  have c11 := RowAt.cell h3 11
  have c12 := RowAt.cell h3 12
  have c13 := RowAt.cell h3 13
  have c14 := RowAt.cell h3 14
  have z0 := cell_of_row w2 (w.heap.size + 1 + 1) 0 _ _ _ hres.out
  have z1 := cell_of_row w2 (w.heap.size + 1 + 1) 1 _ _ _ hres.out
  have z2 := cell_of_row w2 (w.heap.size + 1 + 1) 2 _ _ _ hres.out
  have z3 := cell_of_row w2 (w.heap.size + 1 + 1) 3 _ _ _ hres.out
  have z4 := cell_of_row w2 (w.heap.size + 1 + 1) 4 _ _ _ hres.out
  have z5 := cell_of_row w2 (w.heap.size + 1 + 1) 5 _ _ _ hres.out
  have z6 := cell_of_row w2 (w.heap.size + 1 + 1) 6 _ _ _ hres.out
  have z7 := cell_of_row w2 (w.heap.size + 1 + 1) 7 _ _ _ hres.out
  have z8 := cell_of_row w2 (w.heap.size + 1 + 1) 8 _ _ _ hres.out
  have z9 := cell_of_row w2 (w.heap.size + 1 + 1) 9 _ _ _ hres.out
  have z10 := cell_of_row w2 (w.heap.size + 1 + 1) 10 _ _ _ hres.out
  have z11 := cell_of_row w2 (w.heap.size + 1 + 1) 11 _ _ _ hres.out
  have z12 := cell_of_row w2 (w.heap.size + 1 + 1) 12 _ _ _ hres.out
  have z13 := cell_of_row w2 (w.heap.size + 1 + 1) 13 _ _ _ hres.out
  have z14 := cell_of_row w2 (w.heap.size + 1 + 1) 14 _ _ _ hres.out
  have g0 := frozen_of_row w2 (w.heap.size + 1 + 1) 0 _ _ hres.out
  have g1 := frozen_of_row w2 (w.heap.size + 1 + 1) 1 _ _ hres.out
  have g2 := frozen_of_row w2 (w.heap.size + 1 + 1) 2 _ _ hres.out
  have g3 := frozen_of_row w2 (w.heap.size + 1 + 1) 3 _ _ hres.out
  have g4 := frozen_of_row w2 (w.heap.size + 1 + 1) 4 _ _ hres.out
  have g5 := frozen_of_row w2 (w.heap.size + 1 + 1) 5 _ _ hres.out
  have g6 := frozen_of_row w2 (w.heap.size + 1 + 1) 6 _ _ hres.out
  have g7 := frozen_of_row w2 (w.heap.size + 1 + 1) 7 _ _ hres.out
  have g8 := frozen_of_row w2 (w.heap.size + 1 + 1) 8 _ _ hres.out
  have g9 := frozen_of_row w2 (w.heap.size + 1 + 1) 9 _ _ hres.out
  have g10 := frozen_of_row w2 (w.heap.size + 1 + 1) 10 _ _ hres.out
  have g11 := frozen_of_row w2 (w.heap.size + 1 + 1) 11 _ _ hres.out
  have g12 := frozen_of_row w2 (w.heap.size + 1 + 1) 12 _ _ hres.out
  have g13 := frozen_of_row w2 (w.heap.size + 1 + 1) 13 _ _ hres.out
  have g14 := frozen_of_row w2 (w.heap.size + 1 + 1) 14 _ _ hres.out
  simp only [frL, List.map_cons, List.map_nil, List.cons_append, List.nil_append, numV, List.getElem?_toArray, List.getElem?_cons_zero, List.getElem?_cons_succ] at c0 c1 c2 c3 c4 c5 c6 c7 c8 c9 c10 c11 c12 c13 c14 z0 z1 z2 z3 z4 z5 z6 z7 z8 z9 z10 z11 z12 z13 z14
  simp only [frL, List.map_cons, List.map_nil, List.cons_append, List.nil_append, numV] at HPM
  go_wp2_with fail
  go_region
  go_wp2_with fail
  have hbw : Below w.heap.size w w2 := (three_new w _ _ _).trans (h4.below (Nat.le_refl _))
  exact bodyPost_ret (aft_res (by rfl) (by rfl) (fifteen_set hres.out _ _ _ _ _ _ _ _ _ _ _ _ _ _ _).drew) rfl (HPM.out _ _ (fifteen_below hbw (by omega) _ _ _ _ _ _ _ _ _ _ _ _ _ _ _).drew rfl)
theorem aft_store (f : Fr) (n pl tg : Nat) (w : World) (ok : FrOk f) (hn : n < 4) :
    Calls Tryz.prog 140 #[.agg (frL f).toArray, .agg #[.int .i64 pl, .int .i64 (8 : Nat), .int .i64 n, .int .i64 tg]] w (AftPost f 8 n w) := by
  have HF : Hid (afterF f 8 n = storeF f n) := hid (rfl)
  have hld := hid (fun W hW => store_any w.heap.size f n W hW ok hn)
  obtain ⟨r, lo, d, st, wg⟩ := f
  obtain ⟨h1, h2, h3d⟩ := ok
  simp only at h1 h2
  obtain ⟨a, b, c, e, rfl⟩ := four h1
  obtain ⟨s0, s1, s2, s3, s4, s5, s6, s7, rfl⟩ := eight h2
  simp only [frL, List.map_cons, List.map_nil, List.cons_append, List.nil_append, numV]
  go_enter Tryz.func140, Tryz.ntmps140
  go_wp2_with fail
  refine (hld.out _ (heap_three_first w _ _ _)).mono ?_
  rintro x w2 ⟨rfl, h3, h4⟩
  have hz := h4.size
  simp at hz
  have hres := hid ((h4.block (w.heap.size + 1 + 1) (by omega)).trans (heap_three_third w _ _ _))
  rw [← HF.out] at h3
  have hok3 : FrOk (afterF ⟨r, [a, b, c, e], d, [s0, s1, s2, s3, s4, s5, s6, s7], wg⟩ 8 n) := afterF_ok ⟨rfl, rfl, h3d⟩ 8 n
  have HPM := hid (fun W b' hb' hr' => aftPost_mk (f := ⟨r, [a, b, c, e], d, [s0, s1, s2, s3, s4, s5, s6, s7], wg⟩) (op := 8) (n := n) (w := w) (W := W) b' hb' hr')
  generalize afterF ⟨r, [a, b, c, e], d, [s0, s1, s2, s3, s4, s5, s6, s7], wg⟩ 8 n = G at *
  obtain ⟨r', lo', d', st', wg'⟩ := G
  obtain ⟨j1, j2, j3⟩ := hok3
  simp only at j1 j2
  obtain ⟨a', b', c', e', rfl⟩ := four j1
  obtain ⟨t0, t1, t2, t3, t4, t5, t6, t7, rfl⟩ := eight j2
  have c0 := RowAt.cell h3 0
  have c1 := RowAt.cell h3 1
  have c2 := RowAt.cell h3 2
  have c3 := RowAt.cell h3 3
  have c4 := RowAt.cell h3 4
  have c5 := RowAt.cell h3 5
  have c6 := RowAt.cell h3 6
  have c7 := RowAt.cell h3 7
  have c8 := RowAt.cell h3 8
  have c9 := RowAt.cell h3 9
  have c10 := RowAt.cell h3 10
  have c11 := RowAt.cell h3 11
  have c12 := RowAt.cell h3 12
  have c13 := RowAt.cell h3 13
  have c14 := RowAt.cell h3 14
  have z0 := cell_of_row w2 (w.heap.size + 1 + 1) 0 _ _ _ hres.out
  have z1 := cell_of_row w2 (w.heap.size + 1 + 1) 1 _ _ _ hres.out
  have z2 := cell_of_row w2 (w.heap.size + 1 + 1) 2 _ _ _ hres.out
  have z3 := cell_of_row w2 (w.heap.size + 1 + 1) 3 _ _ _ hres.out
  have z4 := cell_of_row w2 (w.heap.size + 1 + 1) 4 _ _ _ hres.out
  have z5 := cell_of_row w2 (w.heap.size + 1 + 1) 5 _ _ _ hres.out
  have z6 := cell_of_row w2 (w.heap.size + 1 + 1) 6 _ _ _ hres.out
  have z7 := cell_of_row w2 (w.heap.size + 1 + 1) 7 _ _ _ hres.out
  have z8 := cell_of_row w2 (w.heap.size + 1 + 1) 8 _ _ _ hres.out
  have z9 := cell_of_row w2 (w.heap.size + 1 + 1) 9 _ _ _ hres.out
  have z10 := cell_of_row w2 (w.heap.size + 1 + 1) 10 _ _ _ hres.out
  have z11 := cell_of_row w2 (w.heap.size + 1 + 1) 11 _ _ _ hres.out
  have z12 := cell_of_row w2 (w.heap.size + 1 + 1) 12 _ _ _ hres.out
  have z13 := cell_of_row w2 (w.heap.size + 1 + 1) 13 _ _ _ hres.out
  have z14 := cell_of_row w2 (w.heap.size + 1 + 1) 14 _ _ _ hres.out
  have g0 := frozen_of_row w2 (w.heap.size + 1 + 1) 0 _ _ hres.out
  have g1 := frozen_of_row w2 (w.heap.size + 1 + 1) 1 _ _ hres.out
  have g2 := frozen_of_row w2 (w.heap.size + 1 + 1) 2 _ _ hres.out
  have g3 := frozen_of_row w2 (w.heap.size + 1 + 1) 3 _ _ hres.out
  have g4 := frozen_of_row w2 (w.heap.size + 1 + 1) 4 _ _ hres.out
  have g5 := frozen_of_row w2 (w.heap.size + 1 + 1) 5 _ _ hres.out
  have g6 := frozen_of_row w2 (w.heap.size + 1 + 1) 6 _ _ hres.out
  have g7 := frozen_of_row w2 (w.heap.size + 1 + 1) 7 _ _ hres.out
  have g8 := frozen_of_row w2 (w.heap.size + 1 + 1) 8 _ _ hres.out
  have g9 := frozen_of_row w2 (w.heap.size + 1 + 1) 9 _ _ hres.out
  have g10 := frozen_of_row w2 (w.heap.size + 1 + 1) 10 _ _ hres.out
  have g11 := frozen_of_row w2 (w.heap.size + 1 + 1) 11 _ _ hres.out
  have g12 := frozen_of_row w2 (w.heap.size + 1 + 1) 12 _ _ hres.out
  have g13 := frozen_of_row w2 (w.heap.size + 1 + 1) 13 _ _ hres.out
  have g14 := frozen_of_row w2 (w.heap.size + 1 + 1) 14 _ _ hres.out
  simp only [frL, List.map_cons, List.map_nil, List.cons_append, List.nil_append, numV, List.getElem?_toArray, List.getElem?_cons_zero, List.getElem?_cons_succ] at c0 c1 c2 c3 c4 c5 c6 c7 c8 c9 c10 c11 c12 c13 c14 z0 z1 z2 z3 z4 z5 z6 z7 z8 z9 z10 z11 z12 z13 z14
  simp only [frL, List.map_cons, List.map_nil, List.cons_append, List.nil_append, numV] at HPM
  go_wp2_with fail
  go_region
  go_wp2_with fail
  have hbw : Below w.heap.size w w2 := (three_new w _ _ _).trans (h4.below (Nat.le_refl _))
  exact bodyPost_ret (aft_res (by rfl) (by rfl) (fifteen_set hres.out _ _ _ _ _ _ _ _ _ _ _ _ _ _ _).drew) rfl (HPM.out _ _ (fifteen_below hbw (by omega) _ _ _ _ _ _ _ _ _ _ _ _ _ _ _).drew rfl)
theorem aft_drop (f : Fr) (n pl tg : Nat) (w : World) (ok : FrOk f) :
    Calls Tryz.prog 140 #[.agg (frL f).toArray, .agg #[.int .i64 pl, .int .i64 (10 : Nat), .int .i64 n, .int .i64 tg]] w (AftPost f 10 n w) := by
  have HF : Hid (afterF f 10 n = (popF f).1) := hid (rfl)
  have hld := hid (fun W hW => pop_any w.heap.size f W hW ok)
  obtain ⟨r, lo, d, st, wg⟩ := f
  obtain ⟨h1, h2, h3d⟩ := ok
  simp only at h1 h2
  obtain ⟨a, b, c, e, rfl⟩ := four h1
  obtain ⟨s0, s1, s2, s3, s4, s5, s6, s7, rfl⟩ := eight h2
  simp only [frL, List.map_cons, List.map_nil, List.cons_append, List.nil_append, numV]
  go_enter Tryz.func140, Tryz.ntmps140
  go_wp2_with fail
  refine (hld.out _ (heap_three_first w _ _ _)).mono ?_
  rintro x w2 ⟨rfl, h3, h4⟩
  have hz := h4.size
  simp at hz
  have hres := hid ((h4.block (w.heap.size + 1 + 1) (by omega)).trans (heap_three_third w _ _ _))
  rw [← HF.out] at h3
  have hok3 : FrOk (afterF ⟨r, [a, b, c, e], d, [s0, s1, s2, s3, s4, s5, s6, s7], wg⟩ 10 n) := afterF_ok ⟨rfl, rfl, h3d⟩ 10 n
  have HPM := hid (fun W b' hb' hr' => aftPost_mk (f := ⟨r, [a, b, c, e], d, [s0, s1, s2, s3, s4, s5, s6, s7], wg⟩) (op := 10) (n := n) (w := w) (W := W) b' hb' hr')
  generalize afterF ⟨r, [a, b, c, e], d, [s0, s1, s2, s3, s4, s5, s6, s7], wg⟩ 10 n = G at *
  obtain ⟨r', lo', d', st', wg'⟩ := G
  obtain ⟨j1, j2, j3⟩ := hok3
  simp only at j1 j2
  obtain ⟨a', b', c', e', rfl⟩ := four j1
  obtain ⟨t0, t1, t2, t3, t4, t5, t6, t7, rfl⟩ := eight j2
  have c0 := RowAt.cell h3 0
  have c1 := RowAt.cell h3 1
  have c2 := RowAt.cell h3 2
  have c3 := RowAt.cell h3 3
  have c4 := RowAt.cell h3 4
  have c5 := RowAt.cell h3 5
  have c6 := RowAt.cell h3 6
  have c7 := RowAt.cell h3 7
  have c8 := RowAt.cell h3 8
  have c9 := RowAt.cell h3 9
  have c10 := RowAt.cell h3 10
  have c11 := RowAt.cell h3 11
  have c12 := RowAt.cell h3 12
  have c13 := RowAt.cell h3 13
  have c14 := RowAt.cell h3 14
  have z0 := cell_of_row w2 (w.heap.size + 1 + 1) 0 _ _ _ hres.out
  have z1 := cell_of_row w2 (w.heap.size + 1 + 1) 1 _ _ _ hres.out
  have z2 := cell_of_row w2 (w.heap.size + 1 + 1) 2 _ _ _ hres.out
  have z3 := cell_of_row w2 (w.heap.size + 1 + 1) 3 _ _ _ hres.out
  have z4 := cell_of_row w2 (w.heap.size + 1 + 1) 4 _ _ _ hres.out
  have z5 := cell_of_row w2 (w.heap.size + 1 + 1) 5 _ _ _ hres.out
  have z6 := cell_of_row w2 (w.heap.size + 1 + 1) 6 _ _ _ hres.out
  have z7 := cell_of_row w2 (w.heap.size + 1 + 1) 7 _ _ _ hres.out
  have z8 := cell_of_row w2 (w.heap.size + 1 + 1) 8 _ _ _ hres.out
  have z9 := cell_of_row w2 (w.heap.size + 1 + 1) 9 _ _ _ hres.out
  have z10 := cell_of_row w2 (w.heap.size + 1 + 1) 10 _ _ _ hres.out
  have z11 := cell_of_row w2 (w.heap.size + 1 + 1) 11 _ _ _ hres.out
  have z12 := cell_of_row w2 (w.heap.size + 1 + 1) 12 _ _ _ hres.out
  have z13 := cell_of_row w2 (w.heap.size + 1 + 1) 13 _ _ _ hres.out
  have z14 := cell_of_row w2 (w.heap.size + 1 + 1) 14 _ _ _ hres.out
  have g0 := frozen_of_row w2 (w.heap.size + 1 + 1) 0 _ _ hres.out
  have g1 := frozen_of_row w2 (w.heap.size + 1 + 1) 1 _ _ hres.out
  have g2 := frozen_of_row w2 (w.heap.size + 1 + 1) 2 _ _ hres.out
  have g3 := frozen_of_row w2 (w.heap.size + 1 + 1) 3 _ _ hres.out
  have g4 := frozen_of_row w2 (w.heap.size + 1 + 1) 4 _ _ hres.out
  have g5 := frozen_of_row w2 (w.heap.size + 1 + 1) 5 _ _ hres.out
  have g6 := frozen_of_row w2 (w.heap.size + 1 + 1) 6 _ _ hres.out
  have g7 := frozen_of_row w2 (w.heap.size + 1 + 1) 7 _ _ hres.out
  have g8 := frozen_of_row w2 (w.heap.size + 1 + 1) 8 _ _ hres.out
  have g9 := frozen_of_row w2 (w.heap.size + 1 + 1) 9 _ _ hres.out
  have g10 := frozen_of_row w2 (w.heap.size + 1 + 1) 10 _ _ hres.out
  have g11 := frozen_of_row w2 (w.heap.size + 1 + 1) 11 _ _ hres.out
  have g12 := frozen_of_row w2 (w.heap.size + 1 + 1) 12 _ _ hres.out
  have g13 := frozen_of_row w2 (w.heap.size + 1 + 1) 13 _ _ hres.out
  have g14 := frozen_of_row w2 (w.heap.size + 1 + 1) 14 _ _ hres.out
  simp only [frL, List.map_cons, List.map_nil, List.cons_append, List.nil_append, numV, List.getElem?_toArray, List.getElem?_cons_zero, List.getElem?_cons_succ] at c0 c1 c2 c3 c4 c5 c6 c7 c8 c9 c10 c11 c12 c13 c14 z0 z1 z2 z3 z4 z5 z6 z7 z8 z9 z10 z11 z12 z13 z14
  simp only [frL, List.map_cons, List.map_nil, List.cons_append, List.nil_append, numV] at HPM
  go_wp2_with fail
  go_region
  go_wp2_with fail
  have hbw : Below w.heap.size w w2 := (three_new w _ _ _).trans (h4.below (Nat.le_refl _))
  exact bodyPost_ret (aft_res (by rfl) (by rfl) (fifteen_set hres.out _ _ _ _ _ _ _ _ _ _ _ _ _ _ _).drew) rfl (HPM.out _ _ (fifteen_below hbw (by omega) _ _ _ _ _ _ _ _ _ _ _ _ _ _ _).drew rfl)
theorem aft_dup (f : Fr) (n pl tg : Nat) (w : World) (ok : FrOk f) :
    Calls Tryz.prog 140 #[.agg (frL f).toArray, .agg #[.int .i64 pl, .int .i64 (9 : Nat), .int .i64 n, .int .i64 tg]] w (AftPost f 9 n w) := by
  have HF : Hid (afterF f 9 n = pushF (pushF (popF f).1 (popF f).2) (popF f).2) := hid (rfl)
  have k1 := hid (fun W hW => pop_any w.heap.size f W hW ok)
  have k2 := hid (fun W hW => push_any w.heap.size (popF f).1 (popF f).2 W hW (popF_ok ok))
  have k3 := hid (fun W hW => push_any w.heap.size (pushF (popF f).1 (popF f).2) (popF f).2 W hW (pushF_ok (popF_ok ok) _))
  obtain ⟨r, lo, d, st, wg⟩ := f
  obtain ⟨h1, h2, h3d⟩ := ok
  simp only at h1 h2
  obtain ⟨a, b, c, e, rfl⟩ := four h1
  obtain ⟨s0, s1, s2, s3, s4, s5, s6, s7, rfl⟩ := eight h2
  simp only [frL, List.map_cons, List.map_nil, List.cons_append, List.nil_append, numV]
  go_enter Tryz.func140, Tryz.ntmps140
  go_wp2_with fail
  refine (k1.out _ (heap_three_first w _ _ _)).mono ?_
  rintro x w3 ⟨rfl, h5, h6⟩
  go_wp2_with fail
  refine (k2.out _ h5).mono ?_
  rintro x w4 ⟨rfl, h7, h8⟩
  go_wp2_with fail
  refine (k3.out _ h7).mono ?_
  rintro x w2 ⟨rfl, h3, h9⟩
  have h4 := (h6.trans h8).trans h9
  clear k1 k2 k3 h5 h6 h7 h8 h9
  have hz := h4.size
  simp at hz
  have hres := hid ((h4.block (w.heap.size + 1 + 1) (by omega)).trans (heap_three_third w _ _ _))
  rw [← HF.out] at h3
  have hok3 : FrOk (afterF ⟨r, [a, b, c, e], d, [s0, s1, s2, s3, s4, s5, s6, s7], wg⟩ 9 n) := afterF_ok ⟨rfl, rfl, h3d⟩ 9 n
  have HPM := hid (fun W b' hb' hr' => aftPost_mk (f := ⟨r, [a, b, c, e], d, [s0, s1, s2, s3, s4, s5, s6, s7], wg⟩) (op := 9) (n := n) (w := w) (W := W) b' hb' hr')
  generalize afterF ⟨r, [a, b, c, e], d, [s0, s1, s2, s3, s4, s5, s6, s7], wg⟩ 9 n = G at *
  obtain ⟨r', lo', d', st', wg'⟩ := G
  obtain ⟨j1, j2, j3⟩ := hok3
  simp only at j1 j2
  obtain ⟨a', b', c', e', rfl⟩ := four j1
  obtain ⟨t0, t1, t2, t3, t4, t5, t6, t7, rfl⟩ := eight j2
  have c0 := RowAt.cell h3 0
  have c1 := RowAt.cell h3 1
  have c2 := RowAt.cell h3 2
  have c3 := RowAt.cell h3 3
  have c4 := RowAt.cell h3 4
  have c5 := RowAt.cell h3 5
  have c6 := RowAt.cell h3 6
  have c7 := RowAt.cell h3 7
  have c8 := RowAt.cell h3 8
  have c9 := RowAt.cell h3 9
  have c10 := RowAt.cell h3 10
  have c11 := RowAt.cell h3 11
  have c12 := RowAt.cell h3 12
  have c13 := RowAt.cell h3 13
  have c14 := RowAt.cell h3 14
  have z0 := cell_of_row w2 (w.heap.size + 1 + 1) 0 _ _ _ hres.out
  have z1 := cell_of_row w2 (w.heap.size + 1 + 1) 1 _ _ _ hres.out
  have z2 := cell_of_row w2 (w.heap.size + 1 + 1) 2 _ _ _ hres.out
  have z3 := cell_of_row w2 (w.heap.size + 1 + 1) 3 _ _ _ hres.out
  have z4 := cell_of_row w2 (w.heap.size + 1 + 1) 4 _ _ _ hres.out
  have z5 := cell_of_row w2 (w.heap.size + 1 + 1) 5 _ _ _ hres.out
  have z6 := cell_of_row w2 (w.heap.size + 1 + 1) 6 _ _ _ hres.out
  have z7 := cell_of_row w2 (w.heap.size + 1 + 1) 7 _ _ _ hres.out
  have z8 := cell_of_row w2 (w.heap.size + 1 + 1) 8 _ _ _ hres.out
  have z9 := cell_of_row w2 (w.heap.size + 1 + 1) 9 _ _ _ hres.out
  have z10 := cell_of_row w2 (w.heap.size + 1 + 1) 10 _ _ _ hres.out
  have z11 := cell_of_row w2 (w.heap.size + 1 + 1) 11 _ _ _ hres.out
  have z12 := cell_of_row w2 (w.heap.size + 1 + 1) 12 _ _ _ hres.out
  have z13 := cell_of_row w2 (w.heap.size + 1 + 1) 13 _ _ _ hres.out
  have z14 := cell_of_row w2 (w.heap.size + 1 + 1) 14 _ _ _ hres.out
  have g0 := frozen_of_row w2 (w.heap.size + 1 + 1) 0 _ _ hres.out
  have g1 := frozen_of_row w2 (w.heap.size + 1 + 1) 1 _ _ hres.out
  have g2 := frozen_of_row w2 (w.heap.size + 1 + 1) 2 _ _ hres.out
  have g3 := frozen_of_row w2 (w.heap.size + 1 + 1) 3 _ _ hres.out
  have g4 := frozen_of_row w2 (w.heap.size + 1 + 1) 4 _ _ hres.out
  have g5 := frozen_of_row w2 (w.heap.size + 1 + 1) 5 _ _ hres.out
  have g6 := frozen_of_row w2 (w.heap.size + 1 + 1) 6 _ _ hres.out
  have g7 := frozen_of_row w2 (w.heap.size + 1 + 1) 7 _ _ hres.out
  have g8 := frozen_of_row w2 (w.heap.size + 1 + 1) 8 _ _ hres.out
  have g9 := frozen_of_row w2 (w.heap.size + 1 + 1) 9 _ _ hres.out
  have g10 := frozen_of_row w2 (w.heap.size + 1 + 1) 10 _ _ hres.out
  have g11 := frozen_of_row w2 (w.heap.size + 1 + 1) 11 _ _ hres.out
  have g12 := frozen_of_row w2 (w.heap.size + 1 + 1) 12 _ _ hres.out
  have g13 := frozen_of_row w2 (w.heap.size + 1 + 1) 13 _ _ hres.out
  have g14 := frozen_of_row w2 (w.heap.size + 1 + 1) 14 _ _ hres.out
  simp only [frL, List.map_cons, List.map_nil, List.cons_append, List.nil_append, numV, List.getElem?_toArray, List.getElem?_cons_zero, List.getElem?_cons_succ] at c0 c1 c2 c3 c4 c5 c6 c7 c8 c9 c10 c11 c12 c13 c14 z0 z1 z2 z3 z4 z5 z6 z7 z8 z9 z10 z11 z12 z13 z14
  simp only [frL, List.map_cons, List.map_nil, List.cons_append, List.nil_append, numV] at HPM
  go_wp2_with fail
  go_region
  go_wp2_with fail
  have hbw : Below w.heap.size w w2 := (three_new w _ _ _).trans (h4.below (Nat.le_refl _))
  exact bodyPost_ret (aft_res (by rfl) (by rfl) (fifteen_set hres.out _ _ _ _ _ _ _ _ _ _ _ _ _ _ _).drew) rfl (HPM.out _ _ (fifteen_below hbw (by omega) _ _ _ _ _ _ _ _ _ _ _ _ _ _ _).drew rfl)
theorem aft_swap (f : Fr) (n pl tg : Nat) (w : World) (ok : FrOk f) :
    Calls Tryz.prog 140 #[.agg (frL f).toArray, .agg #[.int .i64 pl, .int .i64 (11 : Nat), .int .i64 n, .int .i64 tg]] w (AftPost f 11 n w) := by
  have HF : Hid (afterF f 11 n = pushF (pushF (popF (popF f).1).1 (popF f).2) (popF (popF f).1).2) := hid (rfl)
  have k1 := hid (fun W hW => pop_any w.heap.size f W hW ok)
  have k2 := hid (fun W hW => pop_any w.heap.size (popF f).1 W hW (popF_ok ok))
  have k3 := hid (fun W hW => push_any w.heap.size (popF (popF f).1).1 (popF f).2 W hW (popF_ok (popF_ok ok)))
  have k4 := hid (fun W hW => push_any w.heap.size (pushF (popF (popF f).1).1 (popF f).2) (popF (popF f).1).2 W hW (pushF_ok (popF_ok (popF_ok ok)) _))
  obtain ⟨r, lo, d, st, wg⟩ := f
  obtain ⟨h1, h2, h3d⟩ := ok
  simp only at h1 h2
  obtain ⟨a, b, c, e, rfl⟩ := four h1
  obtain ⟨s0, s1, s2, s3, s4, s5, s6, s7, rfl⟩ := eight h2
  simp only [frL, List.map_cons, List.map_nil, List.cons_append, List.nil_append, numV]
  go_enter Tryz.func140, Tryz.ntmps140
  go_wp2_with fail
  refine (k1.out _ (heap_three_first w _ _ _)).mono ?_
  rintro x w3 ⟨rfl, h5, h6⟩
  go_wp2_with fail
  refine (k2.out _ h5).mono ?_
  rintro x w4 ⟨rfl, h7, h8⟩
  go_wp2_with fail
  refine (k3.out _ h7).mono ?_
  rintro x w5 ⟨rfl, h9, h10⟩
  go_wp2_with fail
  refine (k4.out _ h9).mono ?_
  rintro x w2 ⟨rfl, h3, h11⟩
  have h4 := ((h6.trans h8).trans h10).trans h11
  clear k1 k2 k3 k4 h5 h6 h7 h8 h9 h10 h11
  have hz := h4.size
  simp at hz
  have hres := hid ((h4.block (w.heap.size + 1 + 1) (by omega)).trans (heap_three_third w _ _ _))
  rw [← HF.out] at h3
  have hok3 : FrOk (afterF ⟨r, [a, b, c, e], d, [s0, s1, s2, s3, s4, s5, s6, s7], wg⟩ 11 n) := afterF_ok ⟨rfl, rfl, h3d⟩ 11 n
  have HPM := hid (fun W b' hb' hr' => aftPost_mk (f := ⟨r, [a, b, c, e], d, [s0, s1, s2, s3, s4, s5, s6, s7], wg⟩) (op := 11) (n := n) (w := w) (W := W) b' hb' hr')
  generalize afterF ⟨r, [a, b, c, e], d, [s0, s1, s2, s3, s4, s5, s6, s7], wg⟩ 11 n = G at *
  obtain ⟨r', lo', d', st', wg'⟩ := G
  obtain ⟨j1, j2, j3⟩ := hok3
  simp only at j1 j2
  obtain ⟨a', b', c', e', rfl⟩ := four j1
  obtain ⟨t0, t1, t2, t3, t4, t5, t6, t7, rfl⟩ := eight j2
  have c0 := RowAt.cell h3 0
  have c1 := RowAt.cell h3 1
  have c2 := RowAt.cell h3 2
  have c3 := RowAt.cell h3 3
  have c4 := RowAt.cell h3 4
  have c5 := RowAt.cell h3 5
  have c6 := RowAt.cell h3 6
  have c7 := RowAt.cell h3 7
  have c8 := RowAt.cell h3 8
  have c9 := RowAt.cell h3 9
  have c10 := RowAt.cell h3 10
  have c11 := RowAt.cell h3 11
  have c12 := RowAt.cell h3 12
  have c13 := RowAt.cell h3 13
  have c14 := RowAt.cell h3 14
  have z0 := cell_of_row w2 (w.heap.size + 1 + 1) 0 _ _ _ hres.out
  have z1 := cell_of_row w2 (w.heap.size + 1 + 1) 1 _ _ _ hres.out
  have z2 := cell_of_row w2 (w.heap.size + 1 + 1) 2 _ _ _ hres.out
  have z3 := cell_of_row w2 (w.heap.size + 1 + 1) 3 _ _ _ hres.out
  have z4 := cell_of_row w2 (w.heap.size + 1 + 1) 4 _ _ _ hres.out
  have z5 := cell_of_row w2 (w.heap.size + 1 + 1) 5 _ _ _ hres.out
  have z6 := cell_of_row w2 (w.heap.size + 1 + 1) 6 _ _ _ hres.out
  have z7 := cell_of_row w2 (w.heap.size + 1 + 1) 7 _ _ _ hres.out
  have z8 := cell_of_row w2 (w.heap.size + 1 + 1) 8 _ _ _ hres.out
  have z9 := cell_of_row w2 (w.heap.size + 1 + 1) 9 _ _ _ hres.out
  have z10 := cell_of_row w2 (w.heap.size + 1 + 1) 10 _ _ _ hres.out
  have z11 := cell_of_row w2 (w.heap.size + 1 + 1) 11 _ _ _ hres.out
  have z12 := cell_of_row w2 (w.heap.size + 1 + 1) 12 _ _ _ hres.out
  have z13 := cell_of_row w2 (w.heap.size + 1 + 1) 13 _ _ _ hres.out
  have z14 := cell_of_row w2 (w.heap.size + 1 + 1) 14 _ _ _ hres.out
  have g0 := frozen_of_row w2 (w.heap.size + 1 + 1) 0 _ _ hres.out
  have g1 := frozen_of_row w2 (w.heap.size + 1 + 1) 1 _ _ hres.out
  have g2 := frozen_of_row w2 (w.heap.size + 1 + 1) 2 _ _ hres.out
  have g3 := frozen_of_row w2 (w.heap.size + 1 + 1) 3 _ _ hres.out
  have g4 := frozen_of_row w2 (w.heap.size + 1 + 1) 4 _ _ hres.out
  have g5 := frozen_of_row w2 (w.heap.size + 1 + 1) 5 _ _ hres.out
  have g6 := frozen_of_row w2 (w.heap.size + 1 + 1) 6 _ _ hres.out
  have g7 := frozen_of_row w2 (w.heap.size + 1 + 1) 7 _ _ hres.out
  have g8 := frozen_of_row w2 (w.heap.size + 1 + 1) 8 _ _ hres.out
  have g9 := frozen_of_row w2 (w.heap.size + 1 + 1) 9 _ _ hres.out
  have g10 := frozen_of_row w2 (w.heap.size + 1 + 1) 10 _ _ hres.out
  have g11 := frozen_of_row w2 (w.heap.size + 1 + 1) 11 _ _ hres.out
  have g12 := frozen_of_row w2 (w.heap.size + 1 + 1) 12 _ _ hres.out
  have g13 := frozen_of_row w2 (w.heap.size + 1 + 1) 13 _ _ hres.out
  have g14 := frozen_of_row w2 (w.heap.size + 1 + 1) 14 _ _ hres.out
  simp only [frL, List.map_cons, List.map_nil, List.cons_append, List.nil_append, numV, List.getElem?_toArray, List.getElem?_cons_zero, List.getElem?_cons_succ] at c0 c1 c2 c3 c4 c5 c6 c7 c8 c9 c10 c11 c12 c13 c14 z0 z1 z2 z3 z4 z5 z6 z7 z8 z9 z10 z11 z12 z13 z14
  simp only [frL, List.map_cons, List.map_nil, List.cons_append, List.nil_append, numV] at HPM
  go_wp2_with fail
  go_region
  go_wp2_with fail
  have hbw : Below w.heap.size w w2 := (three_new w _ _ _).trans (h4.below (Nat.le_refl _))
  exact bodyPost_ret (aft_res (by rfl) (by rfl) (fifteen_set hres.out _ _ _ _ _ _ _ _ _ _ _ _ _ _ _).drew) rfl (HPM.out _ _ (fifteen_below hbw (by omega) _ _ _ _ _ _ _ _ _ _ _ _ _ _ _).drew rfl)
end Go.Proofs.YtdmdpindonghdaaGreatDoor
