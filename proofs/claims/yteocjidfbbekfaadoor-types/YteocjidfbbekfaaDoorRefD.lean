/- The contract of the reference's joined. -/
import Derived.Test.YteocjidfbbekfaaDoorSpecG
import Derived.WalkSpells
import Derived.WalkLawsBesides
import Derived.Deep.AppendLies
import Derived.Deep.QuietTactic
import Derived.BigQuiet
import Derived.OwnWalk
import Derived.WalkSmall
namespace Go.Proofs.YteocjidfbbekfaaDoor
open Go.RowKit

theorem Tryd.infoPt : (Tryd.prog.info? 67).map (fun i => (i.zero, i.size, i.bytes)) = some (some (.agg #[.int .i64 0, .string ⟨#[]⟩, .string ⟨#[]⟩]), 3, 40) := by kernel_rfl

theorem keeps_grown {g : Nat} {w wr w1 : World} {o : Obj} {n cap : Nat} (hb : Below w.heap.size w wr) (hg : (wr.alloc o).grownBy w1 (Value.ownBlock (.slice (some ⟨g, 0, none⟩) n cap))) : Keeps g w w1 := by
  intro b hlt hne
  have h1 := hb.size
  rw [hg.block b (by simp; omega) (by simp [Value.ownBlock]; exact hne), Below.heap_alloc _ _ _ (by omega), hb.block b hlt]
theorem joined_lies {w wr : World} {o : Obj} {g gg n cap n2 cap2 : Nat} (hz : w.heap.size + 1 ≤ wr.heap.size) (h : Value.ownBlock (.slice (some ⟨g, 0, none⟩) n cap) = some gg ∨ gg = (wr.alloc o).heap.size) :
    ∀ g', Value.ownBlock (.slice (some ⟨gg, 0, none⟩) n2 cap2) = some g' → g' = g ∨ w.heap.size ≤ g' := by
  intro g' hg'
  cases hg'
  rcases h with h | h
  · cases h; exact .inl rfl
  · right; rw [h]; simp; omega
theorem joined_known {x y kb d : Bool} {z : Bool} (h : x = (kb || y)) (hy : y = z) (hk : kb = true ∧ d = true ∨ ¬ kb = true ∧ d = z) : x = d := by
  rcases hk with ⟨h1, h2⟩ | ⟨h1, h2⟩
  · rw [h, h1, h2]; rfl
  · have : kb = false := by simpa using h1
    rw [h, this, hy, h2]; rfl

set_option maxHeartbeats 1000000 in
theorem joined_any (l : List Ins) (gi ci : Nat) (all : List Pt) (g cap base : Nat) (p : Pt) (w : World) (hat : InsAt w gi l) (hgi : gi < w.heap.size) (hl : p.at_ < l.length)
    (hown : w.ownsRow base 67 3 (.slice (some ⟨g, 0, none⟩) all.length cap) all.length (ptCells all)) (hbase : base ≤ w.heap.size) (hlen : all.length ≤ 100000)
    (hop : l[p.at_].op = 7 → l[p.at_].n < p.lo.size ∧ ∀ q ∈ all, l[p.at_].n < q.lo.size) :
    Calls Tryd.prog 22 #[.slice (some ⟨gi, 0, none⟩) l.length ci, .slice (some ⟨g, 0, none⟩) all.length cap, .agg #[.int .i64 p.at_, .string p.lo, .string p.st]] w (JoinPost l[p.at_] all p base g w) := by
  obtain ⟨i0, hi0, hz0, hz1, hz2⟩ := info_parts Tryd.infoPt
  have hpt := PtAt.of_owns hown
  have hg := (hown.lt g rfl)
  obtain ⟨j0, j1, j2⟩ := hat _ hl
  clear hat
  obtain ⟨a, lo, st⟩ := p
  simp only at hl hop j0 j1 j2 ⊢
  generalize hI : l[a] = I at *
  have HI := hid hI
  clear hI
  obtain ⟨io, inn, ipl⟩ := I
  simp only at hop j0 j1 j2
  go_enter Tryd.func22, Tryd.ntmps22
  go_wp2_with fail
  go_loopw [8, 9] (fun kn i w' => ∃ (k : Nat) (kb : Bool), k ≤ all.length ∧ i = .int .i64 k ∧ kn = .bool kb ∧ (all.take k).any (knownB ⟨a, lo, st⟩) = kb ∧ (all.take k).any (clashB ⟨io, inn, ipl⟩ ⟨a, lo, st⟩) = false ∧
    Below (w.heap.size + 1) (w.alloc (.cells #[.int .i64 a, .string lo, .string st] 67)) w') (fun _ i _ => all.length - (intOf i).toNat)
  case atStart => exact ⟨0, false, Nat.zero_le _, rfl, rfl, rfl, rfl, Below.refl _ _⟩
  case round =>
    obtain ⟨k, kb, hk, rfl, rfl, hkb, hcl, hbel⟩ := hrel
    have HC := hid hcl
    have HKB := hid hkb
    clear hcl hkb
    obtain ⟨bx, bo, hz⟩ := box_cells hbel
    have hz' : w.heap.size < wr.heap.size := by omega
    have hz3 : w.heap.size ≤ wr.heap.size := by omega
    have hg1 : g < wr.heap.size := by omega
    have hg2 : g ≤ wr.heap.size := by omega
    have hgi1 : gi < wr.heap.size := by omega
    have hgi2 : gi ≤ wr.heap.size := by omega
    have x0 := bx 0
    have x1 := bx 1
    have x2 := bx 2
    simp only [List.getElem?_toArray, List.getElem?_cons_zero, List.getElem?_cons_succ] at x0 x1 x2
    by_cases hlt : k < all.length
    · obtain ⟨q0, q1, q2⟩ := hpt k hlt
      rw [← bo _ _ hg.2] at q0 q1 q2
      rw [← bo _ _ hgi] at j0 j1 j2
      have HQ : Hid ((∀ q ∈ all, io = 7 → inn < q.lo.size)) := hid fun q hq h => (hop h).2 q hq
      have HKN : Hid ((all.take (k + 1)).any (knownB ⟨a, lo, st⟩) = (kb || knownB ⟨a, lo, st⟩ all[k])) := hid (by rw [any_take_succ _ _ _ hlt, HKB.out])
      have HCN : Hid ((all.take (k + 1)).any (clashB ⟨io, inn, ipl⟩ ⟨a, lo, st⟩) = clashB ⟨io, inn, ipl⟩ ⟨a, lo, st⟩ all[k]) := hid (by rw [any_take_succ _ _ _ hlt, HC.out]; rfl)
      have HN : Hid ((all[k].lo.toList == lo.toList) = decide (all[k].lo = lo)) := hid (by
        by_cases h : all[k].lo = lo
        · rw [str_eq h]; simp [h]
        · rw [str_ne h]; simp [h])
      clear bx bo hpt
      by_cases ha : all[k].at_ = a
      · have ha' : (((all[k].at_ : Nat) : Int) != (a : Int)) = false := by simp; omega
        have hl0 : (0 : Int) ≤ (a : Int) := by omega
        have hl1 : (a : Int) < (l.length : Int) := by omega
        have HK1 : Hid (knownB ⟨a, lo, st⟩ all[k] = (all[k].lo.toList == lo.toList)) := hid (by rw [HN.out]; simp [knownB, ha])
        by_cases hst : all[k].st = st
        · have hst' := str_eq hst
          by_cases h7 : io = 7
          · have h7' : ((io : Int) == 7) = true := by simp; omega
            have n0 := (hop h7).1
            have n1 := HQ.out all[k] (List.getElem_mem hlt) h7
            have hin0 : (0 : Int) ≤ (inn : Int) := by omega
            have hin1 : (inn : Int) < (lo.size : Int) := by omega
            have hin2 : (inn : Int) < (all[k].lo.size : Int) := by omega
            have b0 := byteAt_eq lo inn n0
            have b1 := byteAt_eq all[k].lo inn n1
            have b2 := byteAt_lt lo inn
            have b3 := byteAt_lt all[k].lo inn
            by_cases hb : byteAt all[k].lo inn = byteAt lo inn
            · have hb' : (((byteAt all[k].lo inn : Nat) : Int) != (byteAt lo inn : Nat)) = false := by simp; omega
              have HCL : Hid (clashB ⟨io, inn, ipl⟩ ⟨a, lo, st⟩ all[k] = false) := hid (by simp [clashB, hst, hb])
              clear hb hst ha h7 hop
              go_wp2_with fail
              go_quiet (fail)
              go_wp2_with fail
              all_goals
                rename_i hkb2
                exact ⟨⟨k + 1, _, by omega, by go_num, rfl, by first | exact joined_known HKN.out HK1.out (.inl ⟨hkb2, rfl⟩) | exact joined_known HKN.out HK1.out (.inr ⟨hkb2, rfl⟩), HCN.out.trans HCL.out, below_drewN ((hbel.alloc hz _).alloc (by simp; omega) _) _⟩, by simp [intOf]; omega⟩
            · have hb' : (((byteAt all[k].lo inn : Nat) : Int) != (byteAt lo inn : Nat)) = true := by simp; omega
              have HCL : Hid (clashB ⟨io, inn, ipl⟩ ⟨a, lo, st⟩ all[k] = true) := hid (by simp [clashB, hst, hb, ha, h7])
              clear hb hst ha h7 hop
              go_wp2_with fail
              go_quiet (fail)
              go_wp2_with fail
              go_ret2
              exact joinPost_mk (box_below hbase (below_drewN ((hbel.alloc hz _).alloc (by simp; omega) _) _)) (.of_below (box_below (Nat.le_refl _) (below_drewN ((hbel.alloc hz _).alloc (by simp; omega) _) _))) (fun g' hg' => by cases hg'; exact .inl rfl) (joinedP_clash hlt HCL.out) rfl rfl (owns_below hown (box_below (Nat.le_refl _) (below_drewN ((hbel.alloc hz _).alloc (by simp; omega) _) _)) (fun g' hg' => by cases hg'; exact hg.2))
          · have h7' : ((io : Int) == 7) = false := by simp; omega
            have HCL : Hid (clashB ⟨io, inn, ipl⟩ ⟨a, lo, st⟩ all[k] = false) := hid (by simp [clashB, hst, h7])
            clear hst ha h7 hop
            go_wp2_with fail
            go_quiet (fail)
            go_wp2_with fail
            all_goals
              rename_i hkb2
              exact ⟨⟨k + 1, _, by omega, by go_num, rfl, by first | exact joined_known HKN.out HK1.out (.inl ⟨hkb2, rfl⟩) | exact joined_known HKN.out HK1.out (.inr ⟨hkb2, rfl⟩), HCN.out.trans HCL.out, below_drewN ((hbel.alloc hz _).alloc (by simp; omega) _) _⟩, by simp [intOf]; omega⟩
        · have hst' := str_ne hst
          have HCL : Hid (clashB ⟨io, inn, ipl⟩ ⟨a, lo, st⟩ all[k] = true) := hid (by simp [clashB, hst, ha])
          clear hst ha hop
          go_wp2_with fail
          go_quiet (fail)
          go_wp2_with fail
          go_ret2
          exact joinPost_mk (box_below hbase (below_drewN ((hbel.alloc hz _).alloc (by simp; omega) _) _)) (.of_below (box_below (Nat.le_refl _) (below_drewN ((hbel.alloc hz _).alloc (by simp; omega) _) _))) (fun g' hg' => by cases hg'; exact .inl rfl) (joinedP_clash hlt HCL.out) rfl rfl (owns_below hown (box_below (Nat.le_refl _) (below_drewN ((hbel.alloc hz _).alloc (by simp; omega) _) _)) (fun g' hg' => by cases hg'; exact hg.2))
      · have ha' : (((all[k].at_ : Nat) : Int) != (a : Int)) = true := by simp; omega
        have HK1 : Hid (knownB ⟨a, lo, st⟩ all[k] = false) := hid (by simp [knownB, ha])
        have HCL : Hid (clashB ⟨io, inn, ipl⟩ ⟨a, lo, st⟩ all[k] = false) := hid (by simp [clashB, ha])
        clear ha
        go_wp2_with fail
        exact ⟨⟨k + 1, _, by omega, by go_num, rfl, by rw [HKN.out, HK1.out]; simp, HCN.out.trans HCL.out, hbel.alloc hz _⟩, by simp [intOf]; omega⟩
    · have hke : all.take k = all := List.take_of_length_le (by omega)
      have HKB' : Hid (all.any (knownB ⟨a, lo, st⟩) = kb) := hid (by rw [← HKB.out, hke])
      have HC' : Hid (all.any (clashB ⟨io, inn, ipl⟩ ⟨a, lo, st⟩) = false) := hid (by rw [← HC.out, hke])
      clear hke HKB HC
      cases kb
      · have HJ : Hid (joinedP ⟨io, inn, ipl⟩ all ⟨a, lo, st⟩ = (all ++ [⟨a, lo, st⟩], true)) := hid (by simp [joinedP, HC'.out, HKB'.out])
        have hown2 := owns_below hown (box_below (Nat.le_refl _) hbel) (fun g' hg' => by cases hg'; exact hg.2)
        go_wp2_with (at_builtin; go_must (refine wpList_append_lies _ (by rfl) _ _ _ (by rfl) base 67 i0 _ 3 40 Tryd.underlying42 hi0 hz0 hz1 hz2 rfl (by omega) _ all.length (ptCells all) (by rfl) (hown2.alloc _) ⟨_, 0, none⟩ 1 1 [.int .i64 a, .string lo, .string st] (by rfl) (by rfl) (World.news_of_block (cs := #[.int .i64 a, .string lo, .string st]) (t := 67) (fr := (0, 0)) (heap_alloc_new _ _)) (by simp [Value.oneCell']) (by omega) (by unfold maxLen; omega) (by omega) (by simp; omega) _ rfl ?_); intro gg cap2 w1 hown1 hgrow hat hlt2)
        go_ret2
        exact joinPost_mk (((box_below hbase hbel).alloc (by omega) _).grown hgrow (by simp; omega) (fun k' hk' => by cases hk'; exact hg.1)) (keeps_grown (box_below (Nat.le_refl _) hbel) hgrow) (joined_lies hz hat) HJ.out (by simp) (by rw [ptCells_snoc]) hown1
      · have HJ : Hid (joinedP ⟨io, inn, ipl⟩ all ⟨a, lo, st⟩ = (all, true)) := hid (by simp [joinedP, HC'.out, HKB'.out])
        go_wp2_with fail
        go_ret2
        exact joinPost_mk (box_below hbase hbel) (.of_below (box_below (Nat.le_refl _) hbel)) (fun g' hg' => by cases hg'; exact .inl rfl) HJ.out rfl rfl (owns_below hown (box_below (Nat.le_refl _) hbel) (fun g' hg' => by cases hg'; exact hg.2))
end Go.Proofs.YteocjidfbbekfaaDoor
