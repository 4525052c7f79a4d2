/- The contracts of the program's typeOf, popAll and pushAll. -/
import Derived.Test.YteocjidfbbekfaaDoorFlowB
namespace Go.Proofs.YteocjidfbbekfaaDoor
open Go.RowKit

def kindN (c : Nat) : Nat := if c = 114 then 1 else 0
def popR (f : Fr) : List Nat → Fr
  | [] => f
  | c :: r => popR (if (popF f).2 = kindN c then (popF f).1 else badF (popF f).1) r
def pushR (f : Fr) : List Nat → Fr
  | [] => f
  | c :: r => pushR (pushF f (kindN c)) r
theorem popR_ok : ∀ (l : List Nat) (f : Fr), FrOk f → FrOk (popR f l)
  | [], _, h => h
  | c :: r, f, h => by
    simp only [popR]
    apply popR_ok r
    by_cases e : (popF f).2 = kindN c
    · rw [if_pos e]; exact popF_ok h
    · rw [if_neg e]; exact badF_ok (popF_ok h)
theorem pushR_ok : ∀ (l : List Nat) (f : Fr), FrOk f → FrOk (pushR f l)
  | [], _, h => h
  | c :: r, f, h => by
    simp only [pushR]
    exact pushR_ok r _ (pushF_ok h _)
def popsN (op : Nat) : List Nat := (popsL op).map UInt8.toNat
def pushesN (op : Nat) : List Nat := (pushesL op).map UInt8.toNat
theorem popsN_at {op j : Nat} (h : j < (popsS op).size) : ∃ h' : j < (popsN op).length, (popsN op)[j] = byteAt (popsS op) j := by
  have h1 : j < (popsL op).length := h
  refine ⟨by simp [popsN]; exact h1, ?_⟩
  simp [popsN, byteAt, popsS, h1]
theorem pushesN_at {op j : Nat} (h : j < (pushesS op).size) : ∃ h' : j < (pushesN op).length, (pushesN op)[j] = byteAt (pushesS op) j := by
  have h1 : j < (pushesL op).length := h
  refine ⟨by simp [pushesN]; exact h1, ?_⟩
  simp [pushesN, byteAt, pushesS, h1]
theorem popsN_len (op : Nat) : (popsN op).length = (popsS op).size := by simp [popsN, popsS]; rfl
theorem pushesN_len (op : Nat) : (pushesN op).length = (pushesS op).size := by simp [pushesN, pushesS]; rfl

/-- The program's two tables of types. -/
def FlowTab (w : World) : Prop := ∀ k : Nat, k < 25 → w.cell? ⟨3, k, none⟩ = some (.string (popsS k)) ∧ w.cell? ⟨4, k, none⟩ = some (.string (pushesS k))
theorem FlowTab.below {w w' : World} (h : FlowTab w) (hb : Below w.heap.size w w') : FlowTab w' := by
  intro k hk
  obtain ⟨h0, h1⟩ := h k hk
  have l0 := World.block_lt_of_cell? w _ h0
  have l1 := World.block_lt_of_cell? w _ h1
  exact ⟨(hb.cell (p := ⟨3, k, none⟩) l0).trans h0, (hb.cell (p := ⟨4, k, none⟩) l1).trans h1⟩
theorem FlowTab.only {b : Nat} {w w' : World} (h : FlowTab w) (hb : Only b w w') (h3 : b ≠ 3) (h4 : b ≠ 4) : FlowTab w' := by
  intro k hk
  obtain ⟨h0, h1⟩ := h k hk
  exact ⟨(hb.cell (Ne.symm h3)).trans h0, (hb.cell (Ne.symm h4)).trans h1⟩

set_option maxHeartbeats 400000 in
theorem typeOf_any (c : Nat) (w : World) :
    Calls Tryd.prog 44 #[.int .u8 c] w fun e w' => e = .returned (.int .i64 (kindN c : Nat)) ∧ w' = w := by
  by_cases h : c = 114
  · have h' : ((c : Int) == 114) = true := by simp; omega
    have HE : Hid (kindN c = 1) := hid (by simp [kindN, h])
    clear h
    go_enter Tryd.func44, Tryd.ntmps44
    go_wp2
    go_ret
    exact ⟨ret_int (by rw [HE.out]; rfl), rfl⟩
  · have h' : ((c : Int) == 114) = false := by simp; omega
    have HE : Hid (kindN c = 0) := hid (by simp [kindN, h])
    clear h
    go_enter Tryd.func44, Tryd.ntmps44
    go_wp2
    go_ret
    exact ⟨ret_int (by rw [HE.out]; rfl), rfl⟩

theorem take_rev {l : List Nat} {j : Nat} (h : j < l.length) : (l.take (j + 1)).reverse = l[j] :: (l.take j).reverse := by
  rw [List.take_succ_eq_append_getElem h, List.reverse_append]; rfl

set_option maxRecDepth 100000 in
set_option maxHeartbeats 1000000 in
theorem popAll_any (b : Nat) (f : Fr) (op : Nat) (w : World) (h : FrAt w b f) (ok : FrOk f) (hop : op < 25) (htab : FlowTab w) :
    Calls Tryd.prog 42 #[.pointer (some ⟨b, 0, none⟩), .int .i64 op] w fun x w' => x = .returned (.tuple #[]) ∧ FrAt w' b (popR f (popsN op).reverse) ∧ Only b w w' := by
  obtain ⟨c1, c2⟩ := htab op hop
  have hsz := popsS_size op
  have i0 : (0 : Int) ≤ (op : Int) := by omega
  have i1 : (op : Int) < 25 := by omega
  have HN := hid (fun j (h : j < (popsS op).size) => popsN_at (op := op) h)
  have HLN := hid (popsN_len op)
  generalize popsS op = P at *
  generalize popsN op = N at *
  clear htab c2
  go_enter Tryd.func42, Tryd.ntmps42
  go_wp2_with fail
  go_loopw [5] (fun i w' => ∃ (j : Nat) (f' : Fr), j ≤ P.size ∧ i = .int .i64 ((j : Int) - 1) ∧ FrAt w' b f' ∧ FrOk f' ∧ popR f N.reverse = popR f' (N.take j).reverse ∧ Only b w w') (fun i _ => (intOf i + 1).toNat)
  case atStart => exact ⟨P.size, f, Nat.le_refl _, rfl, h, ok, by rw [List.take_of_length_le (by have := HLN.out; omega)], Only.refl _ _⟩
  case round =>
    obtain ⟨j, f', hj, rfl, hf, hok, hpr, honly⟩ := hrel
    have HPR := hid hpr
    clear hpr
    cases j with
    | zero =>
      go_wp2_with fail
      go_end0
      exact ⟨rfl, by rw [HPR.out]; exact hf, honly⟩
    | succ j =>
      obtain ⟨hjn, hbyte⟩ := HN.out j (by omega)
      have e0 := byteAt_eq P j (by omega)
      have hp := hid (pop_any b f' wr hf hok)
      have hok2 := popF_ok hok
      have HS : Hid (popR f' (N.take (j + 1)).reverse = popR (if (popF f').2 = kindN (byteAt P j) then (popF f').1 else badF (popF f').1) (N.take j).reverse) := hid (by
        rw [take_rev hjn, hbyte]; rfl)
      generalize popF f' = Q at *
      obtain ⟨f2, k⟩ := Q
      simp only at hok2 hp HS
      have hty := hid (fun W => typeOf_any (byteAt P j) W)
      have hb2 := byteAt_lt P j
      have ej : (((j + 1 : Nat) : Int) - 1) = (j : Int) := by omega
      rw [ej]
      clear hf hbyte
      generalize byteAt P j = c at *
      by_cases hk : k = kindN c
      · rw [if_pos hk] at HS
        have hk' : ((k : Int) != ((kindN c : Nat) : Int)) = false := by simp; omega
        clear hk
        go_wp2_with fail
        refine hp.out.mono ?_
        rintro x w2 ⟨rfl, h3, h4⟩
        clear hp
        go_wp2_with fail
        refine (hty.out w2).mono ?_
        clear hty
        intro e w9 hh
        obtain ⟨he9, hw9⟩ := hh
        subst e
        subst w9
        go_wp2_with fail
        exact ⟨⟨j, f2, by omega, by go_num, h3, hok2, by rw [HPR.out, HS.out], honly.trans h4⟩, by simp [intOf] <;> omega⟩
      · rw [if_neg hk] at HS
        have hk' : ((k : Int) != ((kindN c : Nat) : Int)) = true := by simp; omega
        clear hk
        go_wp2_with fail
        refine hp.out.mono ?_
        rintro x w2 ⟨rfl, h3, h4⟩
        clear hp
        have c14 := (RowAt.cell h3 14).trans (fr_get hok2).2.2
        have f14 := RowAt.frozen h3 14
        have hrow : Hid (FrAt (w2.setCell ⟨b, 14, none⟩ (.bool true)) b (badF f2)) := hid (by
          have := RowAt.set h3 14 (.bool true)
          rw [fr_set_wrong hok2] at this
          exact this)
        clear h3
        go_wp2_with fail
        refine (hty.out w2).mono ?_
        clear hty
        intro e w9 hh
        obtain ⟨he9, hw9⟩ := hh
        subst e
        subst w9
        go_wp2_with fail
        exact ⟨⟨j, badF f2, by omega, by go_num, hrow.out, badF_ok hok2, by rw [HPR.out, HS.out], (honly.trans h4).set _ _⟩, by simp [intOf] <;> omega⟩

set_option maxRecDepth 100000 in
set_option maxHeartbeats 1000000 in
theorem pushAll_any (b : Nat) (f : Fr) (op : Nat) (w : World) (h : FrAt w b f) (ok : FrOk f) (hop : op < 25) (htab : FlowTab w) :
    Calls Tryd.prog 43 #[.pointer (some ⟨b, 0, none⟩), .int .i64 op] w fun x w' => x = .returned (.tuple #[]) ∧ FrAt w' b (pushR f (pushesN op)) ∧ Only b w w' := by
  obtain ⟨c1, c2⟩ := htab op hop
  have hsz := pushesS_size op
  have i0 : (0 : Int) ≤ (op : Int) := by omega
  have i1 : (op : Int) < 25 := by omega
  have HN := hid (fun j (h : j < (pushesS op).size) => pushesN_at (op := op) h)
  have HLN := hid (pushesN_len op)
  generalize pushesS op = P at *
  generalize pushesN op = N at *
  clear htab c1
  go_enter Tryd.func43, Tryd.ntmps43
  go_wp2_with fail
  go_loopw [5] (fun i w' => ∃ (j : Nat) (f' : Fr), j ≤ P.size ∧ i = .int .i64 j ∧ FrAt w' b f' ∧ FrOk f' ∧ pushR f N = pushR f' (N.drop j) ∧ Only b w w') (fun i _ => P.size - (intOf i).toNat)
  case atStart => exact ⟨0, f, Nat.zero_le _, rfl, h, ok, by simp, Only.refl _ _⟩
  case round =>
    obtain ⟨j, f', hj, rfl, hf, hok, hpr, honly⟩ := hrel
    have HPR := hid hpr
    clear hpr
    by_cases hlt : j < P.size
    · obtain ⟨hjn, hbyte⟩ := HN.out j hlt
      have e0 := byteAt_eq P j hlt
      have HS : Hid (pushR f' (N.drop j) = pushR (pushF f' (kindN (byteAt P j))) (N.drop (j + 1))) := hid (by
        rw [List.drop_eq_getElem_cons hjn, hbyte]; rfl)
      have hp := hid (push_any b f' (kindN (byteAt P j)) wr hf hok)
      have hok2 := pushF_ok hok (kindN (byteAt P j))
      have hty := hid (typeOf_any (byteAt P j) wr)
      have hb2 := byteAt_lt P j
      clear hf hbyte
      generalize byteAt P j = c at *
      go_wp2_with fail
      refine hty.out.mono ?_
      clear hty
      intro e w9 hh
      obtain ⟨he9, hw9⟩ := hh
      subst e
      subst w9
      go_wp2_with fail
      refine hp.out.mono ?_
      rintro x w2 ⟨rfl, h3, h4⟩
      clear hp
      go_wp2_with fail
      exact ⟨⟨j + 1, _, by omega, by go_num, h3, hok2, by rw [HPR.out, HS.out], honly.trans h4⟩, by simp [intOf] <;> omega⟩
    · go_wp2_with fail
      go_end0
      exact ⟨rfl, by rw [HPR.out, List.drop_of_length_le (by have := HLN.out; omega)]; exact hf, honly⟩
end Go.Proofs.YteocjidfbbekfaaDoor
