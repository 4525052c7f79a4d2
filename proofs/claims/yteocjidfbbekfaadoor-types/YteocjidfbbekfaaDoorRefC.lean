/- The contract of the reference's after. -/
import Derived.Test.YteocjidfbbekfaaDoorSpecB
import Derived.WalkSpells
import Derived.WalkLawsBesides
import Derived.BigRegion
namespace Go.Proofs.YteocjidfbbekfaaDoor
open Go.RowKit

theorem three_new_r (w : World) (a b c : Obj) : Below w.heap.size w (((w.alloc a).alloc b).alloc c) :=
  (((Below.refl _ _).alloc (Nat.le_refl _) _).alloc (by simp) _).alloc (by simp; omega) _
theorem three_new_r_drew (w : World) (a b c : Obj) : Below w.heap.size w ((((w.alloc a).alloc b).alloc c).drew) := (three_new_r w a b c).drew

set_option maxHeartbeats 400000 in
theorem after_load (a n pl : Nat) (lo st : ByteArray) (w : World) (h1 : lo.size ≤ 4) (h2 : st.size ≤ 8) (h3 : n < lo.size) :
    Calls Tryd.prog 21 #[.agg #[.int .i64 a, .string lo, .string st], .agg #[.int .i64 (7 : Nat), .int .i64 n, .int .i64 pl]] w (AfterPost a lo st 7 n w) := by
  go_enter Tryd.func21, Tryd.ntmps21
  go_wp2
  exact bodyPost_ret (v := .tuple #[.agg #[.int .i64 a, .string lo, .string (st ++ lo.extract n (n + 1))], .bool true]) (by simp [results, Tryd.results21, go_sem]) rfl (afterPost_mk (three_new_r _ _ _ _) rfl)

set_option maxHeartbeats 400000 in
theorem after_store (a n pl : Nat) (lo st : ByteArray) (w : World) (h1 : lo.size ≤ 4) (h2 : st.size ≤ 8) (h3 : n < lo.size) (hk : 1 ≤ st.size) :
    Calls Tryd.prog 21 #[.agg #[.int .i64 a, .string lo, .string st], .agg #[.int .i64 (8 : Nat), .int .i64 n, .int .i64 pl]] w (AfterPost a lo st 8 n w) := by
  have hn0 : (0 : Int) ≤ (n : Int) := by omega
  have hn1 : (n : Int) + 1 ≤ (lo.size : Int) := by omega
  have hn2 : (n : Int) ≤ (lo.size : Int) := by omega
  have hs0 : (0 : Int) ≤ (st.size : Int) - 1 := by omega
  have hs1 : (st.size : Int) - 1 ≤ (st.size : Int) := by omega
  have d1 : decide ((st.size : Int) < 1) = false := by simp; omega
  have HE : Hid (afterV lo st 8 n = (lo.extract 0 n ++ st.extract (st.size - 1) st.size ++ lo.extract (n + 1) lo.size, st.extract 0 (st.size - 1), true)) := hid (by
    unfold afterV; rw [if_neg (by decide), if_pos rfl, if_neg (by omega)])
  go_enter Tryd.func21, Tryd.ntmps21
  go_wp2
  go_region
  all_goals go_wp2
  exact bodyPost_ret (v := .tuple #[.agg #[.int .i64 a, .string (lo.extract 0 n ++ st.extract (st.size - 1) st.size ++ lo.extract (n + 1) lo.size), .string (st.extract 0 (st.size - 1))], .bool true]) (by simp [results, Tryd.results21, go_sem]) rfl (afterPost_mk (three_new_r_drew _ _ _ _) HE.out)

set_option maxHeartbeats 400000 in
theorem after_dup (a n pl : Nat) (lo st : ByteArray) (w : World) (h2 : st.size ≤ 8) (hk : 1 ≤ st.size) :
    Calls Tryd.prog 21 #[.agg #[.int .i64 a, .string lo, .string st], .agg #[.int .i64 (9 : Nat), .int .i64 n, .int .i64 pl]] w (AfterPost a lo st 9 n w) := by
  have HE : Hid (afterV lo st 9 n = (lo, st ++ st.extract (st.size - 1) st.size, true)) := hid (by
    unfold afterV; rw [if_neg (by decide), if_neg (by decide), if_pos rfl, if_neg (by omega)])
  go_enter Tryd.func21, Tryd.ntmps21
  go_wp2
  exact bodyPost_ret (v := .tuple #[.agg #[.int .i64 a, .string lo, .string (st ++ st.extract (st.size - 1) st.size)], .bool true]) (by simp [results, Tryd.results21, go_sem]) rfl (afterPost_mk (three_new_r _ _ _ _) HE.out)

set_option maxHeartbeats 400000 in
theorem after_drop (a n pl : Nat) (lo st : ByteArray) (w : World) (h2 : st.size ≤ 8) (hk : 1 ≤ st.size) :
    Calls Tryd.prog 21 #[.agg #[.int .i64 a, .string lo, .string st], .agg #[.int .i64 (10 : Nat), .int .i64 n, .int .i64 pl]] w (AfterPost a lo st 10 n w) := by
  have HE : Hid (afterV lo st 10 n = (lo, st.extract 0 (st.size - 1), true)) := hid (by
    unfold afterV; rw [if_neg (by decide), if_neg (by decide), if_neg (by decide), if_pos rfl, if_neg (by omega)])
  go_enter Tryd.func21, Tryd.ntmps21
  go_wp2
  exact bodyPost_ret (v := .tuple #[.agg #[.int .i64 a, .string lo, .string (st.extract 0 (st.size - 1))], .bool true]) (by simp [results, Tryd.results21, go_sem]) rfl (afterPost_mk (three_new_r _ _ _ _) HE.out)

set_option maxHeartbeats 400000 in
theorem after_swap (a n pl : Nat) (lo st : ByteArray) (w : World) (h2 : st.size ≤ 8) (hk : 2 ≤ st.size) :
    Calls Tryd.prog 21 #[.agg #[.int .i64 a, .string lo, .string st], .agg #[.int .i64 (11 : Nat), .int .i64 n, .int .i64 pl]] w (AfterPost a lo st 11 n w) := by
  have hs0 : (0 : Int) ≤ (st.size : Int) - 2 := by omega
  have hs1 : (st.size : Int) - 2 ≤ (st.size : Int) - 1 := by omega
  have hs2 : (st.size : Int) - 1 ≤ (st.size : Int) := by omega
  have d1 : decide ((st.size : Int) < 2) = false := by simp; omega
  have HE : Hid (afterV lo st 11 n = (lo, st.extract 0 (st.size - 2) ++ st.extract (st.size - 1) st.size ++ st.extract (st.size - 2) (st.size - 1), true)) := hid (by
    unfold afterV; rw [if_neg (by decide), if_neg (by decide), if_neg (by decide), if_neg (by decide), if_pos rfl, if_neg (by omega)])
  go_enter Tryd.func21, Tryd.ntmps21
  go_wp2
  go_region
  all_goals go_wp2
  exact bodyPost_ret (v := .tuple #[.agg #[.int .i64 a, .string lo, .string (st.extract 0 (st.size - 2) ++ st.extract (st.size - 1) st.size ++ st.extract (st.size - 2) (st.size - 1))], .bool true]) (by simp [results, Tryd.results21, go_sem]) rfl (afterPost_mk (three_new_r_drew _ _ _ _) HE.out)

set_option maxHeartbeats 400000 in
theorem after_short (a op n pl : Nat) (lo st : ByteArray) (w : World) (h2 : st.size ≤ 8) (hk : op = 8 ∧ st.size < 1 ∨ op = 9 ∧ st.size < 1 ∨ op = 10 ∧ st.size < 1 ∨ op = 11 ∧ st.size < 2) :
    Calls Tryd.prog 21 #[.agg #[.int .i64 a, .string lo, .string st], .agg #[.int .i64 op, .int .i64 n, .int .i64 pl]] w (AfterPost a lo st op n w) := by
  have HE : Hid (afterV lo st op n = (lo, st, false)) := hid (by
    unfold afterV
    rcases hk with ⟨rfl, h⟩ | ⟨rfl, h⟩ | ⟨rfl, h⟩ | ⟨rfl, h⟩ <;> simp [h])
  rcases hk with ⟨rfl, h⟩ | ⟨rfl, h⟩ | ⟨rfl, h⟩ | ⟨rfl, h⟩
  all_goals
    go_enter Tryd.func21, Tryd.ntmps21
    go_wp2
    exact bodyPost_ret (v := .tuple #[.agg #[.int .i64 a, .string lo, .string st], .bool false]) (by simp [results, Tryd.results21, go_sem]) rfl (afterPost_mk (three_new_r _ _ _ _) HE.out)

theorem after_eqs (op : Nat) (hne : op ≠ 7 ∧ op ≠ 8 ∧ op ≠ 9 ∧ op ≠ 10 ∧ op ≠ 11) : ((op : Int) == 7) = false ∧ ((op : Int) == 8) = false ∧ ((op : Int) == 9) = false ∧ ((op : Int) == 10) = false ∧ ((op : Int) == 11) = false := by
  simp only [beq_eq_false_iff_ne]; omega

set_option maxHeartbeats 400000 in
theorem after_few (a op n pl : Nat) (lo st : ByteArray) (w : World) (hop : op < 25) (hne : op ≠ 7 ∧ op ≠ 8 ∧ op ≠ 9 ∧ op ≠ 10 ∧ op ≠ 11) (htab : TypeTab w) (hk : st.size < (popsS op).size) :
    Calls Tryd.prog 21 #[.agg #[.int .i64 a, .string lo, .string st], .agg #[.int .i64 op, .int .i64 n, .int .i64 pl]] w (AfterPost a lo st op n w) := by
  have HE : Hid (afterV lo st op n = (lo, st, false)) := hid (by
    unfold afterV
    simp [hne, hk])
  obtain ⟨c1, c2⟩ := htab op hop
  obtain ⟨q1, q2, q3, q4, q5⟩ := after_eqs op hne
  have hps := popsS_size op
  have l2 := World.block_lt_of_cell? w _ c2
  have l1 := World.block_lt_of_cell? w _ c1
  have l0 : 0 < w.heap.size := by omega
  clear htab hne
  generalize popsS op = P at *
  go_enter Tryd.func21, Tryd.ntmps21
  go_wp2
  exact bodyPost_ret (v := .tuple #[.agg #[.int .i64 a, .string lo, .string st], .bool false]) (by simp [results, Tryd.results21, go_sem]) rfl (afterPost_mk (three_new_r _ _ _ _) HE.out)

set_option maxHeartbeats 400000 in
theorem after_wrong (a op n pl : Nat) (lo st : ByteArray) (w : World) (h2 : st.size ≤ 8) (hop : op < 25) (hne : op ≠ 7 ∧ op ≠ 8 ∧ op ≠ 9 ∧ op ≠ 10 ∧ op ≠ 11) (htab : TypeTab w) (hk : (popsS op).size ≤ st.size) (hx : st.extract (st.size - (popsS op).size) st.size ≠ popsS op) :
    Calls Tryd.prog 21 #[.agg #[.int .i64 a, .string lo, .string st], .agg #[.int .i64 op, .int .i64 n, .int .i64 pl]] w (AfterPost a lo st op n w) := by
  have HE : Hid (afterV lo st op n = (lo, st, false)) := hid (by
    unfold afterV
    simp [hne, hx])
  obtain ⟨c1, c2⟩ := htab op hop
  obtain ⟨q1, q2, q3, q4, q5⟩ := after_eqs op hne
  have hps := popsS_size op
  have l2 := World.block_lt_of_cell? w _ c2
  have l1 := World.block_lt_of_cell? w _ c1
  have l0 : 0 < w.heap.size := by omega
  clear htab hne
  generalize popsS op = P at *
  have hx' := str_ne hx
  clear hx
  go_enter Tryd.func21, Tryd.ntmps21
  go_wp2
  exact bodyPost_ret (v := .tuple #[.agg #[.int .i64 a, .string lo, .string st], .bool false]) (by simp [results, Tryd.results21, go_sem]) rfl (afterPost_mk (three_new_r _ _ _ _) HE.out)

set_option maxHeartbeats 400000 in
theorem after_right (a op n pl : Nat) (lo st : ByteArray) (w : World) (h2 : st.size ≤ 8) (hop : op < 25) (hne : op ≠ 7 ∧ op ≠ 8 ∧ op ≠ 9 ∧ op ≠ 10 ∧ op ≠ 11) (htab : TypeTab w) (hk : (popsS op).size ≤ st.size) (hx : st.extract (st.size - (popsS op).size) st.size = popsS op) :
    Calls Tryd.prog 21 #[.agg #[.int .i64 a, .string lo, .string st], .agg #[.int .i64 op, .int .i64 n, .int .i64 pl]] w (AfterPost a lo st op n w) := by
  have HE : Hid (afterV lo st op n = (lo, st.extract 0 (st.size - (popsS op).size) ++ pushesS op, true)) := hid (by
    unfold afterV
    simp [hne, hx]; omega)
  obtain ⟨c1, c2⟩ := htab op hop
  obtain ⟨q1, q2, q3, q4, q5⟩ := after_eqs op hne
  have hps := popsS_size op
  have hpu := pushesS_size op
  have l2 := World.block_lt_of_cell? w _ c2
  have l1 := World.block_lt_of_cell? w _ c1
  have l0 : 0 < w.heap.size := by omega
  clear htab hne
  generalize popsS op = P at *
  generalize pushesS op = R at *
  have hx' := str_eq hx
  clear hx
  go_enter Tryd.func21, Tryd.ntmps21
  go_wp2
  go_region
  all_goals go_wp2
  exact bodyPost_ret (v := .tuple #[.agg #[.int .i64 a, .string lo, .string (st.extract 0 (st.size - P.size) ++ R)], .bool true]) (by simp [results, Tryd.results21, go_sem]) rfl (afterPost_mk (three_new_r_drew _ _ _ _) HE.out)

theorem after_any (a op n pl : Nat) (lo st : ByteArray) (w : World) (h1 : lo.size ≤ 4) (h2 : st.size ≤ 8) (hop : op < 25) (hn : op = 7 ∨ op = 8 → n < lo.size) (htab : TypeTab w) :
    Calls Tryd.prog 21 #[.agg #[.int .i64 a, .string lo, .string st], .agg #[.int .i64 op, .int .i64 n, .int .i64 pl]] w (AfterPost a lo st op n w) := by
  by_cases e7 : op = 7
  · subst e7; exact after_load a n pl lo st w h1 h2 (hn (.inl rfl))
  by_cases e8 : op = 8
  · by_cases hk : 1 ≤ st.size
    · subst e8; exact after_store a n pl lo st w h1 h2 (hn (.inr rfl)) hk
    · exact after_short a op n pl lo st w h2 (.inl ⟨e8, by omega⟩)
  by_cases e9 : op = 9
  · by_cases hk : 1 ≤ st.size
    · subst e9; exact after_dup a n pl lo st w h2 hk
    · exact after_short a op n pl lo st w h2 (.inr (.inl ⟨e9, by omega⟩))
  by_cases e10 : op = 10
  · by_cases hk : 1 ≤ st.size
    · subst e10; exact after_drop a n pl lo st w h2 hk
    · exact after_short a op n pl lo st w h2 (.inr (.inr (.inl ⟨e10, by omega⟩)))
  by_cases e11 : op = 11
  · by_cases hk : 2 ≤ st.size
    · subst e11; exact after_swap a n pl lo st w h2 hk
    · exact after_short a op n pl lo st w h2 (.inr (.inr (.inr ⟨e11, by omega⟩)))
  by_cases hk : st.size < (popsS op).size
  · exact after_few a op n pl lo st w hop ⟨e7, e8, e9, e10, e11⟩ htab hk
  by_cases hx : st.extract (st.size - (popsS op).size) st.size = popsS op
  · exact after_right a op n pl lo st w h2 hop ⟨e7, e8, e9, e10, e11⟩ htab (by omega) hx
  · exact after_wrong a op n pl lo st w h2 hop ⟨e7, e8, e9, e10, e11⟩ htab (by omega) hx
end Go.Proofs.YteocjidfbbekfaaDoor
