/- The contracts of the reference's find and behind. -/
import Derived.Test.YteocjidfbbekfaaDoorSpec
import Derived.WalkSpells
import Derived.WalkLawsBesides
namespace Go.Proofs.YteocjidfbbekfaaDoor
open Go.RowKit

set_option maxHeartbeats 400000 in
theorem find_any (l : List Ins) (g cap p : Nat) (w : World) (hl : l.length ≤ 200) (hat : InsAt w g l) :
    Calls Tryd.prog 20 #[.slice (some ⟨g, 0, none⟩) l.length cap, .int .i64 p] w fun e w' => e = .returned (.int .i64 (findP p l 0)) ∧ w' = w := by
  go_enter Tryd.func20, Tryd.ntmps20
  go_wp2
  go_loop [5] (fun i => ∃ k : Nat, k ≤ l.length ∧ i = .int .i64 k ∧ findP p l 0 = findP p (l.drop k) k) (fun i => l.length - (intOf i).toNat)
  case atStart => exact ⟨0, Nat.zero_le _, rfl, by simp⟩
  case round =>
    obtain ⟨k, hk, rfl, hf⟩ := hrel
    have HF : Hid (findP p l 0 = findP p (l.drop k) k) := hf
    clear hf
    by_cases hlt : k < l.length
    · obtain ⟨h0, h1, h2⟩ := hat k hlt
      have HD : Hid (l.drop k = l[k] :: l.drop (k + 1)) := List.drop_eq_getElem_cons hlt
      by_cases hp : l[k].place = p
      · have hp' : (((l[k].place : Nat) : Int) == (p : Int)) = true := by simp; omega
        have HP : Hid (l[k].place = p) := hp
        clear hp
        go_wp2
        go_ret
        exact ⟨ret_int (by rw [HF.out, HD.out]; simp [findP, HP.out]), rfl⟩
      · have hp' : (((l[k].place : Nat) : Int) == (p : Int)) = false := by simp; omega
        go_wp2
        go_round
        case rel => exact ⟨k + 1, by omega, by go_num, by rw [HF.out, HD.out]; simp [findP, hp]⟩
        case measure => simp [intOf]; omega
    · go_wp2
      go_ret
      exact ⟨ret_int (by rw [HF.out, List.drop_of_length_le (by omega)]; simp [findP]), rfl⟩

set_option maxHeartbeats 400000 in
theorem behind_any (t : ByteArray) (p locals : Nat) (w : World) (hs : t.size ≤ 200) (hp : p < t.size) (hl : locals ≤ 4) (htab : TakesTab w) :
    Calls Tryd.prog 19 #[.string t, .int .i64 p, .int .i64 locals] w fun e w' => e = .returned (.tuple #[.int .i64 ((behindP t p locals).1 : Nat), .int .i64 ((behindP t p locals).2 : Nat)]) ∧ w' = w := by
  have hc := byteAt_eq t p hp
  have hc2 := byteAt_lt t p
  have hd := byteAt_eq t (p + 1)
  have hd2 := byteAt_lt t (p + 1)
  generalize hB : behindP t p locals = B
  have HB : Hid (behindP t p locals = B) := hB
  clear hB
  unfold behindP at HB
  generalize byteAt t p = c at *
  generalize byteAt t (p + 1) = n at *
  have hw := wrapb c hc2
  have hw2 := wrapb n hd2
  by_cases h24 : 24 < c
  · have HE : Hid ((0, 0) = B) := hid (by rw [← HB.out]; simp [behindQ, h24])
    clear HB htab hd hd2 hw2
    go_enter Tryd.func19, Tryd.ntmps19
    go_wp2
    go_ret2
    exact ⟨ret2 (by rw [← HE.out]; rfl) (by rw [← HE.out]; rfl), rfl⟩
  have hk := htab c (by omega)
  clear htab
  cases htk : takesB c
  · have HE : Hid ((p + 1, 0) = B) := hid (by rw [← HB.out]; simp [behindQ, h24, htk])
    rw [htk] at hk
    clear HB hd hd2 hw2 htk
    go_enter Tryd.func19, Tryd.ntmps19
    go_wp2
    go_ret2
    exact ⟨ret2 (by rw [← HE.out]; simp) (by rw [← HE.out]; rfl), rfl⟩
  rw [htk] at hk
  by_cases hsz : t.size ≤ p + 1
  · have HE : Hid ((0, 0) = B) := hid (by rw [← HB.out]; simp [behindQ, h24, htk, hsz])
    clear HB hd hd2 hw2 htk
    go_enter Tryd.func19, Tryd.ntmps19
    go_wp2
    go_ret2
    exact ⟨ret2 (by rw [← HE.out]; rfl) (by rw [← HE.out]; rfl), rfl⟩
  have hd' := hd (by omega)
  clear hd
  have HE : Hid ((if badN c n locals = true then (0, 0) else (p + 2, n)) = B) := hid (by rw [← HB.out]; simp [behindQ, h24, htk, hsz])
  clear HB htk
  have hl' : (locals : Int) ≤ 4 := by omega
  go_enter Tryd.func19, Tryd.ntmps19
  go_wp2
  all_goals go_ret2
  all_goals
    first
    | (have e1 : badN c n locals = true := by (simp [badN]; omega)
       have h1 := HE.out
       rw [if_pos e1] at h1
       exact ⟨ret2 (by rw [← h1]; simp) (by rw [← h1]; simp), rfl⟩)
    | (have e1 : badN c n locals = false := by (simp [badN]; omega)
       have h1 := HE.out
       rw [if_neg (by simp [e1])] at h1
       exact ⟨ret2 (by rw [← h1]; simp) (by rw [← h1]), rfl⟩)
end Go.Proofs.YteocjidfbbekfaaDoor
