/- The contract of the program's pass. -/
import Derived.Test.YteocjidfbbekfaaDoorSpecF
import Derived.Test.YteocjidfbbekfaaDoorFlowH
import Derived.Test.YteocjidfbbekfaaDoorFlowM
namespace Go.Proofs.YteocjidfbbekfaaDoor
open Go.RowKit

/-- What is known ahead of instruction k, handed on. -/
def passF (fs : List Fr) (k : Nat) (ci : CI) : List Fr × Bool × Bool :=
  match fs[k]? with
  | none => (fs, false, false)
  | some ahead =>
    if ahead.reached = false then (fs, false, true)
    else if (afterF ahead ci.ins.op ci.ins.n).wrong = true then (fs, false, false)
    else if ci.ins.op = 0 then (fs, false, true)
    else if ci.ins.op = 19 then reachF fs ci.tg (afterF ahead ci.ins.op ci.ins.n)
    else if ci.ins.op = 20 then (if (reachF fs ci.tg (afterF ahead ci.ins.op ci.ins.n)).2.2 = false then reachF fs ci.tg (afterF ahead ci.ins.op ci.ins.n)
      else ((reachF (reachF fs ci.tg (afterF ahead ci.ins.op ci.ins.n)).1 (k + 1) (afterF ahead ci.ins.op ci.ins.n)).1,
        (reachF fs ci.tg (afterF ahead ci.ins.op ci.ins.n)).2.1 || (reachF (reachF fs ci.tg (afterF ahead ci.ins.op ci.ins.n)).1 (k + 1) (afterF ahead ci.ins.op ci.ins.n)).2.1,
        (reachF (reachF fs ci.tg (afterF ahead ci.ins.op ci.ins.n)).1 (k + 1) (afterF ahead ci.ins.op ci.ins.n)).2.2))
    else reachF fs (k + 1) (afterF ahead ci.ins.op ci.ins.n)

def PassPost (bw bf cap : Nat) (fs : List Fr) (k : Nat) (ci : CI) (ch : Bool) (lv : Value) (w : World) (e : Ending) (w' : World) : Prop :=
  e = .returned (.bool (passF fs k ci).2.2) ∧ AllAt w' bf (passF fs k ci).1 ∧ WalkAt w' bw lv bf fs.length cap (ch || (passF fs k ci).2.1) ∧ Two bw bf w w'
theorem passPost_mk {bw bf cap k : Nat} {fs fs' : List Fr} {ci : CI} {ch c b : Bool} {lv : Value} {w w' : World} (h : passF fs k ci = (fs', c, b)) (h1 : AllAt w' bf fs') (h2 : WalkAt w' bw lv bf fs.length cap (ch || c)) (h3 : Two bw bf w w') :
    PassPost bw bf cap fs k ci ch lv w (.returned (.bool b)) w' := by
  unfold PassPost; rw [h]; exact ⟨rfl, h1, h2, h3⟩

set_option maxRecDepth 100000 in
set_option maxHeartbeats 1000000 in
theorem pass_new (bw bf gl cap capl k : Nat) (fs : List Fr) (cl : List CI) (ci : CI) (ahead : Fr) (ch : Bool) (w : World) (hall : AllAt w bf fs) (hok : AllOk fs) (hk : fs[k]? = some ahead) (hlen : cl.length = fs.length)
    (hwalk : WalkAt w bw (.slice (some ⟨gl, 0, none⟩) cl.length capl) bf fs.length cap ch) (hr : ahead.reached = false) :
    Calls Tryd.prog 36 #[.pointer (some ⟨bw, 0, none⟩), .int .i64 k] w (PassPost bw bf cap fs k ci ch (.slice (some ⟨gl, 0, none⟩) cl.length capl) w) := by
  have hkl : k < fs.length := (List.getElem?_eq_some_iff.1 hk).1
  have HF : Hid (passF fs k ci = (fs, false, true)) := hid (by simp [passF, hk, hr])
  have hkn : FrOk ahead := hok ahead (List.mem_of_getElem? hk)
  have HAL := hid hall
  have HWK := hid hwalk
  have w0 := cell_of_row w bw 0 _ _ _ hwalk
  have w1 := cell_of_row w bw 1 _ _ _ hwalk
  simp only [List.getElem?_toArray, List.getElem?_cons_zero, List.getElem?_cons_succ] at w0 w1
  have hbw : bw < w.heap.size := (Array.getElem?_eq_some_iff.1 hwalk).1
  have hbf : bf < w.heap.size := (Array.getElem?_eq_some_iff.1 hall).1
  have c0 := hall.cell hok hk (j := 0) (by omega)
  have c1 := hall.cell hok hk (j := 1) (by omega)
  have c2 := hall.cell hok hk (j := 2) (by omega)
  have c3 := hall.cell hok hk (j := 3) (by omega)
  have c4 := hall.cell hok hk (j := 4) (by omega)
  have c5 := hall.cell hok hk (j := 5) (by omega)
  have c6 := hall.cell hok hk (j := 6) (by omega)
  have c7 := hall.cell hok hk (j := 7) (by omega)
  have c8 := hall.cell hok hk (j := 8) (by omega)
  have c9 := hall.cell hok hk (j := 9) (by omega)
  have c10 := hall.cell hok hk (j := 10) (by omega)
  have c11 := hall.cell hok hk (j := 11) (by omega)
  have c12 := hall.cell hok hk (j := 12) (by omega)
  have c13 := hall.cell hok hk (j := 13) (by omega)
  have c14 := hall.cell hok hk (j := 14) (by omega)
  obtain ⟨kr, klo, kd, kst, kw⟩ := ahead
  obtain ⟨h1, h2, h3⟩ := hkn
  simp only at h1 h2 hr
  subst hr
  obtain ⟨a, b, c, e, rfl⟩ := four h1
  obtain ⟨s0, s1, s2, s3, s4, s5, s6, s7, rfl⟩ := eight h2
  simp only [frL, List.map_cons, List.map_nil, List.cons_append, List.nil_append, numV, List.getElem?_cons_zero, List.getElem?_cons_succ] at c0 c1 c2 c3 c4 c5 c6 c7 c8 c9 c10 c11 c12 c13 c14
  rw [Nat.add_zero] at c0
  have i0 : (0 : Int) ≤ (k : Int) := by omega
  have i1 : (k : Int) < (fs.length : Int) := by omega
  have i2 : (k : Int) < (cl.length : Int) := by omega
  have d1 : decide ((k : Int) < 0) = false := by simp
  clear hall hwalk hk hlen
  go_enter Tryd.func36, Tryd.ntmps36
  go_wp2_with fail
  go_ret
  have hb := (Below.refl w.heap.size w).alloc (Nat.le_refl _) (.cells #[.bool false, .int .i64 a, .int .i64 b, .int .i64 c, .int .i64 e, .int .i64 kd, .int .i64 s0, .int .i64 s1, .int .i64 s2, .int .i64 s3, .int .i64 s4, .int .i64 s5, .int .i64 s6, .int .i64 s7, .bool kw] 48)
  exact passPost_mk HF.out ((hb.block bf hbf).trans HAL.out) (by rw [Bool.or_false]; exact (hb.block bw hbw).trans HWK.out) (.of_below hb)
set_option maxRecDepth 100000 in
set_option maxHeartbeats 1000000 in
theorem pass_go (bw bf gl cap capl k : Nat) (fs : List Fr) (cl : List CI) (ci : CI) (ahead : Fr) (ch : Bool) (w : World) (hall : AllAt w bf fs) (hok : AllOk fs) (hk : fs[k]? = some ahead) (hlen : cl.length = fs.length)
    (hwalk : WalkAt w bw (.slice (some ⟨gl, 0, none⟩) cl.length capl) bf fs.length cap ch) (hr : ahead.reached = true) (hat : CiAt w gl cl) (hgl : gl < w.heap.size) (hci : cl[k]? = some ci) (htab : FlowTab w) (hop : ci.ins.op < 25) (hn : ci.ins.op = 7 ∨ ci.ins.op = 8 → ci.ins.n < 4) (hne : bw ≠ bf) (hle : fs.length ≤ 200) (htg : ci.ins.op = 19 ∨ ci.ins.op = 20 → ci.tg < fs.length) (hnx : ci.ins.op ≠ 0 → ci.ins.op ≠ 19 → k + 1 < fs.length) :
    Calls Tryd.prog 36 #[.pointer (some ⟨bw, 0, none⟩), .int .i64 k] w (PassPost bw bf cap fs k ci ch (.slice (some ⟨gl, 0, none⟩) cl.length capl) w) := by
  have hkl : k < fs.length := (List.getElem?_eq_some_iff.1 hk).1
  have HP : Hid (passF fs k ci = if (afterF ahead ci.ins.op ci.ins.n).wrong = true then (fs, false, false)
    else if ci.ins.op = 0 then (fs, false, true)
    else if ci.ins.op = 19 then reachF fs ci.tg (afterF ahead ci.ins.op ci.ins.n)
    else if ci.ins.op = 20 then (if (reachF fs ci.tg (afterF ahead ci.ins.op ci.ins.n)).2.2 = false then reachF fs ci.tg (afterF ahead ci.ins.op ci.ins.n)
      else ((reachF (reachF fs ci.tg (afterF ahead ci.ins.op ci.ins.n)).1 (k + 1) (afterF ahead ci.ins.op ci.ins.n)).1,
        (reachF fs ci.tg (afterF ahead ci.ins.op ci.ins.n)).2.1 || (reachF (reachF fs ci.tg (afterF ahead ci.ins.op ci.ins.n)).1 (k + 1) (afterF ahead ci.ins.op ci.ins.n)).2.1,
        (reachF (reachF fs ci.tg (afterF ahead ci.ins.op ci.ins.n)).1 (k + 1) (afterF ahead ci.ins.op ci.ins.n)).2.2))
    else reachF fs (k + 1) (afterF ahead ci.ins.op ci.ins.n)) := hid (by simp [passF, hk, hr])
  have HCI := hid (hat k ci hci)
  have hkn : FrOk ahead := hok ahead (List.mem_of_getElem? hk)
  have HAL := hid hall
  have HWK := hid hwalk
  have w0 := cell_of_row w bw 0 _ _ _ hwalk
  have w1 := cell_of_row w bw 1 _ _ _ hwalk
  simp only [List.getElem?_toArray, List.getElem?_cons_zero, List.getElem?_cons_succ] at w0 w1
  have hbw : bw < w.heap.size := (Array.getElem?_eq_some_iff.1 hwalk).1
  have hbf : bf < w.heap.size := (Array.getElem?_eq_some_iff.1 hall).1
  have c0 := hall.cell hok hk (j := 0) (by omega)
  have c1 := hall.cell hok hk (j := 1) (by omega)
  have c2 := hall.cell hok hk (j := 2) (by omega)
  have c3 := hall.cell hok hk (j := 3) (by omega)
  have c4 := hall.cell hok hk (j := 4) (by omega)
  have c5 := hall.cell hok hk (j := 5) (by omega)
  have c6 := hall.cell hok hk (j := 6) (by omega)
  have c7 := hall.cell hok hk (j := 7) (by omega)
  have c8 := hall.cell hok hk (j := 8) (by omega)
  have c9 := hall.cell hok hk (j := 9) (by omega)
  have c10 := hall.cell hok hk (j := 10) (by omega)
  have c11 := hall.cell hok hk (j := 11) (by omega)
  have c12 := hall.cell hok hk (j := 12) (by omega)
  have c13 := hall.cell hok hk (j := 13) (by omega)
  have c14 := hall.cell hok hk (j := 14) (by omega)
  obtain ⟨kr, klo, kd, kst, kw⟩ := ahead
  obtain ⟨h1, h2, h3⟩ := hkn
  simp only at h1 h2 hr
  subst hr
  obtain ⟨a, b, c, e, rfl⟩ := four h1
  obtain ⟨s0, s1, s2, s3, s4, s5, s6, s7, rfl⟩ := eight h2
  simp only [frL, List.map_cons, List.map_nil, List.cons_append, List.nil_append, numV, List.getElem?_cons_zero, List.getElem?_cons_succ] at c0 c1 c2 c3 c4 c5 c6 c7 c8 c9 c10 c11 c12 c13 c14
  rw [Nat.add_zero] at c0
  have i0 : (0 : Int) ≤ (k : Int) := by omega
  have i1 : (k : Int) < (fs.length : Int) := by omega
  have i2 : (k : Int) < (cl.length : Int) := by omega
  have d1 : decide ((k : Int) < 0) = false := by simp
  have haft := hid (fun W hW => aft_any ⟨true, [a, b, c, e], kd, [s0, s1, s2, s3, s4, s5, s6, s7], kw⟩ ci.ins.op ci.ins.n ci.ins.place ci.tg W ⟨rfl, rfl, h3⟩ hop hn hW)
  have hgok : FrOk (afterF ⟨true, [a, b, c, e], kd, [s0, s1, s2, s3, s4, s5, s6, s7], kw⟩ ci.ins.op ci.ins.n) := afterF_ok ⟨rfl, rfl, h3⟩ _ _
  have HG : Hid (afterF ⟨true, [a, b, c, e], kd, [s0, s1, s2, s3, s4, s5, s6, s7], kw⟩ ci.ins.op ci.ins.n = afterF ⟨true, [a, b, c, e], kd, [s0, s1, s2, s3, s4, s5, s6, s7], kw⟩ ci.ins.op ci.ins.n) := hid rfl
  unfold AftPost at haft
  generalize hGG : afterF ⟨true, [a, b, c, e], kd, [s0, s1, s2, s3, s4, s5, s6, s7], kw⟩ ci.ins.op ci.ins.n = G at haft hgok
  have HGG := hid hGG
  clear hGG HG
  obtain ⟨r', lo', d', st', wg'⟩ := G
  have HGOK := hid hgok
  obtain ⟨j1, j2, j3⟩ := hgok
  simp only at j1 j2
  obtain ⟨a', b', c', e', rfl⟩ := four j1
  obtain ⟨t0, t1, t2, t3, t4, t5, t6, t7, rfl⟩ := eight j2
  simp only [frL, List.map_cons, List.map_nil, List.cons_append, List.nil_append, numV] at haft
  obtain ⟨x0, x1, x2, x3⟩ := HCI.out
  have hgl2 : gl ≤ w.heap.size := by omega
  have HTAB := hid htab
  rw [HGG.out] at HP
  have HOP := hid hop
  clear hall hwalk hk hlen htab hat hci
  go_enter Tryd.func36, Tryd.ntmps36
  go_upto_region 7 with fail
  go_cut [7, 8] (fun x7 x8 wc => ∃ B : Nat, x7 = .pointer (some ⟨B, 0, none⟩) ∧ x8 = .bool (!wg') ∧ w.heap.size + 1 + 1 ≤ B ∧ wc.heap[B]? = some (.cells #[.bool r', .int .i64 a', .int .i64 b', .int .i64 c', .int .i64 e', .int .i64 d', .int .i64 t0, .int .i64 t1, .int .i64 t2, .int .i64 t3, .int .i64 t4, .int .i64 t5, .int .i64 t6, .int .i64 t7, .bool wg'] 48) ∧
    wc.heap[w.heap.size + 1]? = some (.cells #[.int .i64 ci.ins.place, .int .i64 ci.ins.op, .int .i64 ci.ins.n, .int .i64 ci.tg] 54) ∧ Below w.heap.size w wc)
  case first =>
    go_wp2_with fail
    refine (haft.out _ (HTAB.out.below (((Below.refl _ _).alloc (Nat.le_refl _) _).alloc (by simp) _))).mono ?_
    intro x w5 hh
    obtain ⟨hb5, hx5⟩ := hh
    subst x
    go_wp2_with fail
    go_meet
    have hz5 := hb5.size
    rw [alloc_size, alloc_size] at hz5
    refine ⟨_, rfl, rfl, hz5, heap_alloc_new _ _, ?_, ?_⟩
    · rw [Below.heap_alloc _ _ _ (by omega), hb5.block _ (by rw [alloc_size, alloc_size]; omega)]
      exact heap_two_new w _ _
    · exact ((((Below.refl _ _).alloc (Nat.le_refl _) _).alloc (by simp) _).trans (hb5.mono (by simp; omega))).alloc (by omega) _
  case rest =>
    obtain ⟨B, rfl, rfl, hB, hrow, hin, hbel⟩ := hcut
    have hA : AllAt wc bf fs := (hbel.block bf hbf).trans HAL.out
    have hW : WalkAt wc bw (.slice (some ⟨gl, 0, none⟩) cl.length capl) bf fs.length cap ch := (hbel.block bw hbw).trans HWK.out
    have m0 := cell_of_row wc B 0 _ _ _ hrow
    have m1 := cell_of_row wc B 1 _ _ _ hrow
    have m2 := cell_of_row wc B 2 _ _ _ hrow
    have m3 := cell_of_row wc B 3 _ _ _ hrow
    have m4 := cell_of_row wc B 4 _ _ _ hrow
    have m5 := cell_of_row wc B 5 _ _ _ hrow
    have m6 := cell_of_row wc B 6 _ _ _ hrow
    have m7 := cell_of_row wc B 7 _ _ _ hrow
    have m8 := cell_of_row wc B 8 _ _ _ hrow
    have m9 := cell_of_row wc B 9 _ _ _ hrow
    have m10 := cell_of_row wc B 10 _ _ _ hrow
    have m11 := cell_of_row wc B 11 _ _ _ hrow
    have m12 := cell_of_row wc B 12 _ _ _ hrow
    have m13 := cell_of_row wc B 13 _ _ _ hrow
    have m14 := cell_of_row wc B 14 _ _ _ hrow
    have n0 := cell_of_row wc (w.heap.size + 1) 0 _ _ _ hin
    have n1 := cell_of_row wc (w.heap.size + 1) 1 _ _ _ hin
    have n2 := cell_of_row wc (w.heap.size + 1) 2 _ _ _ hin
    have n3 := cell_of_row wc (w.heap.size + 1) 3 _ _ _ hin
    simp only [List.getElem?_toArray, List.getElem?_cons_zero, List.getElem?_cons_succ] at m0 m1 m2 m3 m4 m5 m6 m7 m8 m9 m10 m11 m12 m13 m14 n0 n1 n2 n3
    have HA := hid hA
    have HW := hid hW
    clear hA hW haft c0 c1 c2 c3 c4 c5 c6 c7 c8 c9 c10 c11 c12 c13 c14 w0 w1 x0 x1 x2 x3
    cases wg'
    case true =>
      have HF : Hid (passF fs k ci = (fs, false, false)) := hid (by rw [HP.out, if_pos rfl])
      go_wp2_with fail
      go_ret
      exact passPost_mk HF.out HA.out (by rw [Bool.or_false]; exact HW.out) (.of_below hbel)
    case false =>
      by_cases o0 : ci.ins.op = 0
      · have q0 : ((ci.ins.op : Int) == 0) = true := by simp; omega
        have HF : Hid (passF fs k ci = (fs, false, true)) := hid (by rw [HP.out, if_neg (by simp), if_pos o0])
        clear o0
        go_wp2_with fail
        go_ret
        exact passPost_mk HF.out HA.out (by rw [Bool.or_false]; exact HW.out) (.of_below hbel)
      have q0 : ((ci.ins.op : Int) == 0) = false := by simp; omega
      by_cases o19 : ci.ins.op = 19
      · have q1 : ((ci.ins.op : Int) == 19) = true := by simp; omega
        have HF : Hid (passF fs k ci = reachF fs ci.tg ⟨r', [a', b', c', e'], d', [t0, t1, t2, t3, t4, t5, t6, t7], false⟩) := hid (by rw [HP.out, if_neg (by simp), if_neg o0, if_pos o19])
        have hrc := hid (reach_any bw bf cap ci.tg fs ⟨r', [a', b', c', e'], d', [t0, t1, t2, t3, t4, t5, t6, t7], false⟩ ch _ wc HA.out hok (htg (.inl o19)) HGOK.out HW.out hne)
        simp only [frL, List.map_cons, List.map_nil, List.cons_append, List.nil_append, numV] at hrc
        clear o0 o19
        go_wp2_with fail
        refine hrc.out.mono ?_
        clear hrc
        intro x w6 hh
        obtain ⟨hx6, hA6, hW6, hT6⟩ := hh
        subst x
        go_wp2_with fail
        go_ret
        exact passPost_mk HF.out hA6 hW6 ((Two.of_below hbel).trans hT6)
      have q1 : ((ci.ins.op : Int) == 19) = false := by simp; omega
      have hnx2 := hnx o0 o19
      by_cases o20 : ci.ins.op = 20
      · have q2 : ((ci.ins.op : Int) == 20) = true := by simp; omega
        have HF : Hid (passF fs k ci = if (reachF fs ci.tg ⟨r', [a', b', c', e'], d', [t0, t1, t2, t3, t4, t5, t6, t7], false⟩).2.2 = false then reachF fs ci.tg ⟨r', [a', b', c', e'], d', [t0, t1, t2, t3, t4, t5, t6, t7], false⟩ else ((reachF (reachF fs ci.tg ⟨r', [a', b', c', e'], d', [t0, t1, t2, t3, t4, t5, t6, t7], false⟩).1 (k + 1) ⟨r', [a', b', c', e'], d', [t0, t1, t2, t3, t4, t5, t6, t7], false⟩).1, (reachF fs ci.tg ⟨r', [a', b', c', e'], d', [t0, t1, t2, t3, t4, t5, t6, t7], false⟩).2.1 || (reachF (reachF fs ci.tg ⟨r', [a', b', c', e'], d', [t0, t1, t2, t3, t4, t5, t6, t7], false⟩).1 (k + 1) ⟨r', [a', b', c', e'], d', [t0, t1, t2, t3, t4, t5, t6, t7], false⟩).2.1, (reachF (reachF fs ci.tg ⟨r', [a', b', c', e'], d', [t0, t1, t2, t3, t4, t5, t6, t7], false⟩).1 (k + 1) ⟨r', [a', b', c', e'], d', [t0, t1, t2, t3, t4, t5, t6, t7], false⟩).2.2)) := hid (by rw [HP.out, if_neg (by simp), if_neg o0, if_neg o19, if_pos o20])
        have hrc := hid (reach_any bw bf cap ci.tg fs ⟨r', [a', b', c', e'], d', [t0, t1, t2, t3, t4, t5, t6, t7], false⟩ ch _ wc HA.out hok (htg (.inr o20)) HGOK.out HW.out hne)
        have hok2 := reachF_ok (k := ci.tg) (way := ⟨r', [a', b', c', e'], d', [t0, t1, t2, t3, t4, t5, t6, t7], false⟩) hok HGOK.out
        have hln2 := reachF_len fs ci.tg ⟨r', [a', b', c', e'], d', [t0, t1, t2, t3, t4, t5, t6, t7], false⟩
        simp only [frL, List.map_cons, List.map_nil, List.cons_append, List.nil_append, numV] at hrc
        generalize reachF fs ci.tg ⟨r', [a', b', c', e'], d', [t0, t1, t2, t3, t4, t5, t6, t7], false⟩ = R1 at *
        obtain ⟨fs1, ch1, ok1⟩ := R1
        simp only at hok2 hln2 hrc HF
        clear o0 o19 o20
        go_wp2_with fail
        refine hrc.out.mono ?_
        clear hrc
        intro x w6 hh
        obtain ⟨hx6, hA6, hW6, hT6⟩ := hh
        subst x
        cases ok1
        · have HF2 : Hid (passF fs k ci = (fs1, ch1, false)) := hid (by rw [HF.out, if_pos rfl])
          go_wp2_with fail
          go_ret
          exact passPost_mk HF2.out hA6 hW6 ((Two.of_below hbel).trans hT6)
        · have HF2 : Hid (passF fs k ci = ((reachF fs1 (k + 1) ⟨r', [a', b', c', e'], d', [t0, t1, t2, t3, t4, t5, t6, t7], false⟩).1, ch1 || (reachF fs1 (k + 1) ⟨r', [a', b', c', e'], d', [t0, t1, t2, t3, t4, t5, t6, t7], false⟩).2.1, (reachF fs1 (k + 1) ⟨r', [a', b', c', e'], d', [t0, t1, t2, t3, t4, t5, t6, t7], false⟩).2.2)) := hid (by rw [HF.out, if_neg (by simp)])
          have hBz : B < wc.heap.size := (Array.getElem?_eq_some_iff.1 hrow).1
          have hrow6 := (hT6.block B hBz (by omega) (by omega)).trans hrow
          clear m0 m1 m2 m3 m4 m5 m6 m7 m8 m9 m10 m11 m12 m13 m14
          have m0 := cell_of_row w6 B 0 _ _ _ hrow6
          have m1 := cell_of_row w6 B 1 _ _ _ hrow6
          have m2 := cell_of_row w6 B 2 _ _ _ hrow6
          have m3 := cell_of_row w6 B 3 _ _ _ hrow6
          have m4 := cell_of_row w6 B 4 _ _ _ hrow6
          have m5 := cell_of_row w6 B 5 _ _ _ hrow6
          have m6 := cell_of_row w6 B 6 _ _ _ hrow6
          have m7 := cell_of_row w6 B 7 _ _ _ hrow6
          have m8 := cell_of_row w6 B 8 _ _ _ hrow6
          have m9 := cell_of_row w6 B 9 _ _ _ hrow6
          have m10 := cell_of_row w6 B 10 _ _ _ hrow6
          have m11 := cell_of_row w6 B 11 _ _ _ hrow6
          have m12 := cell_of_row w6 B 12 _ _ _ hrow6
          have m13 := cell_of_row w6 B 13 _ _ _ hrow6
          have m14 := cell_of_row w6 B 14 _ _ _ hrow6
          simp only [List.getElem?_toArray, List.getElem?_cons_zero, List.getElem?_cons_succ] at m0 m1 m2 m3 m4 m5 m6 m7 m8 m9 m10 m11 m12 m13 m14
          rw [← hln2] at hW6
          have hrc2 := hid (reach_any bw bf cap (k + 1) fs1 ⟨r', [a', b', c', e'], d', [t0, t1, t2, t3, t4, t5, t6, t7], false⟩ (ch || ch1) _ w6 hA6 hok2 (by omega) HGOK.out hW6 hne)
          simp only [frL, List.map_cons, List.map_nil, List.cons_append, List.nil_append, numV] at hrc2
          rw [show (((k + 1 : Nat)) : Int) = (k : Int) + 1 by omega] at hrc2
          have hk200 : (k : Int) + 1 ≤ 200 := by omega
          have HLN := hid hln2
          clear hA6 hW6 hln2
          go_wp2_with fail
          refine hrc2.out.mono ?_
          clear hrc2
          intro x w7 hh
          obtain ⟨hx7, hA7, hW7, hT7⟩ := hh
          subst x
          go_wp2_with fail
          go_ret
          exact passPost_mk HF2.out hA7 (by rw [← HLN.out, ← Bool.or_assoc]; exact hW7) (((Two.of_below hbel).trans hT6).trans hT7)
      have q2 : ((ci.ins.op : Int) == 20) = false := by simp; omega
      have HF : Hid (passF fs k ci = reachF fs (k + 1) ⟨r', [a', b', c', e'], d', [t0, t1, t2, t3, t4, t5, t6, t7], false⟩) := hid (by rw [HP.out, if_neg (by simp), if_neg o0, if_neg o19, if_neg o20])
      have hrc := hid (reach_any bw bf cap (k + 1) fs ⟨r', [a', b', c', e'], d', [t0, t1, t2, t3, t4, t5, t6, t7], false⟩ ch _ wc HA.out hok hnx2 HGOK.out HW.out hne)
      simp only [frL, List.map_cons, List.map_nil, List.cons_append, List.nil_append, numV] at hrc
      clear o0 o19 o20
      rw [show (((k + 1 : Nat)) : Int) = (k : Int) + 1 by omega] at hrc
      have hk200 : (k : Int) + 1 ≤ 200 := by omega
      go_wp2_with fail
      refine hrc.out.mono ?_
      clear hrc
      intro x w6 hh
      obtain ⟨hx6, hA6, hW6, hT6⟩ := hh
      subst x
      go_wp2_with fail
      go_ret
      exact passPost_mk HF.out hA6 hW6 ((Two.of_below hbel).trans hT6)
end Go.Proofs.YteocjidfbbekfaaDoor
