/- The contracts of the reference's kind and told. -/
import Derived.Test.YteocjidfbbekfaaDoorTypB
import Derived.Test.YteocjidfbbekfaaDoorSpecK
import Derived.Test.YteocjidfbbekfaaDoorFlowI
import Derived.BigQuiet
import Derived.Deep.RegionHeld3
namespace Go.Proofs.YteocjidfbbekfaaDoor
open Go.RowKit

theorem kind_any (c : Nat) (w : World) : Calls Tryd.prog 25 #[.int .u8 c] w fun x w' => x = .returned (.int .i64 (kindN c : Nat)) ∧ w' = w := by
  by_cases h : c = 114
  · have h' : ((c : Int) == 114) = true := by simp; omega
    have HE : Hid (kindN c = 1) := hid (by simp [kindN, h])
    clear h
    go_enter Tryd.func25, Tryd.ntmps25
    go_wp2
    go_ret
    exact ⟨ret_int (by rw [HE.out]; rfl), rfl⟩
  · have h' : ((c : Int) == 114) = false := by simp; omega
    have HE : Hid (kindN c = 0) := hid (by simp [kindN, h])
    clear h
    go_enter Tryd.func25, Tryd.ntmps25
    go_wp2
    go_ret
    exact ⟨ret_int (by rw [HE.out]; rfl), rfl⟩

def codes (b : ByteArray) : List Nat := (tl b).map code8
theorem codes_len (b : ByteArray) : (codes b).length = b.size := by simp [codes, tl_len]
theorem codes_get {b : ByteArray} {n : Nat} (h : n < b.size) : (codes b).getD n 0 = kindN (byteAt b n) := by
  obtain ⟨c, c1, c2, _⟩ := tl_get h
  unfold codes
  rw [List.getD_eq_getElem?_getD, List.getElem?_map, c1, c2]
  rfl
/-- What is told so far: reached, locals, stack. -/
structure Ac where
  r : Bool
  lo : List Nat
  st : List Nat
def baseA (a : Ac) (p : Pt) : List Nat × List Nat := if a.r = true then (a.lo, a.st) else (codes p.lo, codes p.st)
def toldS (i : Nat) (a : Ac) (p : Pt) : Ac := if p.at_ = i then ⟨true, List.zipWith joinN (baseA a p).1 (codes p.lo), (baseA a p).2⟩ else a
def toldF (i : Nat) (all : List Pt) : Ac := all.foldl (toldS i) ⟨false, [], []⟩
theorem toldF_snoc (i : Nat) (all : List Pt) (k : Nat) (h : k < all.length) : toldF i (all.take (k + 1)) = toldS i (toldF i (all.take k)) all[k] := by
  unfold toldF
  rw [List.take_succ_eq_append_getElem h, List.foldl_append]; rfl
theorem toldF_len {L : Nat} (i : Nat) (all : List Pt) (h : ∀ p ∈ all, p.lo.size = L) : (toldF i all).r = true → (toldF i all).lo.length = L := by
  suffices hs : ∀ (all : List Pt) (a : Ac), (∀ p ∈ all, p.lo.size = L) → (a.r = true → a.lo.length = L) → (all.foldl (toldS i) a).r = true → (all.foldl (toldS i) a).lo.length = L from hs all _ h (by simp)
  intro all
  induction all with
  | nil => intro a _ ha; exact ha
  | cons p r ih =>
    intro a hp ha
    simp only [List.foldl_cons]
    refine ih _ (fun q hq => hp q (by simp [hq])) ?_
    have hpL := hp p (by simp)
    unfold toldS
    by_cases e : p.at_ = i
    · rw [if_pos e]
      intro _
      simp only [List.length_zipWith, codes_len, hpL]
      unfold baseA
      by_cases hr : a.r = true
      · rw [if_pos hr, ha hr]; simp
      · rw [if_neg hr]; simp [codes_len, hpL]
    · rw [if_neg e]; exact ha

/-- The point that is being told lies in block b. -/
def OutAt (w : World) (b : Nat) (place : Nat) (r : Bool) (v1 v2 : Value) : Prop := w.heap[b]? = some (.cells #[.int .i64 place, .bool r, v1, v2] 51)
structure ToldAt (w w' : World) (place : Nat) (a : Ac) (v1 v2 : Value) : Prop where
  below : Below w.heap.size w w'
  res : OutAt w' w.heap.size 0 false (.slice none 0 0) (.slice none 0 0)
  out : OutAt w' (w.heap.size + 1) place a.r v1 v2
  o1 : w'.ownsRow (w.heap.size + 2) 3 1 v1 a.lo.length (a.lo.map numV)
  o2 : w'.ownsRow (w.heap.size + 2) 3 1 v2 a.st.length (a.st.map numV)
  ne : ∀ g, v1.ownBlock = some g → v2.ownBlock ≠ some g
structure InAt (w w' : World) (B place : Nat) (a : Ac) (v1 v2 : Value) (p : Pt) : Prop extends ToldAt w w' place a v1 v2 where
  box : w'.heap[B]? = some (.cells #[.int .i64 p.at_, .string p.lo, .string p.st] 67)
  b1 : v1.ownBlock ≠ some B
  b2 : v2.ownBlock ≠ some B
  hB : w.heap.size + 2 ≤ B
theorem owns_keep {w w' : World} {base e size n : Nat} {v : Value} {xs : List Value} (h : w.ownsRow base e size v n xs) (hk : ∀ g, v.ownBlock = some g → w'.heap[g]? = w.heap[g]?) : w'.ownsRow base e size v n xs := by
  refine ⟨h.1, ?_⟩
  rcases h.2 with h2 | ⟨g, cap, cur, hv, hg, hh, r⟩
  · exact .inl h2
  · exact .inr ⟨g, cap, cur, hv, hg, by rw [hk g (by rw [hv]; rfl)]; exact hh, r⟩
/-- Nothing that is asked has turned. -/
theorem ToldAt.same {w w1 w2 : World} {place : Nat} {a : Ac} {v1 v2 : Value} (h : ToldAt w w1 place a v1 v2) (hb : Below w1.heap.size w1 w2) : ToldAt w w2 place a v1 v2 := by
  have hz := h.below.size
  have ho : w.heap.size + 1 < w1.heap.size := (Array.getElem?_eq_some_iff.1 h.out).1
  exact ⟨h.below.trans (hb.mono hz), (hb.block _ (by omega)).trans h.res, (hb.block _ ho).trans h.out, owns_keep h.o1 (fun g hg => hb.block g (h.o1.lt g hg).2), owns_keep h.o2 (fun g hg => hb.block g (h.o2.lt g hg).2), h.ne⟩
theorem InAt.start {w w1 : World} {place : Nat} {a : Ac} {v1 v2 : Value} (h : ToldAt w w1 place a v1 v2) (p : Pt) : InAt w (w1.alloc (.cells #[.int .i64 p.at_, .string p.lo, .string p.st] 67)) w1.heap.size place a v1 v2 p := by
  have ho : w.heap.size + 1 < w1.heap.size := (Array.getElem?_eq_some_iff.1 h.out).1
  exact ⟨h.same ((Below.refl _ _).alloc (Nat.le_refl _) _), heap_alloc_new _ _, fun e => by have := (h.o1.lt _ e).2; omega, fun e => by have := (h.o2.lt _ e).2; omega, by omega⟩
theorem InAt.same {w w1 w2 : World} {B place : Nat} {a : Ac} {v1 v2 : Value} {p : Pt} (h : InAt w w1 B place a v1 v2 p) (hb : Below w1.heap.size w1 w2) : InAt w w2 B place a v1 v2 p :=
  ⟨h.toToldAt.same hb, (hb.block _ (Array.getElem?_eq_some_iff.1 h.box).1).trans h.box, h.b1, h.b2, h.hB⟩
theorem out_set {w : World} {b place j : Nat} {r : Bool} {v1 v2 u : Value} (h : OutAt w b place r v1 v2) : (w.setCell ⟨b, j, none⟩ u).heap[b]? = some (.cells ((#[.int .i64 place, .bool r, v1, v2] : Array Value).setIfInBounds j u) 51) := setCell_row j u h
/-- The locals have grown. -/
theorem InAt.push1 {w W w3 : World} {B place n c gg cap : Nat} {r : Bool} {x y : List Nat} {v1 v2 : Value} {p : Pt} (h : InAt w W B place ⟨r, x, y⟩ v1 v2 p) (hn : n = x.length)
    (hown : w3.ownsRow (w.heap.size + 2) 3 1 (.slice (some ⟨gg, 0, none⟩) (n + 1) cap) (n + 1) (x.map numV ++ [.int .i64 c])) (hgrow : W.grownBy w3 v1.ownBlock) (hat : v1.ownBlock = some gg ∨ gg = W.heap.size) :
    InAt w (w3.setCell ⟨w.heap.size + 1, 2, none⟩ (.slice (some ⟨gg, 0, none⟩) (n + 1) cap)) B place ⟨r, x ++ [c], y⟩ (.slice (some ⟨gg, 0, none⟩) (n + 1) cap) v2 p := by
  subst hn
  have ho : w.heap.size + 1 < W.heap.size := (Array.getElem?_eq_some_iff.1 h.out).1
  have hBz : B < W.heap.size := (Array.getElem?_eq_some_iff.1 h.box).1
  have far : ∀ k, k < W.heap.size → k < w.heap.size + 2 → some k ≠ v1.ownBlock := fun k _ hk e => by have := (h.o1.lt k e.symm).1; omega
  have hO3 : OutAt w3 (w.heap.size + 1) place r v1 v2 := (hgrow.block _ ho (far _ ho (by omega))).trans h.out
  have hset : ∀ k, k ≠ w.heap.size + 1 → (w3.setCell ⟨w.heap.size + 1, 2, none⟩ (.slice (some ⟨gg, 0, none⟩) (x.length + 1) cap)).heap[k]? = w3.heap[k]? := fun k hk => Below.heap_setCell _ _ _ _ hk
  have hgg : w.heap.size + 2 ≤ gg := (hown.lt gg rfl).1
  have hsz := hgrow.size
  refine ⟨⟨?_, ?_, ?_, ?_, ?_, ?_⟩, ?_, ?_, h.b2, h.hB⟩
  · refine (h.below.trans ⟨hgrow.os, hgrow.tape, hgrow.output, hgrow.size, fun k hk => hgrow.block k (by omega) (far k (by omega) (by omega))⟩).setCell (by simp) _
  · exact (hset _ (by omega)).trans ((hgrow.block _ (by omega) (far _ (by omega) (by omega))).trans h.res)
  · exact out_set hO3
  · rw [List.length_append, List.map_append]
    exact owns_keep hown (fun g hg => by
      have e : gg = g := by simpa [Value.ownBlock] using hg
      exact hset _ (by omega))
  · refine owns_keep h.o2 (fun g hg => ?_)
    have := h.o2.lt g hg
    rw [hset _ (by omega)]
    exact hgrow.block g this.2 (fun e => h.ne g e.symm hg)
  · intro g hg e
    have e2 : gg = g := by simpa [Value.ownBlock] using hg
    subst e2
    rcases hat with h1 | h1
    · exact h.ne _ h1 e
    · have := (h.o2.lt _ e).2; omega
  · rw [hset _ (by have := h.hB; omega)]
    exact (hgrow.block _ hBz (fun e => h.b1 e.symm)).trans h.box
  · intro e
    have e2 : gg = B := by simpa [Value.ownBlock] using e
    subst e2
    rcases hat with h1 | h1
    · exact h.b1 h1
    · omega
/-- The stack has grown. -/
theorem InAt.push2 {w W w3 : World} {B place n c gg cap : Nat} {r : Bool} {x y : List Nat} {v1 v2 : Value} {p : Pt} (h : InAt w W B place ⟨r, x, y⟩ v1 v2 p) (hn : n = y.length)
    (hown : w3.ownsRow (w.heap.size + 2) 3 1 (.slice (some ⟨gg, 0, none⟩) (n + 1) cap) (n + 1) (y.map numV ++ [.int .i64 c])) (hgrow : W.grownBy w3 v2.ownBlock) (hat : v2.ownBlock = some gg ∨ gg = W.heap.size) :
    InAt w (w3.setCell ⟨w.heap.size + 1, 3, none⟩ (.slice (some ⟨gg, 0, none⟩) (n + 1) cap)) B place ⟨r, x, y ++ [c]⟩ v1 (.slice (some ⟨gg, 0, none⟩) (n + 1) cap) p := by
  subst hn
  have ho : w.heap.size + 1 < W.heap.size := (Array.getElem?_eq_some_iff.1 h.out).1
  have hBz : B < W.heap.size := (Array.getElem?_eq_some_iff.1 h.box).1
  have far : ∀ k, k < W.heap.size → k < w.heap.size + 2 → some k ≠ v2.ownBlock := fun k _ hk e => by have := (h.o2.lt k e.symm).1; omega
  have hO3 : OutAt w3 (w.heap.size + 1) place r v1 v2 := (hgrow.block _ ho (far _ ho (by omega))).trans h.out
  have hset : ∀ k, k ≠ w.heap.size + 1 → (w3.setCell ⟨w.heap.size + 1, 3, none⟩ (.slice (some ⟨gg, 0, none⟩) (y.length + 1) cap)).heap[k]? = w3.heap[k]? := fun k hk => Below.heap_setCell _ _ _ _ hk
  have hgg : w.heap.size + 2 ≤ gg := (hown.lt gg rfl).1
  have hsz := hgrow.size
  refine ⟨⟨?_, ?_, ?_, ?_, ?_, ?_⟩, ?_, h.b1, ?_, h.hB⟩
  · refine (h.below.trans ⟨hgrow.os, hgrow.tape, hgrow.output, hgrow.size, fun k hk => hgrow.block k (by omega) (far k (by omega) (by omega))⟩).setCell (by simp) _
  · exact (hset _ (by omega)).trans ((hgrow.block _ (by omega) (far _ (by omega) (by omega))).trans h.res)
  · exact out_set hO3
  · refine owns_keep h.o1 (fun g hg => ?_)
    have := h.o1.lt g hg
    rw [hset _ (by omega)]
    exact hgrow.block g this.2 (fun e => h.ne g hg e.symm)
  · rw [List.length_append, List.map_append]
    exact owns_keep hown (fun g hg => by
      have e : gg = g := by simpa [Value.ownBlock] using hg
      exact hset _ (by omega))
  · intro g hg e
    have e2 : gg = g := by simpa [Value.ownBlock] using e
    subst e2
    rcases hat with h1 | h1
    · exact h.ne _ hg h1
    · have := (h.o1.lt _ hg).2; omega
  · rw [hset _ (by have := h.hB; omega)]
    exact (hgrow.block _ hBz (fun e => h.b2 e.symm)).trans h.box
  · intro e
    have e2 : gg = B := by simpa [Value.ownBlock] using e
    subst e2
    rcases hat with h1 | h1
    · exact h.b2 h1
    · omega
/-- The point is reached. -/
theorem InAt.mark {w W : World} {B place : Nat} {r : Bool} {x y : List Nat} {v1 v2 : Value} {p : Pt} (h : InAt w W B place ⟨r, x, y⟩ v1 v2 p) : InAt w (W.setCell ⟨w.heap.size + 1, 1, none⟩ (.bool true)) B place ⟨true, x, y⟩ v1 v2 p := by
  have hset : ∀ k, k ≠ w.heap.size + 1 → (W.setCell ⟨w.heap.size + 1, 1, none⟩ (.bool true)).heap[k]? = W.heap[k]? := fun k hk => Below.heap_setCell _ _ _ _ hk
  have hB := h.hB
  exact ⟨⟨h.below.setCell (by simp) _, (hset _ (by omega)).trans h.res, out_set h.out, owns_keep h.o1 (fun g hg => hset _ (by have := (h.o1.lt g hg).1; omega)), owns_keep h.o2 (fun g hg => hset _ (by have := (h.o2.lt g hg).1; omega)), h.ne⟩, (hset _ (by omega)).trans h.box, h.b1, h.b2, hB⟩
theorem owns_put {w : World} {base N n c : Nat} {g cap : Nat} {x : List Nat} (h : w.ownsRow base 3 1 (.slice (some ⟨g, 0, none⟩) N cap) N (x.map numV)) : (w.setCell ⟨g, n, none⟩ (numV c)).ownsRow base 3 1 (.slice (some ⟨g, 0, none⟩) N cap) N ((x.set n c).map numV) := by
  have h1 := h.1
  refine ⟨by simpa using h1, ?_⟩
  rcases h.2 with ⟨h2, _⟩ | ⟨g', cap', cur, hv, hg, hh, r1, r2, r3, r4⟩
  · cases h2
  · cases hv
    refine .inr ⟨g, cap, cur.setIfInBounds n (numV c), rfl, hg, setCell_row n _ hh, r1, r2, by simpa using r3, ?_⟩
    rw [Array.toList_setIfInBounds, List.take_set, r4, List.map_set]
/-- One of the locals becomes Mixed. -/
theorem InAt.mixed {w W : World} {B place n g cap : Nat} {r : Bool} {x y : List Nat} {N : Nat} {v2 : Value} {p : Pt} (h : InAt w W B place ⟨r, x, y⟩ (.slice (some ⟨g, 0, none⟩) N cap) v2 p) (c : Nat) :
    InAt w (W.setCell ⟨g, n, none⟩ (.int .i64 c)) B place ⟨r, x.set n c, y⟩ (.slice (some ⟨g, 0, none⟩) N cap) v2 p := by
  have hset : ∀ k, k ≠ g → (W.setCell ⟨g, n, none⟩ (.int .i64 c)).heap[k]? = W.heap[k]? := fun k hk => Below.heap_setCell _ _ _ _ hk
  have hg := h.o1.lt g rfl
  have hN : N = x.length := by
    obtain ⟨p1, c1, e1⟩ := owns_slice h.o1
    cases e1; rfl
  subst hN
  refine ⟨⟨h.below.setCell (by simp; omega) _, (hset _ (by omega)).trans h.res, (hset _ (by omega)).trans h.out, ?_, owns_keep h.o2 (fun g' hg' => hset _ (fun e => h.ne g rfl (by rw [← e]; exact hg'))), h.ne⟩, (hset _ (fun e => h.b1 (by rw [e]; rfl))).trans h.box, h.b1, h.b2, h.hB⟩
  rw [List.length_set]
  exact owns_put h.o1
end Go.Proofs.YteocjidfbbekfaaDoor
