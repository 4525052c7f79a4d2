/- The contract of the program's after, whole; and of joined. -/
import Derived.Test.YteocjidfbbekfaaDoorFlowE
import Derived.Test.YteocjidfbbekfaaDoorFlowF
import Derived.Test.YteocjidfbbekfaaDoorFlowG
namespace Go.Proofs.YteocjidfbbekfaaDoor
open Go.RowKit

theorem aft_any (f : Fr) (op n pl tg : Nat) (w : World) (ok : FrOk f) (hop : op < 25) (hn : op = 7 ∨ op = 8 → n < 4) (htab : FlowTab w) :
    Calls Tryd.prog 37 #[.agg (frL f).toArray, .agg #[.int .i64 pl, .int .i64 op, .int .i64 n, .int .i64 tg]] w (AftPost f op n w) := by
  by_cases e7 : op = 7
  · subst e7; exact aft_load f n pl tg w ok (hn (.inl rfl))
  by_cases e8 : op = 8
  · subst e8; exact aft_store f n pl tg w ok (hn (.inr rfl))
  by_cases e9 : op = 9
  · subst e9; exact aft_dup f n pl tg w ok
  by_cases e10 : op = 10
  · subst e10; exact aft_drop f n pl tg w ok
  by_cases e11 : op = 11
  · subst e11; exact aft_swap f n pl tg w ok
  exact aft_other f op n pl tg w ok hop ⟨e7, e8, e9, e10, e11⟩ htab
end Go.Proofs.YteocjidfbbekfaaDoor
