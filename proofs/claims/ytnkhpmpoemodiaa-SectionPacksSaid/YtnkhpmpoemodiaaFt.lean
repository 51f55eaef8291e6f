/- A field of a fault by value; texts that are equal. -/
import Derived.Test.YtnkhpmpoemodiaaRa
import Derived.Lib.Strings
import Derived.WideShapes
set_option linter.unusedVariables false
namespace Go.Proofs.Ytnkhpmpoemodiaa
open Go.RowKit
theorem run_faultE (x y : Int) (w : World) : Sem.run Try.prog (Instr.field 55 (Value.agg #[.int .i64 x, .int .i64 y]) 0) w = Result.ok (.int .i64 x) w := by
  simp [Instr.field, run_underlying Try.underlying55, go_sem, asAgg]
theorem str_eq (v st : ByteArray) : (v.toList == st.toList) = decide (v = st) := by
  rw [Lib.toList_data, Lib.toList_data]
  by_cases h : v = st
  · subst h; simp
  · have : ¬ v.data.toList = st.data.toList := fun e => h (Go.WideShapes.bytes_inj e)
    rw [decide_eq_false h]
    simpa using this
end Go.Proofs.Ytnkhpmpoemodiaa
