/- '!=' of variables, steps, links, events. -/
import Derived.Test.YtjcmeacgfflfmaaGreatMdK
import Derived.Test.YtjcmeacgfflfmaaGreatMrw
set_option linter.unusedVariables false
set_option linter.unusedSectionVars false
set_option linter.unusedSimpArgs false
namespace Go.Proofs.YtjcmeacgfflfmaaGreat.Md
open Go.RowKit Go.Shelf

theorem below_drewN (W : World) (n : Nat) : Below W.heap.size W (W.drewN n) := ⟨rfl, rfl, rfl, Nat.le_refl _, fun _ _ => rfl⟩
theorem Tryz.structVs : Tryz.prog.underlying 40 = some (.struct (Tryz.prog.fieldsOf 40)) := by kernel_rfl
theorem Tryz.stoodVs : Tryz.prog.stoodInHeld 40 = false := by kernel_rfl
theorem Tryz.guardVs : Tryz.prog.eqGuardType Tryz.prog.depth 40 = false := by kernel_rfl
theorem neqVs (x y : VarM) (V : World) : (binOp BinOp.neq 40 (.agg #[.string x.name, .int .i64 x.init]) (.agg #[.string y.name, .int .i64 y.init])).run Tryz.prog V = .ok (.bool (!decide (x.name = y.name ∧ x.init = y.init))) V := by
  simp [go_sem, run_equalIn_agg _ _ _ _ _ Tryz.structVs Tryz.stoodVs, bytes_eq]
  repeat (first | (split <;> simp_all))
theorem neqVt {x y : VarM} (h : x = y) (V : World) : (binOp BinOp.neq 40 (.agg #[.string x.name, .int .i64 x.init]) (.agg #[.string y.name, .int .i64 y.init])).run Tryz.prog V = .ok (.bool false) V := by
  subst h
  rw [neqVs]
  simp
theorem neqVf {x y : VarM} (h : x ≠ y) (V : World) : (binOp BinOp.neq 40 (.agg #[.string x.name, .int .i64 x.init]) (.agg #[.string y.name, .int .i64 y.init])).run Tryz.prog V = .ok (.bool true) V := by
  rw [neqVs, decide_eq_false]
  · rfl
  · intro e
    apply h
    cases x
    cases y
    simp_all
theorem Tryz.structSs : Tryz.prog.underlying 38 = some (.struct (Tryz.prog.fieldsOf 38)) := by kernel_rfl
theorem Tryz.stoodSs : Tryz.prog.stoodInHeld 38 = false := by kernel_rfl
theorem Tryz.guardSs : Tryz.prog.eqGuardType Tryz.prog.depth 38 = false := by kernel_rfl
theorem neqSs (x y : StepM) (V : World) : (binOp BinOp.neq 38 (.agg #[.int .i64 x.kind, .string x.name, .int .i64 x.ak, .int .i64 x.an, .string x.aname]) (.agg #[.int .i64 y.kind, .string y.name, .int .i64 y.ak, .int .i64 y.an, .string y.aname])).run Tryz.prog V = .ok (.bool (!decide (x.kind = y.kind ∧ x.name = y.name ∧ x.ak = y.ak ∧ x.an = y.an ∧ x.aname = y.aname))) V := by
  simp [go_sem, run_equalIn_agg _ _ _ _ _ Tryz.structSs Tryz.stoodSs, bytes_eq]
  repeat (first | (split <;> simp_all))
theorem neqSt {x y : StepM} (h : x = y) (V : World) : (binOp BinOp.neq 38 (.agg #[.int .i64 x.kind, .string x.name, .int .i64 x.ak, .int .i64 x.an, .string x.aname]) (.agg #[.int .i64 y.kind, .string y.name, .int .i64 y.ak, .int .i64 y.an, .string y.aname])).run Tryz.prog V = .ok (.bool false) V := by
  subst h
  rw [neqSs]
  simp
theorem neqSf {x y : StepM} (h : x ≠ y) (V : World) : (binOp BinOp.neq 38 (.agg #[.int .i64 x.kind, .string x.name, .int .i64 x.ak, .int .i64 x.an, .string x.aname]) (.agg #[.int .i64 y.kind, .string y.name, .int .i64 y.ak, .int .i64 y.an, .string y.aname])).run Tryz.prog V = .ok (.bool true) V := by
  rw [neqSs, decide_eq_false]
  · rfl
  · intro e
    apply h
    cases x
    cases y
    simp_all
theorem Tryz.structLs : Tryz.prog.underlying 42 = some (.struct (Tryz.prog.fieldsOf 42)) := by kernel_rfl
theorem Tryz.stoodLs : Tryz.prog.stoodInHeld 42 = false := by kernel_rfl
theorem Tryz.guardLs : Tryz.prog.eqGuardType Tryz.prog.depth 42 = false := by kernel_rfl
theorem neqLs (x y : LinkM) (V : World) : (binOp BinOp.neq 42 (.agg #[.string x.name, .string x.frm, .string x.to_, .int .i64 x.delay, .int .i64 x.weight]) (.agg #[.string y.name, .string y.frm, .string y.to_, .int .i64 y.delay, .int .i64 y.weight])).run Tryz.prog V = .ok (.bool (!decide (x.name = y.name ∧ x.frm = y.frm ∧ x.to_ = y.to_ ∧ x.delay = y.delay ∧ x.weight = y.weight))) V := by
  simp [go_sem, run_equalIn_agg _ _ _ _ _ Tryz.structLs Tryz.stoodLs, bytes_eq]
  repeat (first | (split <;> simp_all))
theorem neqLt {x y : LinkM} (h : x = y) (V : World) : (binOp BinOp.neq 42 (.agg #[.string x.name, .string x.frm, .string x.to_, .int .i64 x.delay, .int .i64 x.weight]) (.agg #[.string y.name, .string y.frm, .string y.to_, .int .i64 y.delay, .int .i64 y.weight])).run Tryz.prog V = .ok (.bool false) V := by
  subst h
  rw [neqLs]
  simp
theorem neqLf {x y : LinkM} (h : x ≠ y) (V : World) : (binOp BinOp.neq 42 (.agg #[.string x.name, .string x.frm, .string x.to_, .int .i64 x.delay, .int .i64 x.weight]) (.agg #[.string y.name, .string y.frm, .string y.to_, .int .i64 y.delay, .int .i64 y.weight])).run Tryz.prog V = .ok (.bool true) V := by
  rw [neqLs, decide_eq_false]
  · rfl
  · intro e
    apply h
    cases x
    cases y
    simp_all
theorem Tryz.structEs : Tryz.prog.underlying 57 = some (.struct (Tryz.prog.fieldsOf 57)) := by kernel_rfl
theorem Tryz.stoodEs : Tryz.prog.stoodInHeld 57 = false := by kernel_rfl
theorem Tryz.guardEs : Tryz.prog.eqGuardType Tryz.prog.depth 57 = false := by kernel_rfl
theorem neqEs (x y : EventM) (V : World) : (binOp BinOp.neq 57 (.agg #[.string x.to_, .int .i64 x.at_, .int .i64 x.val]) (.agg #[.string y.to_, .int .i64 y.at_, .int .i64 y.val])).run Tryz.prog V = .ok (.bool (!decide (x.to_ = y.to_ ∧ x.at_ = y.at_ ∧ x.val = y.val))) V := by
  simp [go_sem, run_equalIn_agg _ _ _ _ _ Tryz.structEs Tryz.stoodEs, bytes_eq]
  repeat (first | (split <;> simp_all))
theorem neqEt {x y : EventM} (h : x = y) (V : World) : (binOp BinOp.neq 57 (.agg #[.string x.to_, .int .i64 x.at_, .int .i64 x.val]) (.agg #[.string y.to_, .int .i64 y.at_, .int .i64 y.val])).run Tryz.prog V = .ok (.bool false) V := by
  subst h
  rw [neqEs]
  simp
theorem neqEf {x y : EventM} (h : x ≠ y) (V : World) : (binOp BinOp.neq 57 (.agg #[.string x.to_, .int .i64 x.at_, .int .i64 x.val]) (.agg #[.string y.to_, .int .i64 y.at_, .int .i64 y.val])).run Tryz.prog V = .ok (.bool true) V := by
  rw [neqEs, decide_eq_false]
  · rfl
  · intro e
    apply h
    cases x
    cases y
    simp_all
end Go.Proofs.YtjcmeacgfflfmaaGreat.Md
