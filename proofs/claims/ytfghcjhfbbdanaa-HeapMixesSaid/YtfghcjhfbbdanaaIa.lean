/- Contracts: what is ahead of what, of numbers. -/
import Derived.Test.YtfghcjhfbbdanaaHa
set_option linter.unusedVariables false
namespace Go.Proofs.Ytfghcjhfbbdanaa.Ii
open Go.RowKit

theorem lessi_any (a b : Int) (w : World) :
    Calls Try.prog 16 #[.int .i64 a, .int .i64 b] w fun e w' => e = .returned (.bool (decide (a < b))) ∧ w = w' := by
  go_enter Try.func16, Try.ntmps16
  go_wp2
  go_ret
  exact ⟨rfl, rfl⟩
/-- The order that a heap is made for. -/
def IsOrd (K : Nat) (kf : Int → Int) : Prop := K = 16 ∧ kf = fun x => x
set_option maxHeartbeats 1000000 in
theorem before_any {K : Nat} {kf : Int → Int} (HK : IsOrd K kf) (a b : Int) (w : World) (hb : Nat) (v : Value) (n : Int) (hh : w.heap[hb]? = some (.cells #[.func (.func K) #[] #[], v, .int .i64 n] 63 (0, 0))) :
    Calls Try.prog 30 #[.pointer (some ⟨hb, 0, none⟩), .int .i64 a, .int .i64 b] w fun e w' => e = .returned (.bool (decide (kf a < kf b))) ∧ Below w.heap.size w w' := by
  obtain ⟨rfl, rfl⟩ := HK
  have h0 : w.cell? ⟨hb, 0, none⟩ = some (.func (.func 16) #[] #[]) := heap_cell hh rfl
  have hneq : ∀ V : World, Sem.run Try.prog (binOp BinOp.neq 41 (Value.func (Fn.func 16) #[] #[]) Value.nilFunc) V = Result.ok (.bool true) V := fun V => by rfl
  clear hh
  go_enter Try.func30, Try.ntmps30
  go_wp2_with (go_at_call 16; refine (lessi_any a b _).mono ?_; rintro e w1 ⟨rfl, rfl⟩)
  go_ret
  exact ⟨rfl, Below.refl _ _⟩
set_option maxHeartbeats 1000000 in
theorem ahead_any {K : Nat} {kf : Int → Int} (HK : IsOrd K kf) (a b m n : Int) (w : World) (hb : Nat) (v : Value) (p : Int) (hh : w.heap[hb]? = some (.cells #[.func (.func K) #[] #[], v, .int .i64 p] 63 (0, 0))) :
    Calls Try.prog 27 #[.pointer (some ⟨hb, 0, none⟩), .agg #[.int .i64 a, .int .i64 m], .agg #[.int .i64 b, .int .i64 n]] w fun e w' => e = .returned (.bool (Hm.ahead kf (a, m) (b, n))) ∧ Below w.heap.size w w' := by
  have H := Lib.hid (fun (W : World) (hB : Below w.heap.size w W) => And.intro (before_any HK a b W hb v p (heap_below hh hB (heap_lt hh))) (before_any HK b a W hb v p (heap_below hh hB (heap_lt hh))))
  clear hh HK
  by_cases hmn : m < n
  · have hmb : decide ((m : Int) < n) = true := by simpa using hmn
    have HM := Lib.hid hmn
    clear hmn
    go_enter Try.func27, Try.ntmps27
    go_wp2_with fail
    refine (H.out _ (((Below.refl _ _).alloc (Nat.le_refl _) _).alloc (by simp) _)).2.mono ?_
    rintro e w1 ⟨rfl, hB⟩
    go_wp2
    go_ret
    refine ⟨?_, (((Below.refl _ _).alloc (Nat.le_refl _) _).alloc (by simp) _).trans (hB.mono (by simp; omega))⟩
    simp [Hm.ahead, HM.out]
  · have hmb : decide ((m : Int) < n) = false := by simpa using hmn
    have HM := Lib.hid hmn
    clear hmn
    go_enter Try.func27, Try.ntmps27
    go_wp2_with fail
    refine (H.out _ (((Below.refl _ _).alloc (Nat.le_refl _) _).alloc (by simp) _)).1.mono ?_
    rintro e w1 ⟨rfl, hB⟩
    go_wp2
    go_ret
    refine ⟨?_, (((Below.refl _ _).alloc (Nat.le_refl _) _).alloc (by simp) _).trans (hB.mono (by simp; omega))⟩
    simp [Hm.ahead]
    intro h
    have := HM.out
    omega
end Go.Proofs.Ytfghcjhfbbdanaa.Ii
