/- Contracts: what is ahead of what. -/
import Derived.Test.YtfghcjhfbbdanaaRows
import Derived.Test.YtfghcjhfbbdanaaHm
import Derived.Test.YtfghcjhfbbdanaaLib
import Derived.Test.YtfghcjhfbbdanaaHp
import Derived.Deep.RegionHeld3
import Derived.StillTailTactics
import Derived.BigQuiet
set_option linter.unusedVariables false
namespace Go.Proofs.Ytfghcjhfbbdanaa
open Go.RowKit

theorem over_any (k : Nat) (w : World) (h0 : 0 < k) (h1 : k ≤ 1000000) :
    Calls Try.prog 20 #[.int .i64 k] w fun e w' => e = .returned (.int .i64 (Hm.over k : Nat)) ∧ w = w' := by
  have h : ((Hm.over k : Nat) : Int) = ((k : Int) - 1) / 2 := by unfold Hm.over; omega
  have H := Lib.hid h
  clear h
  go_enter Try.func20, Try.ntmps20
  go_wp2
  go_ret
  refine ⟨?_, rfl⟩
  rw [H.out]
  rfl
theorem less_any (a b s t : Int) (w : World) :
    Calls Try.prog 7 #[.agg #[.int .i64 a, .int .i64 s], .agg #[.int .i64 b, .int .i64 t]] w fun e w' => e = .returned (.bool (decide (a < b))) ∧ Below w.heap.size w w' := by
  go_enter Try.func7, Try.ntmps7
  go_wp2
  go_ret
  exact ⟨rfl, ((Below.refl _ _).alloc (Nat.le_refl _) _).alloc (by simp) _⟩
theorem more_any (a b s t : Int) (w : World) :
    Calls Try.prog 8 #[.agg #[.int .i64 a, .int .i64 s], .agg #[.int .i64 b, .int .i64 t]] w fun e w' => e = .returned (.bool (decide (b < a))) ∧ Below w.heap.size w w' := by
  go_enter Try.func8, Try.ntmps8
  go_wp2
  go_ret
  exact ⟨rfl, ((Below.refl _ _).alloc (Nat.le_refl _) _).alloc (by simp) _⟩
/-- The orders that a heap is made for. -/
def IsOrd (K : Nat) (kf : Int × Int → Int) : Prop := (K = 7 ∧ kf = fun x => x.1) ∨ (K = 8 ∧ kf = fun x => - x.1)
set_option maxHeartbeats 1000000 in
theorem before_less (a b s t : Int) (w : World) (hb : Nat) (v : Value) (n : Int)  (hh : w.heap[hb]? = some (.cells #[.func (.func 7) #[] #[], v, .int .i64 n] 48 (0, 0))) :
    Calls Try.prog 26 #[.pointer (some ⟨hb, 0, none⟩), .agg #[.int .i64 a, .int .i64 s], .agg #[.int .i64 b, .int .i64 t]] w fun e w' => e = .returned (.bool (decide (a < b))) ∧ Below w.heap.size w w' := by
  have h0 : w.cell? ⟨hb, 0, none⟩ = some (.func (.func 7) #[] #[]) := heap_cell hh rfl
  have hlt := heap_lt hh
  have hneq : ∀ V : World, Sem.run Try.prog (binOp BinOp.neq 28 (Value.func (Fn.func 7) #[] #[]) Value.nilFunc) V = Result.ok (.bool true) V := fun V => by rfl
  clear hh
  go_enter Try.func26, Try.ntmps26
  go_wp2
  obtain ⟨W, hW⟩ : ∃ W, ((w.alloc (Obj.cells #[Value.int IntKind.i64 a, Value.int IntKind.i64 s] 26)).alloc (Obj.cells #[Value.int IntKind.i64 b, Value.int IntKind.i64 t] 26)) = W := ⟨_, rfl⟩
  have hBW : Below w.heap.size w W := by rw [← hW]; exact ((Below.refl _ _).alloc (Nat.le_refl _) _).alloc (by simp) _
  have hsz : w.heap.size + 1 < W.heap.size := by rw [← hW]; simp
  have c0 := (hBW.cell (p := ⟨hb, 0, none⟩) hlt).trans h0
  have c1 : W.cell? ⟨w.heap.size, 0, none⟩ = some (.int .i64 a) := by rw [← hW]; simp [go_sem]
  have c2 : W.cell? ⟨w.heap.size, 1, none⟩ = some (.int .i64 s) := by rw [← hW]; simp [go_sem]
  have c3 : W.cell? ⟨w.heap.size + 1, 0, none⟩ = some (.int .i64 b) := by rw [← hW]; simp [go_sem]
  have c4 : W.cell? ⟨w.heap.size + 1, 1, none⟩ = some (.int .i64 t) := by rw [← hW]; simp [go_sem]
  rw [hW]
  have HBW := Lib.hid hBW
  clear hBW hW h0
  go_region_held3 (fun w' => w'.cell? ⟨hb, 0, none⟩ = some (.func (.func 7) #[] #[]) ∧ w'.cell? ⟨w.heap.size, 0, none⟩ = some (.int .i64 a) ∧ w'.cell? ⟨w.heap.size, 1, none⟩ = some (.int .i64 s) ∧ w'.cell? ⟨w.heap.size + 1, 0, none⟩ = some (.int .i64 b) ∧ w'.cell? ⟨w.heap.size + 1, 1, none⟩ = some (.int .i64 t) ∧ Below w.heap.size w w') (first | exact ⟨c0, c1, c2, c3, c4, HBW.out⟩ | exact ⟨c0, c1, c2, c3, c4, HBW.out.drew⟩ | exact ⟨(hB.out.cell (p := ⟨hb, 0, none⟩) (show hb < W.heap.size by omega)).trans c0, (hB.out.cell (p := ⟨w.heap.size, 0, none⟩) (show w.heap.size < W.heap.size by omega)).trans c1, (hB.out.cell (p := ⟨w.heap.size, 1, none⟩) (show w.heap.size < W.heap.size by omega)).trans c2, (hB.out.cell (p := ⟨w.heap.size + 1, 0, none⟩) hsz).trans c3, (hB.out.cell (p := ⟨w.heap.size + 1, 1, none⟩) hsz).trans c4, HBW.out.trans (hB.out.mono (show w.heap.size ≤ W.heap.size by omega))⟩) (first | (go_at_call 7; refine (less_any a b s t _).mono ?_; rintro e w1 ⟨rfl, hB0⟩; have hB : Hid (Below W.heap.size W w1) := (Below.refl _ W).drew.trans hB0; clear hB0))
  go_wp2
  go_ret
  exact ⟨rfl, HBW.out.trans (hB.out.mono (show w.heap.size ≤ W.heap.size by omega))⟩
set_option maxHeartbeats 1000000 in
theorem before_more (a b s t : Int) (w : World) (hb : Nat) (v : Value) (n : Int)  (hh : w.heap[hb]? = some (.cells #[.func (.func 8) #[] #[], v, .int .i64 n] 48 (0, 0))) :
    Calls Try.prog 26 #[.pointer (some ⟨hb, 0, none⟩), .agg #[.int .i64 a, .int .i64 s], .agg #[.int .i64 b, .int .i64 t]] w fun e w' => e = .returned (.bool (decide (b < a))) ∧ Below w.heap.size w w' := by
  have h0 : w.cell? ⟨hb, 0, none⟩ = some (.func (.func 8) #[] #[]) := heap_cell hh rfl
  have hlt := heap_lt hh
  have hneq : ∀ V : World, Sem.run Try.prog (binOp BinOp.neq 28 (Value.func (Fn.func 8) #[] #[]) Value.nilFunc) V = Result.ok (.bool true) V := fun V => by rfl
  clear hh
  go_enter Try.func26, Try.ntmps26
  go_wp2
  obtain ⟨W, hW⟩ : ∃ W, ((w.alloc (Obj.cells #[Value.int IntKind.i64 a, Value.int IntKind.i64 s] 26)).alloc (Obj.cells #[Value.int IntKind.i64 b, Value.int IntKind.i64 t] 26)) = W := ⟨_, rfl⟩
  have hBW : Below w.heap.size w W := by rw [← hW]; exact ((Below.refl _ _).alloc (Nat.le_refl _) _).alloc (by simp) _
  have hsz : w.heap.size + 1 < W.heap.size := by rw [← hW]; simp
  have c0 := (hBW.cell (p := ⟨hb, 0, none⟩) hlt).trans h0
  have c1 : W.cell? ⟨w.heap.size, 0, none⟩ = some (.int .i64 a) := by rw [← hW]; simp [go_sem]
  have c2 : W.cell? ⟨w.heap.size, 1, none⟩ = some (.int .i64 s) := by rw [← hW]; simp [go_sem]
  have c3 : W.cell? ⟨w.heap.size + 1, 0, none⟩ = some (.int .i64 b) := by rw [← hW]; simp [go_sem]
  have c4 : W.cell? ⟨w.heap.size + 1, 1, none⟩ = some (.int .i64 t) := by rw [← hW]; simp [go_sem]
  rw [hW]
  have HBW := Lib.hid hBW
  clear hBW hW h0
  go_region_held3 (fun w' => w'.cell? ⟨hb, 0, none⟩ = some (.func (.func 8) #[] #[]) ∧ w'.cell? ⟨w.heap.size, 0, none⟩ = some (.int .i64 a) ∧ w'.cell? ⟨w.heap.size, 1, none⟩ = some (.int .i64 s) ∧ w'.cell? ⟨w.heap.size + 1, 0, none⟩ = some (.int .i64 b) ∧ w'.cell? ⟨w.heap.size + 1, 1, none⟩ = some (.int .i64 t) ∧ Below w.heap.size w w') (first | exact ⟨c0, c1, c2, c3, c4, HBW.out⟩ | exact ⟨c0, c1, c2, c3, c4, HBW.out.drew⟩ | exact ⟨(hB.out.cell (p := ⟨hb, 0, none⟩) (show hb < W.heap.size by omega)).trans c0, (hB.out.cell (p := ⟨w.heap.size, 0, none⟩) (show w.heap.size < W.heap.size by omega)).trans c1, (hB.out.cell (p := ⟨w.heap.size, 1, none⟩) (show w.heap.size < W.heap.size by omega)).trans c2, (hB.out.cell (p := ⟨w.heap.size + 1, 0, none⟩) hsz).trans c3, (hB.out.cell (p := ⟨w.heap.size + 1, 1, none⟩) hsz).trans c4, HBW.out.trans (hB.out.mono (show w.heap.size ≤ W.heap.size by omega))⟩) (first | (go_at_call 8; refine (more_any a b s t _).mono ?_; rintro e w1 ⟨rfl, hB0⟩; have hB : Hid (Below W.heap.size W w1) := (Below.refl _ W).drew.trans hB0; clear hB0))
  go_wp2
  go_ret
  exact ⟨rfl, HBW.out.trans (hB.out.mono (show w.heap.size ≤ W.heap.size by omega))⟩
theorem before_any {K : Nat} {kf : Int × Int → Int} (HK : IsOrd K kf) (a b s t : Int) (w : World) (hb : Nat) (v : Value) (n : Int)  (hh : w.heap[hb]? = some (.cells #[.func (.func K) #[] #[], v, .int .i64 n] 48 (0, 0))) :
    Calls Try.prog 26 #[.pointer (some ⟨hb, 0, none⟩), .agg #[.int .i64 a, .int .i64 s], .agg #[.int .i64 b, .int .i64 t]] w fun e w' => e = .returned (.bool (decide (kf (a, s) < kf (b, t)))) ∧ Below w.heap.size w w' := by
  rcases HK with ⟨rfl, rfl⟩ | ⟨rfl, rfl⟩
  · exact before_less a b s t w hb v n hh
  · refine (before_more a b s t w hb v n hh).mono ?_
    rintro e w1 ⟨rfl, hB⟩
    have h : decide (b < a) = decide (-a < -b) := decide_eq_decide.2 (by omega)
    exact ⟨congrArg (fun x => Ending.returned (Value.bool x)) h, hB⟩
set_option maxHeartbeats 1000000 in
theorem ahead_any {K : Nat} {kf : Int × Int → Int} (HK : IsOrd K kf) (a b s t m n : Int) (w : World) (hb : Nat) (v : Value) (p : Int) (hh : w.heap[hb]? = some (.cells #[.func (.func K) #[] #[], v, .int .i64 p] 48 (0, 0))) :
    Calls Try.prog 19 #[.pointer (some ⟨hb, 0, none⟩), .agg #[.int .i64 a, .int .i64 s, .int .i64 m], .agg #[.int .i64 b, .int .i64 t, .int .i64 n]] w fun e w' => e = .returned (.bool (Hm.ahead kf ((a, s), m) ((b, t), n))) ∧ Below w.heap.size w w' := by
  have H := Lib.hid (fun (W : World) (hB : Below w.heap.size w W) => And.intro (before_any HK a b s t W hb v p (heap_below hh hB (heap_lt hh))) (before_any HK b a t s W hb v p (heap_below hh hB (heap_lt hh))))
  clear hh HK
  by_cases hmn : m < n
  · have hmb : decide ((m : Int) < n) = true := by simpa using hmn
    have HM := Lib.hid hmn
    clear hmn
    go_enter Try.func19, Try.ntmps19
    go_wp2_with fail
    refine (H.out _ (((Below.refl _ _).alloc (Nat.le_refl _) _).alloc (by simp) _)).2.mono ?_
    rintro e w1 ⟨rfl, hB⟩
    go_wp2
    go_ret
    refine ⟨?_, (((Below.refl _ _).alloc (Nat.le_refl _) _).alloc (by simp) _).trans (hB.mono (by simp; omega))⟩
    simp [Hm.ahead, HM.out]
  · have hmb : decide ((m : Int) < n) = false := by simpa using hmn
    have HM := Lib.hid hmn
    clear hmn
    go_enter Try.func19, Try.ntmps19
    go_wp2_with fail
    refine (H.out _ (((Below.refl _ _).alloc (Nat.le_refl _) _).alloc (by simp) _)).1.mono ?_
    rintro e w1 ⟨rfl, hB⟩
    go_wp2
    go_ret
    refine ⟨?_, (((Below.refl _ _).alloc (Nat.le_refl _) _).alloc (by simp) _).trans (hB.mono (by simp; omega))⟩
    simp [Hm.ahead]
    intro h
    have := HM.out
    omega
end Go.Proofs.Ytfghcjhfbbdanaa
