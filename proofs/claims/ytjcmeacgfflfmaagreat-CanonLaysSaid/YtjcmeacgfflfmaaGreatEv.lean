/- Contract: canon.earlier: the order of events. -/
import Derived.Test.YtjcmeacgfflfmaaGreatHk
import Derived.Test.YtjcmeacgfflfmaaGreatMow
import Derived.Test.YtjcmeacgfflfmaaGreatAw
import Derived.Sort.Walk0
import Derived.Laws.Cover1
import Derived.Laws.StructEq
import Derived.WideShapes
import Derived.Deep.QuietTactic
import Derived.BigQuiet
import Derived.StillTailTactics
import Derived.Deep.RegionHeld3
import Derived.Deep.LoopGhost
set_option linter.unusedVariables false
set_option linter.unusedSectionVars false
set_option linter.unusedSimpArgs false
namespace Go.Proofs.YtjcmeacgfflfmaaGreat.Hk
open Go.RowKit Go.Shelf Go.WideShapes Go.Proofs.YtjcmeacgfflfmaaGreat.Md

theorem nanI (a : Int) (w : World) : Calls Tryz.prog 122 #[.int .i64 a] w fun e w' => e = .returned (.bool false) ∧ w = w' := by
  go_enter Tryz.func122, Tryz.ntmps122
  go_wp2
  go_ret
  exact ⟨by simp, rfl⟩
theorem nanS (a : ByteArray) (w : World) : Calls Tryz.prog 123 #[.string a] w fun e w' => e = .returned (.bool false) ∧ w = w' := by
  go_enter Tryz.func123, Tryz.ntmps123
  go_wp2
  go_ret
  exact ⟨by simp, rfl⟩
def cI (a b : Int) : Int := if a < b then -1 else if b < a then 1 else 0
def cS (a b : ByteArray) : Int := if Op.bytesLess a.toList b.toList then -1 else if Op.bytesLess b.toList a.toList then 1 else 0
theorem iret {a b : Int} (h : a = b) : Ending.returned (.int .i64 a) = Ending.returned (.int .i64 b) := by rw [h]
theorem cI_any (a b : Int) (w : World) : Calls Tryz.prog 79 #[.int .i64 a, .int .i64 b] w fun e w' => e = .returned (.int .i64 (cI a b)) ∧ w = w' := by
  by_cases h1 : a < b
  · have HC : Hid (cI a b = -1) := Lib.hid (by unfold cI; rw [if_pos h1])
    have d1 : decide (a < b) = true := by simpa using h1
    go_enter Tryz.func79, Tryz.ntmps79
    go_wp2_with (go_at_call 122; refine (nanI _ _).mono ?_; rintro e w' ⟨rfl, rfl⟩)
    go_ret
    exact ⟨iret HC.out.symm, rfl⟩
  · have d1 : decide (a < b) = false := by simpa using h1
    by_cases h2 : b < a
    · have HC : Hid (cI a b = 1) := Lib.hid (by unfold cI; rw [if_neg h1, if_pos h2])
      have d2 : decide (b < a) = true := by simpa using h2
      go_enter Tryz.func79, Tryz.ntmps79
      go_wp2_with (go_at_call 122; refine (nanI _ _).mono ?_; rintro e w' ⟨rfl, rfl⟩)
      go_ret
      exact ⟨iret HC.out.symm, rfl⟩
    · have HC : Hid (cI a b = 0) := Lib.hid (by unfold cI; rw [if_neg h1, if_neg h2])
      have d2 : decide (b < a) = false := by simpa using h2
      go_enter Tryz.func79, Tryz.ntmps79
      go_wp2_with (go_at_call 122; refine (nanI _ _).mono ?_; rintro e w' ⟨rfl, rfl⟩)
      go_ret
      exact ⟨iret HC.out.symm, rfl⟩
theorem cS_any (a b : ByteArray) (w : World) : Calls Tryz.prog 80 #[.string a, .string b] w fun e w' => e = .returned (.int .i64 (cS a b)) ∧ w = w' := by
  cases h1 : Op.bytesLess a.toList b.toList with
  | true =>
    have HC : Hid (cS a b = -1) := Lib.hid (by unfold cS; rw [if_pos h1])
    go_enter Tryz.func80, Tryz.ntmps80
    go_wp2_with (go_at_call 123; refine (nanS _ _).mono ?_; rintro e w' ⟨rfl, rfl⟩)
    go_ret
    exact ⟨iret HC.out.symm, rfl⟩
  | false =>
    have h3 := bytesLess_eq b.toList a.toList
    cases h2 : Op.bytesLess b.toList a.toList with
    | true =>
      have HC : Hid (cS a b = 1) := Lib.hid (by unfold cS; rw [if_neg (by rw [h1]; simp), if_pos h2])
      have hne : (a.toList == b.toList) = false := by
        have : a.toList ≠ b.toList := fun e => by have := toList_inj e; subst this; rw [bl_irr] at h2; cases h2
        simpa using this
      go_enter Tryz.func80, Tryz.ntmps80
      go_wp2_with (go_at_call 123; refine (nanS _ _).mono ?_; rintro e w' ⟨rfl, rfl⟩)
      go_ret
      exact ⟨iret HC.out.symm, rfl⟩
    | false =>
      have HC : Hid (cS a b = 0) := Lib.hid (by unfold cS; rw [if_neg (by rw [h1]; simp), if_neg (by rw [h2]; simp)])
      have hne : (a.toList == b.toList) = true := by rw [bl_eq h1 h2]; simp
      go_enter Tryz.func80, Tryz.ntmps80
      go_wp2_with (go_at_call 123; refine (nanS _ _).mono ?_; rintro e w' ⟨rfl, rfl⟩)
      go_ret
      exact ⟨iret HC.out.symm, rfl⟩
/-- The first that isn't zero. -/
def or3 (a b c : Int) : Int := if a ≠ 0 then a else if b ≠ 0 then b else c
theorem or3_any (a b c : Int) (w : World) (k : Nat) (h : w.heap[k]? = some (.cells #[.int .i64 a, .int .i64 b, .int .i64 c] 3 (0, 0))) : Calls Tryz.prog 78 #[.slice (some ⟨k, 0, none⟩) 3 3] w fun e w' => e = .returned (.int .i64 (or3 a b c)) ∧ Below w.heap.size w w' := by
  have c0 : w.cell? ⟨k, 0, none⟩ = some (.int .i64 a) := heap_cell h rfl
  have c1 : w.cell? ⟨k, 1, none⟩ = some (.int .i64 b) := heap_cell h rfl
  have c2 : w.cell? ⟨k, 2, none⟩ = some (.int .i64 c) := heap_cell h rfl
  clear h
  go_enter Tryz.func78, Tryz.ntmps78
  go_wp2
  go_loopg [8] 3 (fun m i wr => ∃ n : Nat, i = .int .i64 n ∧ m + n = 3 ∧ (1 ≤ n → a = 0) ∧ (2 ≤ n → b = 0) ∧ (3 ≤ n → c = 0) ∧ w = wr)
  case atStart => exact ⟨0, rfl, rfl, fun h => by omega, fun h => by omega, fun h => by omega, rfl⟩
  case round =>
    obtain ⟨n, rfl, hm, f1, f2, f3, rfl⟩ := hrel
    obtain rfl | rfl | rfl | rfl : n = 0 ∨ n = 1 ∨ n = 2 ∨ n = 3 := by omega
    · obtain rfl : gk = 3 := by omega
      by_cases hv : a = 0
      · have hd1 : decide (a = 0) = true := by simpa using hv
        have hd2 : (a == 0) = true := by simpa using hv
        go_wp2
        go_roundg 2
        case measure => omega
        case rel => exact ⟨1, by go_num, by omega, fun _ => hv, fun h => by omega, fun h => by omega, rfl⟩
      · have hd1 : decide (a = 0) = false := by simpa using hv
        have hd2 : (a == 0) = false := by simpa using hv
        have HC : Hid (or3 a b c = a) := Lib.hid (by unfold or3; rw [if_pos hv])
        go_wp2
        go_ret
        exact ⟨iret HC.out.symm, Below.refl _ _⟩
    · obtain rfl : gk = 2 := by omega
      by_cases hv : b = 0
      · have hd1 : decide (b = 0) = true := by simpa using hv
        have hd2 : (b == 0) = true := by simpa using hv
        go_wp2
        go_roundg 1
        case measure => omega
        case rel => exact ⟨2, by go_num, by omega, fun _ => f1 (by omega), fun _ => hv, fun h => by omega, rfl⟩
      · have hd1 : decide (b = 0) = false := by simpa using hv
        have hd2 : (b == 0) = false := by simpa using hv
        obtain rfl : a = 0 := f1 (by omega)
        have HC : Hid (or3 0 b c = b) := Lib.hid (by unfold or3; rw [if_neg (by omega), if_pos hv])
        go_wp2
        go_ret
        exact ⟨iret HC.out.symm, Below.refl _ _⟩
    · obtain rfl : gk = 1 := by omega
      by_cases hv : c = 0
      · have hd1 : decide (c = 0) = true := by simpa using hv
        have hd2 : (c == 0) = true := by simpa using hv
        go_wp2
        go_roundg 0
        case measure => omega
        case rel => exact ⟨3, by go_num, by omega, fun _ => f1 (by omega), fun _ => f2 (by omega), fun _ => hv, rfl⟩
      · have hd1 : decide (c = 0) = false := by simpa using hv
        have hd2 : (c == 0) = false := by simpa using hv
        obtain rfl : a = 0 := f1 (by omega)
        obtain rfl : b = 0 := f2 (by omega)
        have HC : Hid (or3 0 0 c = c) := Lib.hid (by unfold or3; rw [if_neg (by omega), if_neg (by omega)])
        go_wp2
        go_ret
        exact ⟨iret HC.out.symm, Below.refl _ _⟩
    · have HC : Hid (or3 a b c = 0) := Lib.hid (by unfold or3; rw [if_neg (by have := f1 (by omega); omega), if_neg (by have := f2 (by omega); omega)]; exact f3 (by omega))
      clear f1 f2 f3
      go_wp2
      go_ret
      exact ⟨iret HC.out.symm, Below.refl _ _⟩
theorem ev_or (x y : EventM) : decide (or3 (cI x.at_ y.at_) (cS x.to_ y.to_) (cI x.val y.val) < 0) = evLt x y := by
  unfold evLt or3
  by_cases h1 : x.at_ = y.at_
  · rw [if_pos h1, if_neg (by unfold cI; simp [h1])]
    by_cases h2 : x.to_ = y.to_
    · rw [if_pos h2, if_neg (by unfold cS; rw [h2, bl_irr]; simp)]
      unfold cI
      by_cases h3 : x.val < y.val
      · simp [h3]
      · simp only [h3, if_false]
        split <;> simp
    · rw [if_neg h2]
      cases h3 : Op.bytesLess x.to_.toList y.to_.toList with
      | true => simp [cS, h3]
      | false =>
        cases h4 : Op.bytesLess y.to_.toList x.to_.toList with
        | true => simp [cS, h3, h4]
        | false => exact absurd (bl_eq h3 h4) h2
  · rw [if_neg h1]
    unfold cI
    by_cases h3 : x.at_ < y.at_
    · simp [h3]
    · have h4 : y.at_ < x.at_ := by omega
      simp [h3, h4]
theorem new_drew (w : World) (o : Obj) : (w.alloc o).drew.heap[w.heap.size]? = some o := World.alloc_heap_new w o
/-- What lies in memory of both. -/
structure EvW (x y : EventM) (w W : World) : Prop where
  below : Below w.heap.size w W
  bx : W.heap[w.heap.size]? = some (.cells #[.string x.to_, .int .i64 x.at_, .int .i64 x.val] 57 (0, 0))
  bY : W.heap[w.heap.size + 1]? = some (.cells #[.string y.to_, .int .i64 y.at_, .int .i64 y.val] 57 (0, 0))
theorem EvW.on {x y : EventM} {w W W' : World} (h : EvW x y w W) (hb : Below W.heap.size W W') : EvW x y w W' :=
  ⟨h.below.trans (hb.mono h.below.size), heap_below h.bx hb (heap_lt h.bx), heap_below h.bY hb (heap_lt h.bY)⟩
set_option maxRecDepth 100000 in
set_option maxHeartbeats 8000000 in
theorem earlier_any (x y : EventM) (w : World) : Calls Tryz.prog 35 #[.agg #[.string x.to_, .int .i64 x.at_, .int .i64 x.val], .agg #[.string y.to_, .int .i64 y.at_, .int .i64 y.val]] w fun e w' => e = .returned (.bool (Hk.evOrd.lt x y)) ∧ Below w.heap.size w w' := by
  have HW : Hid (EvW x y w ((w.alloc (.cells #[.string x.to_, .int .i64 x.at_, .int .i64 x.val] 57)).alloc (.cells #[.string y.to_, .int .i64 y.at_, .int .i64 y.val] 57))) :=
    Lib.hid ⟨(below_one w _).alloc (by simp) _, heap_alloc (heap_new _ rfl) _, heap_new _ (by simp)⟩
  go_enter Tryz.func35, Tryz.ntmps35
  go_upto_region 1 with fail
  generalize (w.alloc (.cells #[.string x.to_, .int .i64 x.at_, .int .i64 x.val] 57)).alloc (.cells #[.string y.to_, .int .i64 y.at_, .int .i64 y.val] 57) = w1 at *
  have d0 : ∀ W, EvW x y w W → W.cell? ⟨w.heap.size, 0, none⟩ = some (.string x.to_) := fun W hW => heap_cell hW.bx rfl
  have e0 : ∀ W, EvW x y w W → W.cell? ⟨w.heap.size + 1, 0, none⟩ = some (.string y.to_) := fun W hW => heap_cell hW.bY rfl
  have d1 : ∀ W, EvW x y w W → W.cell? ⟨w.heap.size, 1, none⟩ = some (.int .i64 x.at_) := fun W hW => heap_cell hW.bx rfl
  have e1 : ∀ W, EvW x y w W → W.cell? ⟨w.heap.size + 1, 1, none⟩ = some (.int .i64 y.at_) := fun W hW => heap_cell hW.bY rfl
  have d2 : ∀ W, EvW x y w W → W.cell? ⟨w.heap.size, 2, none⟩ = some (.int .i64 x.val) := fun W hW => heap_cell hW.bx rfl
  have e2 : ∀ W, EvW x y w W → W.cell? ⟨w.heap.size + 1, 2, none⟩ = some (.int .i64 y.val) := fun W hW => heap_cell hW.bY rfl
  have hw1 := HW.out
  have HE := Lib.hid (ev_or x y)
  go_region_held3 (fun W => EvW x y w W) (first | assumption | exact EvW.on (by assumption) ((Below.refl _ _).drew) | exact EvW.on (by assumption) (below_one _ _)) (first
    | (go_at_call 79; with_reducible refine (cI_any _ _ _).mono ?_; rintro e w5 ⟨rfl, rfl⟩)
    | (go_at_call 80; with_reducible refine (cS_any _ _ _).mono ?_; rintro e w5 ⟨rfl, rfl⟩)
    | (go_at_call 78; with_reducible refine (or3_any (cI x.at_ y.at_) (cS x.to_ y.to_) (cI x.val y.val) _ w1.heap.size (new_drew _ _)).mono ?_; rintro e w5 ⟨rfl, hb⟩; have hS5 : EvW x y w w5 := EvW.on (by assumption) hb; clear hb))
  all_goals
    go_wp2
    go_ret
    exact ⟨by rw [HE.out]; rfl, hS5.below⟩
end Go.Proofs.YtjcmeacgfflfmaaGreat.Hk
