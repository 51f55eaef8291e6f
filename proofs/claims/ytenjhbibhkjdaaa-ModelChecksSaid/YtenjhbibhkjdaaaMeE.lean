/- Contracts: the document's number, weight, arg. -/
import Derived.Test.YtenjhbibhkjdaaaMeD
import Derived.Test.YtenjhbibhkjdaaaMdD
set_option linter.unusedVariables false
set_option linter.unusedSectionVars false
set_option linter.unusedSimpArgs false
namespace Go.Proofs.Ytenjhbibhkjdaaa.Md
open Go.RowKit Go.Shelf

theorem rnumber_any (n : Int) (w : World) : Calls Try.prog 37 #[.int .i64 n] w fun e w' => e = .returned (.bool (numB n)) ∧ w' = w := by
  go_enter Try.func37, Try.ntmps37
  by_cases h1 : -1099511627776 ≤ n
  · by_cases h2 : n ≤ 1099511627776
    · have hr : numB n = true := by unfold numB; simp [h1, h2]
      rw [hr]
      go_wp2
      go_ret
      exact ⟨rfl, rfl⟩
    · have hr : numB n = false := by unfold numB; simp [h1, h2]
      rw [hr]
      go_wp2
      go_ret
      exact ⟨rfl, rfl⟩
  · have hr : numB n = false := by unfold numB; simp [h1]
    rw [hr]
    go_wp2
    go_ret
    exact ⟨rfl, rfl⟩
theorem rweight_any (x : ModelV) (n : Int) (w : World) : Calls Try.prog 63 #[.agg #[.int .i64 x.ver, .slice x.pa x.procs.length x.pc, .slice x.la x.links.length x.lc, .slice x.ea x.events.length x.ec], .int .i64 n] w fun e w' => e = .returned (.bool (wgtB x.ver n)) ∧ Below w.heap.size w w' := by
  have HB := Lib.hid (below_one w (.cells #[.int .i64 x.ver, .slice x.pa x.procs.length x.pc, .slice x.la x.links.length x.lc, .slice x.ea x.events.length x.ec] 26))
  obtain ⟨r, hr⟩ : ∃ r, wgtB x.ver n = r := ⟨_, rfl⟩
  rw [hr]
  go_enter Try.func63, Try.ntmps63
  by_cases h1 : 1 ≤ n
  · by_cases h2 : n ≤ 1048576
    · obtain rfl : r = true := by rw [← hr]; unfold wgtB; simp [h1, h2]
      clear hr
      go_wp2
      go_ret
      exact ⟨rfl, HB.out⟩
    · have h3 : (n == 0) = false := by simp; omega
      obtain rfl : r = false := by rw [← hr]; unfold wgtB; simp [h3]; omega
      clear hr
      go_wp2
      go_ret
      exact ⟨rfl, HB.out⟩
  · by_cases h0 : n = 0
    · subst h0
      by_cases h3 : x.ver < 3
      · obtain rfl : r = true := by rw [← hr]; unfold wgtB; simp [h3]
        clear hr
        go_wp2
        go_ret
        exact ⟨rfl, HB.out⟩
      · obtain rfl : r = false := by rw [← hr]; unfold wgtB; simp [h3]
        clear hr
        go_wp2
        go_ret
        exact ⟨rfl, HB.out⟩
    · have h3 : (n == 0) = false := by simpa using h0
      obtain rfl : r = false := by rw [← hr]; unfold wgtB; simp [h3]; omega
      clear hr
      go_wp2
      go_ret
      exact ⟨rfl, HB.out⟩
end Go.Proofs.Ytenjhbibhkjdaaa.Md
