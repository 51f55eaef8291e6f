/- Plain: orders by name, and of events. -/
import Derived.Test.YtjcmeacgfflfmaaGreatHg
import Derived.Test.YtjcmeacgfflfmaaGreatMdB
import Derived.Sort.Walk0
import Derived.WideShapes
set_option linter.unusedVariables false
set_option linter.unusedSectionVars false
namespace Go.Proofs.YtjcmeacgfflfmaaGreat.Hk
open Go.RowKit Go.WideShapes Go.Proofs.YtjcmeacgfflfmaaGreat.Md

theorem bl_iff (a b : ByteArray) : Op.bytesLess a.toList b.toList = true ↔ a.toList < b.toList := by rw [bytesLess_eq, decide_eq_true_eq]
theorem bl_false (a b : ByteArray) : Op.bytesLess a.toList b.toList = false ↔ b.toList ≤ a.toList := by rw [bytesLess_eq, decide_eq_false_iff_not, List.not_lt]
theorem toList_inj {a b : ByteArray} (h : a.toList = b.toList) : a = b := by
  rw [ByteArray.toList_eq, ByteArray.toList_eq] at h; exact bytes_inj h
theorem bl_asymm {a b : ByteArray} (h : Op.bytesLess a.toList b.toList = true) : Op.bytesLess b.toList a.toList = false := by
  rw [bl_iff] at h
  rw [bl_false]
  exact List.le_of_lt h
theorem bl_trans {a b c : ByteArray} (h : Op.bytesLess a.toList b.toList = false) (k : Op.bytesLess b.toList c.toList = false) : Op.bytesLess a.toList c.toList = false := by
  rw [bl_false] at *
  exact List.le_trans k h
theorem bl_irr (a : ByteArray) : Op.bytesLess a.toList a.toList = false := by rw [bl_false]; exact List.le_refl _
theorem bl_eq {a b : ByteArray} (h : Op.bytesLess a.toList b.toList = false) (k : Op.bytesLess b.toList a.toList = false) : a = b := by
  rw [bl_false] at h k
  exact toList_inj (List.le_antisymm k h)
/-- By name. -/
def byName {X : Type} (f : X → ByteArray) : Hg.Ord X := ⟨fun a b => Op.bytesLess (f a).toList (f b).toList, fun _ _ h => bl_asymm h, fun _ _ _ h k => bl_trans h k⟩
/-- Events: by time, by process, by value. -/
def evLt (a b : EventM) : Bool := if a.at_ = b.at_ then if a.to_ = b.to_ then decide (a.val < b.val) else Op.bytesLess a.to_.toList b.to_.toList else decide (a.at_ < b.at_)
theorem ev_asymm (a b : EventM) (h : evLt a b = true) : evLt b a = false := by
  unfold evLt at *
  by_cases h1 : a.at_ = b.at_
  · rw [if_pos h1] at h
    rw [if_pos h1.symm]
    by_cases h2 : a.to_ = b.to_
    · rw [if_pos h2] at h
      rw [if_pos h2.symm]
      simp at h ⊢
      omega
    · rw [if_neg h2] at h
      rw [if_neg (fun e => h2 e.symm)]
      exact bl_asymm h
  · rw [if_neg h1] at h
    rw [if_neg (fun e => h1 e.symm)]
    simp at h ⊢
    omega
theorem ev_trans (a b c : EventM) (h : evLt a b = false) (k : evLt b c = false) : evLt a c = false := by
  unfold evLt at *
  by_cases h1 : a.at_ = b.at_
  · rw [if_pos h1] at h
    by_cases h2 : b.at_ = c.at_
    · rw [if_pos h2] at k
      rw [if_pos (h1.trans h2)]
      by_cases h3 : a.to_ = b.to_
      · rw [if_pos h3] at h
        by_cases h4 : b.to_ = c.to_
        · rw [if_pos h4] at k
          rw [if_pos (h3.trans h4)]
          simp at h k ⊢
          omega
        · rw [if_neg h4] at k
          rw [if_neg (fun e => h4 (h3.symm.trans e)), h3]
          exact k
      · rw [if_neg h3] at h
        by_cases h4 : b.to_ = c.to_
        · rw [if_neg (fun e => h3 (e.trans h4.symm)), ← h4]
          exact h
        · rw [if_neg h4] at k
          have h5 := bl_trans h k
          by_cases h6 : a.to_ = c.to_
          · exact absurd (bl_eq h (by rw [h6]; exact k)) h3
          · rw [if_neg h6]
            exact h5
    · rw [if_neg h2] at k
      rw [if_neg (fun e => h2 (h1.symm.trans e)), h1]
      exact k
  · rw [if_neg h1] at h
    by_cases h2 : b.at_ = c.at_
    · rw [if_neg (fun e => h1 (e.trans h2.symm)), ← h2]
      exact h
    · rw [if_neg h2] at k
      simp at h k
      rw [if_neg (by omega)]
      simp
      omega
def evOrd : Hg.Ord EventM := ⟨evLt, ev_asymm, ev_trans⟩
end Go.Proofs.YtjcmeacgfflfmaaGreat.Hk
