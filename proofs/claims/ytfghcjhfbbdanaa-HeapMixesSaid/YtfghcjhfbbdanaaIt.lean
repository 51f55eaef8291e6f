/- Contracts: a new heap, how many, the least. -/
import Derived.Test.YtfghcjhfbbdanaaIs
set_option linter.unusedVariables false
namespace Go.Proofs.Ytfghcjhfbbdanaa.Ii
open Go.RowKit

/-- A heap of a row. -/
def HIs (K : Nat) (kf : Int → Int) (lo hb lb : Nat) (w : World) (row : List Int) (puts : Int) : Prop := ∃ v L, HMem K lo hb lb w v L puts ∧ Hm.Holds kf L row puts
theorem HIs.turned {K : Nat} {kf : Int → Int} {lo hb lb : Nat} {w w' : World} {row : List Int} {puts : Int} (h : HIs K kf lo hb lb w row puts) {R : Nat → Prop} (ht : Turned R w w') (h1 : ¬ R hb) (h2 : ¬ R lb) : HIs K kf lo hb lb w' row puts := by
  obtain ⟨v, L, hm, hh⟩ := h
  exact ⟨v, L, hm.turned ht h1 h2, hh⟩
theorem HIs.below {K : Nat} {kf : Int → Int} {lo hb lb : Nat} {w w' : World} {row : List Int} {puts : Int} (h : HIs K kf lo hb lb w row puts) (ht : Below w.heap.size w w') : HIs K kf lo hb lb w' row puts :=
  h.turned (R := fun _ => False) (Turned.of_below ht) id id

theorem new_any (K : Nat) (kf : Int → Int) (w : World) :
    Calls Try.prog 22 #[.func (.func K) #[] #[]] w fun e w' => e = .returned (.pointer (some ⟨w.heap.size, 0, none⟩)) ∧ HIs K kf w.heap.size w.heap.size w.heap.size w' [] 0 ∧ Below w.heap.size w w' := by
  go_enter Try.func22, Try.ntmps22
  go_wp2
  go_ret
  refine ⟨rfl, ⟨.slice none 0 0, [], ⟨heap_new _ rfl, World.ownsRow_nil _ _ _ _, fun g hg => by simp [Value.ownBlock] at hg, Nat.le_refl _, by simp⟩, Hm.Holds.nil 0⟩, (Below.refl _ _).alloc (Nat.le_refl _) _⟩
/-- What Peek and Pop answer. -/
def topV (kf : Int → Int) (row : List Int) : Int := if row.length = 0 then 0 else row.getD (Hm.first kf row) default
theorem topV_nil (kf : Int → Int) {row : List Int} (h : row.length = 0) : topV kf row = 0 := if_pos h
theorem topV_of (kf : Int → Int) {row : List Int} (h : row.length ≠ 0) : topV kf row = row.getD (Hm.first kf row) default := if_neg h
theorem peek_any {K : Nat} {kf : Int → Int} {lo hb lb : Nat} {w : World} {row : List Int} {puts : Int} (h : HIs K kf lo hb lb w row puts) :
    Calls Try.prog 31 #[.pointer (some ⟨hb, 0, none⟩)] w fun e w' => e = .returned (.tuple #[.int .i64 (topV kf row), .bool (decide (row.length ≠ 0))]) ∧ w = w' := by
  obtain ⟨v, L, hm, hh⟩ := h
  have hl := hh.length
  have c1 := (three_cells hm.box).2.1
  have hlt := heap_lt hm.box
  by_cases h0 : L.length = 0
  · have h1 : row.length = 0 := by omega
    have HT := Lib.hid (topV_nil kf h1)
    have HR := Lib.hid h1
    have hsh : ∃ ao cap, v = .slice ao 0 cap := by
      rcases hm.shape with ⟨rfl, rfl⟩ | ⟨cap, cur, rfl, _⟩
      · exact ⟨none, 0, rfl⟩
      · exact ⟨_, cap, by rw [h0]⟩
    obtain ⟨ao, cap, rfl⟩ := hsh
    clear hl h0 hh hm h1
    go_enter Try.func31, Try.ntmps31
    go_wp2
    go_ret2
    rw [HT.out, HR.out]
    exact ⟨rfl, rfl⟩
  · rcases hm.shape with ⟨rfl, rfl⟩ | ⟨cap, cur, rfl, _, hg, _, _⟩
    · exact absurd rfl h0
    · have hlb := heap_lt hg
      have hp : 0 < L.length := by omega
      obtain ⟨k1, _⟩ := hm.cells hp
      have h1 : row.length ≠ 0 := by omega
      have htop := hh.top (by intro e; subst e; exact h1 rfl)
      have HL := Lib.hid (And.intro h1 ((topV_of kf h1).trans htop.symm))
      clear hl htop hh hm hg h1
      simp only [Nat.zero_mul] at k1
      generalize Hm.g L 0 = x at *
      go_enter Try.func31, Try.ntmps31
      go_wp2
      go_ret2
      rw [HL.out.2, decide_eq_true HL.out.1]
      exact ⟨rfl, rfl⟩
end Go.Proofs.Ytfghcjhfbbdanaa.Ii
