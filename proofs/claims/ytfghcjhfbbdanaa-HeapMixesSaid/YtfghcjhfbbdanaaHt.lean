/- Contracts: a new heap, how many, the least. -/
import Derived.Test.YtfghcjhfbbdanaaHs
set_option linter.unusedVariables false
namespace Go.Proofs.Ytfghcjhfbbdanaa
open Go.RowKit

/-- A heap of a row. -/
def HIs (K : Nat) (kf : Int × Int → Int) (lo hb lb : Nat) (w : World) (row : List (Int × Int)) (puts : Int) : Prop := ∃ v L, HMem K lo hb lb w v L puts ∧ Hm.Holds kf L row puts
theorem HIs.turned {K : Nat} {kf : Int × Int → Int} {lo hb lb : Nat} {w w' : World} {row : List (Int × Int)} {puts : Int} (h : HIs K kf lo hb lb w row puts) {R : Nat → Prop} (ht : Turned R w w') (h1 : ¬ R hb) (h2 : ¬ R lb) : HIs K kf lo hb lb w' row puts := by
  obtain ⟨v, L, hm, hh⟩ := h
  exact ⟨v, L, hm.turned ht h1 h2, hh⟩
theorem HIs.below {K : Nat} {kf : Int × Int → Int} {lo hb lb : Nat} {w w' : World} {row : List (Int × Int)} {puts : Int} (h : HIs K kf lo hb lb w row puts) (ht : Below w.heap.size w w') : HIs K kf lo hb lb w' row puts :=
  h.turned (R := fun _ => False) (Turned.of_below ht) id id

theorem HIs.other {K : Nat} {kf : Int × Int → Int} {lo hb lb : Nat} {w : World} {row : List (Int × Int)} {puts : Int} (h : HIs K kf lo hb lb w row puts) {k : Nat} {o : Obj} (ho : w.heap[k]? = some o)
    (h1 : ∀ cs fr, o ≠ .cells cs 48 fr) (h2 : ∀ cs fr, o ≠ .cells cs 50 fr) : ¬ (k = hb ∨ k = lb) := by
  obtain ⟨v, L, hm, _⟩ := h
  exact hm.other ho h1 h2
theorem new_any (K : Nat) (kf : Int × Int → Int) (w : World) :
    Calls Try.prog 10 #[.func (.func K) #[] #[]] w fun e w' => e = .returned (.pointer (some ⟨w.heap.size, 0, none⟩)) ∧ HIs K kf w.heap.size w.heap.size w.heap.size w' [] 0 ∧ Below w.heap.size w w' := by
  go_enter Try.func10, Try.ntmps10
  go_wp2
  go_ret
  refine ⟨rfl, ⟨.slice none 0 0, [], ⟨heap_new _ rfl, World.ownsRow_nil _ _ _ _, fun g hg => by simp [Value.ownBlock] at hg, Nat.le_refl _, by simp, .inr rfl⟩, Hm.Holds.nil 0⟩, (Below.refl _ _).alloc (Nat.le_refl _) _⟩
theorem three_cells {w : World} {W : Nat} {p q r : Value} {t : TypeId} (h : w.heap[W]? = some (.cells #[p, q, r] t (0, 0))) : w.cell? ⟨W, 0, none⟩ = some p ∧ w.cell? ⟨W, 1, none⟩ = some q ∧ w.cell? ⟨W, 2, none⟩ = some r ∧ w.frozen? ⟨W, 0, none⟩ = false ∧ w.frozen? ⟨W, 1, none⟩ = false ∧ w.frozen? ⟨W, 2, none⟩ = false := by
  refine ⟨?_, ?_, ?_, ?_, ?_, ?_⟩ <;> simp [World.cell?, World.frozen?, h]
theorem len_any {K : Nat} {kf : Int × Int → Int} {lo hb lb : Nat} {w : World} {row : List (Int × Int)} {puts : Int} (h : HIs K kf lo hb lb w row puts) :
    Calls Try.prog 14 #[.pointer (some ⟨hb, 0, none⟩)] w fun e w' => e = .returned (.int .i64 row.length) ∧ w = w' := by
  obtain ⟨v, L, hm, hh⟩ := h
  have hl := hh.length
  have c1 := (three_cells hm.box).2.1
  rcases hm.shape with ⟨rfl, rfl⟩ | ⟨cap, cur, rfl, _⟩
  · have h0 : row.length = 0 := by simpa using hl.symm
    have HL := Lib.hid h0
    clear hl h0 hh hm
    go_enter Try.func14, Try.ntmps14
    go_wp2
    go_ret
    exact ⟨by rw [HL.out]; rfl, rfl⟩
  · have HL := Lib.hid hl
    clear hl hh hm
    go_enter Try.func14, Try.ntmps14
    go_wp2
    go_ret
    exact ⟨by rw [← HL.out]; rfl, rfl⟩
/-- What Peek and Pop answer. -/
def topV (kf : Int × Int → Int) (row : List (Int × Int)) : Int × Int := if row.length = 0 then (0, 0) else row.getD (Hm.first kf row) default
theorem topV_nil (kf : Int × Int → Int) {row : List (Int × Int)} (h : row.length = 0) : topV kf row = (0, 0) := if_pos h
theorem topV_of (kf : Int × Int → Int) {row : List (Int × Int)} (h : row.length ≠ 0) : topV kf row = row.getD (Hm.first kf row) default := if_neg h
theorem peek_any {K : Nat} {kf : Int × Int → Int} {lo hb lb : Nat} {w : World} {row : List (Int × Int)} {puts : Int} (h : HIs K kf lo hb lb w row puts) :
    Calls Try.prog 12 #[.pointer (some ⟨hb, 0, none⟩)] w fun e w' => e = .returned (.tuple #[.agg #[.int .i64 (topV kf row).1, .int .i64 (topV kf row).2], .bool (decide (row.length ≠ 0))]) ∧ Below w.heap.size w w' := by
  obtain ⟨v, L, hm, hh⟩ := h
  have hl := hh.length
  have c1 := (three_cells hm.box).2.1
  have hlt := heap_lt hm.box
  by_cases h0 : L.length = 0
  · have h1 : row.length = 0 := by omega
    have HT := Lib.hid (topV_nil kf h1)
    have HR := Lib.hid h1
    have hsh : ∃ ao cap, v = .slice ao 0 cap := by
      rcases hm.shape with ⟨rfl, rfl⟩ | ⟨cap, cur, rfl, _⟩
      · exact ⟨none, 0, rfl⟩
      · exact ⟨_, cap, by rw [h0]⟩
    obtain ⟨ao, cap, rfl⟩ := hsh
    clear hl h0 hh hm h1
    go_enter Try.func12, Try.ntmps12
    go_wp2
    rw [HT.out, HR.out]
    exact bodyPost_ret (v := .tuple #[.agg #[.int .i64 0, .int .i64 0], .bool false]) (by simp [results, Try.f12, go_sem]) rfl ⟨rfl, ((Below.refl _ _).alloc (Nat.le_refl _) _).alloc (by simp) _⟩
  · rcases hm.shape with ⟨rfl, rfl⟩ | ⟨cap, cur, rfl, _, hg, _, _⟩
    · exact absurd rfl h0
    · have hlb := heap_lt hg
      have hp : 0 < L.length := by omega
      obtain ⟨k1, k2, _⟩ := hm.cells hp
      have h1 : row.length ≠ 0 := by omega
      have htop := hh.top (by intro e; subst e; exact h1 rfl)
      have HL := Lib.hid (And.intro h1 ((topV_of kf h1).trans htop.symm))
      clear hl htop hh hm hg h1
      simp only [Nat.zero_mul, Nat.zero_add] at k1 k2
      generalize Hm.g L 0 = x at *
      go_enter Try.func12, Try.ntmps12
      go_wp2
      rw [HL.out.2]
      exact bodyPost_ret (v := .tuple #[.agg #[.int .i64 x.1.1, .int .i64 x.1.2], .bool true]) (by simp [results, Try.f12, go_sem]) rfl ⟨by rw [decide_eq_true HL.out.1], (Below.refl _ _).alloc (Nat.le_refl _) _⟩
end Go.Proofs.Ytfghcjhfbbdanaa
