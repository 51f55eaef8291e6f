/- Plain: a key that is there, put anew: the keys stay; what lies behind a key. -/
import Derived.Test.YtpoillgnkmpknaaSn
set_option linter.unusedVariables false
set_option linter.unusedSectionVars false
namespace Go.Proofs.Ytpoillgnkmpknaa.Rk
section
variable {X V : Type} [DecidableEq X] {lt : X → X → Bool}
/-- A key that is there, put anew. -/
theorem ins_there (hl : Lin lt) {k : X} {l : List (X × V)} (hs : Srt lt l) {v0 : V} (h : get lt k l = some v0) (v : V) : ∃ A B, l = A ++ (k, v0) :: B ∧ ins lt k v l = A ++ (k, v) :: B ∧ rk lt k l = A.length := by
  obtain ⟨A, B, rfl⟩ := List.append_of_mem (mem_of_get hl h)
  exact ⟨A, B, rfl, ins_eq hl A B (k, v0) v hs, rk_at hl hs (i := A.length) (p := (k, v0)) (by simp)⟩
/-- Behind the keys that are less there is none that is less. -/
theorem drop_rk (hl : Lin lt) (k : X) : ∀ {l : List (X × V)}, Srt lt l → ∀ p ∈ l.drop (rk lt k l), lt p.1 k = false
  | [], _, p, hp => by simp at hp
  | q :: r, hs, p, hp => by
    obtain ⟨h1, h2⟩ := List.pairwise_cons.1 hs
    cases hq : lt q.1 k with
    | true =>
      have e : rk lt k (q :: r) = rk lt k r + 1 := by simp [rk, hq]
      rw [e, List.drop_succ_cons] at hp
      exact drop_rk hl k h2 p hp
    | false =>
      have hall : ∀ a ∈ q :: r, lt a.1 k = false := by
        intro a ha
        rcases List.mem_cons.1 ha with rfl | ha
        · exact hq
        · cases hc : lt a.1 k with
          | false => rfl
          | true => have := hl.trans _ _ _ (h1 a ha) hc; rw [hq] at this; cases this
      rw [rk_none hall, List.drop_zero] at hp
      exact hall p hp
end
end Go.Proofs.Ytpoillgnkmpknaa.Rk
namespace Go.Proofs.Ytpoillgnkmpknaa.Ss
open Go.RowKit Rk
/-- What the second loop finds: a key that is there is put anew. -/
theorem again {L : List (ByteArray × Int)} (hs : Srt ltS L) {k : ByteArray} (h : (get ltS k L).isSome = true) (v : Int) :
    (get ltS k L).isNone = false ∧ (ins ltS k v L).length = L.length ∧ rk ltS k (ins ltS k v L) = rk ltS k L ∧ Srt ltS (ins ltS k v L) ∧
    atK (rk ltS k L : Int) (ins ltS k v L) = k ∧ atV (rk ltS k L : Int) (ins ltS k v L) = v ∧ (nthS (ins ltS k v L) (rk ltS k L : Int)).isSome = true := by
  obtain ⟨v0, h0⟩ := Option.isSome_iff_exists.1 h
  obtain ⟨A, B, e1, e2, e3⟩ := ins_there linS hs h0 v
  have hs2 := ins_srt linS k v L hs
  have hn : nthS (ins ltS k v L) (rk ltS k L : Int) = some (k, v) := by rw [e2, e3]; exact nthS_eq A B (k, v)
  refine ⟨by rw [h0]; rfl, by rw [e1] at *; rw [e2]; simp, ?_, hs2, by unfold atK; rw [hn]; rfl, by unfold atV; rw [hn]; rfl, by rw [hn]; rfl⟩
  rw [e3]
  exact rk_at linS hs2 (i := A.length) (p := (k, v)) (by rw [e2]; simp)
/-- The last key of a row. -/
def lastK (pre : List (ByteArray × Int)) : ByteArray := (pre.getLast?.map (·.1)).getD ⟨#[]⟩
theorem lastK_snoc (p : List (ByteArray × Int)) (x : ByteArray × Int) : lastK (p ++ [x]) = x.1 := by simp [lastK]
/-- A row whose last key is less than the first that was sought, or not behind the one ahead. -/
def BadP (fr : ByteArray) (pre : List (ByteArray × Int)) : Prop := ∃ p x, pre = p ++ [x] ∧ (ltS x.1 fr = true ∨ (0 < p.length ∧ ltS (lastK p) x.1 = false))
theorem notBad {fr : ByteArray} {L pre : List (ByteArray × Int)} (hs : Srt ltS L) (h : pre <+: L.drop (rk ltS fr L)) : ¬ BadP fr pre := by
  rintro ⟨p, x, rfl, hb⟩
  obtain ⟨t, ht⟩ := h
  have hx : x ∈ L.drop (rk ltS fr L) := by rw [← ht]; simp
  rcases hb with hb | ⟨hp, hb⟩
  · rw [drop_rk linS fr hs x hx] at hb; cases hb
  · have hsd : Srt ltS (L.drop (rk ltS fr L)) := hs.sublist (List.drop_sublist _ _)
    rw [← ht] at hsd
    obtain ⟨q, y, rfl⟩ : ∃ q y, p = q ++ [y] := ⟨p.dropLast, p.getLast (by intro e; subst e; simp at hp), (List.dropLast_concat_getLast _).symm⟩
    rw [lastK_snoc] at hb
    have h1 := List.pairwise_append.1 hsd
    have h2 := List.pairwise_append.1 h1.1
    have := h2.2.2 y (by simp) x (by simp)
    rw [hb] at this; cases this
end Go.Proofs.Ytpoillgnkmpknaa.Ss
