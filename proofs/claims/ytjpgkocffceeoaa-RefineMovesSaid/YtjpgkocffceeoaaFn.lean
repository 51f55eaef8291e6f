/- Those that something is between one and, each element told. -/
import Derived.Test.YtjpgkocffceeoaaGp
import Derived.Test.YtjpgkocffceeoaaFi
set_option linter.unusedVariables false
set_option linter.unusedSectionVars false
namespace Go.Proofs.Ytjpgkocffceeoaa
open Go.RowKit Go.Shelf Rk

attribute [local go_sem] Oper.semAt_some

/-- An iterator over pairs, whichever function; each element is told. -/
def IsSeqQ (W : World) (v : Value) (n₀ : Nat) (D : List (Int × Int)) : Prop :=
  ∃ gf lb, v = .func (.func gf) #[] lb ∧ (∀ args w, (callFunc gf args).run Try.prog w = .ok (.enter gf args) w) ∧ ∀ n, SeqP Fence.wide n Try.prog gf lb encP (Below n₀) D W
theorem IsSeqQ.below {W W' : World} {v : Value} {n₀ : Nat} {D : List (Int × Int)} (h : IsSeqQ W v n₀ D) (hb : Below W.heap.size W W') : IsSeqQ W' v n₀ D := by
  obtain ⟨gf, lb, h1, h2, h3⟩ := h
  exact ⟨gf, lb, h1, h2, fun n => (h3 n).below hb⟩
theorem IsSeq.q {W : World} {v : Value} {n₀ : Nat} {D : List (Int × Int)} (h : IsSeq W v n₀ D) : IsSeqQ W v n₀ D := by
  obtain ⟨lb, h1, h2⟩ := h.stopsP 0
  refine ⟨_, lb, h1, enters_of Try.func91 (by kernel_rfl) rfl, fun n => ?_⟩
  obtain ⟨lb', h3, h4⟩ := h.stopsP n
  rw [h1] at h3
  cases h3
  exact h4
theorem near1_p (n n₀ : Nat) (W : World) : SeqP Fence.wide n Try.prog 68 #[] encP (Below n₀) [] W := fun l J Jx W1 hW hJ hJx hY h0 => by
  refine callsIn_of_wp Try.func68 rfl trivial ?_ rfl
  simp only [Try.ntmps68, List.size_toArray, List.length_cons, List.length_nil, Nat.reduceAdd, Nat.reduceSub, Array.replicate_succ, Array.replicate_zero, List.push_toArray, List.append_toArray, List.nil_append, List.cons_append]
  gi_wp2
  go_end0
  exact ⟨⟨_, rfl⟩, .inl h0⟩
def SeqQPost (n₀ : Nat) (D : List (Int × Int)) (w : World) (e : Ending) (w' : World) : Prop := ∃ v, e = .returned v ∧ IsSeqQ w' v n₀ D ∧ Below w.heap.size w w'
theorem near_q {w0 w : World} {g nb : Nat} {ws : List Int} {F : Nat → Nat → Int} (i : Int) (h0 : IsG w0 g nb ws F) (hb : Below w0.heap.size w0 w) :
    Calls Try.prog 49 #[.pointer (some ⟨g, 0, none⟩), .int .i64 i] w (SeqQPost w0.heap.size (nearD ws.length F i) w) := by
  have h := h0.below hb
  have HH := Lib.hid (has_any h i)
  cases hi : hasN ws.length i with
  | false =>
    rw [hi] at HH
    have H : Hid (nearD ws.length F i = []) := Lib.hid (by unfold nearD; rw [if_neg (by rw [hi]; simp)])
    clear h hi h0 hb
    go_enter Try.func49, Try.ntmps49
    go_wp2_with (go_at_call 57; refine HH.out.mono ?_; rintro e w' ⟨rfl, rfl⟩)
    go_ret
    rw [H.out]
    exact ⟨_, rfl, ⟨_, _, rfl, enters_of Try.func68 (by kernel_rfl) rfl, fun n => near1_p n _ _⟩, Below.refl _ _⟩
  | true =>
    rw [hi] at HH
    obtain ⟨k, rfl, hk⟩ := hasN_t hi
    have H : Hid (nearD ws.length F (k : Int) = rowOf ws.length (F k)) := Lib.hid (nearD_nat F hk)
    have HAll := Lib.hid (mall_any (h0.map k hk) hb (Nat.le_trans (rowOf_length _ _) (by have := h0.small; omega)))
    obtain ⟨wa, wc, wb, h1, h2⟩ := h.box
    have c0 : w.cell? ⟨g, 1, none⟩ = some (.slice (some ⟨nb, 0, none⟩) ws.length ws.length) := heap_cell h1 rfl
    have hsm := h.small
    clear h hi h1 h2 h0 hb
    generalize nearD ws.length F (k : Int) = D at *
    rw [← H.out] at HAll
    clear H
    generalize ws.length = n at *
    go_enter Try.func49, Try.ntmps49
    go_wp2_with (go_at_call 57; refine HH.out.mono ?_; rintro e w' ⟨rfl, rfl⟩)
    refine HAll.out.mono ?_
    rintro e w1 ⟨v, rfl, hsq, hB, -⟩
    have HE := Lib.hid (show SeqQPost w0.heap.size D w (.returned v) w1 from ⟨v, rfl, hsq.q, hB⟩)
    clear hsq hB
    go_wp2
    go_ret
    exact HE.out

end Go.Proofs.Ytjpgkocffceeoaa
