/- An iterator whose elements are known one by one. -/
import Derived.Test.YtjcmeacgfflfmaaGreatRg
set_option linter.unusedVariables false
set_option linter.unusedSectionVars false
namespace Go.Proofs.YtjcmeacgfflfmaaGreat
open Go.RowKit

/-- An iterator that hands out D: a round is told that its element is the next of D. -/
def SeqP {α : Type} (F : Fence) (n : Nat) (P : Program) (g : Nat) (lb : Array Value) (encs : α → Array Value) (Kp : World → World → Prop) (D : List α) (w : World) : Prop :=
  ∀ (l : Nat) (J Jx : List α → World → Prop) (W : World), Below w.heap.size w W → AbidesFrom W.heap.size J → AbidesFrom W.heap.size Jx →
    (∀ pre x W1, J pre W1 → pre ++ [x] <+: D → YieldAt F (n - 1) P l (encs x) W1 fun e W' =>
      (e = .returned (.bool true) ∧ J (pre ++ [x]) W' ∧ Kp W1 W') ∨ (e = .returned (.bool false) ∧ Jx (pre ++ [x]) W')) →
    J [] W →
    CallsIn F n P g (#[.func (.yield l) #[] #[]] ++ lb) W fun e W' => (∃ v, e = .returned v) ∧ (J D W' ∨ (∃ pre, pre <+: D ∧ Jx pre W'))
section
variable {α : Type} {F : Fence} {n : Nat} {P : Program} {g : Nat} {lb : Array Value} {encs : α → Array Value} {Kp : World → World → Prop} {D : List α} {w : World}
theorem SeqP.below {w' : World} (h : SeqP F n P g lb encs Kp D w) (hb : Below w.heap.size w w') : SeqP F n P g lb encs Kp D w' :=
  fun l J Jx W hW => h l J Jx W (hb.trans (hW.mono hb.size))
theorem SeqP.stops (h : SeqP F n P g lb encs Kp D w) : SeqStopsK F n P g lb encs Kp (fun ys => ys = D) (fun pre => pre <+: D) D.length w := fun l J Jx W hW hJ hJx hY h0 => by
  refine (h l J Jx W hW hJ hJx (fun pre x W1 hj hp => hY pre x W1 hj ?_) h0).mono ?_
  · have := hp.length_le
    simp at this; omega
  · rintro e W' ⟨he, hj | hx⟩
    · exact ⟨he, .inl ⟨D, rfl, hj⟩⟩
    · exact ⟨he, .inr hx⟩
/-- The same, where a loop's body must know which element comes: by place. -/
theorem SeqP.stopsF (h : SeqP F n P g lb encs Kp D w) : SeqStopsK F n P g lb (fun j : Fin D.length => encs (D.get j)) Kp (fun ys => ys = List.finRange D.length) (fun pre => pre <+: List.finRange D.length) D.length w := fun l J Jx W hW hJ hJx hY h0 => by
  have htk : ∀ k (hk : k < D.length), (List.finRange D.length).take (k + 1) = (List.finRange D.length).take k ++ [⟨k, hk⟩] := fun k hk => by
    rw [List.take_succ_eq_append_getElem (by simpa using hk)]
    simp
  refine (h l (fun pre W => J ((List.finRange D.length).take pre.length) W) (fun pre W => Jx ((List.finRange D.length).take pre.length) W) W hW
    (fun s A B row hs hg hr => hJ _ A B row hs hg hr) (fun s A B row hs hg hr => hJx _ A B row hs hg hr) (fun pre x W1 hj hp => ?_) h0).mono ?_
  · have hk : pre.length < D.length := by have := hp.length_le; simp at this; omega
    have hx : D.get ⟨pre.length, hk⟩ = x := by
      obtain ⟨t, ht⟩ := hp
      subst ht
      simp
    have hY' := hY ((List.finRange D.length).take pre.length) ⟨pre.length, hk⟩ W1 hj (by simp; omega)
    simp only [hx] at hY'
    have e : (pre ++ [x]).length = pre.length + 1 := by simp
    simp only [e, htk _ hk]
    exact hY'
  · rintro e W' ⟨he, hj | ⟨pre, hp, hx⟩⟩
    · refine ⟨he, .inl ⟨_, rfl, ?_⟩⟩
      have := hj
      rwa [List.take_of_length_le (by simp)] at this
    · exact ⟨he, .inr ⟨_, List.take_prefix _ _, hx⟩⟩
/-- The places of all elements, read. -/
theorem get_finRange (D : List α) : (List.finRange D.length).map D.get = D := by
  apply List.ext_getElem
  · simp
  · intro i h1 h2; simp
theorem get_take (D : List α) {pre : List (Fin D.length)} (h : pre <+: List.finRange D.length) : pre.map D.get = D.take pre.length := by
  have := List.prefix_iff_eq_take.1 h
  rw [this, List.map_take, get_finRange]
  simp
end
end Go.Proofs.YtjcmeacgfflfmaaGreat
