/- Contracts: a node counted; a node over another. -/
import Derived.Test.YtjpgkocffceeoaaGa
set_option linter.unusedVariables false
set_option linter.unusedSectionVars false
namespace Go.Proofs.Ytjpgkocffceeoaa
open Go.RowKit Rk

theorem turned_drawn (R : Nat → Prop) (W : World) (n : Nat) : Turned R W { W with drawn := n } := ⟨rfl, rfl, rfl, Nat.le_refl _, fun _ _ _ => rfl⟩
theorem IsT.drawn {S : Nat → Prop} {W : World} {p : Option Addr} {t : T Int Int} (h : IsT S W p t) (n : Nat) : IsT S { W with drawn := n } p t := h.turned (turned_drawn (fun _ => False) W n) (fun _ _ _ h => h)
def CountedPost (b : Nat) (k v s : Int) (pl pr : Option Addr) (w : World) (e : Ending) (w' : World) : Prop :=
  e = .returned (.pointer (some ⟨b, 0, none⟩)) ∧ Turned (fun i => i = b) w w' ∧ Raw w' b k v s pl pr

set_option maxHeartbeats 1000000 in
set_option maxRecDepth 100000 in
theorem counted_any {S S' : Nat → Prop} {w : World} {b : Nat} {k v s : Int} {pl pr : Option Addr} {l r : T Int Int} (hr : Raw w b k v s pl pr) (hl : IsT S w pl l) (hrr : IsT S' w pr r) (hs : l.count + r.count ≤ 1000000) :
    Calls Try.prog 97 #[.pointer (some ⟨b, 0, none⟩)] w (CountedPost b k v ((l.count + 1 + r.count : Nat) : Int) pl pr w) := by
  obtain ⟨c0, c1, c2, c3, c4⟩ := hr.cells
  have hf := hr.frozen 2
  have HL := Lib.hid (fun n => count_any (hl.drawn n))
  have HR := Lib.hid (fun n => count_any (hrr.drawn n))
  have hb := hr.lt
  have HRaw := Lib.hid hr
  clear hl hrr hr
  obtain ⟨m, hm⟩ : ∃ m : Nat, l.count = m := ⟨_, rfl⟩
  obtain ⟨n, hn⟩ : ∃ n : Nat, r.count = n := ⟨_, rfl⟩
  rw [hm] at HL hs
  rw [hn] at HR hs
  rw [hm, hn]
  clear hm hn
  go_enter Try.func97, Try.ntmps97
  go_wp2
  refine wp_region_still_tail 17 (by kernel_rfl) (by kernel_rfl) ?_
  simp only [List.take_succ_cons, List.take_zero, List.drop_succ_cons, List.drop_zero]
  repeat (first | still_step | (refine wpStill_step (fun K hK => ?_); go_simp; apply Exists.intro; refine ⟨?_, hK _ ?_⟩; (first | exact (HL.out _).mono (fun e w' h => ⟨h.1, h.2.symm⟩) | exact (HR.out _).mono (fun e w' h => ⟨h.1, h.2.symm⟩)); clear hK K))
  refine wpStill_nil ?_
  change wpList _ _ _ _ _ w.drew
  go_wp2
  go_ret
  refine ⟨rfl, (Turned.drewN _ w 1).trans (Turned.set _ _ _ _), ?_⟩
  rw [show ((m + 1 + n : Nat) : Int) = (m : Int) + 1 + (n : Int) by omega]
  exact Raw.size_set (W := w.drew) HRaw.out _
end Go.Proofs.Ytjpgkocffceeoaa
