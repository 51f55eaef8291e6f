/- Contracts of layer 3: a number that stands next, bounded or not. -/
import Derived.Test.YtnkhpmpoemodiaaRb
set_option linter.unusedVariables false
namespace Go.Proofs.Ytnkhpmpoemodiaa
open Go.RowKit

def rnum (zs : List Int) (s : RS) : RS × Nat × Nat :=
  if s.e = 0 then if (getF (zs.drop s.pos)).2.2 = 0 then (s, (getF (zs.drop s.pos)).1, (getF (zs.drop s.pos)).2.1) else (rfail s (getF (zs.drop s.pos)).2.2, 0, 0) else (s, 0, 0)
def NumPost (w : World) (R : Nat) (zs : List Int) (r : RS × Nat × Nat) (e : Ending) (w' : World) : Prop :=
  e = .returned (.tuple #[.int .u64 r.2.1, .int .i64 r.2.2]) ∧ RIs w' R zs r.1 ∧ w.grownBy w' (some R)
theorem rnum_any (w : World) (R : Nat) (zs : List Int) (s : RS) (h : RIs w R zs s) :
    Calls Try.prog 111 #[.pointer (some ⟨R, 0, none⟩)] w (NumPost w R zs (rnum zs s)) := by
  have H0 := Lib.hid h
  have HF := Lib.hid (fun W (hb : Below w.heap.size w W) c => rfail_any W R zs s c (h.stay hb))
  obtain ⟨a, cap, b, off, h⟩ := h
  obtain ⟨pos, er, fa⟩ := s
  obtain ⟨c0, c1, c2, c3, f1, f2, f3⟩ := four_cells h.box
  have hlt := heap_lt h.box
  by_cases he : er = 0
  · subst he
    have hk := h.le
    have hcap := h.hcap
    have hfew := h.few
    have HD := Lib.hid h.data
    have HNIL := Lib.hid h.nil
    obtain ⟨len, hlen⟩ : ∃ len, zs.length = len := ⟨_, rfl⟩
    obtain ⟨gn, gs, ge, hr⟩ : ∃ gn gs ge, getF (zs.drop pos) = (gn, gs, ge) := ⟨_, _, _, rfl⟩
    simp only at hk
    rw [hlen] at hk c0 hcap hfew
    have HL := Lib.hid hlen
    have HGET : Hid (∀ a' l c' n, l = len - pos → l ≤ c' → (l = 0 ∨ a' = some ⟨b, off + pos, none⟩) → Calls Try.prog 116 #[.slice a' l c'] (w.drewN n) fun e w' => e = .returned (.tuple #[.int .u64 gn, .int .i64 gs, .int .i64 ge]) ∧ w' = w.drewN n) := by
      intro a' l c' n hl hc' ha
      subst hl
      have hdr := (HD.out.kept (drewN_below w n) (Nat.le_refl _)).drop pos (by omega) a' (by rw [hlen]; exact ha)
      rw [hlen] at hdr
      refine (get_any _ _ _ _ _ _ c' _ hdr hc').mono ?_
      rintro e w' ⟨he, hw⟩
      rw [hr] at he
      exact ⟨he, hw.symm⟩
    have HRN : Hid (getF (zs.drop pos) = (gn, gs, ge)) := hr
    clear h hlen hr
    have hcase : cap = pos ∨ ∃ x, a = some x ∧ ¬ cap = pos ∧ Hid (len - pos = 0 ∨ some (x.add pos) = some ⟨b, off + pos, none⟩) := by
      by_cases hkc : cap = pos
      · exact .inl hkc
      · cases a with
        | none => have := HNIL.out rfl; omega
        | some x =>
          refine .inr ⟨x, rfl, hkc, ?_⟩
          by_cases h0 : len = 0
          · exact .inl (by omega)
          · have hx : some x = some ⟨b, off, none⟩ := HD.out.addr.resolve_left (by rw [HL.out]; omega)
            cases hx
            exact .inr (by rw [addr_add])
    by_cases hge : ge = 0
    · subst hge
      have HR : Hid (rnum zs ⟨pos, 0, fa⟩ = (⟨pos, 0, fa⟩, gn, gs)) := Lib.hid (by unfold rnum; rw [if_pos rfl, HRN.out]; rfl)
      clear HRN
      rcases hcase with hkc | ⟨x, rfl, hkc, HX⟩
      · obtain rfl : pos = cap := hkc.symm
        go_enter Try.func111, Try.ntmps111
        go_wp2
        go_quiet ((go_at_call 116; exact Calls.quiet_of_same (HGET.out _ _ _ _ (by omega) (by omega) (.inl (by omega)))))
        go_wp2
        go_ret2
        rw [HR.out]
        exact ⟨rfl, H0.out.stay (drewN_below w _), grown_below (drewN_below w _) _⟩
      · go_enter Try.func111, Try.ntmps111
        go_wp2
        go_quiet ((go_at_call 116; exact Calls.quiet_of_same (HGET.out _ _ _ _ rfl (by omega) HX.out)))
        go_wp2
        go_ret2
        rw [HR.out]
        exact ⟨rfl, H0.out.stay (drewN_below w _), grown_below (drewN_below w _) _⟩
    · have HR : Hid (rnum zs ⟨pos, 0, fa⟩ = (rfail ⟨pos, 0, fa⟩ ge, 0, 0)) := Lib.hid (by unfold rnum; rw [if_pos rfl, HRN.out, if_neg hge])
      have hge1 : ((ge : Int) == 0) = false := by simp; omega
      clear HRN hge
      rcases hcase with hkc | ⟨x, rfl, hkc, HX⟩
      · obtain rfl : pos = cap := hkc.symm
        go_enter Try.func111, Try.ntmps111
        go_wp2
        go_quiet ((go_at_call 116; exact Calls.quiet_of_same (HGET.out _ _ _ _ (by omega) (by omega) (.inl (by omega)))))
        go_wp2_with fail
        refine (HF.out _ (drewN_below w _) _).mono ?_
        rintro e w2 ⟨rfl, hr, hg⟩
        go_wp2
        go_ret2
        rw [HR.out]
        exact ⟨rfl, hr, (grown_below (drewN_below w _) _).trans hg⟩
      · go_enter Try.func111, Try.ntmps111
        go_wp2
        go_quiet ((go_at_call 116; exact Calls.quiet_of_same (HGET.out _ _ _ _ rfl (by omega) HX.out)))
        go_wp2_with fail
        refine (HF.out _ (drewN_below w _) _).mono ?_
        rintro e w2 ⟨rfl, hr, hg⟩
        go_wp2
        go_ret2
        rw [HR.out]
        exact ⟨rfl, hr, (grown_below (drewN_below w _) _).trans hg⟩
  · have he1 : ((er : Int) == 0) = false := by simp; omega
    have HR : Hid (rnum zs ⟨pos, er, fa⟩ = (⟨pos, er, fa⟩, 0, 0)) := Lib.hid (by unfold rnum; rw [if_neg he])
    clear h
    go_enter Try.func111, Try.ntmps111
    go_wp2
    go_ret2
    rw [HR.out]
    exact ⟨rfl, H0.out, grown_refl _ _⟩
end Go.Proofs.Ytnkhpmpoemodiaa
