/- The function that All hands back, over whatever loop body. -/
import Derived.Test.YtiajpffdnjeafaaVf
import Derived.Test.YtiajpffdnjeafaaCol
import Derived.RangeFuncNested
import Derived.RangeFuncBound
import Derived.RangeFuncCalls
import Derived.RangeFuncLeaves
import Derived.RangeFuncBox
import Derived.Shelf.Abstract
import Derived.Shelf.RegionOpen
import Derived.OwnWalkIn
import Derived.TacticsInMore
import Derived.LoopNIn
import Derived.LoopIn
import Derived.Maps.AppendAt
set_option linter.unusedVariables false
namespace Go.Proofs.Ytiajpffdnjeafaa
open Go.RowKit Go.Shelf

attribute [local go_sem] Oper.semAt_some

set_option maxRecDepth 100000 in
set_option maxHeartbeats 2000000 in
theorem all1_in (n : Nat) (hn : 1 ≤ n) (l Bx lo hi b cap : Nat) (a : Option Addr) (zs : List Int) (J Jx : List (Nat × Nat) → World → Prop)
    (hY : ∀ pre x W, J pre W → pre.length < zs.length → YieldAt Fence.wide (n - 1) Try.prog l #[.int .i64 (x.1 : Int), .int .u64 (x.2 : Int)] W fun e W' =>
      (e = .returned (.bool true) ∧ J (pre ++ [x]) W' ∧ Mid lo hi W W') ∨ (e = .returned (.bool false) ∧ Jx (pre ++ [x]) W'))
    (W : World) (hBx : W.cell? ⟨Bx, 0, none⟩ = some (.slice a zs.length cap)) (hBl : lo ≤ Bx) (hBn : Bx < hi) (hcap : zs.length ≤ cap) (hsm : zs.length ≤ 65536) (hI : IntsAt .u8 hi W a b 0 zs.length zs) (hlob : zs.length = 0 ∨ lo ≤ b) (h0 : J [] W) :
    CallsIn Fence.wide n Try.prog 49 #[.func (.yield l) #[] #[], .pointer (some ⟨Bx, 0, none⟩)] W fun e W' => (∃ v, e = .returned v) ∧
      ((∃ ys, ys = itemsF zs ∧ J ys W') ∨ (∃ pre, pre <+: itemsF zs ∧ Jx pre W')) := by
  have HI := Lib.hid hI
  have HB := Lib.hid hBx
  clear hI hBx
  refine callsIn_of_wp Try.func49 rfl trivial ?_ rfl
  simp only [Try.ntmps49, List.size_toArray, List.length_cons, List.length_nil, Nat.reduceAdd, Nat.reduceSub, Array.replicate_succ, Array.replicate_zero, List.push_toArray, List.append_toArray, List.nil_append, List.cons_append]
  gi_wp2
  gi_loopw [3] (fun i wr => ∃ (k f : Nat) (pre : List (Nat × Nat)), k ≤ zs.length ∧ i = .int .i64 k ∧ Hid (J pre wr) ∧ Hid (Mid lo hi W wr) ∧ Hid (itemsF zs = pre ++ itemsGo f (zs.drop k) k ∧ zs.length - k ≤ f))
    (fun i _ => zs.length - (intOf i).toNat)
  case atStart => exact ⟨0, zs.length, [], Nat.zero_le _, rfl, Lib.hid h0, Lib.hid (Mid.refl _ _ _), Lib.hid ⟨rfl, by omega⟩⟩
  case round =>
    obtain ⟨k, f, pre, hk, rfl, hJs, hnx, hit⟩ := hrel
    have hcell : wr.cell? ⟨Bx, 0, none⟩ = some (.slice a zs.length cap) := (hnx.out.cell (p := ⟨Bx, 0, none⟩) hBl hBn).trans HB.out
    by_cases hlt : k < zs.length
    · have hIr := Mid.ints HI.out hnx.out hlob HI.out.below
      have ha : a = some ⟨b, 0, none⟩ := hIr.addr.resolve_left (by omega)
      subst ha
      have hkc : ¬ k = cap := by omega
      have hD := hIr.drop k (by omega) (some ⟨b, 0 + k, none⟩) (.inr rfl)
      rw [Nat.zero_add] at hD
      have HG := Lib.hid (get_any (zs.drop k) hi _ b k (zs.length - k) (cap - k) wr hD (by omega))
      have hby : ∀ x ∈ zs.drop k, 0 ≤ x ∧ x ≤ 255 := fun x hx => bounds_u8 (hD.fits x hx)
      have hne : zs.drop k ≠ [] := by intro h; have := congrArg List.length h; rw [List.length_drop] at this; simp at this; omega
      have hpl : pre.length + (itemsGo f (zs.drop k) k).length ≤ zs.length := by
        have h1 := congrArg List.length hit.out.1
        rw [List.length_append] at h1
        have h2 := itemsGo_length zs.length zs 0
        unfold itemsF at h1
        omega
      have hdl : (zs.drop k).length ≤ f := by rw [List.length_drop]; exact hit.out.2
      have HSTOP := Lib.hid (fun h => itemsGo_stop (f := f) (at0 := k) (l := zs.drop k) h)
      have HSTEP := Lib.hid (fun h => itemsGo_step (at0 := k) hne hdl h)
      have HSZ := Lib.hid (fun h => getF_size hby h)
      rw [List.length_drop] at HSZ
      have HPL := Lib.hid hpl
      clear hIr hD hby hne hdl hpl
      obtain ⟨m, s, e, hg⟩ : ∃ m s e, getF (zs.drop k) = (m, s, e) := ⟨_, _, _, rfl⟩
      rw [hg] at HG HSTOP HSTEP HSZ
      clear hg
      simp only at HG HSTOP HSTEP HSZ
      by_cases he : e = 0
      · subst he
        obtain ⟨g, hfg, hstep⟩ := HSTEP.out rfl
        have hsz := HSZ.out rfl
        have hs1 := hsz.1
        have hs2 := hsz.2.1
        have hlt2 : pre.length < zs.length := by
          have h1 := HPL.out
          rw [hstep, List.length_cons] at h1
          omega
        obtain ⟨fn, tmps, assign, body, hy, hR⟩ := hY pre (k, m) wr hJs.out hlt2
        dsimp only at hy
        have HF := Lib.hid hfg
        have HST := Lib.hid hstep
        have HR := Lib.hid hR
        clear hsz hlt2 hfg hstep hR hY HSTOP HSTEP HSZ HPL
        gi_wp2_with (refine ⟨trivial, ?_⟩; gi_at_call 29; refine (callsIn_wide.2 HG.out).mono ?_; rintro e w' ⟨rfl, rfl⟩)
        refine HR.out.mono ?_
        rintro e W3 (⟨rfl, hJ3, hk3⟩ | ⟨rfl, hJx3⟩)
        · have HJ3 := Lib.hid hJ3
          have HK3 := Lib.hid hk3
          clear hJ3 hk3
          gi_wp2
          go_roundw
          case rel =>
            refine ⟨k + s, g, pre ++ [(k, m)], by omega, by go_num, HJ3, Lib.hid (hnx.out.trans HK3.out), Lib.hid ⟨?_, ?_⟩⟩
            · rw [hit.out.1, HST.out, List.append_assoc, List.drop_drop]; rfl
            · have := hit.out.2; have := HF.out; omega
          case measure => simp [intOf]; omega
        · have HJX := Lib.hid hJx3
          clear hJx3
          gi_wp2
          refine bodyPost_ret (results_none rfl _ _ _) rfl ?_
          exact ⟨⟨_, rfl⟩, .inr ⟨pre ++ [(k, m)], ⟨itemsGo g ((zs.drop k).drop s) (k + s), by rw [hit.out.1, HST.out, List.append_assoc]; rfl⟩, HJX.out⟩⟩
      · have hstop := HSTOP.out he
        have heb : ((e : Int) != 0) = true := by simp; exact he
        have HST := Lib.hid hstop
        clear hstop HSTOP HSTEP HSZ HPL he hY
        gi_wp2_with (refine ⟨trivial, ?_⟩; gi_at_call 29; refine (callsIn_wide.2 HG.out).mono ?_; rintro e w' ⟨rfl, rfl⟩)
        refine ⟨fun _ h => (by cases h), ?_⟩
        gi_wp2
        refine bodyPost_ret (results_none rfl _ _ _) rfl ?_
        exact ⟨⟨_, rfl⟩, .inl ⟨pre, by rw [hit.out.1, HST.out, List.append_nil], hJs.out⟩⟩
    · obtain rfl : k = zs.length := by omega
      gi_wp2
      go_end0
      exact ⟨⟨_, rfl⟩, .inl ⟨pre, by rw [hit.out.1, List.drop_length, itemsGo_nil, List.append_nil], hJs.out⟩⟩
end Go.Proofs.Ytiajpffdnjeafaa
