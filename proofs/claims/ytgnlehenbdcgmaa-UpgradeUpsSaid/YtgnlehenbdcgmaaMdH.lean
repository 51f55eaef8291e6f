/- Contracts: links, events; the first of three faults; Check. -/
import Derived.Test.YtgnlehenbdcgmaaMdG
set_option linter.unusedVariables false
set_option linter.unusedSectionVars false
set_option linter.unusedSimpArgs false
namespace Go.Proofs.Ytgnlehenbdcgmaa.Md
open Go.RowKit Go.Shelf

theorem link_any {w : World} {x : ModelV} {mp ml : Nat} (h : Wh w x mp ml) (k : Nat) {l : LinkM} (hfit : fitL l) :
    Calls Try.prog 41 #[wholeVal x mp ml, .int .i64 (k : Int), .agg #[.string l.name, .string l.frm, .string l.to_, .int .i64 l.delay, .int .i64 l.weight]] w fun e w' => e = .returned (.int .i64 (lnE x.ver (fstP (x.procs.map (fun y => y.p.name))) (fstP (x.links.map (fun y => y.name))) k l)) ∧ Below w.heap.size w w' := by
  have HA : Hid (lnE x.ver (fstP (x.procs.map (fun y => y.p.name))) (fstP (x.links.map (fun y => y.name))) k l = if nmE (fstP (x.links.map (fun y => y.name))) l.name k ≠ 0 then nmE (fstP (x.links.map (fun y => y.name))) l.name k else if !((fstP (x.procs.map (fun y => y.p.name))) l.frm).isSome || !((fstP (x.procs.map (fun y => y.p.name))) l.to_).isSome then 4 else if !(decide (1 ≤ l.delay) && decide (l.delay ≤ 1099511627776)) then 42 else if wgtB x.ver l.weight then 0 else 41) := Lib.hid rfl
  have hb1 := (below_one w (.cells #[.int .i64 x.ver, .slice x.pa x.procs.length x.pc, .slice x.la x.links.length x.lc, .slice x.ea x.events.length x.ec, .map (some mp), .map (some ml)] 68))
  have HB := Lib.hid (hb1.alloc hb1.size (.cells #[.string l.name, .string l.frm, .string l.to_, .int .i64 l.delay, .int .i64 l.weight] 57))
  have HC := Lib.hid (checkName_any (h.ml_.below HB.out) hfit.1 k)
  have HH1 := Lib.hid (has_any (h.mp_.below HB.out) hfit.2.1)
  have HH2 := Lib.hid (has_any (h.mp_.below HB.out) hfit.2.2)
  have HW := Lib.hid (fun W => within_g l.delay 1 1099511627776 W)
  have HG : Hid (∀ W, Calls Try.prog 60 #[wholeVal x mp ml, .int .i64 l.weight] W fun e w' => e = .returned (.bool (wgtB x.ver l.weight)) ∧ Below W.heap.size W w') := Lib.hid (fun W => weighs_any x mp ml l.weight W)
  clear h hb1
  unfold wholeVal ModelV.pv ModelV.lv ModelV.ev at *
  generalize lnE x.ver (fstP (x.procs.map (fun y => y.p.name))) (fstP (x.links.map (fun y => y.name))) k l = r at *
  generalize nmE (fstP (x.links.map (fun y => y.name))) l.name k = c at *
  generalize wgtB x.ver l.weight = b4 at *
  generalize ((fstP (x.procs.map (fun y => y.p.name))) l.frm).isSome = b1 at *
  generalize ((fstP (x.procs.map (fun y => y.p.name))) l.to_).isSome = b2 at *
  generalize (decide (1 ≤ l.delay) && decide (l.delay ≤ 1099511627776)) = b3 at *
  go_enter Try.func41, Try.ntmps41
  by_cases hc : c = 0
  · have hcb : (c != 0) = false := by simpa using hc
    have HA2 := Lib.hid (HA.out.trans (if_neg (by simpa using hc)))
    clear hc HA
    cases b1 with
    | false =>
      have HR : Hid (r = 4) := Lib.hid HA2.out
      go_wp2_with (first
        | (go_at_call 59; refine HC.out.mono ?_; clear HC; rintro e w3 ⟨rfl, rfl⟩)
        | (go_at_call 67; refine HH1.out.mono ?_; clear HH1; rintro e w3 ⟨rfl, rfl⟩))
      go_ret
      exact ⟨by rw [HR.out]; rfl, HB.out⟩
    | true =>
      cases b2 with
      | false =>
        have HR : Hid (r = 4) := Lib.hid HA2.out
        go_wp2_with (first
          | (go_at_call 59; refine HC.out.mono ?_; clear HC; rintro e w3 ⟨rfl, rfl⟩)
          | (go_at_call 67; refine HH1.out.mono ?_; clear HH1; rintro e w3 ⟨rfl, rfl⟩)
          | (go_at_call 67; refine HH2.out.mono ?_; clear HH2; rintro e w3 ⟨rfl, rfl⟩))
        go_ret
        exact ⟨by rw [HR.out]; rfl, HB.out⟩
      | true =>
        cases b3 with
        | false =>
          have HR : Hid (r = 42) := Lib.hid HA2.out
          go_wp2_with (first
            | (go_at_call 59; refine HC.out.mono ?_; clear HC; rintro e w3 ⟨rfl, rfl⟩)
            | (go_at_call 67; refine HH1.out.mono ?_; clear HH1; rintro e w3 ⟨rfl, rfl⟩)
            | (go_at_call 67; refine HH2.out.mono ?_; clear HH2; rintro e w3 ⟨rfl, rfl⟩)
            | (go_at_call 32; refine (HW.out _).mono ?_; clear HW; rintro e w3 ⟨rfl, rfl⟩))
          go_ret
          exact ⟨by rw [HR.out]; rfl, HB.out⟩
        | true =>
          cases b4 with
          | false =>
            have HR : Hid (r = 41) := Lib.hid HA2.out
            go_wp2_with (first
              | (go_at_call 59; refine HC.out.mono ?_; clear HC; rintro e w3 ⟨rfl, rfl⟩)
              | (go_at_call 67; refine HH1.out.mono ?_; clear HH1; rintro e w3 ⟨rfl, rfl⟩)
              | (go_at_call 67; refine HH2.out.mono ?_; clear HH2; rintro e w3 ⟨rfl, rfl⟩)
              | (go_at_call 32; refine (HW.out _).mono ?_; clear HW; rintro e w3 ⟨rfl, rfl⟩)
              | (go_at_call 60; refine (HG.out _).mono ?_; clear HG; rintro e w3 ⟨rfl, hb3⟩; have HB3 := Lib.hid hb3; clear hb3))
            go_ret
            exact ⟨by rw [HR.out]; rfl, HB.out.trans (HB3.out.mono HB.out.size)⟩
          | true =>
            have HR : Hid (r = 0) := Lib.hid HA2.out
            go_wp2_with (first
              | (go_at_call 59; refine HC.out.mono ?_; clear HC; rintro e w3 ⟨rfl, rfl⟩)
              | (go_at_call 67; refine HH1.out.mono ?_; clear HH1; rintro e w3 ⟨rfl, rfl⟩)
              | (go_at_call 67; refine HH2.out.mono ?_; clear HH2; rintro e w3 ⟨rfl, rfl⟩)
              | (go_at_call 32; refine (HW.out _).mono ?_; clear HW; rintro e w3 ⟨rfl, rfl⟩)
              | (go_at_call 60; refine (HG.out _).mono ?_; clear HG; rintro e w3 ⟨rfl, hb3⟩; have HB3 := Lib.hid hb3; clear hb3))
            go_ret
            exact ⟨by rw [HR.out]; rfl, HB.out.trans (HB3.out.mono HB.out.size)⟩
  · have hcb : (c != 0) = true := by simpa using hc
    have HR : Hid (r = c) := Lib.hid (by rw [HA.out, if_pos hc])
    clear hc HA
    go_wp2_with (go_at_call 59; refine HC.out.mono ?_; clear HC; rintro e w3 ⟨rfl, rfl⟩)
    go_ret
    exact ⟨by rw [HR.out]; rfl, HB.out⟩
theorem event_any {w : World} {x : ModelV} {mp ml : Nat} (h : Wh w x mp ml) (k : Int) {v : EventM} (hfit : fitE v) :
    Calls Try.prog 43 #[wholeVal x mp ml, .int .i64 k, .agg #[.string v.to_, .int .i64 v.at_, .int .i64 v.val]] w fun e w' => e = .returned (.int .i64 (evE (fstP (x.procs.map (fun y => y.p.name))) v)) ∧ Below w.heap.size w w' := by
  have HA : Hid (evE (fstP (x.procs.map (fun y => y.p.name))) v = if !((fstP (x.procs.map (fun y => y.p.name))) v.to_).isSome then 4 else if !(decide (0 ≤ v.at_) && decide (v.at_ ≤ 1099511627776)) || !numB v.val then 23 else 0) := Lib.hid rfl
  have hb1 := (below_one w (.cells #[.int .i64 x.ver, .slice x.pa x.procs.length x.pc, .slice x.la x.links.length x.lc, .slice x.ea x.events.length x.ec, .map (some mp), .map (some ml)] 68))
  have HB := Lib.hid (hb1.alloc hb1.size (.cells #[.string v.to_, .int .i64 v.at_, .int .i64 v.val] 60))
  have HH1 := Lib.hid (has_any (h.mp_.below HB.out) hfit)
  have HW := Lib.hid (fun W => within_g v.at_ 0 1099511627776 W)
  have HN := Lib.hid (fun W => isNum_any v.val W)
  clear h hb1
  unfold wholeVal ModelV.pv ModelV.lv ModelV.ev at *
  generalize evE (fstP (x.procs.map (fun y => y.p.name))) v = r at *
  generalize ((fstP (x.procs.map (fun y => y.p.name))) v.to_).isSome = b1 at *
  generalize (decide (0 ≤ v.at_) && decide (v.at_ ≤ 1099511627776)) = b3 at *
  generalize numB v.val = b4 at *
  go_enter Try.func43, Try.ntmps43
  cases b1 <;> cases b3 <;> cases b4 <;>
    (have HR := Lib.hid HA.out
     clear HA
     go_wp2_with (first
       | (go_at_call 67; refine HH1.out.mono ?_; clear HH1; rintro e w3 ⟨rfl, rfl⟩)
       | (go_at_call 32; refine (HW.out _).mono ?_; clear HW; rintro e w3 ⟨rfl, rfl⟩)
       | (go_at_call 68; refine (HN.out _).mono ?_; clear HN; rintro e w3 ⟨rfl, rfl⟩))
     go_ret
     exact ⟨by rw [HR.out]; rfl, HB.out⟩)
end Go.Proofs.Ytgnlehenbdcgmaa.Md
