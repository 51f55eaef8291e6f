/- What is wrong with names, variables, steps: plain, and as contracts. -/
import Derived.Test.YtjcmeacgfflfmaaGreatMdC
import Derived.Test.YtjcmeacgfflfmaaGreatIc
import Derived.BigQuiet
import Derived.Deep.RegionWith
set_option linter.unusedVariables false
set_option linter.unusedSectionVars false
set_option linter.unusedSimpArgs false
namespace Go.Proofs.YtjcmeacgfflfmaaGreat.Md
open Go.RowKit

theorem within_g (n lo hi : Int) (w : World) : Calls Tryz.prog 56 #[.int .i64 n, .int .i64 lo, .int .i64 hi] w fun e w' => e = .returned (.bool (decide (lo ≤ n) && decide (n ≤ hi))) ∧ w' = w := by
  cases h1 : decide (lo ≤ n) with
  | true =>
    cases h2 : decide (n ≤ hi) with
    | true =>
      go_enter Tryz.func56, Tryz.ntmps56
      go_wp2
      go_ret
      exact ⟨rfl, rfl⟩
    | false =>
      go_enter Tryz.func56, Tryz.ntmps56
      go_wp2
      go_ret
      exact ⟨rfl, rfl⟩
  | false =>
    go_enter Tryz.func56, Tryz.ntmps56
    go_wp2
    go_ret
    exact ⟨rfl, rfl⟩
/-- May a number be? -/
def numB (n : Int) : Bool := decide (-1099511627776 ≤ n) && decide (n ≤ 1099511627776)
theorem isNum_any (n : Int) (w : World) : Calls Tryz.prog 106 #[.int .i64 n] w fun e w' => e = .returned (.bool (numB n)) ∧ w' = w := by
  have HW := Lib.hid (within_g n (-1099511627776) 1099511627776 w)
  go_enter Tryz.func106, Tryz.ntmps106
  go_wp2_with (go_at_call 56; refine HW.out.mono ?_; rintro e w' ⟨rfl, rfl⟩)
  go_ret
  exact ⟨rfl, rfl⟩
def PlM (w : World) (b : Nat) (f : ByteArray → Option Nat) : Prop := ∃ n, PlMap w b n f
theorem PlM.below {w w' : World} {b : Nat} {f : ByteArray → Option Nat} (h : PlM w b f) (hb : Below w.heap.size w w') : PlM w' b f := by
  obtain ⟨n, h⟩ := h
  exact ⟨n, MapS.below h hb h.lt⟩
theorem PlM.ok {w : World} {b : Nat} {f : ByteArray → Option Nat} (h : PlM w b f) {x : ByteArray} (hx : x.size ≤ maxLen) : (Instr.lookup 81 (.map (some b)) (.string x) true).run Tryz.prog w = .ok (.tuple #[.int .i64 (((f x).getD 0 : Nat) : Int), .bool (f x).isSome]) w := by
  obtain ⟨n, h⟩ := h
  exact h.look_ok Tryz.underlying81 Tryz.underlying9 Tryz.underlying3 (zeroI _) hx
theorem PlM.at_ {w : World} {b : Nat} {f : ByteArray → Option Nat} (h : PlM w b f) {x : ByteArray} (hx : x.size ≤ maxLen) : (Instr.lookup 81 (.map (some b)) (.string x) false).run Tryz.prog w = .ok (.int .i64 (((f x).getD 0 : Nat) : Int)) w := by
  obtain ⟨n, h⟩ := h
  exact h.look Tryz.underlying81 Tryz.underlying9 Tryz.underlying3 (zeroI _) hx
theorem has_any {w : World} {b : Nat} {f : ByteArray → Option Nat} (h : PlM w b f) {x : ByteArray} (hx : x.size ≤ maxLen) : Calls Tryz.prog 105 #[.map (some b), .string x] w fun e w' => e = .returned (.bool (f x).isSome) ∧ w' = w := by
  have HL := Lib.hid (h.ok hx)
  clear h
  generalize (f x).isSome = v at *
  generalize (((f x).getD 0 : Nat) : Int) = u at *
  go_enter Tryz.func105, Tryz.ntmps105
  go_wp2_with (at_lookup; refine wpList_lookS rfl _ _ _ true rfl _ _ _ rfl rfl HL.out ?_)
  go_ret
  exact ⟨rfl, rfl⟩
/-- What is wrong with a name at a place. -/
def nmE (f : ByteArray → Option Nat) (x : ByteArray) (k : Nat) : Int := if Ic.chkE x ≠ 0 then Ic.chkE x else if (f x).getD 0 < k then 5 else 0
theorem checkName_any {w : World} {b : Nat} {f : ByteArray → Option Nat} (h : PlM w b f) {x : ByteArray} (hx : x.size ≤ maxLen) (k : Nat) : Calls Tryz.prog 96 #[.string x, .int .i64 (k : Int), .map (some b)] w fun e w' => e = .returned (.int .i64 (nmE f x k)) ∧ w' = w := by
  have HL := Lib.hid (h.at_ hx)
  have HC := Lib.hid (Ic.check_any x hx w)
  have HE : Hid (nmE f x k = if Ic.chkE x ≠ 0 then Ic.chkE x else if (f x).getD 0 < k then 5 else 0) := Lib.hid rfl
  clear h
  generalize nmE f x k = r at *
  generalize Ic.chkE x = c at *
  generalize (f x).getD 0 = u at *
  by_cases h0 : c = 0
  · subst h0
    by_cases h1 : u < k
    · have g1 : decide ((u : Int) < (k : Int)) = true := by simp; omega
      have HR : Hid (r = 5) := Lib.hid (by rw [HE.out]; simp [h1])
      clear HE
      go_enter Tryz.func96, Tryz.ntmps96
      go_wp2_with (first
        | (go_at_call 132; refine HC.out.mono ?_; clear HC; rintro e w' ⟨rfl, rfl⟩)
        | (at_lookup; refine wpList_lookS rfl _ _ _ false rfl _ _ _ rfl rfl HL.out ?_))
      go_ret
      exact ⟨by rw [HR.out]; rfl, rfl⟩
    · have g1 : decide ((u : Int) < (k : Int)) = false := by simp; omega
      have HR : Hid (r = 0) := Lib.hid (by rw [HE.out]; simp [h1])
      clear HE
      go_enter Tryz.func96, Tryz.ntmps96
      go_wp2_with (first
        | (go_at_call 132; refine HC.out.mono ?_; clear HC; rintro e w' ⟨rfl, rfl⟩)
        | (at_lookup; refine wpList_lookS rfl _ _ _ false rfl _ _ _ rfl rfl HL.out ?_))
      go_ret
      exact ⟨by rw [HR.out]; rfl, rfl⟩
  · have g1 : (c != 0) = true := by simpa using h0
    have HR : Hid (r = c) := Lib.hid (by rw [HE.out, if_pos h0])
    clear HE
    go_enter Tryz.func96, Tryz.ntmps96
    go_wp2_with (go_at_call 132; refine HC.out.mono ?_; clear HC; rintro e w' ⟨rfl, rfl⟩)
    go_ret
    exact ⟨by rw [HR.out]; rfl, rfl⟩
def wholeVal (x : ModelV) (mp ml : Nat) : Value := .agg #[.int .i64 x.ver, x.pv, x.lv, x.ev, .map (some mp), .map (some ml)]
def innerVal (x : ModelV) (mp ml : Nat) (nm : ByteArray) (mv : Nat) : Value := .agg #[.int .i64 x.ver, x.pv, x.lv, x.ev, .map (some mp), .map (some ml), .string nm, .map (some mv)]
theorem below_one (w : World) (o : Obj) : Below w.heap.size w (w.alloc o) := (Below.refl _ w).alloc (Nat.le_refl _) o
/-- May a weight be? -/
def wgtB (ver n : Int) : Bool := (decide (1 ≤ n) && decide (n ≤ 1048576)) || ((n == 0) && decide (ver < 3))
theorem weighs_any (x : ModelV) (mp ml : Nat) (n : Int) (w : World) : Calls Tryz.prog 97 #[wholeVal x mp ml, .int .i64 n] w fun e w' => e = .returned (.bool (wgtB x.ver n)) ∧ Below w.heap.size w w' := by
  unfold wholeVal ModelV.pv ModelV.lv ModelV.ev
  obtain ⟨ver, hver⟩ : ∃ v, x.ver = v := ⟨_, rfl⟩
  rw [hver]
  have HB := Lib.hid (below_one w (.cells #[.int .i64 ver, .slice x.pa x.procs.length x.pc, .slice x.la x.links.length x.lc, .slice x.ea x.events.length x.ec, .map (some mp), .map (some ml)] 101))
  have HW := Lib.hid (within_g n 1 1048576 (w.alloc (.cells #[.int .i64 ver, .slice x.pa x.procs.length x.pc, .slice x.la x.links.length x.lc, .slice x.ea x.events.length x.ec, .map (some mp), .map (some ml)] 101)))
  have HR : Hid (wgtB ver n = ((decide (1 ≤ n) && decide (n ≤ 1048576)) || ((n == 0) && decide (ver < 3)))) := Lib.hid rfl
  generalize (decide (1 ≤ n) && decide (n ≤ 1048576)) = b1 at *
  obtain ⟨b2, h2⟩ : ∃ b, (n == 0) = b := ⟨_, rfl⟩
  obtain ⟨b3, h3⟩ : ∃ b, decide (ver < 3) = b := ⟨_, rfl⟩
  rw [h2, h3] at HR
  clear hver
  cases b1 <;> cases b2 <;> cases b3 <;>
    (go_enter Tryz.func97, Tryz.ntmps97
     go_wp2_with (go_at_call 56; refine HW.out.mono ?_; rintro e w' ⟨rfl, rfl⟩)
     go_ret
     exact ⟨by rw [HR.out]; rfl, HB.out⟩)
/-- Is there something of that name? -/
def thereE (f : ByteArray → Option Nat) (x : ByteArray) : Int := if (f x).isSome then 0 else 4
theorem there_any (x : ModelV) (mp ml : Nat) (nm : ByteArray) {w : World} {mv : Nat} {f : ByteArray → Option Nat} (h : PlM w mv f) {y : ByteArray} (hy : y.size ≤ maxLen) :
    Calls Tryz.prog 153 #[innerVal x mp ml nm mv, .string y] w fun e w' => e = .returned (.int .i64 (thereE f y)) ∧ Below w.heap.size w w' := by
  unfold innerVal ModelV.pv ModelV.lv ModelV.ev
  have HB := Lib.hid (below_one w (.cells #[.int .i64 x.ver, .slice x.pa x.procs.length x.pc, .slice x.la x.links.length x.lc, .slice x.ea x.events.length x.ec, .map (some mp), .map (some ml), .string nm, .map (some mv)] 145))
  have HH := Lib.hid (has_any (h.below HB.out) hy)
  have HR : Hid (thereE f y = if (f y).isSome then 0 else 4) := Lib.hid rfl
  generalize thereE f y = r at *
  clear h
  cases hs : (f y).isSome with
  | true =>
    rw [hs] at HH HR
    go_enter Tryz.func153, Tryz.ntmps153
    go_wp2_with (go_at_call 105; refine HH.out.mono ?_; rintro e w' ⟨rfl, rfl⟩)
    go_ret
    exact ⟨by rw [HR.out]; rfl, HB.out⟩
  | false =>
    rw [hs] at HH HR
    go_enter Tryz.func153, Tryz.ntmps153
    go_wp2_with (go_at_call 105; refine HH.out.mono ?_; rintro e w' ⟨rfl, rfl⟩)
    go_ret
    exact ⟨by rw [HR.out]; rfl, HB.out⟩
/-- What is wrong with an argument. -/
def argE (f : ByteArray → Option Nat) (s : StepM) : Int :=
  if (s.ak == 0) && !numB s.an then 23 else if (s.ak != 0) && (s.an != 0) then 21 else if s.ak == 1 then thereE f s.aname else if !s.aname.toList.isEmpty then 21 else 0
theorem arg_any (x : ModelV) (mp ml : Nat) (nm : ByteArray) {w : World} {mv : Nat} {f : ByteArray → Option Nat} (h : PlM w mv f) {s : StepM} (hy : s.aname.size ≤ maxLen) :
    Calls Tryz.prog 134 #[innerVal x mp ml nm mv, .agg #[.int .i64 s.ak, .int .i64 s.an, .string s.aname]] w fun e w' => e = .returned (.int .i64 (argE f s)) ∧ Below w.heap.size w w' := by
  have HA : Hid (argE f s = if (s.ak == 0) && !numB s.an then 23 else if (s.ak != 0) && (s.an != 0) then 21 else if s.ak == 1 then thereE f s.aname else if !s.aname.toList.isEmpty then 21 else 0) := Lib.hid rfl
  obtain ⟨ak, hak⟩ : ∃ v, s.ak = v := ⟨_, rfl⟩
  obtain ⟨an, han⟩ : ∃ v, s.an = v := ⟨_, rfl⟩
  obtain ⟨y, hye⟩ : ∃ v, s.aname = v := ⟨_, rfl⟩
  generalize argE f s = r at *
  rw [hye] at hy
  rw [hak, han, hye] at HA
  rw [hak, han, hye]
  clear hak han hye
  have hb1 := (below_one w (.cells #[.int .i64 x.ver, .slice x.pa x.procs.length x.pc, .slice x.la x.links.length x.lc, .slice x.ea x.events.length x.ec, .map (some mp), .map (some ml), .string nm, .map (some mv)] 145))
  have HB := Lib.hid (hb1.alloc hb1.size (.cells #[.int .i64 ak, .int .i64 an, .string y] 36))
  have HN := Lib.hid (fun W => isNum_any an W)
  have HT : Hid (∀ W, Below w.heap.size w W → Calls Tryz.prog 153 #[innerVal x mp ml nm mv, .string y] W fun e w' => e = .returned (.int .i64 (thereE f y)) ∧ Below W.heap.size W w') := Lib.hid (fun W hW => there_any x mp ml nm (h.below hW) hy)
  clear h hb1
  unfold innerVal ModelV.pv ModelV.lv ModelV.ev at *
  generalize thereE f y = t at *
  generalize numB an = nb at *
  go_enter Tryz.func134, Tryz.ntmps134
  cases h0 : (ak == 0) with
  | true =>
    have h0n : (ak != 0) = false := by simp at h0 ⊢; exact h0
    have h01 : (ak == 1) = false := by simp at h0 ⊢; omega
    cases nb with
    | false =>
      have HR : Hid (r = 23) := Lib.hid (by rw [HA.out, h0]; rfl)
      go_wp2_with (go_at_call 106; refine (HN.out _).mono ?_; rintro e w' ⟨rfl, rfl⟩)
      go_ret
      exact ⟨by rw [HR.out]; rfl, HB.out⟩
    | true =>
      cases he : y.toList.isEmpty with
      | true =>
        have HR : Hid (r = 0) := Lib.hid (by rw [HA.out, h0, h0n, h01, he]; rfl)
        go_wp2_with (go_at_call 106; refine (HN.out _).mono ?_; rintro e w' ⟨rfl, rfl⟩)
        go_ret
        exact ⟨by rw [HR.out]; rfl, HB.out⟩
      | false =>
        have HR : Hid (r = 21) := Lib.hid (by rw [HA.out, h0, h0n, h01, he]; rfl)
        go_wp2_with (go_at_call 106; refine (HN.out _).mono ?_; rintro e w' ⟨rfl, rfl⟩)
        go_ret
        exact ⟨by rw [HR.out]; rfl, HB.out⟩
  | false =>
    have h0n : (ak != 0) = true := by simp at h0 ⊢; exact h0
    cases h2 : (an != 0) with
    | true =>
      have HR : Hid (r = 21) := Lib.hid (by rw [HA.out, h0, h0n, h2]; rfl)
      go_wp2
      go_ret
      exact ⟨by rw [HR.out]; rfl, HB.out⟩
    | false =>
      cases h01 : (ak == 1) with
      | true =>
        have HR : Hid (r = t) := Lib.hid (by rw [HA.out, h0, h0n, h2, h01]; rfl)
        go_wp2_with fail
        refine (HT.out _ HB.out).mono ?_
        rintro e w3 ⟨rfl, hb3⟩
        have HB3 := Lib.hid (HB.out.trans (hb3.mono HB.out.size))
        clear hb3
        go_wp2
        go_ret
        exact ⟨by rw [HR.out]; rfl, HB3.out⟩
      | false =>
        cases he : y.toList.isEmpty with
        | true =>
          have HR : Hid (r = 0) := Lib.hid (by rw [HA.out, h0, h0n, h2, h01, he]; rfl)
          go_wp2
          go_ret
          exact ⟨by rw [HR.out]; rfl, HB.out⟩
        | false =>
          have HR : Hid (r = 21) := Lib.hid (by rw [HA.out, h0, h0n, h2, h01, he]; rfl)
          go_wp2
          go_ret
          exact ⟨by rw [HR.out]; rfl, HB.out⟩
/-- What is wrong with what a step turns, or sends along. -/
def tgtE (links : List LinkM) (nm : ByteArray) (f : ByteArray → Option Nat) (s : StepM) : Int :=
  if s.kind != 4 then thereE f s.name else match fstP (links.map (·.name)) s.name with
    | none => 4
    | some i => match links[i]? with
      | some l => if l.frm.toList == nm.toList then 0 else 47
      | none => 0
theorem target_any {w : World} {x : ModelV} (hx : ModelAt w.heap.size w x) (mp ml : Nat) (hl : PlM w ml (fstP (x.links.map (·.name)))) (nm : ByteArray) {mv : Nat} {f : ByteArray → Option Nat} (h : PlM w mv f) {s : StepM} (hy : s.name.size ≤ maxLen) :
    Calls Tryz.prog 133 #[innerVal x mp ml nm mv, .agg #[.int .i64 s.kind, .string s.name, .int .i64 s.ak, .int .i64 s.an, .string s.aname]] w fun e w' => e = .returned (.int .i64 (tgtE x.links nm f s)) ∧ Below w.heap.size w w' := by
  have HA : Hid (tgtE x.links nm f s = if s.kind != 4 then thereE f s.name else match fstP (x.links.map (·.name)) s.name with
    | none => 4
    | some i => match x.links[i]? with
      | some l => if l.frm.toList == nm.toList then 0 else 47
      | none => 0) := Lib.hid rfl
  obtain ⟨sk, hsk⟩ : ∃ v, s.kind = v := ⟨_, rfl⟩
  obtain ⟨y, hye⟩ : ∃ v, s.name = v := ⟨_, rfl⟩
  obtain ⟨ak, hak⟩ : ∃ v, s.ak = v := ⟨_, rfl⟩
  obtain ⟨an, han⟩ : ∃ v, s.an = v := ⟨_, rfl⟩
  obtain ⟨ay, hay⟩ : ∃ v, s.aname = v := ⟨_, rfl⟩
  generalize tgtE x.links nm f s = r at *
  rw [hye] at hy
  rw [hsk, hye] at HA
  rw [hsk, hye, hak, han, hay]
  clear hsk hye hak han hay
  have hb1 := (below_one w (.cells #[.int .i64 x.ver, .slice x.pa x.procs.length x.pc, .slice x.la x.links.length x.lc, .slice x.ea x.events.length x.ec, .map (some mp), .map (some ml), .string nm, .map (some mv)] 145))
  have HB := Lib.hid (hb1.alloc hb1.size (.cells #[.int .i64 sk, .string y, .int .i64 ak, .int .i64 an, .string ay] 38))
  have HT : Hid (∀ W, Below w.heap.size w W → Calls Tryz.prog 153 #[innerVal x mp ml nm mv, .string y] W fun e w' => e = .returned (.int .i64 (thereE f y)) ∧ Below W.heap.size W w') := Lib.hid (fun W hW => there_any x mp ml nm (h.below hW) hy)
  have HLk := Lib.hid ((hl.below HB.out).ok hy)
  have HLn := Lib.hid (hx.links.kept HB.out (Nat.le_refl _))
  clear h hb1 hl hx
  unfold innerVal ModelV.pv ModelV.lv ModelV.ev at *
  generalize thereE f y = t at *
  generalize x.la = la at *
  go_enter Tryz.func133, Tryz.ntmps133
  cases h4 : (sk != 4) with
  | true =>
    have HR : Hid (r = t) := Lib.hid (by rw [HA.out, h4]; rfl)
    go_wp2_with fail
    refine (HT.out _ HB.out).mono ?_
    rintro e w3 ⟨rfl, hb3⟩
    have HB3 := Lib.hid (HB.out.trans (hb3.mono HB.out.size))
    clear hb3
    go_wp2
    go_ret
    exact ⟨by rw [HR.out]; rfl, HB3.out⟩
  | false =>
    cases hf : fstP (x.links.map (·.name)) y with
    | none =>
      rw [hf] at HLk HA
      have HLk2 : Hid ((Instr.lookup 81 (.map (some ml)) (.string y) true).run Tryz.prog _ = .ok (.tuple #[.int .i64 0, .bool false]) _) := HLk
      have HR : Hid (r = 4) := Lib.hid (by rw [HA.out, h4]; rfl)
      clear hf HA
      go_wp2_with (at_lookup; refine wpList_lookS rfl _ _ _ true rfl _ _ _ rfl rfl HLk2.out ?_)
      go_ret
      exact ⟨by rw [HR.out]; rfl, HB.out⟩
    | some i =>
      rw [hf] at HLk HA
      have HLk2 : Hid ((Instr.lookup 81 (.map (some ml)) (.string y) true).run Tryz.prog _ = .ok (.tuple #[.int .i64 (i : Int), .bool true]) _) := HLk
      have hil : i < x.links.length := by have := fstP_lt hf; simpa using this
      have hli : x.links[i]? = some x.links[i] := List.getElem?_eq_getElem hil
      have c1 := HLn.out.cell i _ hli 1 _ rfl
      have ha := HLn.out.addr.resolve_left (by omega)
      obtain ⟨l, hl⟩ : ∃ l, x.links[i] = l := ⟨_, rfl⟩
      rw [hl] at hli c1
      have hA1 := HA.out
      rw [h4] at hA1
      simp only [Bool.false_eq_true, if_false] at hA1
      rw [hli] at hA1
      simp only at hA1
      have hi0 : (0 : Int) ≤ (i : Int) := Int.natCast_nonneg i
      have hi1 : (i : Int) < (x.links.length : Int) := by omega
      have HC1 := Lib.hid c1
      subst ha
      clear hf HA HLn hl hli HLk c1 hil
      cases he : (l.frm.toList == nm.toList) with
      | false =>
        have HR : Hid (r = 47) := Lib.hid (by rw [hA1, he]; rfl)
        clear hA1
        go_wp2_with (at_lookup; refine wpList_lookS rfl _ _ _ true rfl _ _ _ rfl rfl HLk2.out ?_)
        have c1 := HC1.out
        go_quiet (fail)
        go_wp2
        go_ret
        exact ⟨by rw [HR.out]; rfl, HB.out.trans ⟨rfl, rfl, rfl, Nat.le_refl _, fun _ _ => rfl⟩⟩
      | true =>
        have HR : Hid (r = 0) := Lib.hid (by rw [hA1, he]; rfl)
        clear hA1
        go_wp2_with (at_lookup; refine wpList_lookS rfl _ _ _ true rfl _ _ _ rfl rfl HLk2.out ?_)
        have c1 := HC1.out
        go_quiet (fail)
        go_wp2
        go_ret
        exact ⟨by rw [HR.out]; rfl, HB.out.trans ⟨rfl, rfl, rfl, Nat.le_refl _, fun _ _ => rfl⟩⟩
/-- The first of two that is one. -/
theorem orE2_any {w : World} {N : Nat} {a b : Int} (h0 : w.cell? ⟨N, 0, none⟩ = some (.int .i64 a)) (h1 : w.cell? ⟨N, 1, none⟩ = some (.int .i64 b)) :
    Calls Tryz.prog 100 #[.slice (some ⟨N, 0, none⟩) 2 2] w fun e w' => e = .returned (.int .i64 (if a = 0 then b else a)) ∧ w' = w := by
  obtain ⟨r, hr⟩ : ∃ r, (if a = 0 then b else a) = r := ⟨_, rfl⟩
  rw [hr]
  have HR := Lib.hid hr
  clear hr
  go_enter Tryz.func100, Tryz.ntmps100
  go_wp2
  go_loop [8] (fun i => ∃ k : Nat, i = .int .i64 (k : Int) ∧ k ≤ 2 ∧ Hid ((1 ≤ k → a = 0) ∧ (2 ≤ k → b = 0))) (fun i => 2 - (intOf i).toNat)
  case atStart => exact ⟨0, rfl, by omega, Lib.hid ⟨by omega, by omega⟩⟩
  case round =>
    obtain ⟨k, rfl, hk, HK⟩ := hrel
    rcases (by omega : k = 0 ∨ k = 1 ∨ k = 2) with rfl | rfl | rfl
    · by_cases ha : a = 0
      · have hab : (a != 0) = false := by simpa using ha
        have HN : Hid ((1 ≤ 1 → a = 0) ∧ (2 ≤ 1 → b = 0)) := Lib.hid ⟨fun _ => ha, by omega⟩
        clear ha
        go_wp2
        go_round
        case rel => exact ⟨1, rfl, by omega, HN⟩
        case measure => simp [intOf]
      · have hab : (a != 0) = true := by simpa using ha
        have HE : Hid (r = a) := Lib.hid (by rw [← HR.out, if_neg ha])
        clear ha
        go_wp2
        go_ret
        exact ⟨by rw [HE.out]; rfl, rfl⟩
    · have ha := HK.out.1 (Nat.le_refl _)
      by_cases hb : b = 0
      · have hab : (b != 0) = false := by simpa using hb
        have HN : Hid ((1 ≤ 2 → a = 0) ∧ (2 ≤ 2 → b = 0)) := Lib.hid ⟨fun _ => ha, fun _ => hb⟩
        clear ha hb
        go_wp2
        go_round
        case rel => exact ⟨2, rfl, by omega, HN⟩
        case measure => simp [intOf]
      · have hab : (b != 0) = true := by simpa using hb
        have HE : Hid (r = b) := Lib.hid (by rw [← HR.out, if_pos ha])
        clear ha hb
        go_wp2
        go_ret
        exact ⟨by rw [HE.out]; rfl, rfl⟩
    · have ha := HK.out.1 (by omega)
      have hb := HK.out.2 (by omega)
      have HE : Hid (r = 0) := Lib.hid (by rw [← HR.out, if_pos ha, hb])
      clear ha hb
      go_wp2
      go_ret
      exact ⟨by rw [HE.out]; rfl, rfl⟩
end Go.Proofs.YtjcmeacgfflfmaaGreat.Md
