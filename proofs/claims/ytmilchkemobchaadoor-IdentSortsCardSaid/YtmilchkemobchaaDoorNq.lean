/- The walk of IdentFinds. -/
import Derived.Test.YtmilchkemobchaaDoorNp
set_option linter.unusedVariables false
set_option linter.unusedSectionVars false
set_option linter.unusedSimpArgs false
namespace Go.Proofs.YtmilchkemobchaaDoor
open Go.RowKit Go.Shelf Ss

/-- What is known of a place that was found. -/
theorem find_facts (zs : List ByteArray) (x : ByteArray) : -1 ≤ findI zs x ∧ findI zs x < (zs.length : Int) ∧ (0 ≤ findI zs x → ∃ j : Nat, findI zs x = (j : Int) ∧ j < zs.length ∧ atS zs j = x) ∧ ∀ k, k < zs.length → atS zs k = x → 0 ≤ findI zs x ∧ findI zs x ≤ (k : Int) := by
  rcases find_cases zs x with ⟨hno, hf⟩ | ⟨j, hj, h1, h2, hf⟩
  · rw [hf]
    exact ⟨by omega, by omega, fun h => by omega, fun k hk h => absurd (mem_atS.2 ⟨k, hk, h⟩) hno⟩
  · rw [hf]
    exact ⟨by omega, by omega, fun _ => ⟨j, rfl, hj, h2⟩, fun k hk h => ⟨by omega, by
      by_cases e : k < j
      · exact absurd h (h1 k e)
      · omega⟩⟩
theorem chk_cases (x : ByteArray) : (chkE x = 0 ∧ 1 ≤ x.size ∧ x.size ≤ 64) ∨ chkE x = 40 := by
  cases h : nameB x with
  | true =>
    obtain ⟨k1, k2, _⟩ := chk_size h
    exact .inl ⟨chk_yes h, k1, k2⟩
  | false => exact .inr (chk_no h)
set_option maxRecDepth 100000 in
set_option maxHeartbeats 4000000 in
theorem walk_IdentFinds (a0 : Option Addr) (len0 cap0 : Nat) (z0 : List ByteArray) (a1 : ByteArray) (w : World) (w0 : IsStrs w a0 len0 cap0 z0) (w1 : a1.size ≤ maxLen) :
    Calls Tryd.prog 6 #[.slice a0 len0 cap0, .string a1] w fun e w' => e = .returned (.bool true) ∧ Below w.heap.size w w' := by
  obtain ⟨b, off, zs, hi, hn⟩ := IsStrs.zz w0
  have H0 := Lib.hid hi
  have HN := Lib.hid hn
  obtain rfl := hi.length
  clear w0 w1 hi hn
  go_enter Tryd.func6, Tryd.ntmps6
  go_wp2_with fail
  refine (alive_any _).mono ?_
  rintro e x1 ⟨rfl, hB1⟩
  have HB1 := Lib.hid hB1
  have H1 := Lib.hid (StrsAt.mono (H0.out.kept hB1 (Nat.le_refl _)) hB1.size)
  clear hB1 H0
  by_cases h40 : 40 < zs.length
  · have d1 : decide (40 < (zs.length : Int)) = true := by simp; omega
    go_wp2
    go_ret
    exact ⟨rfl, HB1.out⟩
  have d1 : decide (40 < (zs.length : Int)) = false := by simp; omega
  have CN := Lib.hid (find_any (cap := cap0) H1.out a1)
  obtain ⟨f1, f2, f3, f4⟩ := find_facts zs a1
  have HF := Lib.hid f4
  have CS : Hid (∀ W, Below x1.heap.size x1 W → Calls Tryd.prog 14 #[.slice a0 zs.length cap0] W (fun e w' => e = .returned (.bool (sortedB zs)) ∧ Hid (Below x1.heap.size x1 w'))) := Lib.hid (fun W hW => (sorted_any (cap := cap0) (H1.out.kept hW (Nat.le_refl _))).mono (fun e w' ⟨he, n, hn⟩ => ⟨he, Lib.hid (by rw [hn]; exact below_drewN hW n)⟩))
  have D1 : Hid (sortedB zs = true → _) := Lib.hid (fun h => dist_same (cap := cap0) H1.out HN.out (by omega) (mo := 1000) (by decide) (T := zs) (by unfold takeM; rw [distD_sorted h, if_pos (by decide)]; exact List.take_of_length_le (by show _ ≤ 1000; omega)) H1.out)
  generalize sortedB zs = q at *
  clear f4
  generalize findI zs a1 = fi at *
  have g1 : decide (fi < -1) = false := by simp; omega
  have g2 : decide ((zs.length : Int) ≤ fi) = false := by simp; omega
  by_cases hp : 0 ≤ fi
  · obtain ⟨j, hfj, hj, hat⟩ := f3 hp
    have hfn : fi.toNat = j := by omega
    have c1 := strs_at H1.out j hj
    rw [hat] at c1
    obtain rfl : a0 = some ⟨b, off, none⟩ := H1.out.addr.resolve_left (by omega)
    have g3 : decide ((0 : Int) ≤ fi) = true := by simpa using hp
    have hjl : fi < (zs.length : Int) := f2
    clear f3 f1 f2 hat hfj
    go_wp2_with (go_at_call 16; refine CN.out.mono ?_; clear CN; rintro e w' ⟨rfl, rfl⟩)
    go_loop [38] (fun i => ∃ k : Nat, k ≤ zs.length ∧ i = .int .i64 k) (fun i => zs.length - (intOf i).toNat)
    case atStart => exact ⟨0, Nat.zero_le _, rfl⟩
    case round =>
      obtain ⟨k, hk, rfl⟩ := hrel
      by_cases hlt : k < zs.length
      · have c2 := strs_at H1.out k hlt
        have hki : (k : Int) < (zs.length : Int) := by omega
        have hfk := HF.out k hlt
        have hxs : (atS zs k).size ≤ maxLen := H1.out.fits _ (mem_atS.2 ⟨k, hlt, rfl⟩)
        generalize atS zs k = x at *
        have hx1 : (x.toList == a1.toList) = true → decide (fi < 0) = false ∧ decide ((k : Int) < fi) = false := fun h => by
          have h2 := hfk (toList_inj (by simpa using h))
          exact ⟨by simp <;> omega, by simp <;> omega⟩
        have HX1 := Lib.hid hx1
        have HXs := Lib.hid hxs
        clear hfk hx1 hxs
        cases hxe : (x.toList == a1.toList) with
        | true =>
          obtain ⟨d2, d3⟩ := HX1.out hxe
          rcases chk_cases x with ⟨hc, k1, k2⟩ | hc
          · have CK := Lib.hid (check_lit HXs.out hc x1)
            have d4 : decide ((x.size : Int) < 1) = false := by simp; omega
            have d5 : decide (64 < (x.size : Int)) = false := by simp; omega
            clear hc k1 k2
            go_wp2_with (go_at_call 12; refine CK.out.mono ?_; clear CK; rintro e w' ⟨rfl, rfl⟩)
            go_round
            case rel => exact ⟨k + 1, by omega, by go_num⟩
            case measure => simp [intOf]; omega
          · have CK := Lib.hid (check_lit HXs.out hc x1)
            clear hc
            go_wp2_with (go_at_call 12; refine CK.out.mono ?_; clear CK; rintro e w' ⟨rfl, rfl⟩)
            go_round
            case rel => exact ⟨k + 1, by omega, by go_num⟩
            case measure => simp [intOf]; omega
        | false =>
          rcases chk_cases x with ⟨hc, k1, k2⟩ | hc
          · have CK := Lib.hid (check_lit HXs.out hc x1)
            have d4 : decide ((x.size : Int) < 1) = false := by simp; omega
            have d5 : decide (64 < (x.size : Int)) = false := by simp; omega
            clear hc k1 k2
            go_wp2_with (go_at_call 12; refine CK.out.mono ?_; clear CK; rintro e w' ⟨rfl, rfl⟩)
            go_round
            case rel => exact ⟨k + 1, by omega, by go_num⟩
            case measure => simp [intOf]; omega
          · have CK := Lib.hid (check_lit HXs.out hc x1)
            clear hc
            go_wp2_with (go_at_call 12; refine CK.out.mono ?_; clear CK; rintro e w' ⟨rfl, rfl⟩)
            go_round
            case rel => exact ⟨k + 1, by omega, by go_num⟩
            case measure => simp [intOf]; omega
      · obtain rfl : k = zs.length := by omega
        cases q with
        | false =>
          go_wp2_with (go_at_call 14; refine (CS.out _ (Below.refl _ _)).mono ?_; clear CS; rintro e w3 ⟨rfl, hB3⟩)
          go_ret
          exact ⟨by simp, below_on HB1.out hB3.out⟩
        | true =>
          have D2 := Lib.hid (D1.out rfl)
          clear D1
          go_wp2_with (first
            | (go_at_call 14; refine (CS.out _ (Below.refl _ _)).mono ?_; clear CS; rintro e w3 ⟨rfl, hB3⟩)
            | (go_at_call 19; refine (D2.out _ hB3.out).mono ?_; clear D2; rintro e w4 ⟨ad4, c4, rfl, hB4, hS4⟩)
            | (go_at_call 18; refine (hS4.out _ (Below.refl _ _) _).mono ?_; clear hS4; rintro e w5 ⟨rfl, hB5⟩))
          go_ret
          exact ⟨by simp, below_on HB1.out hB5.out⟩
  · have g3 : decide (0 ≤ fi) = false := by simp; omega
    clear f3 f1 f2
    go_wp2_with (go_at_call 16; refine CN.out.mono ?_; clear CN; rintro e w' ⟨rfl, rfl⟩)
    go_loop [38] (fun i => ∃ k : Nat, k ≤ zs.length ∧ i = .int .i64 k) (fun i => zs.length - (intOf i).toNat)
    case atStart => exact ⟨0, Nat.zero_le _, rfl⟩
    case round =>
      obtain ⟨k, hk, rfl⟩ := hrel
      by_cases hlt : k < zs.length
      · have c2 := strs_at H1.out k hlt
        obtain rfl : a0 = some ⟨b, off, none⟩ := H1.out.addr.resolve_left (by omega)
        have hki : (k : Int) < (zs.length : Int) := by omega
        have hfk := HF.out k hlt
        have hxs : (atS zs k).size ≤ maxLen := H1.out.fits _ (mem_atS.2 ⟨k, hlt, rfl⟩)
        generalize atS zs k = x at *
        have hx1 : (x.toList == a1.toList) = true → decide (fi < 0) = false ∧ decide ((k : Int) < fi) = false := fun h => by
          have h2 := hfk (toList_inj (by simpa using h))
          exact ⟨by simp <;> omega, by simp <;> omega⟩
        have HX1 := Lib.hid hx1
        have HXs := Lib.hid hxs
        clear hfk hx1 hxs
        cases hxe : (x.toList == a1.toList) with
        | true =>
          have h9 := (HX1.out hxe).1
          exact absurd h9 (by simp; omega)
        | false =>
          rcases chk_cases x with ⟨hc, k1, k2⟩ | hc
          · have CK := Lib.hid (check_lit HXs.out hc x1)
            have d4 : decide ((x.size : Int) < 1) = false := by simp; omega
            have d5 : decide (64 < (x.size : Int)) = false := by simp; omega
            clear hc k1 k2
            go_wp2_with (go_at_call 12; refine CK.out.mono ?_; clear CK; rintro e w' ⟨rfl, rfl⟩)
            go_round
            case rel => exact ⟨k + 1, by omega, by go_num⟩
            case measure => simp [intOf]; omega
          · have CK := Lib.hid (check_lit HXs.out hc x1)
            clear hc
            go_wp2_with (go_at_call 12; refine CK.out.mono ?_; clear CK; rintro e w' ⟨rfl, rfl⟩)
            go_round
            case rel => exact ⟨k + 1, by omega, by go_num⟩
            case measure => simp [intOf]; omega
      · obtain rfl : k = zs.length := by omega
        cases q with
        | false =>
          go_wp2_with (go_at_call 14; refine (CS.out _ (Below.refl _ _)).mono ?_; clear CS; rintro e w3 ⟨rfl, hB3⟩)
          go_ret
          exact ⟨by simp, below_on HB1.out hB3.out⟩
        | true =>
          have D2 := Lib.hid (D1.out rfl)
          clear D1
          go_wp2_with (first
            | (go_at_call 14; refine (CS.out _ (Below.refl _ _)).mono ?_; clear CS; rintro e w3 ⟨rfl, hB3⟩)
            | (go_at_call 19; refine (D2.out _ hB3.out).mono ?_; clear D2; rintro e w4 ⟨ad4, c4, rfl, hB4, hS4⟩)
            | (go_at_call 18; refine (hS4.out _ (Below.refl _ _) _).mono ?_; clear hS4; rintro e w5 ⟨rfl, hB5⟩))
          go_ret
          exact ⟨by simp, below_on HB1.out hB5.out⟩
end Go.Proofs.YtmilchkemobchaaDoor
