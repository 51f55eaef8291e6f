/- Contracts: piece (strings.Clone); number; first. -/
import Derived.Test.YtdobpgakmonnbaaDoorToE
import Derived.Test.YtdobpgakmonnbaaDoorShl
import Derived.Test.YtdobpgakmonnbaaDoorHp
import Derived.Deep.Cut
import Derived.Deep.CutBlock
import Derived.Laws.ResultCell
import Derived.Lib.AtoiErrMem
set_option linter.unusedVariables false
set_option linter.unusedSectionVars false
set_option linter.unusedSimpArgs false
namespace Go.Proofs.YtdobpgakmonnbaaDoor.Tok
open Go.RowKit

theorem clone_any (s : ByteArray) (hs : s.size ≤ 281474976710656) (w : World) : Calls Tryd.prog 29 #[.string s] w fun e w' => e = .returned (.string s) ∧ Below w.heap.size w w' := by
  have HC := Lib.hid (Tryd.stringslite_Clone s w hs)
  go_enter Tryd.func29, Tryd.ntmps29
  go_wp2_with (go_at_call 38; refine HC.out.mono ?_; clear HC; rintro e w1 ⟨rfl, hb⟩; have HB := Lib.hid hb; clear hb)
  go_ret
  exact ⟨rfl, HB.out⟩
theorem piece_any (s : ByteArray) (hs : s.size ≤ 281474976710656) {n : Nat} (hn : n ≤ s.size) (w : World) : Calls Tryd.prog 24 #[.string s, .int .i64 (n : Int)] w fun e w' => e = .returned (.string (s.extract 0 n)) ∧ Below w.heap.size w w' := by
  have HC := Lib.hid (clone_any (s.extract 0 n) (by rw [ByteArray.size_extract]; omega) w)
  have hn0 : (0 : Int) ≤ (n : Int) := Int.natCast_nonneg n
  have hn1 : (n : Int) ≤ (s.size : Int) := by omega
  go_enter Tryd.func24, Tryd.ntmps24
  go_wp2_with (go_at_call 29; refine HC.out.mono ?_; clear HC; rintro e w1 ⟨rfl, hb⟩; have HB := Lib.hid hb; clear hb)
  go_ret
  exact ⟨rfl, HB.out⟩
theorem within_t (n : Int) (w : World) : Calls Tryd.prog 34 #[.int .i64 n, .int .i64 (-1099511627776), .int .i64 1099511627776] w fun e w' => e = .returned (.bool (decide (-1099511627776 ≤ n ∧ n ≤ 1099511627776))) ∧ w = w' := by
  by_cases h1 : -1099511627776 ≤ n
  · by_cases h2 : n ≤ 1099511627776
    · have H := Lib.hid (decide_eq_true (p := -1099511627776 ≤ n ∧ n ≤ 1099511627776) ⟨h1, h2⟩)
      have h3 : decide (-1099511627776 ≤ n) = true := by simpa using h1
      have h4 : decide (n ≤ 1099511627776) = true := by simpa using h2
      go_enter Tryd.func34, Tryd.ntmps34
      go_wp2
      go_ret
      exact ⟨by first | rfl | (rw [H.out]; rfl), rfl⟩
    · have H := Lib.hid (decide_eq_false (p := -1099511627776 ≤ n ∧ n ≤ 1099511627776) (fun h => h2 h.2))
      have h3 : decide (-1099511627776 ≤ n) = true := by simpa using h1
      have h4 : decide (n ≤ 1099511627776) = false := by simpa using h2
      go_enter Tryd.func34, Tryd.ntmps34
      go_wp2
      go_ret
      exact ⟨by first | rfl | (rw [H.out]; rfl), rfl⟩
  · have H := Lib.hid (decide_eq_false (p := -1099511627776 ≤ n ∧ n ≤ 1099511627776) (fun h => h1 h.1))
    have h3 : decide (-1099511627776 ≤ n) = false := by simpa using h1
    go_enter Tryd.func34, Tryd.ntmps34
    go_wp2
    go_ret
    exact ⟨by first | rfl | (rw [H.out]; rfl), rfl⟩
theorem run_take (p : UInt8 → Bool) : ∀ l : List UInt8, ∀ x ∈ l.take (runL p l), p x = true
  | [], x, h => by simp at h
  | c :: r, x, h => by
    unfold runL at h
    by_cases hc : p c = true
    · rw [if_pos hc, List.take_succ_cons] at h
      rcases List.mem_cons.1 h with rfl | h
      · exact hc
      · exact run_take p r x h
    · rw [if_neg hc] at h
      simp at h
/-- What a variable of the library's package holds: an error, or none. -/
def VarR (w : World) : Prop := ∃ ev, w.cell? ⟨2, 0, none⟩ = some ev ∧ (ev = .nilIface ∨ ∃ te pe, ev = .iface te pe)
theorem VarR.on {w w' : World} (h : VarR w) (h2 : 2 < w.heap.size) (hb : Below w.heap.size w w') : VarR w' := by
  obtain ⟨ev, k, k2⟩ := h
  exact ⟨ev, by rw [hb.cell (p := ⟨2, 0, none⟩) h2]; exact k, k2⟩
/-- ParseInt of what is a numeral: its number, and whatever error. -/
theorem parse_any (s : ByteArray) (hs : s.size ≤ 281474976710656) (hn : Lib.parseIntB 64 s.data.toList ≠ .syntax) (w : World) (hv : VarR w) : Calls Tryd.prog 33 #[.string s, .int .i64 10, .int .i64 64] w fun e w' => ∃ er, e = .returned (.tuple #[.int .i64 (parseN s.data.toList), er]) ∧ Below w.heap.size w w' := by
  rcases h : Lib.parseIntB 64 s.data.toList with v | _ | _
  · refine (Tryd.strconv_ParseInt_10_at64_ok s (by omega) v h w).mono ?_
    rintro e w' ⟨rfl, hw⟩
    refine ⟨_, by unfold parseN; rw [h], ?_⟩
    rcases hw with rfl | ⟨t, rfl⟩
    · exact Below.refl _ _
    · exact Lib.bytesWorld_below _ _ _
  · exact absurd h hn
  · obtain ⟨ev, k1, k2⟩ := hv
    refine (Tryd.strconv_ParseInt_10_at64_range s hs h ev w k1 k2).mono ?_
    rintro e w' ⟨N, rfl, _, _, hb⟩
    exact ⟨_, by unfold parseN; rw [h], hb⟩
theorem trim_list (l : List UInt8) : Lib.trimPrefix l [45] = l.drop (minusL l) := by
  cases l with
  | nil => rfl
  | cons c r =>
    unfold Lib.trimPrefix Lib.hasPrefix minusL
    by_cases h : c = 45
    · subst h; simp [List.isPrefixOf]
    · have h2 : ¬ (45 : UInt8) = c := fun e => h e.symm
      simp [List.isPrefixOf, h, h2]
theorem minusL_le (l : List UInt8) : minusL l ≤ l.length ∧ minusL l ≤ 1 := by
  cases l with
  | nil => exact ⟨by decide, by decide⟩
  | cons c r =>
    have h1 : minusL (c :: r) ≤ 1 := by unfold minusL; split <;> omega
    have h2 : (c :: r).length = r.length + 1 := rfl
    omega
/-- What is left behind a minus. -/
def digsB (s : ByteArray) : ByteArray := ⟨(s.data.toList.drop (minusL s.data.toList)).toArray⟩
theorem digs_list (s : ByteArray) : (digsB s).data.toList = s.data.toList.drop (minusL s.data.toList) := rfl
theorem digs_size (s : ByteArray) : (digsB s).size = s.size - minusL s.data.toList := by
  show ((s.data.toList.drop (minusL s.data.toList)).toArray).size = _
  simp
def wfTok (k at_ : Int) (s : ByteArray) (n : Int) : Value := .agg #[.int .i64 k, .int .i64 at_, .string s, .int .i64 n]
def NumPost (s : ByteArray) (e : Ending) : Prop :=
  match numV s.data.toList with
  | .error x => e = .returned (.tuple #[wfTok 0 0 ⟨#[]⟩ 0, .int .i64 x])
  | .ok t => e = .returned (.tuple #[wfTok 2 0 (s.extract 0 t.len) t.n, .int .i64 0])
/-- What a function with a named token and an error hands out. -/
theorem tok_ret {fn : Func} {p u : Tmp} (h : fn.results = #[.cell p 32, .tmp u]) {W : World} {B : Nat} {k a n e : Int} {t : ByteArray} {tmps : Array Value} (hx : W.heap[B]? = some (.cells #[.int .i64 k, .int .i64 a, .string t, .int .i64 n] 32 (0, 0)))
    (h2 : tmps.getD p undef = .pointer (some ⟨B, 0, none⟩)) (h3 : tmps.getD u undef = .int .i64 e) : (results fn tmps).run Tryd.prog W = .ok (.tuple #[wfTok k a t n, .int .i64 e]) W := by
  have c0 := heap_cell hx (i := 0) rfl
  have c1 := heap_cell hx (i := 1) rfl
  have c2 := heap_cell hx (i := 2) rfl
  have c3 := heap_cell hx (i := 3) rfl
  simp only [List.getElem_toArray, List.getElem_cons_zero, List.getElem_cons_succ] at c0 c1 c2 c3
  rw [results_cell_tmp h, h2, h3]
  unfold wfTok
  go_simp
theorem piece_list (s : ByteArray) {d : ByteArray} {m k : Nat} (hd : digsB s = d) (hm : minusL s.data.toList = m) (h1 : m ≤ 1) : (s.extract 0 (m + k)).data.toList = signed (decide (m = 1)) (d.data.toList.take k) := by
  rw [← hd, digs_list, hm]
  have e : (s.extract 0 (m + k)).data.toList = s.data.toList.take (m + k) := by simp [ByteArray.data_extract]
  rw [e]
  generalize s.data.toList = l at *
  rcases (by omega : m = 0 ∨ m = 1) with rfl | rfl
  · simp [signed]
  · cases l with
    | nil => cases hm
    | cons c r =>
      have hc : c = 45 := by
        unfold minusL at hm
        simp at hm
        exact hm
      subst hc
      show List.take (1 + k) (45 :: r) = 45 :: List.take k r
      rw [Nat.add_comm, List.take_succ_cons]
set_option maxHeartbeats 2000000 in
theorem number_any (s : ByteArray) (hs : s.size ≤ 281474976710656) (w : World) (hv : VarR w) (hw2 : 2 < w.heap.size) : Calls Tryd.prog 27 #[.string s] w fun e w' => NumPost s e ∧ Below w.heap.size w w' := by
  have HT := Lib.hid (Tryd.strings_TrimPrefix s ⟨#[45]⟩)
  have hm := minusL_le s.data.toList
  rw [show s.data.toList.length = s.size by simp] at hm
  have hds := digs_size s
  have HR := Lib.hid (fun w => run_any dgt (gf := 30) digit_any (fun _ _ => rfl) (digsB s) (by rw [hds]; unfold maxLen; omega) w)
  obtain ⟨m, hme⟩ : ∃ m, minusL s.data.toList = m := ⟨_, rfl⟩
  rw [hme] at hm hds
  obtain ⟨d, hde⟩ : ∃ d, digsB s = d := ⟨_, rfl⟩
  have HD : Hid (∀ w, Calls Tryd.prog 32 #[.string s, .string ⟨#[45]⟩] w fun e w' => e = .returned (.string d) ∧ w' = w) := Lib.hid (fun w => by
    have h := HT.out w
    rw [show (⟨#[45]⟩ : ByteArray).data.toList = [45] from rfl, trim_list] at h
    rw [← hde]
    exact h)
  rw [hde] at hds HR
  obtain ⟨k, hk⟩ : ∃ k, runL dgt d.data.toList = k := ⟨_, rfl⟩
  have hkl := runL_le dgt d.data.toList
  rw [show d.data.toList.length = d.size by simp] at hkl
  rw [hk] at HR hkl
  have hnv : numV s.data.toList = if k = 0 ∨ (d.data.toList.head? = some 48 ∧ 1 < m + k) ∨ nextL d.data.toList k = true then .error 21 else if 1099511627776 < dv (d.data.toList.take k) then .error 23 else .ok ⟨2, m + k, if m = 1 then - (dv (d.data.toList.take k) : Int) else (dv (d.data.toList.take k) : Int)⟩ := by
    rw [← hk, ← hde, digs_list]
    unfold numV
    simp only [hme]
  have HNv := Lib.hid hnv
  have HHk := Lib.hid hk
  have HHd := Lib.hid hde
  have HHm := Lib.hid hme
  have hsub : IntKind.i64.wrap ((s.size : Int) - (d.size : Int)) = (m : Int) := by rw [hds]; rw [IntWalk.i64_in _ (by omega)]; omega
  have HDs := Lib.hid hds
  clear HT hk hde hme hds hnv
  go_enter Tryd.func27, Tryd.ntmps27
  go_upto_region 3 with (go_at_call 32; refine (HD.out _).mono ?_; clear HD; rintro e w1 ⟨rfl, rfl⟩)
  go_upto_region 4 with (go_at_call 21; refine (HR.out _).mono ?_; clear HR; rintro e w1 ⟨rfl, rfl⟩)
  have HX := Lib.hid (heap_new (w := w) (.cells #[.int .i64 0, .int .i64 0, .string ⟨#[]⟩, .int .i64 0] 32) rfl)
  have HA : Hid (Below w.heap.size w (w.alloc (.cells #[.int .i64 0, .int .i64 0, .string ⟨#[]⟩, .int .i64 0] 32))) := Lib.hid ((Below.refl _ w).alloc (Nat.le_refl _) _)
  have HBad : Hid ((k = 0 ∨ (d.data.toList.head? = some 48 ∧ 1 < m + k) ∨ nextL d.data.toList k = true) → numV s.data.toList = .error 21) := Lib.hid (fun h => by rw [HNv.out, if_pos h])
  by_cases h0 : k = 0
  · have HE := Lib.hid (HBad.out (.inl h0))
    subst h0
    clear HBad HNv
    go_wp2
    refine bodyPost_ret (tok_ret rfl HX.out rfl rfl) rfl ?_
    exact ⟨by unfold NumPost; rw [HE.out], HA.out⟩
  · have hk0 : ((k : Int) == 0) = false := by simpa using h0
    have hd0 : 0 < d.size := by omega
    have hd0' : (0 : Int) < (d.size : Int) := by omega
    have hkd : (k : Int) ≤ (d.size : Int) := by omega
    have hh : d.data.toList.head? = some d[0] := by rw [List.head?_eq_getElem?]; exact get_list d hd0
    have hwmk : IntKind.i64.wrap ((m : Int) + (k : Int)) = (m : Int) + (k : Int) := IntWalk.i64_in _ (by have := HDs.out; omega)
    have hb48 : (((d[0].toNat : Nat) : Int) == 48) = decide (d.data.toList.head? = some 48) := by
      rw [hh, Bool.eq_iff_iff]
      simp
      constructor
      · intro h; exact UInt8.toNat_inj.1 (by rw [show (48 : UInt8).toNat = 48 by decide]; omega)
      · intro h; rw [h]; rfl
    obtain ⟨rB, hrB⟩ : ∃ r, decide (d.data.toList.head? = some 48 ∧ 1 < m + k) = r := ⟨_, rfl⟩
    have HrB := Lib.hid hrB
    clear hrB hh
    go_upto_region 5 with fail
    go_cut [19] from 22 to 30 (fun s19 wx => s19 = .bool rB ∧ wx = w.alloc (.cells #[.int .i64 0, .int .i64 0, .string ⟨#[]⟩, .int .i64 0] 32))
    case first =>
      by_cases h48 : d.data.toList.head? = some 48
      · have g1 : (((d[0].toNat : Nat) : Int) == 48) = true := by rw [hb48]; simpa using h48
        by_cases h1 : 1 < m + k
        · have g2 : decide ((1 : Int) < (m : Int) + (k : Int)) = true := by simp; omega
          have hr : rB = true := by rw [← HrB.out]; exact decide_eq_true ⟨h48, h1⟩
          clear hb48
          go_wp2
          go_meet
          exact ⟨by rw [hr], rfl⟩
        · have g2 : decide ((1 : Int) < (m : Int) + (k : Int)) = false := by simp; omega
          have hr : rB = false := by rw [← HrB.out]; exact decide_eq_false (fun h => h1 h.2)
          clear hb48
          go_wp2
          go_meet
          exact ⟨by rw [hr], rfl⟩
      · have g1 : (((d[0].toNat : Nat) : Int) == 48) = false := by rw [hb48]; simpa using h48
        have hr : rB = false := by rw [← HrB.out]; exact decide_eq_false (fun h => h48 h.1)
        clear hb48
        go_wp2
        go_meet
        exact ⟨by rw [hr], rfl⟩
    case rest =>
      obtain ⟨rfl, rfl⟩ := hcut
      clear hb48
      cases hB : rB with
      | true =>
        rw [hB] at HrB
        have HE := Lib.hid (HBad.out (.inr (.inl (of_decide_eq_true HrB.out))))
        clear HBad HNv
        go_wp2
        refine bodyPost_ret (tok_ret rfl HX.out rfl rfl) rfl ?_
        exact ⟨by unfold NumPost; rw [HE.out], HA.out⟩
      | false =>
        rw [hB] at HrB
        obtain ⟨rC, hrC⟩ : ∃ r, nextL d.data.toList k = r := ⟨_, rfl⟩
        have HrC := Lib.hid hrC
        have hki0 : (0 : Int) ≤ (k : Int) := Int.natCast_nonneg k
        clear hrC
        go_upto_region 6 with fail
        go_cut [19] from 31 to 40 (fun s19 wx => s19 = .bool rC ∧ wx = w.alloc (.cells #[.int .i64 0, .int .i64 0, .string ⟨#[]⟩, .int .i64 0] 32))
        case first =>
          by_cases hlt : k < d.size
          · have hki : (k : Int) < (d.size : Int) := by omega
            have hlt2 : decide ((k : Int) < (d.size : Int)) = true := by simp; omega
            have hr : rC = ltr d[k] := by rw [← HrC.out]; unfold nextL; rw [get_list d hlt]
            have HL := Lib.hid (letter_any d[k] (w.alloc (.cells #[.int .i64 0, .int .i64 0, .string ⟨#[]⟩, .int .i64 0] 32)))
            clear HBad HNv
            go_wp2_with (go_at_call 23; refine HL.out.mono ?_; clear HL; rintro e w2 ⟨rfl, rfl⟩)
            go_meet
            exact ⟨by rw [hr], rfl⟩
          · have hlt2 : decide ((k : Int) < (d.size : Int)) = false := by simp; omega
            have hr : rC = false := by
              rw [← HrC.out]
              unfold nextL
              rw [List.getElem?_eq_none (by simp; omega)]
            clear HBad HNv
            go_wp2
            go_meet
            exact ⟨by rw [hr], rfl⟩
        case rest =>
          obtain ⟨rfl, rfl⟩ := hcut
          cases hC : rC with
          | true =>
            rw [hC] at HrC
            have HE := Lib.hid (HBad.out (.inr (.inr HrC.out)))
            clear HBad HNv
            go_wp2
            refine bodyPost_ret (tok_ret rfl HX.out rfl rfl) rfl ?_
            exact ⟨by unfold NumPost; rw [HE.out], HA.out⟩
          | false =>
            rw [hC] at HrC
            have hneg : ¬ (k = 0 ∨ (d.data.toList.head? = some 48 ∧ 1 < m + k) ∨ nextL d.data.toList k = true) := by
              rintro (h | h | h)
              · exact h0 h
              · exact (of_decide_eq_false HrB.out) h
              · rw [HrC.out] at h; cases h
            have HNu : Hid (numV s.data.toList = if 1099511627776 < dv (d.data.toList.take k) then .error 23 else .ok ⟨2, m + k, if m = 1 then - (dv (d.data.toList.take k) : Int) else (dv (d.data.toList.take k) : Int)⟩) := Lib.hid (by rw [HNv.out, if_neg hneg])
            have hmk : m + k ≤ s.size := by have := HDs.out; omega
            have hpl : (s.extract 0 (m + k)).data.toList = signed (decide (m = 1)) (d.data.toList.take k) := piece_list s HHd.out HHm.out hm.2
            have hds : d.data.toList.take k ≠ [] := fun e => by
              have h1 : (d.data.toList.take k).length = 0 := by rw [e]; rfl
              have h2 : d.data.toList.length = d.size := by simp
              rw [List.length_take, h2] at h1
              exact h0 (by omega)
            have hdd : ∀ x ∈ d.data.toList.take k, dgt x = true := by rw [← HHk.out]; exact run_take dgt _
            obtain ⟨n1, n2, n3⟩ := num_parse (decide (m = 1)) hds hdd
            have hvw := hv.on hw2 HA.out
            have HP := Lib.hid (piece_any s hs hmk (w.alloc (.cells #[.int .i64 0, .int .i64 0, .string ⟨#[]⟩, .int .i64 0] 32)))
            rw [show ((m + k : Nat) : Int) = (m : Int) + (k : Int) by omega] at HP
            have hpz : (s.extract 0 (m + k)).size ≤ 281474976710656 := by rw [ByteArray.size_extract]; omega
            have HPI := Lib.hid (fun W => parse_any (s.extract 0 (m + k)) hpz (by rw [hpl]; exact n1) W)
            rw [hpl] at HPI
            have HN2 := Lib.hid n2
            have HN3 := Lib.hid n3
            have HVw := Lib.hid hvw
            clear HBad HNv hneg hpl hds hdd n1 n2 n3 hvw hv
            obtain ⟨pn, hpn⟩ : ∃ x, parseN (signed (decide (m = 1)) (d.data.toList.take k)) = x := ⟨_, rfl⟩
            rw [hpn] at HPI HN2
            obtain ⟨pc, hpc⟩ : ∃ x, s.extract 0 (m + k) = x := ⟨_, rfl⟩
            rw [hpc] at HP HPI hpz
            have HPc := Lib.hid hpc
            clear hpc
            go_wp2_with fail
            refine HP.out.mono ?_
            rintro e w2 ⟨rfl, hb⟩
            have hx2 := heap_below HX.out hb (by simp)
            have hb2 := HA.out.trans (hb.mono HA.out.size)
            have hv2 := HVw.out.on (by have := HA.out.size; omega) hb
            have HX2 := Lib.hid hx2
            have HB2 := Lib.hid hb2
            have HPI2 := Lib.hid (HPI.out w2 hv2)
            clear hb hx2 hb2 hv2 HPI HP HX HA HVw
            go_wp2_with fail
            refine HPI2.out.mono ?_
            rintro e w3 ⟨er, rfl, hb⟩
            have hx3 := heap_below HX2.out hb (heap_lt HX2.out)
            have hb3 := HB2.out.trans (hb.mono HB2.out.size)
            have HX3 := Lib.hid hx3
            have HB3 := Lib.hid hb3
            have HWi := Lib.hid (within_t pn w3)
            have c0 := heap_cell hx3 (i := 0) rfl
            have c1 := heap_cell hx3 (i := 1) rfl
            have c2 := heap_cell hx3 (i := 2) rfl
            have c3 := heap_cell hx3 (i := 3) rfl
            simp only [List.getElem_toArray, List.getElem_cons_zero, List.getElem_cons_succ] at c0 c1 c2 c3
            have f0 := heap_frozen hx3 0
            have f1 := heap_frozen hx3 1
            have f2 := heap_frozen hx3 2
            have f3 := heap_frozen hx3 3
            clear hb hx3 hb3 HPI2 HX2 HB2
            by_cases hin : -1099511627776 ≤ pn ∧ pn ≤ 1099511627776
            · rw [decide_eq_true hin] at HWi
              have hle := HN2.out.1 hin
              have hpv := HN3.out hle
              have hpe : pn = if decide (m = 1) = true then - (dv (d.data.toList.take k) : Int) else (dv (d.data.toList.take k) : Int) := by
                rw [← hpn]; unfold parseN; rw [hpv]
              have HE : Hid (numV s.data.toList = .ok ⟨2, m + k, pn⟩) := Lib.hid (by
                rw [HNu.out, if_neg (by omega), hpe]
                by_cases hm1 : m = 1 <;> simp [hm1])
              clear hin hle hpv hpe hpn
              go_wp2_with (go_at_call 34; refine HWi.out.mono ?_; rintro e w4 ⟨rfl, rfl⟩)
              have hx4 := heap_set (heap_set (heap_set (heap_set HX3.out 0 (.int .i64 2)) 1 (.int .i64 0)) 2 (.string pc)) 3 (.int .i64 pn)
              refine bodyPost_ret (tok_ret rfl hx4 rfl rfl) rfl ?_
              exact ⟨by unfold NumPost; rw [HE.out]; show Ending.returned _ = Ending.returned (.tuple #[wfTok 2 0 (s.extract 0 (m + k)) pn, .int .i64 0]); rw [HPc.out], (((HB3.out.setCell (p := ⟨w.heap.size, 0, none⟩) (Nat.le_refl _) _).setCell (p := ⟨w.heap.size, 1, none⟩) (Nat.le_refl _) _).setCell (p := ⟨w.heap.size, 2, none⟩) (Nat.le_refl _) _).setCell (p := ⟨w.heap.size, 3, none⟩) (Nat.le_refl _) _⟩
            · rw [decide_eq_false hin] at HWi
              have HE : Hid (numV s.data.toList = .error 23) := Lib.hid (by
                rw [HNu.out, if_pos]
                exact Nat.lt_of_not_le (fun h => hin (HN2.out.2 h)))
              clear hin
              go_wp2_with (go_at_call 34; refine HWi.out.mono ?_; rintro e w4 ⟨rfl, rfl⟩)
              have hx4 := heap_set (heap_set (heap_set (heap_set HX3.out 0 (.int .i64 0)) 1 (.int .i64 0)) 2 (.string ⟨#[]⟩)) 3 (.int .i64 0)
              refine bodyPost_ret (tok_ret rfl hx4 rfl rfl) rfl ?_
              exact ⟨by unfold NumPost; rw [HE.out], (((HB3.out.setCell (p := ⟨w.heap.size, 0, none⟩) (Nat.le_refl _) _).setCell (p := ⟨w.heap.size, 1, none⟩) (Nat.le_refl _) _).setCell (p := ⟨w.heap.size, 2, none⟩) (Nat.le_refl _) _).setCell (p := ⟨w.heap.size, 3, none⟩) (Nat.le_refl _) _⟩
end Go.Proofs.YtdobpgakmonnbaaDoor.Tok
