/- The walk of SectionSizes: a file's length; each section is found. -/
import Derived.Test.YtnkhpmpoemodiaaSeM
set_option linter.unusedVariables false
set_option linter.unusedSectionVars false
set_option linter.unusedSimpArgs false
namespace Go.Proofs.Ytnkhpmpoemodiaa.Se
open Go.RowKit Go.Shelf

theorem riseG_lt {a : Int} {L : List SecM} (h : riseG a L = true) : ∀ x ∈ L, a < x.tag := by
  induction L generalizing a with
  | nil => intro x hx; cases hx
  | cons y ys ih =>
    simp only [riseG, Bool.and_eq_true, decide_eq_true_eq] at h
    intro x hx
    rcases List.mem_cons.1 hx with rfl | hx
    · exact h.1
    · have := ih h.2 x hx; omega
theorem rise_find {L : List SecM} : ∀ {a : Int} {k : Nat} {x : SecM}, riseG a L = true → L[k]? = some x → L.find? (fun y => y.tag == x.tag) = some x := by
  induction L with
  | nil => intro a k x h hx; simp at hx
  | cons y ys ih =>
    intro a k x h hx
    simp only [riseG, Bool.and_eq_true, decide_eq_true_eq] at h
    cases k with
    | zero =>
      have : y = x := by simpa using hx
      subst this
      rw [List.find?_cons_of_pos (by simp)]
    | succ k =>
      have hx' : ys[k]? = some x := by simpa using hx
      have := riseG_lt h.2 x (List.mem_of_getElem? hx')
      rw [List.find?_cons_of_neg (by simp; omega)]
      exact ih h.2 hx'
def szL (M : List SecM) : Nat := (M.map (fun x => 6 + x.body.length)).sum
theorem putF_small {n : Nat} (h : n < 128) : (putF n).length = 1 := by
  have e : putF n = putL 9 n := rfl
  rw [e, putL_last h]
  rfl
theorem heads_small (M : List SecM) (h : ∀ x ∈ M, x.body.length ≤ 100) : (M.flatMap headI).length + (M.flatMap (·.body)).length = szL M := by
  induction M with
  | nil => rfl
  | cons x xs ih =>
    have hx := h x (by simp)
    have := ih (fun y hy => h y (by simp [hy]))
    have hp := putF_small (n := x.body.length) (by omega)
    simp only [List.flatMap_cons, List.length_append, szL, List.map_cons, List.sum_cons, headI, List.length_cons, fixF_length, hp] at this ⊢
    omega
theorem pack_len (M : List SecM) (h0 : packE M = 0) (hl : M.length ≤ 100) (h : ∀ x ∈ M, x.body.length ≤ 100) : (packI M).length = 9 + szL M := by
  unfold packI
  rw [if_pos h0, sealI_length]
  unfold innerI
  simp only [List.length_append]
  have h1 := heads_small M h
  have h2 := putF_small (n := M.length) (by omega)
  have h3 : signI.length = 4 := rfl
  omega
theorem packE_cases (M : List SecM) (hl : M.length ≤ 255) : packE M = 0 ∧ riseB M = true ∨ packE M = 46 := by
  unfold packE
  rw [if_neg (by omega)]
  cases h : riseB M
  · right; simp
  · left; simp
theorem few_small {M : List SecM} (h : fewB M = true) : (∀ x ∈ M, x.body.length ≤ 100) ∧ M.length ≤ 300 := by
  unfold fewB at h
  simpa [List.all_eq_true] using h
theorem bodies_len (M : List SecM) (h : ∀ x ∈ M, x.body.length ≤ 100) : (M.flatMap (·.body)).length ≤ 100 * M.length := by
  induction M with
  | nil => simp
  | cons x xs ih =>
    have := ih (fun y hy => h y (by simp [hy]))
    have := h x (by simp)
    rw [List.flatMap_cons, List.length_append, List.length_cons]
    omega
/-- A list of sections as it came in. -/
structure In1 (w : World) (a : Option Addr) (len cap : Nat) (L : List SecV) (b off : Nat) : Prop where
  at_ : SecsAt w.heap.size w a b off len cap L
  small : ∀ x ∈ secsM L, x.body.length ≤ 100
  len3 : len ≤ 300
  ml : (secsM L).length = len
  few : ((secsM L).flatMap (·.body)).length ≤ 50000
theorem in1_of {w : World} {a : Option Addr} {len cap b off : Nat} {L : List SecV} (h : SecsAt w.heap.size w a b off len cap L) (hf : fewB (secsM L) = true) : In1 w a len cap L b off := by
  obtain ⟨h1, h2⟩ := few_small hf
  have hl : (secsM L).length = len := by unfold secsM; rw [List.length_map]; exact h.rows.length
  exact ⟨h, h1, by omega, hl, by have := bodies_len _ h1; omega⟩
theorem In1.size {w : World} {a : Option Addr} {len cap b off : Nat} {L : List SecV} (h : In1 w a len cap L b off) : ∀ x ∈ L, x.m.body.length ≤ 60000 := fun x hx => by
  have := h.small x.m (by unfold secsM; exact List.mem_map_of_mem hx)
  omega
theorem In1.on {w w' : World} {a : Option Addr} {len cap b off : Nat} {L : List SecV} (h : In1 w a len cap L b off) (hb : Below w.heap.size w w') : In1 w' a len cap L b off := ⟨h.at_.on hb, h.small, h.len3, h.ml, h.few⟩
set_option maxRecDepth 100000 in
set_option maxHeartbeats 4000000 in
theorem walk_SectionSizes (a : Option Addr) (len cap : Nat) (L : List SecV) (w : World) (hi : IsSecs w a len cap L) :
    Calls Try.prog 10 #[.slice a len cap] w fun e w' => e = .returned (.bool true) ∧ Below w.heap.size w w' := by
  obtain ⟨b, off, hs⟩ := hi
  have HS := Lib.hid hs
  have hsm := hs.rows.small
  unfold maxLen at hsm
  have HAl := Lib.hid (alive_any w)
  clear hs
  go_enter Try.func10, Try.ntmps10
  go_wp2_with fail
  refine HAl.out.mono ?_
  rintro e w1 ⟨rfl, hb1⟩
  have HB1 := Lib.hid hb1
  have HFw := Lib.hid (few_any (HS.out.on hb1))
  obtain ⟨fw, hfw⟩ : ∃ fw, fewB (secsM L) = fw := ⟨_, rfl⟩
  rw [hfw] at HFw
  have HFE := Lib.hid hfw
  clear hb1 HAl hfw
  go_wp2_with fail
  refine HFw.out.mono ?_
  rintro e w2 ⟨rfl, hb2⟩
  have HB2 : Hid (Below w.heap.size w w2) := Lib.hid (HB1.out.trans (hb2.mono HB1.out.size))
  clear hb2 HB1 HFw
  cases fw with
  | false =>
    go_wp2
    go_ret
    exact ⟨rfl, HB2.out⟩
  | true =>
    by_cases h100 : 100 < len
    · have h100i : (100 : Int) < (len : Int) := by omega
      go_wp2
      go_ret
      exact ⟨rfl, HB2.out⟩
    · have h100i : ¬ (100 : Int) < (len : Int) := by omega
      have HIn : Hid (In1 w2 a len cap L b off) := Lib.hid ((in1_of HS.out HFE.out).on HB2.out)
      rcases packE_cases (secsM L) (by have := HIn.out.ml; omega) with ⟨hE, hri⟩ | hE
      · have HPL := Lib.hid (pack_len (secsM L) hE (by rw [HIn.out.ml]; omega) HIn.out.small)
        obtain ⟨N, hN⟩ : ∃ N, (packI (secsM L)).length = N := ⟨_, rfl⟩
        have HPk := Lib.hid (pack_good HIn.out.at_ (by omega) HIn.out.few hE hN)
        rw [hN] at HPL
        have HRi := Lib.hid hri
        clear hE hri hN
        go_wp2_with fail
        refine HPk.out.mono ?_
        rintro e w3 ⟨g3, rfl, HQ3⟩
        have HB3 : Hid (Below w.heap.size w w3) := Lib.hid (HB2.out.trans (HQ3.out.1.mono HB2.out.size))
        have HX : Hid (∀ k, k < len → ∃ x, L[k]? = some x ∧ a = some ⟨b, off, none⟩ ∧ b < w.heap.size ∧ w.cell? ⟨b, off + k * 2, none⟩ = some (.int .u8 x.m.tag) ∧ w.cell? ⟨b, off + k * 2 + 1, none⟩ = some x.bv ∧ fitS x) := Lib.hid (fun k hk => sec_cells HS.out.rows hk)
        clear HPk HQ3
        go_wp2_with fail
        go_loopw [5, 31] (fun n i wr => ∃ (k N : Nat), k ≤ len ∧ i = .int .i64 (k : Int) ∧ n = .int .i64 (N : Int) ∧ Hid (N = 9 + szL ((secsM L).take k)) ∧ N ≤ 9 + 106 * k ∧ Hid (Below w.heap.size w wr)) (fun n i _ => len - (intOf i).toNat)
        case atStart => exact ⟨0, 9, Nat.zero_le _, rfl, rfl, Lib.hid rfl, Nat.le_refl _, HB3⟩
        case round =>
          obtain ⟨k, n, hk, rfl, rfl, HN, hn, HB⟩ := hrel
          have hk0 : (0 : Int) ≤ (k : Int) := Int.natCast_nonneg k
          have hn0 : (0 : Int) ≤ (n : Int) := Int.natCast_nonneg n
          by_cases hk1 : k < len
          · obtain ⟨x, hx, ha, hb, e0, e1, hfx⟩ := HX.out k hk1
            have c0 := (HB.out.cell (p := ⟨b, off + k * 2, none⟩) hb).trans e0
            have c1 := (HB.out.cell (p := ⟨b, off + k * 2 + 1, none⟩) hb).trans e1
            have hmx : (secsM L)[k]? = some x.m := by unfold secsM; rw [List.getElem?_map, hx]; rfl
            have hbl : x.m.body.length ≤ 100 := HIn.out.small x.m (List.mem_of_getElem? hmx)
            have HNx : Hid (n + (6 + x.m.body.length) = 9 + szL ((secsM L).take (k + 1))) := Lib.hid (by
              obtain ⟨g1, g2⟩ := List.getElem?_eq_some_iff.1 hmx
              rw [List.take_succ_eq_append_getElem g1, g2, HN.out]
              unfold szL
              simp
              omega)
            have HFd := Lib.hid (rise_find (a := -1) HRi.out hmx)
            have HXi := Lib.hid (HS.out.inner x (List.mem_of_getElem? hx))
            subst ha
            have hki : (k : Int) < (len : Int) := by omega
            unfold SecV.bv at c1
            obtain ⟨t, ht⟩ : ∃ t, x.m.tag = t := ⟨_, rfl⟩
            obtain ⟨bl, hbl2⟩ : ∃ bl, x.m.body.length = bl := ⟨_, rfl⟩
            rw [ht] at c0 HFd
            rw [hbl2] at c1 hbl HNx
            have HBL := Lib.hid hbl2
            have hbw : Below wr.heap.size wr (wr.alloc (.cells #[.int .u8 t, .slice x.ba bl x.bc] 70)) := (Below.refl _ _).alloc (Nat.le_refl _) _
            have HW : Hid ((wr.alloc (.cells #[.int .u8 t, .slice x.ba bl x.bc] 70)).heap[wr.heap.size]? = some (.cells #[.int .u8 t, .slice x.ba bl x.bc] 70 (0, 0)) ∧ Below w.heap.size w (wr.alloc (.cells #[.int .u8 t, .slice x.ba bl x.bc] 70))) := Lib.hid ⟨heap_new _ rfl, HB.out.trans (hbw.mono HB.out.size)⟩
            have HFi := Lib.hid (find_any (HS.out.on HW.out.2) HIn.out.size t)
            clear e0 e1 hmx hx ht hbl2 hfx hbw
            go_wp2_with fail
            generalize wr.alloc (.cells #[.int .u8 t, .slice x.ba bl x.bc] 70) = w4 at *
            refine HFi.out.mono ?_
            rintro e w5 ⟨a5, b5, c5, body, ok, rfl, HE5, HQ5⟩
            have hE1 : body = x.m.body := HE5.out.1.trans (by rw [HFd.out]; rfl)
            have hE2 : ok = true := HE5.out.2.trans (by rw [HFd.out]; rfl)
            subst hE1 hE2
            have hbx5 := heap_below HW.out.1 HQ5.out.2.2.2 (heap_lt HW.out.1)
            have hlx := heap_lt hbx5
            have d1 := heap_cell hbx5 (i := 1) rfl
            simp only [List.getElem_toArray, List.getElem_cons_zero, List.getElem_cons_succ] at d1
            have HB5 : Hid (Below w.heap.size w w5) := Lib.hid (HW.out.2.trans (HQ5.out.2.2.2.mono HW.out.2.size))
            have HSm := Lib.hid (same_any HQ5.out.1 (HXi.out.row.kept HB5.out (Nat.le_refl _)) c5 x.bc)
            rw [HBL.out, show decide (x.m.body = x.m.body) = true by simp] at HSm
            rw [HBL.out]
            clear HFi HE5 HQ5 hbx5 HW c0 c1
            go_wp2_with fail
            refine HSm.out.mono ?_
            rintro e w6 ⟨rfl, rfl⟩
            clear HSm d1
            go_wp2
            go_roundw
            case rel => exact ⟨k + 1, n + (6 + bl), by omega, by go_num, by go_num, HNx, by omega, HB5⟩
            case measure => simp [intOf]; omega
          · obtain rfl : k = len := by omega
            have hNn : n = N := by
              have h1 := HN.out
              rw [List.take_of_length_le (by rw [HIn.out.ml]; exact Nat.le_refl _)] at h1
              rw [HPL.out]; omega
            subst hNn
            have HTg : Hid (Calls Try.prog 38 #[.slice a k cap, .int .i64 1000] wr fun e w' => ∃ a' c, e = .returned (.slice a' k c) ∧ Below wr.heap.size wr w') := Lib.hid ((ltags_any (HS.out.on HB.out) (by omega) 1000).mono (fun e w' ⟨h1, v, h2, h3⟩ => by
              have hl : (upTo 1000 (tagsI L)).length = k := by
                unfold upTo tagsI
                rw [List.length_take, List.length_map, HS.out.rows.length]
                have : (1000 : Int).toNat = 1000 := rfl
                omega
              obtain ⟨a', c, b', h4, _⟩ := h3.ints (k := .u8) rfl (fun y hy => by
                unfold upTo tagsI at hy
                obtain ⟨x, hx, rfl⟩ := List.mem_map.1 (List.mem_of_mem_take hy)
                exact HS.out.rows.fits x hx)
              subst h4
              rw [hl] at h2
              exact ⟨a', c, h2, h1⟩))
            go_wp2_with fail
            refine HTg.out.mono ?_
            rintro e w6 ⟨a6, c6, rfl, hb6⟩
            have HF : Hid (Below w.heap.size w w6) := Lib.hid (HB.out.trans (hb6.mono HB.out.size))
            clear hb6
            go_wp2
            go_ret
            exact ⟨rfl, HF.out⟩
      · have HPk := Lib.hid (pack_fault HIn.out.at_ (by omega) HIn.out.few hE (by decide))
        clear hE
        go_wp2_with fail
        refine HPk.out.mono ?_
        rintro e w3 ⟨rfl, hb3⟩
        have HF : Hid (Below w.heap.size w w3) := Lib.hid (HB2.out.trans (hb3.mono HB2.out.size))
        clear hb3
        go_wp2
        go_ret
        exact ⟨rfl, HF.out⟩
end Go.Proofs.Ytnkhpmpoemodiaa.Se
