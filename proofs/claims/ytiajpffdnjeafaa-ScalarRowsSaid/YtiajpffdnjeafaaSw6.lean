/- The walk of ScalarRows. -/
import Derived.Test.YtiajpffdnjeafaaSw5
import Derived.Test.YtiajpffdnjeafaaSw2
set_option linter.unusedVariables false
namespace Go.Proofs.Ytiajpffdnjeafaa
open Go.RowKit

def tot : List Int → Int
  | [] => 0
  | n :: l => n + tot l
theorem tot_append (l m : List Int) : tot (l ++ m) = tot l + tot m := by
  induction l with
  | nil => simp [tot]
  | cons n l ih => simp only [List.cons_append, tot, ih]; omega
theorem tot_reverse (l : List Int) : tot l.reverse = tot l := by
  induction l with
  | nil => rfl
  | cons n l ih => rw [List.reverse_cons, tot_append, ih]; simp only [tot]; omega
theorem sumGo_small (l : List Int) (t : Int) (h : ∀ n ∈ l, -1125899906842624 ≤ n ∧ n ≤ 1125899906842624) (hl : l.length ≤ 300 ) (r : Nat) (hr : l.length + r ≤ 300)
    (ht : -(1125899906842624 * (r : Int)) ≤ t ∧ t ≤ 1125899906842624 * (r : Int)) : sumGo l t = some (t + tot l) := by
  induction l generalizing t r with
  | nil => simp [sumGo, tot]
  | cons n l ih =>
    have hn := h n (List.mem_cons_self ..)
    simp only [List.length_cons] at hl hr
    simp only [sumGo]
    rw [if_pos (inR_mk (by omega)), ih (t + n) (fun x hx => h x (List.mem_cons_of_mem _ hx)) (by omega) (r + 1) (by omega) (by omega)]
    simp only [tot, Option.some.injEq]; omega
theorem sum_small (l : List Int) (h : ∀ n ∈ l, -1125899906842624 ≤ n ∧ n ≤ 1125899906842624) (hl : l.length ≤ 300) : sumV l = tot l ∧ sumOk l = true := by
  have := sumGo_small l 0 h hl 0 (by omega) (by omega)
  rw [Int.zero_add] at this
  exact sum_end this
def sm (zs : List Int) : List Int := zs.map fun n => clampV n (-1125899906842624) 1125899906842624
theorem sm_bd {zs : List Int} : ∀ n ∈ sm zs, -1125899906842624 ≤ n ∧ n ≤ 1125899906842624 := by
  intro n hn
  obtain ⟨x, _, rfl⟩ := List.mem_map.1 hn
  exact clamp_bd x (by decide)
theorem tot_bd (l : List Int) (h : ∀ n ∈ l, -1125899906842624 ≤ n ∧ n ≤ 1125899906842624) : -(1125899906842624 * (l.length : Int)) ≤ tot l ∧ tot l ≤ 1125899906842624 * (l.length : Int) := by
  induction l with
  | nil => simp [tot]
  | cons n l ih =>
    have hn := h n (List.mem_cons_self ..)
    have := ih (fun x hx => h x (List.mem_cons_of_mem _ hx))
    simp only [tot, List.length_cons]; omega
theorem sm_length (zs : List Int) : (sm zs).length = zs.length := by unfold sm; simp
theorem sm_getD (zs : List Int) (k : Nat) (h : k < zs.length) : (sm zs).getD k 0 = clampV (zs.getD k 0) (-1125899906842624) 1125899906842624 := by
  unfold sm; simp [List.getD, h]
theorem sm_fits (zs : List Int) : ∀ n ∈ sm zs, (Lit.int .i64 n).wf = true := fun n hn => WalkArith.wf_i64 (by have := sm_bd n hn; omega)
theorem rev_getD (l : List Int) (k : Nat) (h : k < l.length) : l.reverse.getD k 0 = l.getD (l.length - 1 - k) 0 := by
  simp [List.getD, List.getElem?_reverse h]
theorem Try.infoI64 : (Try.prog.info? 2).map (fun i => (i.zero, i.size, i.bytes)) = some (some (.int .i64 0), 1, 8) := by kernel_rfl

theorem sum_smalls {B : Nat} {w : World} {a : Option Addr} {b off len : Nat} {zs : List Int} (h : IntsAt .i64 B w a b off len zs) (hs : ∀ n ∈ zs, -1125899906842624 ≤ n ∧ n ≤ 1125899906842624) (hl : zs.length ≤ 300) (cap : Nat) :
    Calls Try.prog 26 #[.slice a len cap] w fun e w' => e = .returned (.tuple #[.int .i64 (tot zs), .bool true]) ∧ w = w' := by
  have := sum_at h cap
  rwa [(sum_small zs hs hl).1, (sum_small zs hs hl).2] at this
theorem rows_walk (a0 : Option Addr) (len0 cap0 b off : Nat) (zs : List Int) (a1 : Int) (w : World) (H : Hid (IntsAt .i64 w.heap.size w a0 b off len0 zs)) (hm : len0 ≤ 300) (b1 : -9223372036854775808 ≤ a1) (b2 : a1 ≤ 9223372036854775807) :
    Calls Try.prog 10 #[.slice a0 len0 cap0, .int .i64 a1] w fun e w' => e = .returned (.bool true) ∧ Below w.heap.size w w' := by
  obtain ⟨i0, hi, hz0, hz1, hz2⟩ := info_parts Try.infoI64
  have HI := Lib.hid hi
  have HZ0 := Lib.hid hz0
  have HZ1 := Lib.hid hz1
  have HZ2 := Lib.hid hz2
  clear hi hz0 hz1 hz2
  have hn : ¬ 300 < len0 := by omega
  go_enter Try.func10, Try.ntmps10
  go_wp2_with (go_at_call 15; refine (alive_any _).mono ?_; rintro e w' ⟨rfl, hB⟩)
  have hsz := hB.size
  go_loopw [5, 27] (fun v i wr => ∃ k : Nat, k ≤ len0 ∧ i = .int .i64 k ∧ Gath wr (w'.heap.size + 2) 2 1 v k (ivals .i64 ((sm zs).take k)) ∧ Below w.heap.size w wr ∧ w'.heap.size + 2 ≤ wr.heap.size) (fun _ i _ => len0 - (intOf i).toNat)
  case atStart => exact ⟨0, Nat.zero_le _, rfl, .inl ⟨rfl, by simp [ivals], _, rfl⟩, (hB.alloc hB.size _).alloc (by simp; omega) _, by simp⟩
  case round =>
    obtain ⟨k, hk, rfl, hg, hBr, hszr⟩ := hrel
    by_cases hlt : k < len0
    · have HA := H.out.kept hBr (Nat.le_refl _)
      have hcell := HA.cell k hlt
      obtain rfl : a0 = some ⟨b, off, none⟩ := HA.addr.resolve_left (by omega)
      have hl : k < zs.length := by rw [HA.length]; exact hlt
      have HE := Lib.hid (ivals_take .i64 (sm zs) k (by rw [sm_length]; exact hl))
      rw [sm_getD zs k hl] at HE
      clear HA
      generalize zs.getD k 0 = x at *
      clear hl
      go_wp2_with (first
        | (go_at_call 24; refine (clamp_any _ _ _ _).mono ?_; rintro e w' ⟨rfl, rfl⟩)
        | (at_builtin; refine wpList_append_gath _ rfl _ _ 29 rfl (w'.heap.size + 2) 2 i0 (.int .i64 0) 1 8 Try.underlying29 HI.out HZ0.out HZ1.out HZ2.out rfl (by decide) _ _ _ rfl (hg.alloc _) ⟨wr.heap.size, 0, none⟩ 1 1 [.int .i64 (clampV x (-1125899906842624) 1125899906842624)] rfl rfl (cell_one _ _ _) (one_val rfl) (by decide) (by unfold maxLen; omega) (by omega) (by simp; omega) ?_; intro v' w3 hown hbel))
      have HB2 := (hBr.alloc (by omega) (.cells #[.int .i64 (clampV x (-1125899906842624) 1125899906842624)] 2)).trans (hbel.mono (by omega))
      have hz3 := hbel.size
      go_roundw
      case rel => exact ⟨k + 1, by omega, by go_num, .inr (by rw [HE.out]; exact hown), HB2, by simp at hz3; omega⟩
      case measure => simp [intOf]; omega
    · obtain rfl : k = len0 := by omega
      have hlen : zs.length = k := H.out.length
      rw [List.take_of_length_le (by rw [sm_length]; omega)] at hg
      obtain ⟨a5, cap5, b5, rfl, hc1, hc2, hb5, HS⟩ := hg.ints (by rw [sm_length]; exact hlen) (sm_fits zs)
      have HSS := Lib.hid HS
      clear HS hg hb5
      unfold maxLen at hc2
      have HL := Lib.hid hlen
      clear hlen
      go_wp2_with fail
      generalize wr = W2 at *
      go_loopw [6, 9] (fun v i wq => ∃ j : Nat, j ≤ k ∧ i = .int .i64 ((k : Int) - 1 - (j : Int)) ∧ Gath wq W2.heap.size 2 1 v j (ivals .i64 ((sm zs).reverse.take j)) ∧ Below W2.heap.size W2 wq) (fun _ i _ => ((intOf i) + 1).toNat)
      case atStart => exact ⟨0, Nat.zero_le _, by simp, .inl ⟨rfl, by simp [ivals], _, rfl⟩, Below.refl _ _⟩
      case round =>
        obtain ⟨j, hj, rfl, hg, hbq⟩ := hrel
        have hszq := hbq.size
        by_cases hlt : j < k
        · have HA := HSS.out.kept hbq (Nat.le_refl _)
          have hl : j < (sm zs).reverse.length := by rw [List.length_reverse, sm_length, HL.out]; exact hlt
          have HE := Lib.hid (ivals_take .i64 (sm zs).reverse j hl)
          rw [rev_getD _ _ (by simpa using hl), sm_length, HL.out] at HE
          clear hl
          have hcell := HA.cell (k - 1 - j) (by omega)
          obtain rfl : a5 = some ⟨b5, 0, none⟩ := HA.addr.resolve_left (by omega)
          clear HA
          generalize (sm zs).getD (k - 1 - j) 0 = x at *
          obtain ⟨m, hm2⟩ : ∃ m : Nat, m = k - 1 - j := ⟨_, rfl⟩
          rw [← hm2, Nat.zero_add] at hcell
          rw [show (k : Int) - 1 - (j : Int) = (m : Int) from by omega]
          have hmk : m < k := by omega
          have hmj : m + j + 1 ≤ k := by omega
          have hmj2 : k ≤ m + j + 1 := by omega
          clear hm2
          go_wp2_with (at_builtin; (refine wpList_append_gath _ rfl _ _ 29 rfl W2.heap.size 2 i0 (.int .i64 0) 1 8 Try.underlying29 HI.out HZ0.out HZ1.out HZ2.out rfl (by decide) _ _ _ rfl (hg.alloc _) ⟨wr.heap.size, 0, none⟩ 1 1 [.int .i64 x] rfl rfl (cell_one _ _ _) (one_val rfl) (by decide) (by unfold maxLen; omega) (by omega) (by simp; omega) ?_; intro v' w3 hown hbel))
          have HB2 := (hbq.alloc (by omega) (.cells #[.int .i64 x] 2)).trans hbel
          go_roundw
          case rel => exact ⟨j + 1, by omega, by go_num, .inr (by rw [HE.out]; exact hown), HB2⟩
          case measure => simp [intOf]
        · obtain rfl : j = k := by omega
          rw [List.take_of_length_le (by rw [List.length_reverse, sm_length]; exact Nat.le_of_eq HL.out)] at hg
          obtain ⟨a6, cap6, b6, rfl, hc3, hc4, hb6, HR⟩ := hg.ints (by rw [List.length_reverse, sm_length]; exact HL.out) (fun n hn => sm_fits zs n (List.mem_reverse.1 hn))
          have HA := Lib.hid (HSS.out.kept hbq (Nat.le_refl _))
          have HRR := Lib.hid HR
          have HBW := Lib.hid (hBr.trans (hbq.mono (by have := hBr.size; omega)))
          clear HR hg hb6 HSS hbq hBr hszq hszr
          unfold maxLen at hc4
          obtain ⟨c, hc⟩ : ∃ c : Nat, a1 % 512 = (c : Int) := ⟨(a1 % 512).toNat, by omega⟩
          have hbits : bits .and .i64 a1 511 = (c : Int) := by rw [i64_and511]; exact hc
          have hcl : c < 512 := by omega
          obtain ⟨d, hd⟩ : ∃ d : Nat, d = c % (j + 1) := ⟨_, rfl⟩
          have hdj : d ≤ j := by have := Nat.mod_lt c (show 0 < j + 1 by omega); omega
          have hrem : (c : Int) % ((j : Int) + 1) = (d : Int) := by rw [hd]; simp
          clear hc hd
          go_wp2_with fail
          have hlen := sm_length zs
          rw [HL.out] at hlen
          have ht := tot_append ((sm zs).take d) ((sm zs).drop d)
          rw [List.take_append_drop] at ht
          have HT := Lib.hid ht
          have HT2 := Lib.hid (tot_reverse (sm zs))
          have C1 := Lib.hid (sum_smalls HA.out sm_bd (by omega) cap5)
          have C2 := Lib.hid (sum_smalls (HA.out.take d hdj) (fun n hn => sm_bd n (List.mem_of_mem_take hn)) (by rw [List.length_take]; omega) cap5)
          have C3 := Lib.hid (fun a' c ha => sum_smalls (HA.out.drop d hdj a' ha) (fun n hn => sm_bd n (List.mem_of_mem_drop hn)) (by rw [List.length_drop]; omega) c)
          have CA := Lib.hid HA.out.addr
          have C4 := Lib.hid (sum_smalls HRR.out (fun n hn => sm_bd n (List.mem_reverse.1 hn)) (by rw [List.length_reverse]; omega) cap6)
          have D2 := tot_bd ((sm zs).take d) (fun n hn => sm_bd n (List.mem_of_mem_take hn))
          have D3 := tot_bd ((sm zs).drop d) (fun n hn => sm_bd n (List.mem_of_mem_drop hn))
          rw [List.length_take] at D2
          rw [List.length_drop] at D3
          have E2 : -9223372036854775808 ≤ tot ((sm zs).take d) + tot ((sm zs).drop d) ∧ tot ((sm zs).take d) + tot ((sm zs).drop d) ≤ 9223372036854775807 := by omega
          rw [HT2.out] at C4
          rw [HT.out] at C1 C4
          clear ht hlen D2 D3 HT HT2
          generalize tot ((sm zs).take d) = x at *
          generalize tot ((sm zs).drop d) = y at *
          refine C1.out.mono ?_
          rintro e w2 ⟨rfl, rfl⟩
          go_wp2_with fail
          refine C2.out.mono ?_
          rintro e w2 ⟨rfl, rfl⟩
          go_wp2_with fail
          · refine (C3.out _ _ (.inl (by omega))).mono ?_
            rintro e w2 ⟨rfl, rfl⟩
            go_wp2_with fail
            refine C4.out.mono ?_
            rintro e w2 ⟨rfl, rfl⟩
            go_wp2
            go_ret
            exact ⟨rfl, HBW.out⟩
          · refine (C3.out _ _ ?_).mono ?_
            · rcases CA.out with h | h
              · exact .inl (by omega)
              · exact .inr (by rw [h]; simp only [Option.map_some]; rw [addr_add])
            · rintro e w2 ⟨rfl, rfl⟩
              go_wp2_with fail
              refine C4.out.mono ?_
              rintro e w2 ⟨rfl, rfl⟩
              go_wp2
              go_ret
              exact ⟨rfl, HBW.out⟩
theorem walk_ScalarRows (a0 : Option Addr) (len0 cap0 : Nat) (z0 : List Int) (a1 : Int) (w : World) (w0 : IsRow .i64 w a0 len0 cap0 z0) (w1 : (Lit.int .i64 a1).wf = true) :
    Calls Try.prog 10 #[.slice a0 len0 cap0, .int .i64 a1] w fun e w' => e = .returned (.bool true) ∧ Below w.heap.size w w' := by
  obtain ⟨b, off, hi⟩ := w0.ints
  have ⟨b1, b2⟩ := bounds_i64 w1
  clear w0 w1
  by_cases h3 : 300 < len0
  · have hm := hi.small
    unfold maxLen at hm
    clear hi
    go_enter Try.func10, Try.ntmps10
    go_wp2_with (go_at_call 15; refine (alive_any _).mono ?_; rintro e w' ⟨rfl, hB⟩)
    go_ret
    exact ⟨rfl, by assumption⟩
  · exact rows_walk a0 len0 cap0 b off _ a1 w (Lib.hid hi) (by omega) b1 b2
end Go.Proofs.Ytiajpffdnjeafaa
