/- Contracts: the reference's Degree and Total. -/
import Derived.Test.YtgidfgafnihblaaQd
import Derived.Test.YtgidfgafnihblaaQab
import Derived.Test.YtgidfgafnihblaaPb
set_option linter.unusedVariables false
set_option linter.unusedSectionVars false
namespace Go.Proofs.Ytgidfgafnihblaa
open Go.RowKit Rk

section
variable {W W' : World} {X : XD} {lo : Nat} {ws : List Int} {F : Nat → Nat → Int}
set_option maxHeartbeats 1000000 in
theorem xdegree_any (h : IsX W X lo ws F) {i : Nat} (hi : i < ws.length) (hn : ws.length ≤ 30) : Calls Try.prog 18 #[X.val ws.length, .int .i64 (i : Int)] W fun e w' => e = .returned (.int .i64 (vals (nearD ws.length F i))) ∧ Below W.heap.size W w' := by
  have HV : Hid (vals (nearD ws.length F i) = sumTo ws.length (F i)) := Lib.hid (by rw [nearD_nat F hi, vals_rowOf _ _ (fun b _ => h.tab.lo i b)])
  have hal : Below W.heap.size W (W.alloc (.cells #[.slice X.wa ws.length X.wc, .slice X.ra ws.length X.rc] 31)) := (Below.refl _ _).alloc (Nat.le_refl _) _
  have hXd : (W.alloc (.cells #[.slice X.wa ws.length X.wc, .slice X.ra ws.length X.rc] 31)).heap[W.heap.size]? = some (.cells #[.slice X.wa ws.length X.wc, .slice X.ra ws.length X.rc] 31 (0, 0)) := heap_new (w := W) _ rfl
  have HXD := Lib.hid hXd
  have HA := Lib.hid hal
  have HX := Lib.hid h
  have HI := Lib.hid hi
  obtain ⟨n, hnn⟩ : ∃ n, ws.length = n := ⟨_, rfl⟩
  have HN := Lib.hid hnn
  have hT := fun (W' : World) (hW : Below W.heap.size W W') (k : Nat) (hk : k < n) => show Calls Try.prog 12 #[.agg #[.slice X.wa n X.wc, .slice X.ra n X.rc], .int .i64 (i : Int), .int .i64 (k : Int)] W' fun e w' => e = .returned (.int .i64 (F i k)) ∧ Below W'.heap.size W' w' from by
    have := xbetween_any (HX.out.below hW) i k
    rw [btw_nat _ _ HI.out (by rw [hnn]; exact hk)] at this
    unfold XD.val at this
    rw [hnn] at this
    exact this
  have HT := Lib.hid hT
  rw [hnn] at HV HXD HA hn
  unfold XD.val
  rw [hnn]
  clear h hi hal hXd hT hnn
  go_enter Try.func18, Try.ntmps18
  go_wp2
  go_loopw [5, 6] (fun t j wr => ∃ (k : Nat) (s : Int), j = .int .i64 k ∧ t = .int .i64 s ∧ k ≤ n ∧ 0 ≤ s ∧ s ≤ 1099511627776 * (k : Int) ∧ Hid (s = sumTo k (F i)) ∧ Hid (Below W.heap.size W wr) ∧ Hid (wr.heap[W.heap.size]? = some (.cells #[.slice X.wa n X.wc, .slice X.ra n X.rc] 31 (0, 0)))) (fun _ j _ => n - (intOf j).toNat)
  case atStart => exact ⟨0, 0, rfl, rfl, Nat.zero_le _, by omega, by omega, Lib.hid rfl, HA, HXD⟩
  case round =>
    obtain ⟨k, s, rfl, rfl, hk, hs0, hs1, HS, HB, HD⟩ := hrel
    have d0 : wr.cell? ⟨W.heap.size, 0, none⟩ = some (.slice X.wa n X.wc) := heap_cell HD.out rfl
    have d1 : wr.cell? ⟨W.heap.size, 1, none⟩ = some (.slice X.ra n X.rc) := heap_cell HD.out rfl
    have zr := HB.out.size
    by_cases hlt : k < n
    · obtain ⟨y, hy⟩ : ∃ y, F i k = y := ⟨_, rfl⟩
      have hyb : 0 ≤ y ∧ y ≤ 1099511627776 := by rw [← hy]; exact ⟨HX.out.tab.lo i k, HX.out.tab.hi i k⟩
      have HY := Lib.hid hy
      have HC := Lib.hid (HT.out wr HB.out k hlt)
      rw [hy] at HC
      clear hy
      go_wp2_with fail
      refine HC.out.mono ?_
      rintro e w2 ⟨rfl, hb⟩
      have HB2 := Lib.hid (HB.out.trans (hb.mono zr))
      have HD2 := Lib.hid (heap_below HD.out hb (heap_lt HD.out))
      clear hb d0 d1 HC
      go_wp2
      go_roundw
      case rel => exact ⟨k + 1, s + y, by go_num, by go_num, by omega, by omega, by omega, Lib.hid (by rw [HS.out, ← HY.out]; rfl), HB2, HD2⟩
      case measure => simp [intOf]; omega
    · obtain rfl : k = n := by omega
      have HF : Hid (s = vals (nearD k F i)) := Lib.hid (by rw [HS.out, HV.out])
      go_wp2
      go_ret
      exact ⟨ret1 HF.out, HB.out⟩
set_option maxHeartbeats 1000000 in
theorem xtotal_any (h : IsX W X lo ws F) (hw : ∀ x ∈ ws, 1 ≤ x ∧ x ≤ 1099511627776) : Calls Try.prog 21 #[X.val ws.length] W fun e w' => e = .returned (.int .i64 ws.sum) ∧ Below W.heap.size W w' := by
  have hal : Below W.heap.size W (W.alloc (.cells #[.slice X.wa ws.length X.wc, .slice X.ra ws.length X.rc] 31)) := (Below.refl _ _).alloc (Nat.le_refl _) _
  have hXd : (W.alloc (.cells #[.slice X.wa ws.length X.wc, .slice X.ra ws.length X.rc] 31)).heap[W.heap.size]? = some (.cells #[.slice X.wa ws.length X.wc, .slice X.ra ws.length X.rc] 31 (0, 0)) := heap_new (w := W) _ rfl
  have HXD := Lib.hid hXd
  have HA := Lib.hid hal
  have HI := Lib.hid (h.ints.kept hal (Nat.le_refl _))
  have hsm := h.small
  have HW := Lib.hid hw
  obtain ⟨n, hnn⟩ : ∃ n, ws.length = n := ⟨_, rfl⟩
  have HN := Lib.hid hnn
  unfold XD.val
  rw [hnn] at HXD HA HI hsm ⊢
  clear h hal hXd hw hnn
  go_enter Try.func21, Try.ntmps21
  go_wp2
  revert HXD HA HI
  generalize W.alloc (.cells #[.slice X.wa n X.wc, .slice X.ra n X.rc] 31) = w1
  intro HI HA HXD
  go_loop [3, 4] (fun t j => ∃ (k : Nat) (s : Int), j = .int .i64 k ∧ t = .int .i64 s ∧ k ≤ n ∧ 0 ≤ s ∧ s ≤ 1099511627776 * (k : Int) ∧ Hid ((ws.take k).sum = s)) (fun _ j => n - (intOf j).toNat)
  case atStart => exact ⟨0, 0, rfl, rfl, Nat.zero_le _, by omega, by omega, Lib.hid rfl⟩
  case round =>
    obtain ⟨k, s, rfl, rfl, hk, hs0, hs1, HS⟩ := hrel
    by_cases hlt : k < n
    · have hkz : k < ws.length := by rw [HN.out]; exact hlt
      have hc := HI.out.cell k hlt
      rw [Nat.zero_add] at hc
      have hbd := getD_wts HW.out hkz
      have HST := Lib.hid (sum_take_succ hkz)
      have haw := HI.out.addr.resolve_left (by omega)
      have d0 : w1.cell? ⟨W.heap.size, 0, none⟩ = some (.slice (some ⟨X.wb, 0, none⟩) n X.wc) := by rw [← haw]; exact heap_cell HXD.out rfl
      generalize ws.getD k 0 = x at *
      clear hkz haw
      go_wp2
      go_round
      case rel => exact ⟨k + 1, s + x, by go_num, by go_num, by omega, by omega, by omega, Lib.hid (by rw [HST.out, HS.out])⟩
      case measure => simp [intOf]; omega
    · have HF : Hid (s = ws.sum) := Lib.hid (by rw [← HS.out, List.take_of_length_le (by have := HN.out; omega)])
      have d0 : w1.cell? ⟨W.heap.size, 0, none⟩ = some (.slice X.wa n X.wc) := heap_cell HXD.out rfl
      go_wp2
      go_ret
      exact ⟨ret1 HF.out, HA.out⟩
end
end Go.Proofs.Ytgidfgafnihblaa
