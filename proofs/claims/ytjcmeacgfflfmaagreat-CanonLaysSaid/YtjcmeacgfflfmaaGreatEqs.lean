/- Contracts: slices.Equal of variables, steps, links, events. -/
import Derived.Test.YtjcmeacgfflfmaaGreatMne
set_option linter.unusedVariables false
set_option linter.unusedSectionVars false
set_option linter.unusedSimpArgs false
namespace Go.Proofs.YtjcmeacgfflfmaaGreat.Md
open Go.RowKit Go.Shelf

set_option maxRecDepth 100000 in
set_option maxHeartbeats 4000000 in
theorem eqV_any {w : World} {a a' : Option Addr} {b b' off off' len len' cap cap' : Nat} {L M : List VarM} (h : RowsAt encV fitV 2 w.heap.size w a b off len L) (h' : RowsAt encV fitV 2 w.heap.size w a' b' off' len' M) :
    Calls Tryz.prog 84 #[.slice a len cap, .slice a' len' cap'] w fun e w' => (∃ t : Bool, e = .returned (.bool t) ∧ (t = true ↔ L = M)) ∧ Below w.heap.size w w' := by
  have hL := h.length
  have hM := h'.length
  have hsm : (len : Int) ≤ 9223372036854775807 := by have := h.small; unfold maxLen at this; omega
  have HI := Lib.hid h
  have HJ := Lib.hid h'
  clear h h'
  by_cases hl : len = len'
  · have hlb : ((len : Int) != (len' : Int)) = false := by simp; omega
    go_enter Tryz.func84, Tryz.ntmps84
    go_wp2
    go_loopw [13] (fun i wr => ∃ k : Nat, i = .int .i64 (k : Int) ∧ k ≤ len ∧ Hid (L.take k = M.take k) ∧ Hid (Below w.heap.size w wr)) (fun i _ => len - (intOf i).toNat)
    case atStart => exact ⟨0, rfl, Nat.zero_le _, Lib.hid rfl, Lib.hid (Below.refl _ _)⟩
    case round =>
      obtain ⟨k, rfl, hk, HE, HB⟩ := hrel
      have hk0 : (0 : Int) ≤ (k : Int) := Int.natCast_nonneg k
      by_cases hlt : k < len
      · have hki : (k : Int) < (len : Int) := by omega
        have hkq : (k : Int) < (len' : Int) := by omega
        obtain ⟨x, hx⟩ : ∃ x, L[k]? = some x := ⟨_, List.getElem?_eq_getElem (by omega)⟩
        obtain ⟨y, hy⟩ : ∃ y, M[k]? = some y := ⟨_, List.getElem?_eq_getElem (by omega)⟩
        have hIp := HI.out.kept HB.out (Nat.le_refl _)
        have hIq := HJ.out.kept HB.out (Nat.le_refl _)
        obtain rfl := hIp.addr.resolve_left (by omega)
        obtain rfl := hIq.addr.resolve_left (by omega)
        have hg := Tryz.guardVs
        have HX := Lib.hid hx
        have HY := Lib.hid hy
        have r0 : wr.cell? ⟨b, off + k * 2, none⟩ = some (.string x.name) := hIp.cell k x hx 0 _ rfl
        have r1 : wr.cell? ⟨b, off + k * 2 + 1, none⟩ = some (.int .i64 x.init) := hIp.cell k x hx 1 _ rfl
        have s0 : wr.cell? ⟨b', off' + k * 2, none⟩ = some (.string y.name) := hIq.cell k y hy 0 _ rfl
        have s1 : wr.cell? ⟨b', off' + k * 2 + 1, none⟩ = some (.int .i64 y.init) := hIq.cell k y hy 1 _ rfl
        clear hx hy hIp hIq
        by_cases hxy : x = y
        · have hneq := neqVt hxy
          have HXY := Lib.hid hxy
          clear hxy
          go_wp2
          go_quiet (fail)
          go_wp2
          go_roundw
          case rel => exact ⟨k + 1, by go_num, by omega, Lib.hid (by rw [List.take_add_one, List.take_add_one, HE.out, HX.out, HY.out, HXY.out]), Lib.hid (HB.out.trans ((below_drewN _ _).mono HB.out.size))⟩
          case measure => simp [intOf]; omega
        · have hneq := neqVf hxy
          have HXY := Lib.hid hxy
          clear hxy
          go_wp2
          go_quiet (fail)
          go_wp2
          go_ret
          refine ⟨⟨_, rfl, ?_⟩, HB.out.trans ((below_drewN _ _).mono HB.out.size)⟩
          simp
          intro e
          have h1 := HX.out
          rw [e, HY.out] at h1
          cases h1
          exact HXY.out rfl
      · obtain rfl : k = len := by omega
        rw [List.take_of_length_le (by omega), List.take_of_length_le (by omega)] at HE
        go_wp2
        go_ret
        exact ⟨⟨_, rfl, by simp [HE.out]⟩, HB.out⟩
  · have hlb : ((len : Int) != (len' : Int)) = true := by simp; omega
    go_enter Tryz.func84, Tryz.ntmps84
    go_wp2
    go_ret
    exact ⟨⟨_, rfl, by simp; intro e; subst e; omega⟩, Below.refl _ _⟩

set_option maxRecDepth 100000 in
set_option maxHeartbeats 4000000 in
theorem eqS_any {w : World} {a a' : Option Addr} {b b' off off' len len' cap cap' : Nat} {L M : List StepM} (h : RowsAt encS fitS 5 w.heap.size w a b off len L) (h' : RowsAt encS fitS 5 w.heap.size w a' b' off' len' M) :
    Calls Tryz.prog 85 #[.slice a len cap, .slice a' len' cap'] w fun e w' => (∃ t : Bool, e = .returned (.bool t) ∧ (t = true ↔ L = M)) ∧ Below w.heap.size w w' := by
  have hL := h.length
  have hM := h'.length
  have hsm : (len : Int) ≤ 9223372036854775807 := by have := h.small; unfold maxLen at this; omega
  have HI := Lib.hid h
  have HJ := Lib.hid h'
  clear h h'
  by_cases hl : len = len'
  · have hlb : ((len : Int) != (len' : Int)) = false := by simp; omega
    go_enter Tryz.func85, Tryz.ntmps85
    go_wp2
    go_loopw [13] (fun i wr => ∃ k : Nat, i = .int .i64 (k : Int) ∧ k ≤ len ∧ Hid (L.take k = M.take k) ∧ Hid (Below w.heap.size w wr)) (fun i _ => len - (intOf i).toNat)
    case atStart => exact ⟨0, rfl, Nat.zero_le _, Lib.hid rfl, Lib.hid (Below.refl _ _)⟩
    case round =>
      obtain ⟨k, rfl, hk, HE, HB⟩ := hrel
      have hk0 : (0 : Int) ≤ (k : Int) := Int.natCast_nonneg k
      by_cases hlt : k < len
      · have hki : (k : Int) < (len : Int) := by omega
        have hkq : (k : Int) < (len' : Int) := by omega
        obtain ⟨x, hx⟩ : ∃ x, L[k]? = some x := ⟨_, List.getElem?_eq_getElem (by omega)⟩
        obtain ⟨y, hy⟩ : ∃ y, M[k]? = some y := ⟨_, List.getElem?_eq_getElem (by omega)⟩
        have hIp := HI.out.kept HB.out (Nat.le_refl _)
        have hIq := HJ.out.kept HB.out (Nat.le_refl _)
        obtain rfl := hIp.addr.resolve_left (by omega)
        obtain rfl := hIq.addr.resolve_left (by omega)
        have hg := Tryz.guardSs
        have HX := Lib.hid hx
        have HY := Lib.hid hy
        have r0 : wr.cell? ⟨b, off + k * 5, none⟩ = some (.int .i64 x.kind) := hIp.cell k x hx 0 _ rfl
        have r1 : wr.cell? ⟨b, off + k * 5 + 1, none⟩ = some (.string x.name) := hIp.cell k x hx 1 _ rfl
        have r2 : wr.cell? ⟨b, off + k * 5 + 2, none⟩ = some (.int .i64 x.ak) := hIp.cell k x hx 2 _ rfl
        have r3 : wr.cell? ⟨b, off + k * 5 + 3, none⟩ = some (.int .i64 x.an) := hIp.cell k x hx 3 _ rfl
        have r4 : wr.cell? ⟨b, off + k * 5 + 4, none⟩ = some (.string x.aname) := hIp.cell k x hx 4 _ rfl
        have s0 : wr.cell? ⟨b', off' + k * 5, none⟩ = some (.int .i64 y.kind) := hIq.cell k y hy 0 _ rfl
        have s1 : wr.cell? ⟨b', off' + k * 5 + 1, none⟩ = some (.string y.name) := hIq.cell k y hy 1 _ rfl
        have s2 : wr.cell? ⟨b', off' + k * 5 + 2, none⟩ = some (.int .i64 y.ak) := hIq.cell k y hy 2 _ rfl
        have s3 : wr.cell? ⟨b', off' + k * 5 + 3, none⟩ = some (.int .i64 y.an) := hIq.cell k y hy 3 _ rfl
        have s4 : wr.cell? ⟨b', off' + k * 5 + 4, none⟩ = some (.string y.aname) := hIq.cell k y hy 4 _ rfl
        clear hx hy hIp hIq
        by_cases hxy : x = y
        · have hneq := neqSt hxy
          have HXY := Lib.hid hxy
          clear hxy
          go_wp2
          go_quiet (fail)
          go_wp2
          go_roundw
          case rel => exact ⟨k + 1, by go_num, by omega, Lib.hid (by rw [List.take_add_one, List.take_add_one, HE.out, HX.out, HY.out, HXY.out]), Lib.hid (HB.out.trans ((below_drewN _ _).mono HB.out.size))⟩
          case measure => simp [intOf]; omega
        · have hneq := neqSf hxy
          have HXY := Lib.hid hxy
          clear hxy
          go_wp2
          go_quiet (fail)
          go_wp2
          go_ret
          refine ⟨⟨_, rfl, ?_⟩, HB.out.trans ((below_drewN _ _).mono HB.out.size)⟩
          simp
          intro e
          have h1 := HX.out
          rw [e, HY.out] at h1
          cases h1
          exact HXY.out rfl
      · obtain rfl : k = len := by omega
        rw [List.take_of_length_le (by omega), List.take_of_length_le (by omega)] at HE
        go_wp2
        go_ret
        exact ⟨⟨_, rfl, by simp [HE.out]⟩, HB.out⟩
  · have hlb : ((len : Int) != (len' : Int)) = true := by simp; omega
    go_enter Tryz.func85, Tryz.ntmps85
    go_wp2
    go_ret
    exact ⟨⟨_, rfl, by simp; intro e; subst e; omega⟩, Below.refl _ _⟩

set_option maxRecDepth 100000 in
set_option maxHeartbeats 4000000 in
theorem eqL_any {w : World} {a a' : Option Addr} {b b' off off' len len' cap cap' : Nat} {L M : List LinkM} (h : RowsAt encL fitL 5 w.heap.size w a b off len L) (h' : RowsAt encL fitL 5 w.heap.size w a' b' off' len' M) :
    Calls Tryz.prog 46 #[.slice a len cap, .slice a' len' cap'] w fun e w' => (∃ t : Bool, e = .returned (.bool t) ∧ (t = true ↔ L = M)) ∧ Below w.heap.size w w' := by
  have hL := h.length
  have hM := h'.length
  have hsm : (len : Int) ≤ 9223372036854775807 := by have := h.small; unfold maxLen at this; omega
  have HI := Lib.hid h
  have HJ := Lib.hid h'
  clear h h'
  by_cases hl : len = len'
  · have hlb : ((len : Int) != (len' : Int)) = false := by simp; omega
    go_enter Tryz.func46, Tryz.ntmps46
    go_wp2
    go_loopw [13] (fun i wr => ∃ k : Nat, i = .int .i64 (k : Int) ∧ k ≤ len ∧ Hid (L.take k = M.take k) ∧ Hid (Below w.heap.size w wr)) (fun i _ => len - (intOf i).toNat)
    case atStart => exact ⟨0, rfl, Nat.zero_le _, Lib.hid rfl, Lib.hid (Below.refl _ _)⟩
    case round =>
      obtain ⟨k, rfl, hk, HE, HB⟩ := hrel
      have hk0 : (0 : Int) ≤ (k : Int) := Int.natCast_nonneg k
      by_cases hlt : k < len
      · have hki : (k : Int) < (len : Int) := by omega
        have hkq : (k : Int) < (len' : Int) := by omega
        obtain ⟨x, hx⟩ : ∃ x, L[k]? = some x := ⟨_, List.getElem?_eq_getElem (by omega)⟩
        obtain ⟨y, hy⟩ : ∃ y, M[k]? = some y := ⟨_, List.getElem?_eq_getElem (by omega)⟩
        have hIp := HI.out.kept HB.out (Nat.le_refl _)
        have hIq := HJ.out.kept HB.out (Nat.le_refl _)
        obtain rfl := hIp.addr.resolve_left (by omega)
        obtain rfl := hIq.addr.resolve_left (by omega)
        have hg := Tryz.guardLs
        have HX := Lib.hid hx
        have HY := Lib.hid hy
        have r0 : wr.cell? ⟨b, off + k * 5, none⟩ = some (.string x.name) := hIp.cell k x hx 0 _ rfl
        have r1 : wr.cell? ⟨b, off + k * 5 + 1, none⟩ = some (.string x.frm) := hIp.cell k x hx 1 _ rfl
        have r2 : wr.cell? ⟨b, off + k * 5 + 2, none⟩ = some (.string x.to_) := hIp.cell k x hx 2 _ rfl
        have r3 : wr.cell? ⟨b, off + k * 5 + 3, none⟩ = some (.int .i64 x.delay) := hIp.cell k x hx 3 _ rfl
        have r4 : wr.cell? ⟨b, off + k * 5 + 4, none⟩ = some (.int .i64 x.weight) := hIp.cell k x hx 4 _ rfl
        have s0 : wr.cell? ⟨b', off' + k * 5, none⟩ = some (.string y.name) := hIq.cell k y hy 0 _ rfl
        have s1 : wr.cell? ⟨b', off' + k * 5 + 1, none⟩ = some (.string y.frm) := hIq.cell k y hy 1 _ rfl
        have s2 : wr.cell? ⟨b', off' + k * 5 + 2, none⟩ = some (.string y.to_) := hIq.cell k y hy 2 _ rfl
        have s3 : wr.cell? ⟨b', off' + k * 5 + 3, none⟩ = some (.int .i64 y.delay) := hIq.cell k y hy 3 _ rfl
        have s4 : wr.cell? ⟨b', off' + k * 5 + 4, none⟩ = some (.int .i64 y.weight) := hIq.cell k y hy 4 _ rfl
        clear hx hy hIp hIq
        by_cases hxy : x = y
        · have hneq := neqLt hxy
          have HXY := Lib.hid hxy
          clear hxy
          go_wp2
          go_quiet (fail)
          go_wp2
          go_roundw
          case rel => exact ⟨k + 1, by go_num, by omega, Lib.hid (by rw [List.take_add_one, List.take_add_one, HE.out, HX.out, HY.out, HXY.out]), Lib.hid (HB.out.trans ((below_drewN _ _).mono HB.out.size))⟩
          case measure => simp [intOf]; omega
        · have hneq := neqLf hxy
          have HXY := Lib.hid hxy
          clear hxy
          go_wp2
          go_quiet (fail)
          go_wp2
          go_ret
          refine ⟨⟨_, rfl, ?_⟩, HB.out.trans ((below_drewN _ _).mono HB.out.size)⟩
          simp
          intro e
          have h1 := HX.out
          rw [e, HY.out] at h1
          cases h1
          exact HXY.out rfl
      · obtain rfl : k = len := by omega
        rw [List.take_of_length_le (by omega), List.take_of_length_le (by omega)] at HE
        go_wp2
        go_ret
        exact ⟨⟨_, rfl, by simp [HE.out]⟩, HB.out⟩
  · have hlb : ((len : Int) != (len' : Int)) = true := by simp; omega
    go_enter Tryz.func46, Tryz.ntmps46
    go_wp2
    go_ret
    exact ⟨⟨_, rfl, by simp; intro e; subst e; omega⟩, Below.refl _ _⟩

set_option maxRecDepth 100000 in
set_option maxHeartbeats 4000000 in
theorem eqE_any {w : World} {a a' : Option Addr} {b b' off off' len len' cap cap' : Nat} {L M : List EventM} (h : RowsAt encE fitE 3 w.heap.size w a b off len L) (h' : RowsAt encE fitE 3 w.heap.size w a' b' off' len' M) :
    Calls Tryz.prog 47 #[.slice a len cap, .slice a' len' cap'] w fun e w' => (∃ t : Bool, e = .returned (.bool t) ∧ (t = true ↔ L = M)) ∧ Below w.heap.size w w' := by
  have hL := h.length
  have hM := h'.length
  have hsm : (len : Int) ≤ 9223372036854775807 := by have := h.small; unfold maxLen at this; omega
  have HI := Lib.hid h
  have HJ := Lib.hid h'
  clear h h'
  by_cases hl : len = len'
  · have hlb : ((len : Int) != (len' : Int)) = false := by simp; omega
    go_enter Tryz.func47, Tryz.ntmps47
    go_wp2
    go_loopw [13] (fun i wr => ∃ k : Nat, i = .int .i64 (k : Int) ∧ k ≤ len ∧ Hid (L.take k = M.take k) ∧ Hid (Below w.heap.size w wr)) (fun i _ => len - (intOf i).toNat)
    case atStart => exact ⟨0, rfl, Nat.zero_le _, Lib.hid rfl, Lib.hid (Below.refl _ _)⟩
    case round =>
      obtain ⟨k, rfl, hk, HE, HB⟩ := hrel
      have hk0 : (0 : Int) ≤ (k : Int) := Int.natCast_nonneg k
      by_cases hlt : k < len
      · have hki : (k : Int) < (len : Int) := by omega
        have hkq : (k : Int) < (len' : Int) := by omega
        obtain ⟨x, hx⟩ : ∃ x, L[k]? = some x := ⟨_, List.getElem?_eq_getElem (by omega)⟩
        obtain ⟨y, hy⟩ : ∃ y, M[k]? = some y := ⟨_, List.getElem?_eq_getElem (by omega)⟩
        have hIp := HI.out.kept HB.out (Nat.le_refl _)
        have hIq := HJ.out.kept HB.out (Nat.le_refl _)
        obtain rfl := hIp.addr.resolve_left (by omega)
        obtain rfl := hIq.addr.resolve_left (by omega)
        have hg := Tryz.guardEs
        have HX := Lib.hid hx
        have HY := Lib.hid hy
        have r0 : wr.cell? ⟨b, off + k * 3, none⟩ = some (.string x.to_) := hIp.cell k x hx 0 _ rfl
        have r1 : wr.cell? ⟨b, off + k * 3 + 1, none⟩ = some (.int .i64 x.at_) := hIp.cell k x hx 1 _ rfl
        have r2 : wr.cell? ⟨b, off + k * 3 + 2, none⟩ = some (.int .i64 x.val) := hIp.cell k x hx 2 _ rfl
        have s0 : wr.cell? ⟨b', off' + k * 3, none⟩ = some (.string y.to_) := hIq.cell k y hy 0 _ rfl
        have s1 : wr.cell? ⟨b', off' + k * 3 + 1, none⟩ = some (.int .i64 y.at_) := hIq.cell k y hy 1 _ rfl
        have s2 : wr.cell? ⟨b', off' + k * 3 + 2, none⟩ = some (.int .i64 y.val) := hIq.cell k y hy 2 _ rfl
        clear hx hy hIp hIq
        by_cases hxy : x = y
        · have hneq := neqEt hxy
          have HXY := Lib.hid hxy
          clear hxy
          go_wp2
          go_quiet (fail)
          go_wp2
          go_roundw
          case rel => exact ⟨k + 1, by go_num, by omega, Lib.hid (by rw [List.take_add_one, List.take_add_one, HE.out, HX.out, HY.out, HXY.out]), Lib.hid (HB.out.trans ((below_drewN _ _).mono HB.out.size))⟩
          case measure => simp [intOf]; omega
        · have hneq := neqEf hxy
          have HXY := Lib.hid hxy
          clear hxy
          go_wp2
          go_quiet (fail)
          go_wp2
          go_ret
          refine ⟨⟨_, rfl, ?_⟩, HB.out.trans ((below_drewN _ _).mono HB.out.size)⟩
          simp
          intro e
          have h1 := HX.out
          rw [e, HY.out] at h1
          cases h1
          exact HXY.out rfl
      · obtain rfl : k = len := by omega
        rw [List.take_of_length_le (by omega), List.take_of_length_le (by omega)] at HE
        go_wp2
        go_ret
        exact ⟨⟨_, rfl, by simp [HE.out]⟩, HB.out⟩
  · have hlb : ((len : Int) != (len' : Int)) = true := by simp; omega
    go_enter Tryz.func47, Tryz.ntmps47
    go_wp2
    go_ret
    exact ⟨⟨_, rfl, by simp; intro e; subst e; omega⟩, Below.refl _ _⟩

end Go.Proofs.YtjcmeacgfflfmaaGreat.Md
