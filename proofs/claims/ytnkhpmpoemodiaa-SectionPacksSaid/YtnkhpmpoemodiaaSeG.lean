/- Contracts: few sections; sections as the document's; the same ones. -/
import Derived.Test.YtnkhpmpoemodiaaSeF
import Derived.Test.YtnkhpmpoemodiaaDf
set_option linter.unusedVariables false
set_option linter.unusedSectionVars false
set_option linter.unusedSimpArgs false
namespace Go.Proofs.Ytnkhpmpoemodiaa.Se
open Go.RowKit Go.Shelf

theorem rows_flat {α : Type} {enc : α → List Value} {sz : Nat} (hsz : ∀ x, (enc x).length = sz) : ∀ (L : List α) (i : Nat) (x : α), L[i]? = some x → ∀ j u, (enc x)[j]? = some u → (L.flatMap enc)[i * sz + j]? = some u
  | [], i, x, h, _, _, _ => by simp at h
  | y :: L, 0, x, h, j, u, hu => by
    have : y = x := by simpa using h
    subst this
    have hj := (List.getElem?_eq_some_iff.1 hu).1
    rw [Nat.zero_mul, Nat.zero_add, List.flatMap_cons, List.getElem?_append_left hj]
    exact hu
  | y :: L, i + 1, x, h, j, u, hu => by
    rw [List.flatMap_cons, List.getElem?_append_right (by rw [hsz]; rw [Nat.add_mul]; omega), hsz]
    rw [show (i + 1) * sz + j - sz = i * sz + j by rw [Nat.add_mul]; omega]
    exact rows_flat hsz L i x (by simpa using h) j u hu
theorem rows_block {α : Type} {enc : α → List Value} {fit : α → Prop} {sz : Nat} (hsz : ∀ x, (enc x).length = sz) {W : World} {b : Nat} {L : List α} {cs : Array Value} {t : TypeId} (h : W.heap[b]? = some (.cells cs t (0, 0))) (hcs : cs.toList = L.flatMap enc) (hm : L.length ≤ maxLen) (hf : ∀ x ∈ L, fit x) {len : Nat} (hl : L.length = len) :
    RowsAt enc fit sz W.heap.size W (some ⟨b, 0, none⟩) b 0 len L :=
  ⟨.inr rfl, hl, by omega, .inr (heap_lt h), fun i x hi j u hu => by
    have h1 := rows_flat hsz L i x hi j u hu
    rw [← hcs, Array.getElem?_toList] at h1
    rw [Nat.zero_add]
    exact heap_cell h h1, hf⟩
/-- What was gathered, as rows. -/
theorem rows_gath {α : Type} {enc : α → List Value} {fit : α → Prop} {sz : Nat} (hsz : ∀ x, (enc x).length = sz) {W : World} {base : Nat} {e : TypeId} {v : Value} {L : List α} (h : Gath W base e sz v L.length (L.flatMap enc)) (hm : L.length ≤ maxLen) (hf : ∀ x ∈ L, fit x) : ∃ a c g, v = .slice a L.length c ∧ RowsAt enc fit sz W.heap.size W a g 0 L.length L := by
  rcases h with ⟨h1, _, ao, rfl⟩ | h
  · exact ⟨ao, 0, 0, by rw [h1], RowsAt.nil h1 (List.eq_nil_of_length_eq_zero h1)⟩
  · rcases h.2 with ⟨rfl, h1⟩ | ⟨g, cap, cur, rfl, hb, hg, hnc, hcm, hcs, htake⟩
    · exact ⟨none, 0, 0, by rw [h1], RowsAt.nil h1 (List.eq_nil_of_length_eq_zero h1)⟩
    · refine ⟨_, cap, g, rfl, .inr rfl, rfl, hm, .inr (heap_lt hg), fun i x hi j u hu => ?_, hf⟩
      have h2 := rows_flat hsz L i x hi j u hu
      have := h.cells (g := g) rfl _ _ h2
      rw [addr_add, Nat.zero_add] at this
      rw [Nat.zero_add]
      exact this
section
variable {α : Type} {enc : α → List Value} {fit : α → Prop} {sz : Nat}
theorem flat_at (hsz : ∀ x, (enc x).length = sz) : ∀ (L : List α) (j : Nat) (u : Value), (L.flatMap enc)[j]? = some u → ∃ i x r, L[i]? = some x ∧ (enc x)[r]? = some u ∧ j = i * sz + r
  | [], j, u, h => by simp at h
  | y :: L, j, u, h => by
    rw [List.flatMap_cons] at h
    by_cases hj : j < sz
    · rw [List.getElem?_append_left (by rw [hsz]; exact hj)] at h
      exact ⟨0, y, j, rfl, h, by omega⟩
    · rw [List.getElem?_append_right (by rw [hsz]; omega), hsz] at h
      obtain ⟨i, x, r, h1, h2, h3⟩ := flat_at hsz L _ u h
      exact ⟨i + 1, x, r, by simpa using h1, h2, by rw [Nat.add_mul]; omega⟩
theorem rows_cells (hsz : ∀ x, (enc x).length = sz) {B : Nat} {w : World} {b off n : Nat} {a : Option Addr} {L : List α} (h : RowsAt enc fit sz B w a b off n L) : ∀ j u, (L.flatMap enc)[j]? = some u → w.cell? ((⟨b, off, none⟩ : Addr).add j) = some u := by
  intro j u hu
  obtain ⟨i, x, r, h1, h2, rfl⟩ := flat_at hsz L j u hu
  rw [addr_add]
  have := h.cell i x h1 r u h2
  rwa [show off + (i * sz + r) = off + i * sz + r by omega]
end
theorem flat_lenU {α : Type} {enc : α → List Value} {sz : Nat} (hsz : ∀ x, (enc x).length = sz) : ∀ L : List α, (L.flatMap enc).length = L.length * sz
  | [] => by simp
  | x :: r => by rw [List.flatMap_cons, List.length_append, hsz, flat_lenU hsz r, List.length_cons, Nat.add_mul]; omega


def fewB (L : List SecM) : Bool := L.all (fun x => decide (x.body.length ≤ 100)) && decide (L.length ≤ 300)
set_option maxRecDepth 100000 in
set_option maxHeartbeats 2000000 in
theorem few_any {w : World} {a : Option Addr} {b off len cap : Nat} {L : List SecV} (h : SecsAt w.heap.size w a b off len cap L) : Calls Try.prog 33 #[.slice a len cap] w fun e w' => e = .returned (.bool (fewB (secsM L))) ∧ Below w.heap.size w w' := by
  have HR := Lib.hid h.rows
  have hsm := h.rows.small
  have HL : Hid ((secsM L).length = len) := Lib.hid (by unfold secsM; rw [List.length_map]; exact h.rows.length)
  obtain ⟨Q, hQ⟩ : ∃ Q, fewB (secsM L) = Q := ⟨_, rfl⟩
  have HF : Hid (Q = ((secsM L).all (fun x => decide (x.body.length ≤ 100)) && decide (len ≤ 300))) := Lib.hid (by rw [← hQ]; unfold fewB; rw [HL.out])
  rw [hQ]
  clear h hQ
  have hmx := hsm
  unfold maxLen at hmx
  have HX : Hid (∀ k, k < len → ∃ x, L[k]? = some x ∧ a = some ⟨b, off, none⟩ ∧ b < w.heap.size ∧ w.cell? ⟨b, off + k * 2, none⟩ = some (.int .u8 x.m.tag) ∧ w.cell? ⟨b, off + k * 2 + 1, none⟩ = some x.bv) := Lib.hid (fun k hk => by
    obtain ⟨x, h1, h2, h3, h4, h5, _⟩ := sec_cells HR.out hk
    exact ⟨x, h1, h2, h3, h4, h5⟩)
  go_enter Try.func33, Try.ntmps33
  go_wp2_with fail
  go_loopw [7] (fun i wr => ∃ k : Nat, k ≤ len ∧ i = .int .i64 (k : Int) ∧ Hid (((secsM L).take k).all (fun x => decide (x.body.length ≤ 100)) = true) ∧ Hid (Below w.heap.size w wr)) (fun i _ => len - (intOf i).toNat)
  case atStart => exact ⟨0, Nat.zero_le _, rfl, Lib.hid rfl, Lib.hid (Below.refl _ _)⟩
  case round =>
    obtain ⟨k, hk, rfl, HA, HB⟩ := hrel
    have hk0 : (0 : Int) ≤ (k : Int) := Int.natCast_nonneg k
    by_cases hlt : k < len
    · obtain ⟨x, hx, ha, hb, c0, c1⟩ := HX.out k hlt
      have c0' := (HB.out.cell (p := ⟨b, off + k * 2, none⟩) hb).trans c0
      have c1' := (HB.out.cell (p := ⟨b, off + k * 2 + 1, none⟩) hb).trans c1
      have HT : Hid (((secsM L).take (k + 1)).all (fun x => decide (x.body.length ≤ 100)) = decide (x.m.body.length ≤ 100)) := Lib.hid (by
        have hm : (secsM L)[k]? = some x.m := by unfold secsM; rw [List.getElem?_map, hx]; rfl
        obtain ⟨g1, g2⟩ := List.getElem?_eq_some_iff.1 hm
        rw [List.take_succ_eq_append_getElem g1, List.all_append, HA.out, g2]
        simp)
      subst ha
      have hki : (k : Int) < (len : Int) := by omega
      obtain ⟨t, ht⟩ : ∃ t, x.m.tag = t := ⟨_, rfl⟩
      obtain ⟨bl, hbl⟩ : ∃ bl, x.m.body.length = bl := ⟨_, rfl⟩
      unfold SecV.bv at c1'
      rw [ht] at c0'
      rw [hbl] at c1' HT
      clear c0 c1 hx ht hbl
      have HN : Hid (Below w.heap.size w (wr.alloc (.cells #[.int .u8 t, .slice x.ba bl x.bc] 70))) := Lib.hid (HB.out.alloc HB.out.size _)
      by_cases hbig : 100 < bl
      · have hbi : (100 : Int) < (bl : Int) := by omega
        have hq : Q = false := by
          rw [HF.out]
          have e : (secsM L).all (fun x => decide (x.body.length ≤ 100)) = false := by
            have e1 := HT.out
            rw [show decide (bl ≤ 100) = false by simp; omega] at e1
            rw [← List.take_append_drop (k + 1) (secsM L), List.all_append, e1]
            rfl
          rw [e]
          rfl
        subst hq
        go_wp2
        go_ret
        exact ⟨rfl, HN.out⟩
      · have hbi : ¬ (100 : Int) < (bl : Int) := by omega
        have HT2 : Hid (((secsM L).take (k + 1)).all (fun x => decide (x.body.length ≤ 100)) = true) := Lib.hid (by rw [HT.out]; simp; omega)
        go_wp2
        go_roundw
        case rel => exact ⟨k + 1, by omega, by go_num, HT2, HN⟩
        case measure => simp [intOf]; omega
    · obtain rfl : k = len := by omega
      have hq : Q = decide (k ≤ 300) := by
        rw [HF.out]
        have e1 := HA.out
        rw [List.take_of_length_le (by rw [HL.out]; exact Nat.le_refl _)] at e1
        rw [e1, Bool.true_and]
      have HQ := Lib.hid hq
      clear hq
      by_cases h3 : k ≤ 300
      · have h3i : (k : Int) ≤ 300 := by omega
        have hq : Q = true := by rw [HQ.out]; simpa using h3
        subst hq
        go_wp2
        go_ret
        exact ⟨rfl, HB.out⟩
      · have h3i : ¬ (k : Int) ≤ 300 := by omega
        have hq : Q = false := by rw [HQ.out]; simpa using h3
        subst hq
        go_wp2
        go_ret
        exact ⟨rfl, HB.out⟩
def zSec : Array Value := #[.int .u8 0, .slice none 0 0]
theorem Try.infoSec : (Try.prog.info? 116).map (fun i => (i.zero, i.size, i.bytes)) = some (some (.agg zSec), 2, 32) := by kernel_rfl
/-- The document's sections lie in new memory; their bytes as they lay. -/
def AsQ (L : List SecV) (w : World) (e : Ending) (w' : World) : Prop :=
  ∃ a' b' c', e = .returned (.slice a' L.length c') ∧ Hid (RowsAt encS fitS 2 w'.heap.size w' a' b' 0 L.length L ∧ Below w.heap.size w w')
theorem cells_sec (w : World) (x : SecV) (t : TypeId) : ∀ j u, (encS x)[j]? = some u → (w.alloc (.cells #[.int .u8 x.m.tag, x.bv] t)).cell? ((⟨w.heap.size, 0, none⟩ : Addr).add j) = some u := by
  intro j u hu
  rw [addr_add, Nat.zero_add]
  exact heap_cell (heap_new _ rfl) (by simpa [encS] using hu)
theorem one_sec (x : SecV) : ∀ u ∈ encS x, u.oneCell' = true := fun u hu => by
  unfold encS at hu
  simp only [List.mem_cons, List.not_mem_nil, or_false] at hu
  rcases hu with rfl | rfl <;> rfl
set_option maxRecDepth 100000 in
set_option maxHeartbeats 2000000 in
theorem as_any {w : World} {a : Option Addr} {b off len cap : Nat} {L : List SecV} (h : RowsAt encS fitS 2 w.heap.size w a b off len L) (hlen : len ≤ 100000) : Calls Try.prog 36 #[.slice a len cap] w (AsQ L w) := by
  obtain ⟨i0, hi0, hz0, hz1, hz2⟩ := info_parts Try.infoSec
  have HI := Lib.hid hi0
  have HZ0 := Lib.hid hz0
  have HZ1 := Lib.hid hz1
  have HZ2 := Lib.hid hz2
  have HR := Lib.hid h
  have hsm := h.small
  have HL : Hid (L.length = len) := Lib.hid h.length
  clear h hi0 hz0 hz1 hz2
  have hmx := hsm
  unfold maxLen at hmx
  have HX : Hid (∀ k, k < len → ∃ x, L[k]? = some x ∧ a = some ⟨b, off, none⟩ ∧ b < w.heap.size ∧ w.cell? ⟨b, off + k * 2, none⟩ = some (.int .u8 x.m.tag) ∧ w.cell? ⟨b, off + k * 2 + 1, none⟩ = some x.bv) := Lib.hid (fun k hk => by
    obtain ⟨x, h1, h2, h3, h4, h5, _⟩ := sec_cells HR.out hk
    exact ⟨x, h1, h2, h3, h4, h5⟩)
  have HB0 : Hid (Below w.heap.size w (w.alloc (.cells #[] 116))) := Lib.hid ((Below.refl _ w).alloc (Nat.le_refl _) _)
  go_enter Try.func36, Try.ntmps36
  go_wp2_with fail
  go_loopw [3, 9] (fun v i wr => ∃ k : Nat, k ≤ len ∧ i = .int .i64 (k : Int) ∧ Hid (Gath wr w.heap.size 116 2 v k ((L.take k).flatMap encS)) ∧ Hid (Below w.heap.size w wr)) (fun v i _ => len - (intOf i).toNat)
  case atStart => exact ⟨0, Nat.zero_le _, rfl, Lib.hid (.inl ⟨rfl, rfl, _, rfl⟩), HB0⟩
  case round =>
    obtain ⟨k, hk, rfl, HG, HB⟩ := hrel
    have hk0 : (0 : Int) ≤ (k : Int) := Int.natCast_nonneg k
    by_cases hlt : k < len
    · obtain ⟨x, hx, ha, hb, c0, c1⟩ := HX.out k hlt
      have c0' := (HB.out.cell (p := ⟨b, off + k * 2, none⟩) hb).trans c0
      have c1' := (HB.out.cell (p := ⟨b, off + k * 2 + 1, none⟩) hb).trans c1
      have HT : Hid ((L.take (k + 1)).flatMap encS = (L.take k).flatMap encS ++ encS x) := Lib.hid (by
        obtain ⟨g1, g2⟩ := List.getElem?_eq_some_iff.1 hx
        rw [List.take_succ_eq_append_getElem g1, List.flatMap_append, g2]
        simp)
      subst ha
      have hki : (k : Int) < (len : Int) := by omega
      have hbs := HB.out.size
      unfold SecV.bv at c1'
      have HNw : Hid (∀ j u, (encS x)[j]? = some u → ((wr.alloc (.cells #[.int .u8 x.m.tag, .slice x.ba x.m.body.length x.bc] 70)).alloc (.cells #[.int .u8 x.m.tag, .slice x.ba x.m.body.length x.bc] 116)).cell? ((⟨wr.heap.size + 1, 0, none⟩ : Addr).add j) = some u) := Lib.hid (fun j u hu => by
        have := cells_sec (wr.alloc (.cells #[.int .u8 x.m.tag, .slice x.ba x.m.body.length x.bc] 70)) x 116 j u hu
        rw [World.size_alloc] at this
        exact this)
      clear c0 c1 hx
      go_wp2_with (at_builtin; go_loud (refine wpList_append_gath _ rfl _ _ 67 rfl w.heap.size 116 i0 (.agg zSec) 2 32 Try.underlying67 HI.out HZ0.out HZ1.out HZ2.out rfl (by decide) _ k ((L.take k).flatMap encS) rfl ((HG.out.alloc _).alloc _) ⟨wr.heap.size + 1, 0, none⟩ 1 1 (encS x) rfl rfl HNw.out (one_sec x) (by decide) (by unfold maxLen; omega) (by omega) (by simp; omega) ?_); intro v' w5 hown hbel; have HG5 : Hid (Gath w5 w.heap.size 116 2 v' (k + 1) ((L.take (k + 1)).flatMap encS)) := Lib.hid (by rw [HT.out]; exact .inr hown); have HB5 : Hid (Below w.heap.size w w5) := Lib.hid (((HB.out.alloc (by omega) _).alloc (by simp; omega) _).trans hbel); clear hown hbel)
      go_roundw
      case rel => exact ⟨k + 1, by omega, by go_num, HG5, HB5⟩
      case measure => simp [intOf]; omega
    · obtain rfl : k = len := by omega
      have HQ : Hid (AsQ L w (.returned u3) wr) := Lib.hid (by
        have h1 := HG.out
        rw [List.take_of_length_le (by rw [HL.out]; exact Nat.le_refl _)] at h1
        rw [← HL.out] at h1
        obtain ⟨a', c', g, rfl, hr⟩ := rows_gath (enc := encS) (fit := fitS) (fun _ => rfl) h1 (by rw [HL.out]; exact hsm) HR.out.fits
        exact ⟨a', g, c', rfl, Lib.hid ⟨hr, HB.out⟩⟩)
      go_wp2
      go_ret
      exact HQ.out
def eqS (L M : List SecM) : Bool := decide (L = M)
theorem secM_ext {x y : SecM} (h1 : x.tag = y.tag) (h2 : x.body = y.body) : x = y := by cases x; cases y; simp_all
theorem take_eq_succ {α : Type} {L M : List α} {k : Nat} {x y : α} (h : L.take k = M.take k) (hx : L[k]? = some x) (hy : M[k]? = some y) (he : x = y) : L.take (k + 1) = M.take (k + 1) := by
  obtain ⟨g1, g2⟩ := List.getElem?_eq_some_iff.1 hx
  obtain ⟨g3, g4⟩ := List.getElem?_eq_some_iff.1 hy
  rw [List.take_succ_eq_append_getElem g1, List.take_succ_eq_append_getElem g3, h, g2, g4, he]
set_option maxRecDepth 100000 in
set_option maxHeartbeats 2000000 in
theorem rsame_any {w : World} {a a' : Option Addr} {b off len cap b' off' len' cap' : Nat} {L M : List SecV} (h : RowsAt encS fitS 2 w.heap.size w a b off len L) (hi : ∀ x ∈ L, SecIn w.heap.size w x) (h' : RowsAt encS fitS 2 w.heap.size w a' b' off' len' M) (hi' : ∀ x ∈ M, SecIn w.heap.size w x) :
    Calls Try.prog 41 #[.slice a len cap, .slice a' len' cap'] w fun e w' => e = .returned (.bool (eqS (secsM L) (secsM M))) ∧ Below w.heap.size w w' := by
  have HL : Hid ((secsM L).length = len) := Lib.hid (by unfold secsM; rw [List.length_map]; exact h.length)
  have HM : Hid ((secsM M).length = len') := Lib.hid (by unfold secsM; rw [List.length_map]; exact h'.length)
  have hsm := h.small
  unfold maxLen at hsm
  obtain ⟨Q, hQ⟩ : ∃ Q, eqS (secsM L) (secsM M) = Q := ⟨_, rfl⟩
  have HF : Hid (Q = decide (secsM L = secsM M)) := Lib.hid (by rw [← hQ]; rfl)
  rw [hQ]
  have HX : Hid (∀ k, k < len → ∃ x, L[k]? = some x ∧ a = some ⟨b, off, none⟩ ∧ b < w.heap.size ∧ w.cell? ⟨b, off + k * 2, none⟩ = some (.int .u8 x.m.tag) ∧ w.cell? ⟨b, off + k * 2 + 1, none⟩ = some x.bv ∧ fitS x ∧ SecIn w.heap.size w x) := Lib.hid (fun k hk => by
    obtain ⟨x, h1, h2, h3, h4, h5, h6⟩ := sec_cells h hk
    exact ⟨x, h1, h2, h3, h4, h5, h6, hi x (List.mem_of_getElem? h1)⟩)
  have HY : Hid (∀ k, k < len' → ∃ x, M[k]? = some x ∧ a' = some ⟨b', off', none⟩ ∧ b' < w.heap.size ∧ w.cell? ⟨b', off' + k * 2, none⟩ = some (.int .u8 x.m.tag) ∧ w.cell? ⟨b', off' + k * 2 + 1, none⟩ = some x.bv ∧ fitS x ∧ SecIn w.heap.size w x) := Lib.hid (fun k hk => by
    obtain ⟨x, h1, h2, h3, h4, h5, h6⟩ := sec_cells h' hk
    exact ⟨x, h1, h2, h3, h4, h5, h6, hi' x (List.mem_of_getElem? h1)⟩)
  clear h hi h' hi' hQ
  go_enter Try.func41, Try.ntmps41
  by_cases hll : len = len'
  · subst hll
    go_wp2_with fail
    go_loopw [5] (fun i wr => ∃ k : Nat, k ≤ len ∧ i = .int .i64 (k : Int) ∧ Hid ((secsM L).take k = (secsM M).take k) ∧ Hid (Below w.heap.size w wr)) (fun i _ => len - (intOf i).toNat)
    case atStart => exact ⟨0, Nat.zero_le _, rfl, Lib.hid rfl, Lib.hid (Below.refl _ _)⟩
    case round =>
      obtain ⟨k, hk, rfl, HA, HB⟩ := hrel
      have hk0 : (0 : Int) ≤ (k : Int) := Int.natCast_nonneg k
      by_cases hlt : k < len
      · obtain ⟨x, hx, ha, hb, e0, e1, hfx, hxi⟩ := HX.out k hlt
        obtain ⟨y, hy, ha', hb', e2, e3, hfy, hyi⟩ := HY.out k hlt
        have c0 := (HB.out.cell (p := ⟨b, off + k * 2, none⟩) hb).trans e0
        have c1 := (HB.out.cell (p := ⟨b, off + k * 2 + 1, none⟩) hb).trans e1
        have d0 := (HB.out.cell (p := ⟨b', off' + k * 2, none⟩) hb').trans e2
        have d1 := (HB.out.cell (p := ⟨b', off' + k * 2 + 1, none⟩) hb').trans e3
        have hbw : b < wr.heap.size := by have := HB.out.size; omega
        have hbw' : b' < wr.heap.size := by have := HB.out.size; omega
        clear e0 e1 e2 e3
        have hmx : (secsM L)[k]? = some x.m := by unfold secsM; rw [List.getElem?_map, hx]; rfl
        have hmy : (secsM M)[k]? = some y.m := by unfold secsM; rw [List.getElem?_map, hy]; rfl
        have HT : Hid (x.m = y.m → (secsM L).take (k + 1) = (secsM M).take (k + 1)) := Lib.hid (take_eq_succ HA.out hmx hmy)
        have HN : Hid (x.m ≠ y.m → Q = false) := Lib.hid (fun hne => by
          rw [HF.out]
          simp only [decide_eq_false_iff_not]
          intro e
          rw [e, hmy] at hmx
          exact hne (by simpa using hmx.symm))
        have HSm : Hid (∀ n, Calls Try.prog 24 #[.slice x.ba x.m.body.length x.bc, .slice y.ba y.m.body.length y.bc] (wr.drewN n) fun e w' => e = .returned (.bool (decide (x.m.body = y.m.body))) ∧ w' = wr.drewN n) := Lib.hid (fun n => (same_any (hxi.row.kept (HB.out.trans ((drewN_below wr n).mono HB.out.size)) (Nat.le_refl _)) (hyi.row.kept (HB.out.trans ((drewN_below wr n).mono HB.out.size)) (Nat.le_refl _)) x.bc y.bc).mono (fun e w' h => ⟨h.1, h.2.symm⟩))
        subst ha ha'
        have hki : (k : Int) < (len : Int) := by omega
        unfold SecV.bv at c1 d1
        obtain ⟨tx, htx⟩ : ∃ t, x.m.tag = t := ⟨_, rfl⟩
        obtain ⟨ty, hty⟩ : ∃ t, y.m.tag = t := ⟨_, rfl⟩
        obtain ⟨lx, hlx⟩ : ∃ t, x.m.body.length = t := ⟨_, rfl⟩
        obtain ⟨ly, hly⟩ : ∃ t, y.m.body.length = t := ⟨_, rfl⟩
        rw [htx] at c0
        rw [hty] at d0
        rw [hlx] at c1 HSm
        rw [hly] at d1 HSm
        have HE := Lib.hid (And.intro htx hty)
        clear hx hy hmx hmy hxi hyi htx hty hlx hly hfx hfy
        by_cases htt : tx = ty
        · have hbb : (tx == ty) = true := by simpa using htt
          have hbn : (tx != ty) = false := by simpa using htt
          by_cases hbd : x.m.body = y.m.body
          · have hxy : x.m = y.m := secM_ext (by rw [HE.out.1, HE.out.2, htt]) hbd
            have HT2 := Lib.hid (HT.out hxy)
            have HS2 := HSm.out
            rw [show decide (x.m.body = y.m.body) = true by simpa using hbd] at HS2
            have HS3 := Lib.hid HS2
            clear hxy hbd HS2 HSm htt
            go_wp2
            go_quiet ((go_at_call 24; with_reducible exact Calls.quiet_of_same (HS3.out _)))
            go_wp2
            go_roundw
            case rel => exact ⟨k + 1, by omega, by go_num, HT2, Lib.hid (HB.out.trans ((drewN_below wr _).mono HB.out.size))⟩
            case measure => simp [intOf]; omega
          · have hq : Q = false := HN.out (fun e => hbd (by rw [e]))
            have HS2 := HSm.out
            rw [show decide (x.m.body = y.m.body) = false by simpa using hbd] at HS2
            have HS3 := Lib.hid HS2
            clear hbd HS2 HSm htt
            subst hq
            go_wp2
            go_quiet ((go_at_call 24; with_reducible exact Calls.quiet_of_same (HS3.out _)))
            go_wp2
            go_ret
            exact ⟨rfl, HB.out.trans ((drewN_below wr _).mono HB.out.size)⟩
        · have hbb : (tx == ty) = false := by simpa using htt
          have hbn : (tx != ty) = true := by simpa using htt
          have hq : Q = false := HN.out (fun e => htt (by rw [← HE.out.1, ← HE.out.2, e]))
          subst hq
          clear htt HSm
          go_wp2
          go_quiet (fail)
          go_wp2
          go_ret
          exact ⟨rfl, HB.out.trans ((drewN_below wr _).mono HB.out.size)⟩
      · obtain rfl : k = len := by omega
        have hq : Q = true := by
          rw [HF.out]
          have h1 := HA.out
          rw [List.take_of_length_le (by rw [HL.out]; exact Nat.le_refl _), List.take_of_length_le (by rw [HM.out]; exact Nat.le_refl _)] at h1
          simpa using h1
        subst hq
        go_wp2
        go_ret
        exact ⟨rfl, HB.out⟩
  · have hq : Q = false := by
      rw [HF.out]
      simp only [decide_eq_false_iff_not]
      intro e
      exact hll (by rw [← HL.out, e, HM.out])
    subst hq
    have hli : ¬ (len : Int) = (len' : Int) := by omega
    go_wp2
    go_ret
    exact ⟨rfl, Below.refl _ _⟩
end Go.Proofs.Ytnkhpmpoemodiaa.Se
