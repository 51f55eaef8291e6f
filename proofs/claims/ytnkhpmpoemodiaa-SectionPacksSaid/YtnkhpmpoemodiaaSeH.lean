/- Contract: section.Find. -/
import Derived.Test.YtnkhpmpoemodiaaSeG
set_option linter.unusedVariables false
set_option linter.unusedSectionVars false
set_option linter.unusedSimpArgs false
namespace Go.Proofs.Ytnkhpmpoemodiaa.Se
open Go.RowKit Go.Shelf

theorem find1_any (x : SecV) (hf : fitS x) (A : Nat) (t : Int) (w : World) (hA : w.heap[A]? = some (.cells #[.int .u8 t] 5 (0, 0))) : Calls Try.prog 66 #[.agg #[.int .u8 x.m.tag, x.bv], .pointer (some ⟨A, 0, none⟩)] w fun e w' => e = .returned (.bool (x.m.tag == t)) ∧ Below w.heap.size w w' := by
  have hlt := heap_lt hA
  have c0 := heap_cell (heap_alloc hA (.cells #[.int .u8 x.m.tag, .slice x.ba x.m.body.length x.bc] 70)) (i := 0) rfl
  simp only [List.getElem_toArray, List.getElem_cons_zero] at c0
  have HB : Hid (Below w.heap.size w (w.alloc (.cells #[.int .u8 x.m.tag, .slice x.ba x.m.body.length x.bc] 70))) := Lib.hid ((Below.refl _ _).alloc (Nat.le_refl _) _)
  unfold SecV.bv
  obtain ⟨tx, htx⟩ : ∃ tx, x.m.tag = tx := ⟨_, rfl⟩
  obtain ⟨lx, hlx⟩ : ∃ lx, x.m.body.length = lx := ⟨_, rfl⟩
  rw [htx, hlx] at c0 HB ⊢
  clear hA htx hlx
  go_enter Try.func66, Try.ntmps66
  go_wp2
  go_ret
  exact ⟨rfl, HB.out⟩
/-- Where the first section of a tag stands. -/
def FI (L : List SecV) (t : Int) (r : Int) : Prop :=
  (r = -1 ∧ ∀ x ∈ L, x.m.tag ≠ t) ∨ ∃ (k : Nat) (x : SecV), r = (k : Int) ∧ L[k]? = some x ∧ x.m.tag = t ∧ ∀ j y, j < k → L[j]? = some y → y.m.tag ≠ t
def IdxQ (L : List SecV) (t : Int) (w : World) (e : Ending) (w' : World) : Prop := ∃ r, e = .returned (.int .i64 r) ∧ Hid (FI L t r) ∧ Hid (Below w.heap.size w w')
set_option maxRecDepth 100000 in
set_option maxHeartbeats 2000000 in
theorem index_any {w : World} {a : Option Addr} {b off len cap : Nat} {L : List SecV} (h : SecsAt w.heap.size w a b off len cap L) (A : Nat) (t : Int) (hA : w.heap[A]? = some (.cells #[.int .u8 t] 5 (0, 0))) :
    Calls Try.prog 65 #[.slice a len cap, .func (.func 66) #[] #[.pointer (some ⟨A, 0, none⟩)]] w (IdxQ L t w) := by
  have HR := Lib.hid h.rows
  have hsm := h.rows.small
  have HL : Hid (L.length = len) := Lib.hid h.rows.length
  have HA := Lib.hid hA
  have hlt := heap_lt hA
  clear h hA
  have hmx := hsm
  unfold maxLen at hmx
  have HX : Hid (∀ k, k < len → ∃ x, L[k]? = some x ∧ a = some ⟨b, off, none⟩ ∧ b < w.heap.size ∧ w.cell? ⟨b, off + k * 2, none⟩ = some (.int .u8 x.m.tag) ∧ w.cell? ⟨b, off + k * 2 + 1, none⟩ = some x.bv ∧ fitS x) := Lib.hid (fun k hk => sec_cells HR.out hk)
  go_enter Try.func65, Try.ntmps65
  go_wp2_with fail
  go_loopw [8] (fun i wr => ∃ k : Nat, k ≤ len ∧ i = .int .i64 (k : Int) ∧ Hid (∀ j (y : SecV), j < k → L[j]? = some y → y.m.tag ≠ t) ∧ Hid (Below w.heap.size w wr)) (fun i _ => len - (intOf i).toNat)
  case atStart => exact ⟨0, Nat.zero_le _, rfl, Lib.hid (fun j y hj => absurd hj (Nat.not_lt_zero _)), Lib.hid (Below.refl _ _)⟩
  case round =>
    obtain ⟨k, hk, rfl, HN, HB⟩ := hrel
    have hk0 : (0 : Int) ≤ (k : Int) := Int.natCast_nonneg k
    by_cases hk1 : k < len
    · obtain ⟨x, hx, ha, hb, e0, e1, hfx⟩ := HX.out k hk1
      have c0 := (HB.out.cell (p := ⟨b, off + k * 2, none⟩) hb).trans e0
      have c1 := (HB.out.cell (p := ⟨b, off + k * 2 + 1, none⟩) hb).trans e1
      have HF := Lib.hid (find1_any x hfx A t wr (heap_below HA.out HB.out hlt))
      have HXk := Lib.hid hx
      subst ha
      have hki : (k : Int) < (len : Int) := by omega
      unfold SecV.bv at c1 HF
      clear e0 e1 hx hfx
      by_cases hft : x.m.tag = t
      · have HF2 := HF.out
        rw [show (x.m.tag == t) = true by simpa using hft] at HF2
        have HF3 := Lib.hid HF2
        have HQ : Hid (FI L t (k : Int)) := Lib.hid (.inr ⟨k, x, rfl, HXk.out, hft, HN.out⟩)
        clear HF2 HF hft
        go_wp2_with fail
        refine HF3.out.mono ?_
        rintro e w2 ⟨rfl, hb2⟩
        have HB2 := Lib.hid (HB.out.trans (hb2.mono HB.out.size))
        clear hb2
        go_wp2
        go_ret
        exact ⟨_, rfl, HQ, HB2⟩
      · have HF2 := HF.out
        rw [show (x.m.tag == t) = false by simpa using hft] at HF2
        have HF3 := Lib.hid HF2
        have HN2 : Hid (∀ j (y : SecV), j < k + 1 → L[j]? = some y → y.m.tag ≠ t) := Lib.hid (fun j y hj hy => by
          by_cases e : j = k
          · subst e
            rw [HXk.out] at hy
            cases hy
            exact hft
          · exact HN.out j y (by omega) hy)
        clear HF2 HF hft
        go_wp2_with fail
        refine HF3.out.mono ?_
        rintro e w2 ⟨rfl, hb2⟩
        have HB2 := Lib.hid (HB.out.trans (hb2.mono HB.out.size))
        clear hb2
        go_wp2
        go_roundw
        case rel => exact ⟨k + 1, by omega, by go_num, HN2, HB2⟩
        case measure => simp [intOf]; omega
    · obtain rfl : k = len := by omega
      have HQ : Hid (FI L t (-1)) := Lib.hid (.inl ⟨rfl, fun x hx => by
        obtain ⟨j, hj⟩ := List.getElem?_of_mem hx
        exact HN.out j x (by rw [← HL.out]; exact (List.getElem?_eq_some_iff.1 hj).1) hj⟩)
      go_wp2
      go_ret
      exact ⟨_, rfl, HQ, HB⟩
/-- What is found is a copy. -/
def FindQ (L : List SecV) (t : Int) (w : World) (e : Ending) (w' : World) : Prop :=
  ∃ a b cap body ok, e = .returned (.tuple #[.slice a body.length cap, .bool ok]) ∧ Hid (body = ((secsM L).find? (fun x => x.tag == t)).elim [] (·.body) ∧ ok = ((secsM L).find? (fun x => x.tag == t)).isSome) ∧ Hid (IntsAt .u8 w'.heap.size w' a b 0 body.length body ∧ (a = none → body.length = 0 ∧ cap = 0) ∧ body.length ≤ cap ∧ Below w.heap.size w w')
theorem find_none {L : List SecV} {t : Int} (h : ∀ x ∈ L, x.m.tag ≠ t) : (secsM L).find? (fun x => x.tag == t) = none := by
  rw [List.find?_eq_none]
  intro x hx
  unfold secsM at hx
  obtain ⟨y, hy, rfl⟩ := List.mem_map.1 hx
  simpa using h y hy
theorem find_first {t : Int} : ∀ (L : List SecV) (k : Nat) (x : SecV), L[k]? = some x → x.m.tag = t → (∀ j y, j < k → L[j]? = some y → y.m.tag ≠ t) → (secsM L).find? (fun x => x.tag == t) = some x.m
  | [], k, x, h, _, _ => by simp at h
  | z :: L, 0, x, h, ht, _ => by
    have : z = x := by simpa using h
    subst this
    unfold secsM
    rw [List.map_cons, List.find?_cons_of_pos (by simpa using ht)]
  | z :: L, k + 1, x, h, ht, hn => by
    have hz := hn 0 z (by omega) rfl
    have := find_first L k x (by simpa using h) ht (fun j y hj hy => hn (j + 1) y (by omega) (by simpa using hy))
    unfold secsM at this ⊢
    rw [List.map_cons, List.find?_cons_of_neg (by simpa using hz)]
    exact this
set_option maxRecDepth 100000 in
set_option maxHeartbeats 2000000 in
theorem find_any {w : World} {a : Option Addr} {b off len cap : Nat} {L : List SecV} (h : SecsAt w.heap.size w a b off len cap L) (hs : ∀ x ∈ L, x.m.body.length ≤ 60000) (t : Int) : Calls Try.prog 37 #[.slice a len cap, .int .u8 t] w (FindQ L t w) := by
  have hb0 : Below w.heap.size w (w.alloc (.cells #[.int .u8 t] 5)) := (Below.refl _ _).alloc (Nat.le_refl _) _
  have HM := Lib.hid (h.on hb0)
  have HI := Lib.hid (index_any HM.out w.heap.size t (heap_new _ rfl))
  have HB := Lib.hid hb0
  have HS := Lib.hid hs
  have hsm := h.rows.small
  have hmx := hsm
  unfold maxLen at hmx
  clear h hb0 hs
  go_enter Try.func37, Try.ntmps37
  go_wp2_with fail
  refine HI.out.mono ?_
  rintro e w1 ⟨r, rfl, HFI, HB1⟩
  rcases HFI.out with ⟨rfl, hn⟩ | ⟨k, x, rfl, hx, ht, hfirst⟩
  · have HN := Lib.hid (find_none hn)
    clear hn
    go_wp2
    go_ret2
    exact ⟨none, 0, 0, [], false, rfl, Lib.hid (by rw [HN.out]; exact ⟨rfl, rfl⟩), Lib.hid ⟨⟨.inl rfl, rfl, Nat.zero_le _, .inl rfl, fun i hi => absurd hi (Nat.not_lt_zero _), fun n hn => by simp at hn⟩, fun _ => ⟨rfl, rfl⟩, Nat.le_refl _, HB.out.trans (HB1.out.mono HB.out.size)⟩⟩
  · have HFF := Lib.hid (find_first L k x hx ht hfirst)
    have hk : k < len := by rw [← HM.out.rows.length]; exact (List.getElem?_eq_some_iff.1 hx).1
    obtain ⟨y, hy, ha, hb, e0, e1, hfx⟩ := sec_cells HM.out.rows hk
    rw [hx] at hy
    cases hy
    have c1 := (HB1.out.cell (p := ⟨b, off + k * 2 + 1, none⟩) hb).trans e1
    have hxi := HM.out.inner x (List.mem_of_getElem? hx)
    have HC := Lib.hid (clone_any (cap := x.bc) (hxi.row.kept HB1.out (Nat.le_refl _)) hxi.nil (by have := HS.out x (List.mem_of_getElem? hx); omega))
    subst ha
    have hki : (k : Int) < (len : Int) := by omega
    have hk0 : (0 : Int) ≤ (k : Int) := Int.natCast_nonneg k
    have hkn : ¬ (k : Int) < 0 := by omega
    unfold SecV.bv at c1
    clear e0 e1 hx hfirst hxi hfx
    go_wp2_with fail
    refine HC.out.mono ?_
    rintro e w2 ⟨a5, b5, cap5, rfl, hc5, hI, hlb, hB, hnc, -⟩
    have HQ := Lib.hid (And.intro hI (And.intro hnc (And.intro hc5 (HB.out.trans ((HB1.out.mono HB.out.size).trans (hB.mono (by have := HB.out.size; have := HB1.out.size; omega)))))))
    clear hI hnc hc5 hB hlb
    go_wp2
    go_ret2
    exact ⟨a5, b5, cap5, x.m.body, true, rfl, Lib.hid (by rw [HFF.out]; exact ⟨rfl, rfl⟩), HQ⟩
end Go.Proofs.Ytnkhpmpoemodiaa.Se
