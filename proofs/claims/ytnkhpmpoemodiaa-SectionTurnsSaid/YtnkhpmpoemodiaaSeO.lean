/- The walk of SectionTurns: other lists have other bytes; a section more stands behind. -/
import Derived.Test.YtnkhpmpoemodiaaSeN
set_option linter.unusedVariables false
set_option linter.unusedSectionVars false
set_option linter.unusedSimpArgs false
namespace Go.Proofs.Ytnkhpmpoemodiaa.Se
open Go.RowKit Go.Shelf

theorem wpList_append_zeroN {P : Program} {w : World} {ops : Array Oper} {rest : List Oper} {o : Oper} {a : Act} {Q : Exit → Act → World → Prop} (hgd : o.guard = none) (s x : Operand) (t : TypeId)
    (ho : o.op = .call { callee := .builtin .append, args := #[s, x], argTypes := #[t, t] })
    (e : TypeId) (i : TypeInfo) (ht : P.underlying t = some (.slice e)) (hi : P.info? e = some i)
    (ao : Option Addr) (n k : Nat) (hn : n ≤ k) (hs : a.eval s = .slice ao n k) (px : Option Addr) (c : Nat) (hx : a.eval x = .slice px 0 c)
    (h : wpList P ops Q rest (a.put o.dst (.slice ao n k)) w) : wpList P ops Q (o :: rest) a w := by
  refine wpList_plain hgd fun K hK => ?_
  have hrun : (Builtin.append_ #[t, t] o.type #[.slice ao n k, .slice px 0 c]).run P w = .ok (.slice ao n k) w := by
    cases ao <;> cases px <;> simp [Builtin.append_, run_underlying ht, sizeOf, typeInfo, hi, Builtin.lenOf, Builtin.firstCells, storeCells, loadCells, loadCellsFrom, Result.andThen, hn]
  unfold Oper.wp
  simp [execOp, ho, resolve, invoke, builtin, hs, hx, hrun, Result.andThen]
  exact hK _ _ h
theorem gath_room {w : World} {base : Nat} {e : TypeId} {size : Nat} {v : Value} {n : Nat} {xs : List Value} (h : Gath w base e size v n xs) : ∃ a cap, v = .slice a n cap ∧ n ≤ cap := by
  rcases h with ⟨rfl, _, ao, rfl⟩ | h
  · exact ⟨ao, 0, rfl, Nat.le_refl _⟩
  · rcases h.2 with ⟨rfl, rfl⟩ | ⟨g, cap, cur, rfl, hb, hg, hnc, _⟩
    · exact ⟨none, 0, rfl, Nat.le_refl _⟩
    · exact ⟨_, cap, rfl, hnc⟩
/-- Rows appended to what was gathered. -/
theorem wpList_append_rows {α : Type} {enc : α → List Value} {fit : α → Prop} {sz : Nat} (hsz : ∀ x, (enc x).length = sz) (hone : ∀ L : List α, ∀ u ∈ L.flatMap enc, u.oneCell' = true) {P : Program} {w : World} {ops : Array Oper} {rest : List Oper} {o : Oper} {a : Act} {Q : Exit → Act → World → Prop} (hgd : o.guard = none) (s x : Operand) (t : TypeId)
    (ho : o.op = .call { callee := .builtin .append, args := #[s, x], argTypes := #[t, t] })
    (base : Nat) (e : TypeId) (i : TypeInfo) (z : Value) (bytes : Nat) (ht : P.underlying t = some (.slice e)) (hi : P.info? e = some i) (hz : i.zero = some z)
    (hsize : i.size = sz) (hby : i.bytes = bytes) (hzs : z.cells.size = sz) (h0 : 0 < sz)
    (v : Value) (X : List α) (hs : a.eval s = v) (hg : Gath w base e sz v X.length (X.flatMap enc)) {pa : Option Addr} {b off len c : Nat} {L : List α} (hx : a.eval x = .slice pa len c) (hr : RowsAt enc fit sz w.heap.size w pa b off len L) (hl : (X.length + len) * bytes ≤ 140737488355328) (hm : X.length + len ≤ maxLen) (hbase : base ≤ w.heap.size)
    (h : ∀ v' w', Gath w' base e sz v' (X ++ L).length ((X ++ L).flatMap enc) → Below base w w' → wpList P ops Q rest (a.put o.dst v') w') : wpList P ops Q (o :: rest) a w := by
  obtain rfl := hr.length
  by_cases hn : L.length = 0
  · obtain rfl : L = [] := List.eq_nil_of_length_eq_zero hn
    obtain ⟨ao, cap, rfl, hc⟩ := gath_room hg
    refine wpList_append_zeroN hgd s x t ho e i ht hi ao X.length cap hc hs pa c hx (h _ w ?_ (Below.refl _ _))
    rw [List.append_nil]
    exact hg
  · have hpa := hr.addr.resolve_left hn
    subst hpa
    refine wpList_append_gath w hgd s x t ho base e i z sz bytes ht hi hz hsize hby hzs h0 v X.length (X.flatMap enc) hs hg ⟨b, off, none⟩ L.length c (L.flatMap enc) hx (flat_lenU hsz _) (rows_cells hsz hr) (hone L) (by omega) hm hl hbase ?_
    intro v' w' hown hb
    refine h v' w' (.inr ?_) hb
    rw [List.length_append, List.flatMap_append]
    exact hown
theorem oneSecs (L : List SecV) : ∀ u ∈ L.flatMap encS, u.oneCell' = true := fun u hu => by
  obtain ⟨x, _, hx⟩ := List.mem_flatMap.1 hu
  exact one_sec x u hx
/-- What was gathered, as a list of sections. -/
theorem secs_gath {w : World} {base : Nat} {e : TypeId} {v : Value} {L : List SecV} (h : Gath w base e 2 v L.length (L.flatMap encS)) (hm : L.length ≤ maxLen) (hf : ∀ x ∈ L, fitS x) (hi : ∀ x ∈ L, SecIn w.heap.size w x) : ∃ a c b, v = .slice a L.length c ∧ SecsAt w.heap.size w a b 0 L.length c L := by
  rcases h with ⟨h1, _, ao, rfl⟩ | h
  · exact ⟨ao, 0, 0, by rw [h1], RowsAt.nil h1 (List.eq_nil_of_length_eq_zero h1), hi, fun _ => ⟨h1, rfl⟩, by omega⟩
  · rcases h.2 with ⟨rfl, h1⟩ | ⟨g, cap, cur, rfl, hb, hg, hnc, hcm, hcs, htake⟩
    · exact ⟨none, 0, 0, by rw [h1], RowsAt.nil h1 (List.eq_nil_of_length_eq_zero h1), hi, fun _ => ⟨h1, rfl⟩, by omega⟩
    · refine ⟨_, cap, g, rfl, ⟨.inr rfl, rfl, hm, .inr (heap_lt hg), fun i x hx j u hu => ?_, hf⟩, hi, fun e => (by cases e), hnc⟩
      have h2 := rows_flat (enc := encS) (sz := 2) (fun _ => rfl) L i x hx j u hu
      have := h.cells (g := g) rfl _ _ h2
      rw [addr_add, Nat.zero_add] at this
      rw [Nat.zero_add]
      exact this
theorem RowsAt_take {B : Nat} {w : World} {a : Option Addr} {b off len : Nat} {L : List SecV} (h : RowsAt encS fitS 2 B w a b off len L) (d : Nat) (hd : d ≤ len) : RowsAt encS fitS 2 B w a b off d (L.take d) := by
  have h1 := h.addr
  have h2 := h.below
  have h3 := h.small
  refine ⟨by rcases h1 with g | g; exact .inl (by omega); exact .inr g, by rw [List.length_take, h.length]; omega, by omega, by omega, fun i x hx j u hu => ?_, fun x hx => h.fits x (List.mem_of_mem_take hx)⟩
  have hl := (List.getElem?_eq_some_iff.1 hx).1
  rw [List.length_take] at hl
  rw [List.getElem?_take_of_lt (by omega)] at hx
  exact h.cell i x hx j u hu
theorem pack_inj {A B : List SecM} (hA : packE A = 0) (hB : packE B = 0) (h1 : ∀ x ∈ A, x.body.length ≤ 100) (h2 : ∀ x ∈ B, x.body.length ≤ 100) : decide (packI A = packI B) = eqS A B := by
  unfold eqS
  by_cases h : A = B
  · subst h; simp
  · have : packI A ≠ packI B := fun e => by
      have g1 := (pack_back A hA (fun x hx => by have := h1 x hx; omega)).2
      have g2 := (pack_back B hB (fun x hx => by have := h2 x hx; omega)).2
      rw [e, g2] at g1
      exact h g1.symm
    simp [h, this]
theorem pack_small (M : List SecM) (hl : M.length ≤ 300) (h : ∀ x ∈ M, x.body.length ≤ 100) : (packI M).length ≤ 40000 := by
  unfold packI
  split
  · rw [sealI_length]
    unfold innerI
    simp only [List.length_append]
    have h1 := heads_len M
    have h2 := bodies_len M h
    have h3 := putF_len M.length
    have h4 : signI.length = 4 := rfl
    omega
  · simp
theorem rise_more {A : List SecM} {x : SecM} (hA : riseB A = true) (h : ∀ y, A.getLast? = some y → y.tag < x.tag) (h0 : -1 < x.tag) : riseB (A ++ [x]) = true := by
  unfold riseB at hA ⊢
  rw [riseG_append, hA, Bool.true_and]
  simp only [decide_eq_true_eq]
  cases hl : A.getLast? with
  | none =>
    have : A = [] := List.getLast?_eq_none_iff.1 hl
    subst this
    simpa using h0
  | some y =>
    have : A.getLastD ⟨-1, []⟩ = y := by rw [List.getLastD_eq_getLast?, hl]; rfl
    rw [this]
    exact h y hl
theorem packE_more {A : List SecM} (hl : A.length ≤ 255) (h : riseB A = true) : packE A = 0 := by
  unfold packE
  rw [if_neg (by omega), if_pos h]
set_option maxRecDepth 100000 in
set_option maxHeartbeats 4000000 in
theorem walk_SectionTurns (a : Option Addr) (len cap : Nat) (L : List SecV) (a1 : Option Addr) (len1 cap1 : Nat) (L1 : List SecV) (a2 : Option Addr) (len2 cap2 : Nat) (z2 : List Int) (w : World) (hi : IsSecs w a len cap L) (hi1 : IsSecs w a1 len1 cap1 L1) (hi2 : IsRow .u8 w a2 len2 cap2 z2) :
    Calls Try.prog 11 #[.slice a len cap, .slice a1 len1 cap1, .slice a2 len2 cap2] w fun e w' => e = .returned (.bool true) ∧ Below w.heap.size w w' := by
  obtain ⟨b, off, hs⟩ := hi
  obtain ⟨b1, off1, hs1⟩ := hi1
  obtain ⟨b2, off2, hs2⟩ := hi2.ints
  have hcap2 := hi2.cap
  have hn2 : a2 = none → len2 = 0 ∧ cap2 = 0 := fun e => by subst e; exact hi2.nil
  have HS := Lib.hid hs
  have HS1 := Lib.hid hs1
  have HS2 := Lib.hid (And.intro hs2 (And.intro hn2 hcap2))
  have hsm := hs.rows.small
  have hsm1 := hs1.rows.small
  have hsm2 := hs2.small
  unfold maxLen at hsm hsm1 hsm2
  obtain ⟨bd, hbd⟩ : ∃ bd, z2.take len2 = bd := ⟨_, rfl⟩
  rw [hbd] at HS2
  have HAl := Lib.hid (alive_any w)
  clear hs hs1 hs2 hn2 hcap2 hi2 hbd
  go_enter Try.func11, Try.ntmps11
  go_wp2_with fail
  refine HAl.out.mono ?_
  rintro e w1 ⟨rfl, hb1⟩
  have HB1 := Lib.hid hb1
  have HFw := Lib.hid (few_any (HS.out.on hb1))
  obtain ⟨fw, hfw⟩ : ∃ fw, fewB (secsM L) = fw := ⟨_, rfl⟩
  rw [hfw] at HFw
  have HFE := Lib.hid hfw
  clear hb1 HAl hfw
  go_wp2_with fail
  refine HFw.out.mono ?_
  rintro e w2 ⟨rfl, hb2⟩
  have HB2 : Hid (Below w.heap.size w w2) := Lib.hid (HB1.out.trans (hb2.mono HB1.out.size))
  clear hb2 HB1 HFw
  cases fw with
  | false =>
    go_wp2
    go_ret
    exact ⟨rfl, HB2.out⟩
  | true =>
    have HFw := Lib.hid (few_any (HS1.out.on HB2.out))
    obtain ⟨fw, hfw⟩ : ∃ fw, fewB (secsM L1) = fw := ⟨_, rfl⟩
    rw [hfw] at HFw
    have HFE1 := Lib.hid hfw
    clear hfw
    go_wp2_with fail
    refine HFw.out.mono ?_
    rintro e w3 ⟨rfl, hb3⟩
    have HB3 : Hid (Below w.heap.size w w3) := Lib.hid (HB2.out.trans (hb3.mono HB2.out.size))
    clear hb3 HB2 HFw
    cases fw with
    | false =>
      go_wp2
      go_ret
      exact ⟨rfl, HB3.out⟩
    | true =>
      by_cases h100 : 100 < len
      · have h100i : (100 : Int) < (len : Int) := by omega
        go_wp2
        go_ret
        exact ⟨rfl, HB3.out⟩
      · by_cases h101 : 100 < len1
        · have h100i : ¬ (100 : Int) < (len : Int) := by omega
          have h101i : (100 : Int) < (len1 : Int) := by omega
          go_wp2
          go_ret
          exact ⟨rfl, HB3.out⟩
        · by_cases h102 : 100 < len2
          · have h100i : ¬ (100 : Int) < (len : Int) := by omega
            have h101i : ¬ (100 : Int) < (len1 : Int) := by omega
            have h102i : (100 : Int) < (len2 : Int) := by omega
            go_wp2
            go_ret
            exact ⟨rfl, HB3.out⟩
          · have h100i : ¬ (100 : Int) < (len : Int) := by omega
            have h101i : ¬ (100 : Int) < (len1 : Int) := by omega
            have h102i : ¬ (100 : Int) < (len2 : Int) := by omega
            have HIn : Hid (In1 w a len cap L b off) := Lib.hid (in1_of HS.out HFE.out)
            have HIn1 : Hid (In1 w a1 len1 cap1 L1 b1 off1) := Lib.hid (in1_of HS1.out HFE1.out)
            clear HS HS1 HFE HFE1
            rcases packE_cases (secsM L) (by have := HIn.out.ml; omega) with ⟨hE, hri⟩ | hE
            · obtain ⟨N, hN⟩ : ∃ N, (packI (secsM L)).length = N := ⟨_, rfl⟩
              have HPk := Lib.hid (pack_good (HIn.out.on HB3.out).at_ (by omega) HIn.out.few hE hN)
              have HEA := Lib.hid (And.intro hE (And.intro hri hN))
              clear hE hri hN
              go_wp2_with fail
              refine HPk.out.mono ?_
              rintro e w4 ⟨g4, rfl, HQ4⟩
              have HB4 : Hid (Below w.heap.size w w4) := Lib.hid (HB3.out.trans (HQ4.out.1.mono HB3.out.size))
              clear HPk HB3
              rcases packE_cases (secsM L1) (by have := HIn1.out.ml; omega) with ⟨hE, hri⟩ | hE
              · obtain ⟨N1, hN⟩ : ∃ N, (packI (secsM L1)).length = N := ⟨_, rfl⟩
                have HPk := Lib.hid (pack_good (HIn1.out.on HB4.out).at_ (by omega) HIn1.out.few hE hN)
                have HEB := Lib.hid (And.intro hE hN)
                clear hE hri hN
                go_wp2_with fail
                refine HPk.out.mono ?_
                rintro e w5 ⟨g5, rfl, HQ5⟩
                have HB5 : Hid (Below w.heap.size w w5) := Lib.hid (HB4.out.trans (HQ5.out.1.mono HB4.out.size))
                obtain ⟨q, hq⟩ : ∃ q, eqS (secsM L) (secsM L1) = q := ⟨_, rfl⟩
                have HSm : Hid (Calls Try.prog 24 #[.slice (some ⟨g4, 0, none⟩) N N, .slice (some ⟨g5, 0, none⟩) N1 N1] w5 fun e w' => e = .returned (.bool q) ∧ w5 = w') := Lib.hid (by
                  have x1 := HEA.out.2.2
                  have x2 := HEB.out.2
                  have i1 := whole_ints (heap_below HQ4.out.2.2.1 HQ5.out.1 (heap_lt HQ4.out.2.2.1)) HQ4.out.2.2.2.1 (by rw [x1]; have := pack_len _ HEA.out.1 (by rw [HIn.out.ml]; omega) HIn.out.small; have := heads_small _ HIn.out.small; have := HIn.out.few; have := heads_len (secsM L); have := HIn.out.ml; unfold maxLen; omega)
                  have i2 := whole_ints HQ5.out.2.2.1 HQ5.out.2.2.2.1 (by rw [x2]; have := pack_len _ HEB.out.1 (by rw [HIn1.out.ml]; omega) HIn1.out.small; have := heads_small _ HIn1.out.small; have := HIn1.out.few; have := heads_len (secsM L1); have := HIn1.out.ml; unfold maxLen; omega)
                  have h := same_any i1 i2 N N1
                  rw [pack_inj HEA.out.1 HEB.out.1 HIn.out.small HIn1.out.small, hq, x1, x2] at h
                  exact h)
                have HQE := Lib.hid hq
                clear HPk HB4 HQ4 HQ5 hq
                go_wp2_with fail
                refine HSm.out.mono ?_
                rintro e w6 ⟨rfl, rfl⟩
                have HA1 := Lib.hid (as_any (cap := cap) (HIn.out.on HB5.out).at_.rows (by omega))
                clear HSm
                go_wp2_with fail
                refine HA1.out.mono ?_
                rintro e w6 ⟨a6, b6, c6, rfl, HQ6⟩
                have HB6 : Hid (Below w.heap.size w w6) := Lib.hid (HB5.out.trans (HQ6.out.2.mono HB5.out.size))
                have HA2 := Lib.hid (as_any (cap := cap1) (HIn1.out.on HB6.out).at_.rows (by omega))
                clear HA1 HB5
                go_wp2_with fail
                refine HA2.out.mono ?_
                rintro e w7 ⟨a7, b7, c7, rfl, HQ7⟩
                have HB7 : Hid (Below w.heap.size w w7) := Lib.hid (HB6.out.trans (HQ7.out.2.mono HB6.out.size))
                have HSm := Lib.hid (rsame_any (cap := c6) (cap' := c7) (HQ6.out.1.on HQ7.out.2) (HIn.out.on HB7.out).at_.inner HQ7.out.1 (HIn1.out.on HB7.out).at_.inner)
                rw [HQE.out] at HSm
                clear HA2 HB6 HQ6 HQ7
                go_wp2_with fail
                refine HSm.out.mono ?_
                rintro e w8 ⟨rfl, hb8⟩
                have HB8 : Hid (Below w.heap.size w w8) := Lib.hid (HB7.out.trans (hb8.mono HB7.out.size))
                have hqq : (q != q) = false := by simp
                clear hb8 HSm HB7 HIn1 HEB HQE
                obtain ⟨i0, hi0, hz0, hz1, hz2⟩ := info_parts Try.infoSecP
                have HI := Lib.hid hi0
                have HZ0 := Lib.hid hz0
                have HZ1 := Lib.hid hz1
                have HZ2 := Lib.hid hz2
                clear hi0 hz0 hz1 hz2
                by_cases hl0 : len = 0
                · have HLST : Hid (∀ y, (secsM L).getLast? = some y → y.tag < 255) := Lib.hid (fun y hy => by
                    have := HIn.out.ml
                    rw [hl0] at this
                    rw [List.eq_nil_of_length_eq_zero this] at hy
                    cases hy)
                  have h0i : ¬ (0 : Int) < (len : Int) := by omega
                  clear hl0
                  have HRI : Hid (riseB (secsM L ++ [⟨255, bd⟩]) = true) := Lib.hid (rise_more HEA.out.2.1 HLST.out (by show (-1 : Int) < 255; decide))
                  have HMS : Hid ((∀ x ∈ secsM L ++ [(⟨255, bd⟩ : SecM)], x.body.length ≤ 100) ∧ (secsM L ++ [(⟨255, bd⟩ : SecM)]).length = len + 1) := Lib.hid ⟨fun x hx => by
                    rcases List.mem_append.1 hx with hx | hx
                    · exact HIn.out.small x hx
                    · rw [List.mem_singleton.1 hx]
                      have := HS2.out.1.length
                      show bd.length ≤ 100
                      omega, by rw [List.length_append, HIn.out.ml]; rfl⟩
                  have HE2 : Hid (packE (secsM L ++ [⟨255, bd⟩]) = 0) := Lib.hid (packE_more (by have := HMS.out.2; omega) HRI.out)
                  have HLL : Hid (L.length = len) := Lib.hid HIn.out.at_.rows.length
                  clear HLST HEA
                  go_wp2_with (first
                    | (at_builtin; refine wpList_append_rows (enc := encS) (fit := fitS) (sz := 2) (fun _ => rfl) oneSecs rfl _ _ 61 rfl w8.heap.size 70 i0 (.agg zSecP) 32 Try.underlying61 HI.out HZ0.out HZ1.out HZ2.out rfl (by decide) (.slice (some ⟨w8.heap.size, 0, none⟩) 0 0) [] rfl (.inl ⟨rfl, rfl, _, rfl⟩) (pa := a) (c := cap) (L := L) (b := b) (off := off) rfl ((HIn.out.on HB8.out).on ((Below.refl _ _).alloc (Nat.le_refl _) _)).at_.rows (by simp only [List.length_nil]; omega) (by simp only [List.length_nil]; unfold maxLen; omega) (by simp) ?_; intro v9 w9 hg9 hb9; obtain ⟨ao9, c9, hv9, hc9⟩ := gath_room hg9; subst hv9; have hzl : (([] : List SecV) ++ L).length = len := HLL.out; rw [hzl] at hc9 ⊢; simp only [List.nil_append] at hg9; have HG9 := Lib.hid hg9; have HB9 : Hid (Below w.heap.size w w9 ∧ w8.heap.size ≤ w9.heap.size) := Lib.hid ⟨(HB8.out.alloc HB8.out.size _).trans (hb9.mono HB8.out.size), by have := hb9.size; simp at this; omega⟩; clear hg9 hb9 hzl)
                    | (at_builtin; refine wpList_append_rows (enc := encS) (fit := fitS) (sz := 2) (fun _ => rfl) oneSecs rfl _ _ 61 rfl w8.heap.size 70 i0 (.agg zSecP) 32 Try.underlying61 HI.out HZ0.out HZ1.out HZ2.out rfl (by decide) (.slice ao9 len c9) L rfl (by have h := HG9.out; rw [HLL.out] at h ⊢; exact h.alloc _) (pa := some ⟨w9.heap.size, 0, none⟩) (c := 1) (len := 1) (L := [⟨⟨255, bd⟩, a2, b2, off2, cap2⟩]) (b := w9.heap.size) (off := 0) rfl (rows_block (enc := encS) (fit := fitS) (fun _ => rfl) (heap_new (w := w9) (.cells #[.int .u8 255, .slice a2 len2 cap2] 70) rfl) (by have := HS2.out.1.length; simp [encS, SecV.bv, this]) (by show 1 ≤ maxLen; decide) (fun x hx => by rw [List.mem_singleton.1 hx]; show (Lit.int .u8 255).wf = true; decide) rfl) (by rw [HLL.out]; omega) (by rw [HLL.out]; unfold maxLen; omega) (by have := HB9.out.2; simp; omega) ?_; intro v10 w10 hg10 hb10; have HB10 : Hid (Below w.heap.size w w10) := Lib.hid ((HB9.out.1.alloc HB9.out.1.size _).trans (hb10.mono HB8.out.size)); have HG10 := Lib.hid hg10; clear hg10 hb10; obtain ⟨a10, c10, b10, hv10, hs10⟩ := secs_gath HG10.out (by rw [List.length_append, HLL.out]; show len + 1 ≤ maxLen; unfold maxLen; omega) (fun x hx => by
                        rcases List.mem_append.1 hx with hx | hx
                        · exact HIn.out.at_.rows.fits x hx
                        · rw [List.mem_singleton.1 hx]; show (Lit.int .u8 255).wf = true; decide) (fun x hx => by
                        rcases List.mem_append.1 hx with hx | hx
                        · exact (HIn.out.on HB10.out).at_.inner x hx
                        · rw [List.mem_singleton.1 hx]
                          have hl := HS2.out.1.length
                          exact ⟨by show IntsAt .u8 w10.heap.size w10 a2 b2 off2 bd.length bd; rw [hl]; exact (HS2.out.1.kept HB10.out (Nat.le_refl _)).mono HB10.out.size, by show a2 = none → bd.length = 0 ∧ cap2 = 0; rw [hl]; exact HS2.out.2.1, by show bd.length ≤ cap2; rw [hl]; exact HS2.out.2.2⟩); subst hv10; have hzl2 : (L ++ [(⟨⟨255, bd⟩, a2, b2, off2, cap2⟩ : SecV)]).length = len + 1 := (by rw [List.length_append, HLL.out]; rfl); rw [hzl2] at hs10 ⊢; have hsm10 : secsM (L ++ [(⟨⟨255, bd⟩, a2, b2, off2, cap2⟩ : SecV)]) = secsM L ++ [⟨255, bd⟩] := (by unfold secsM; rw [List.map_append]; rfl); have HS10 := Lib.hid (And.intro hs10 hsm10); clear hs10 hsm10 hzl2 HG10 HG9))
                  have hm2 := HMS.out.2
                  obtain ⟨N2, hN2⟩ : ∃ N2, (packI (secsM L ++ [(⟨255, bd⟩ : SecM)])).length = N2 := ⟨_, rfl⟩
                  have hN2s : N2 ≤ 40000 := by rw [← hN2]; exact pack_small _ (by omega) HMS.out.1
                  have HPk : Hid (Calls Try.prog 34 #[.slice a10 (len + 1) c10] w10 (PkG N2 (secsM L ++ [(⟨255, bd⟩ : SecM)]) w10)) := Lib.hid (by
                    have h := pack_good (n := N2) HS10.out.1 (by omega) (by rw [HS10.out.2]; have := bodies_len _ HMS.out.1; omega) (by rw [HS10.out.2]; exact HE2.out) (by rw [HS10.out.2]; exact hN2)
                    rw [HS10.out.2] at h
                    exact h)
                  have HN2 := Lib.hid (And.intro hN2 hN2s)
                  clear hm2 hN2 hN2s
                  refine HPk.out.mono ?_
                  rintro e w11 ⟨g11, rfl, HQ11⟩
                  have HB11 : Hid (Below w.heap.size w w11) := Lib.hid (HB10.out.trans (HQ11.out.1.mono HB10.out.size))
                  have hsml : ∀ x ∈ secsM L ++ [(⟨255, bd⟩ : SecM)], x.body.length ≤ 60000 := fun x hx => by have := HMS.out.1 x hx; omega
                  have HU11 : Hid (Calls Try.prog 39 #[.slice (some ⟨g11, 0, none⟩) N2 N2] w11 (UnG (len + 1) (secsM L ++ [(⟨255, bd⟩ : SecM)]) w11)) := Lib.hid (unpack_good (zs := packI (secsM L ++ [(⟨255, bd⟩ : SecM)])) (whole_ints HQ11.out.2.2.1 HQ11.out.2.2.2.1 (by rw [HN2.out.1]; have := HN2.out.2; unfold maxLen; omega)) (fun e => by cases e) (by rw [HN2.out.1]; have := HN2.out.2; omega) (pack_back _ HE2.out hsml).1 (pack_back _ HE2.out hsml).2 HMS.out.2 HN2.out.1)
                  clear hsml HPk HB10 HQ11 HS10
                  go_wp2_with fail
                  refine HU11.out.mono ?_
                  rintro e w12 ⟨a12, c12, V12, rfl, HQ12⟩
                  obtain ⟨b12, o12, hV12⟩ := HQ12.out.1
                  have HB12 : Hid (Below w.heap.size w w12) := Lib.hid (HB11.out.trans (HQ12.out.2.2.mono HB11.out.size))
                  have HVM : Hid (secsM V12 = secsM L ++ [(⟨255, bd⟩ : SecM)]) := Lib.hid HQ12.out.2.1
                  have ha12 := hV12.rows.addr.resolve_left (by omega)
                  subst ha12
                  have hcc : len + 1 ≤ c12 := hV12.cap
                  have HV12 := Lib.hid hV12
                  have HFd := Lib.hid (find_any hV12 (fun x hx => by
                    have := HMS.out.1 x.m (by rw [← HVM.out]; unfold secsM; exact List.mem_map_of_mem hx)
                    omega) 255)
                  clear hV12 HU11 HQ12 HB11 HE2 HN2
                  go_wp2_with fail
                  refine HFd.out.mono ?_
                  rintro e w13 ⟨a13, b13, c13, body, ok, rfl, HE13, HQ13⟩
                  have hff : (secsM V12).find? (fun x => x.tag == 255) = some ⟨255, bd⟩ := by
                    rw [HVM.out]
                    exact rise_find (a := -1) (k := len) (x := ⟨255, bd⟩) HRI.out (by rw [List.getElem?_append_right (by rw [HIn.out.ml]; exact Nat.le_refl _), HIn.out.ml, Nat.sub_self]; rfl)
                  have hE1 : body = bd := HE13.out.1.trans (by rw [hff]; rfl)
                  have hE2 : ok = true := HE13.out.2.trans (by rw [hff]; rfl)
                  subst hE1 hE2
                  have HB13 : Hid (Below w.heap.size w w13 ∧ Below w12.heap.size w12 w13) := Lib.hid ⟨HB12.out.trans (HQ13.out.2.2.2.mono HB12.out.size), HQ13.out.2.2.2⟩
                  have hbl := HS2.out.1.length
                  have HSm : Hid (Calls Try.prog 24 #[.slice a13 len2 c13, .slice a2 len2 cap2] w13 fun e w' => e = .returned (.bool true) ∧ w13 = w') := Lib.hid (by
                    have h := same_any HQ13.out.1 (HS2.out.1.kept HB13.out.1 (Nat.le_refl _)) c13 cap2
                    rw [hbl, show decide (body = body) = true by simp] at h
                    exact h)
                  rw [hbl]
                  clear hff HFd HE13 HQ13 HRI hbl
                  have hsl : len ≤ c12 := by omega
                  have hsl2 : (len : Int) ≤ (c12 : Int) := by omega
                  go_wp2_with fail
                  refine HSm.out.mono ?_
                  rintro e w14 ⟨rfl, rfl⟩
                  have HA1 := Lib.hid (as_any (cap := c12) (RowsAt_take (HV12.out.on HB13.out.2).rows len (by omega)) (by omega))
                  clear HSm
                  go_wp2_with fail
                  refine HA1.out.mono ?_
                  rintro e w15 ⟨a15, b15, c15, rfl, HQ15⟩
                  have hvl : (V12.take len).length = len := by
                    have := HV12.out.rows.length
                    rw [List.length_take]; omega
                  rw [hvl] at HQ15 ⊢
                  have HB15 : Hid (Below w.heap.size w w15 ∧ Below w12.heap.size w12 w15) := Lib.hid ⟨HB13.out.1.trans (HQ15.out.2.mono HB13.out.1.size), HB13.out.2.trans (HQ15.out.2.mono HB13.out.2.size)⟩
                  have HA2 := Lib.hid (as_any (cap := cap) (HIn.out.on HB15.out.1).at_.rows (by omega))
                  clear HA1 HB13 hvl
                  go_wp2_with fail
                  refine HA2.out.mono ?_
                  rintro e w16 ⟨a16, b16, c16, rfl, HQ16⟩
                  rw [HLL.out] at HQ16 ⊢
                  have HB16 : Hid (Below w.heap.size w w16 ∧ Below w12.heap.size w12 w16) := Lib.hid ⟨HB15.out.1.trans (HQ16.out.2.mono HB15.out.1.size), HB15.out.2.trans (HQ16.out.2.mono HB15.out.2.size)⟩
                  have HSm : Hid (Calls Try.prog 41 #[.slice a15 len c15, .slice a16 len c16] w16 fun e w' => e = .returned (.bool true) ∧ Below w16.heap.size w16 w') := Lib.hid (by
                    have h := rsame_any (cap := c15) (cap' := c16) (HQ15.out.1.on HQ16.out.2) (fun x hx => (HV12.out.on HB16.out.2).inner x (List.mem_of_mem_take hx)) HQ16.out.1 (HIn.out.on HB16.out.1).at_.inner
                    have hq : secsM (V12.take len) = secsM L := by
                      have h2 : secsM (V12.take len) = (secsM V12).take len := by unfold secsM; rw [List.map_take]
                      rw [h2, HVM.out, List.take_append_of_le_length (by rw [HIn.out.ml]; exact Nat.le_refl _), List.take_of_length_le (by rw [HIn.out.ml]; exact Nat.le_refl _)]
                    rw [hq, show eqS (secsM L) (secsM L) = true by unfold eqS; simp] at h
                    exact h)
                  clear HA2 HB15 HQ15 HQ16
                  go_wp2_with fail
                  refine HSm.out.mono ?_
                  rintro e w17 ⟨rfl, hb17⟩
                  have HF : Hid (Below w.heap.size w w17) := Lib.hid (HB16.out.1.trans (hb17.mono HB16.out.1.size))
                  clear hb17 HSm
                  go_wp2
                  go_ret
                  exact ⟨rfl, HF.out⟩
                · have hll := HIn.out.at_.rows.length
                  obtain ⟨x, hx, ha, hb, e0, e1, hfx⟩ := sec_cells HIn.out.at_.rows (show len - 1 < len by omega)
                  have c0 := (HB8.out.cell (p := ⟨b, off + (len - 1) * 2, none⟩) hb).trans e0
                  have hlast : (secsM L).getLast? = some x.m := by
                    unfold secsM
                    rw [List.getLast?_map, List.getLast?_eq_getElem?, hll, hx]
                    rfl
                  have hft := bounds_u8 hfx
                  have h0i : (0 : Int) < (len : Int) := by omega
                  obtain ⟨m, hm⟩ : ∃ m, len - 1 = m := ⟨_, rfl⟩
                  rw [hm] at c0
                  have hmi : (len : Int) - 1 = (m : Int) := by omega
                  have hml : (m : Int) < (len : Int) := by omega
                  have hm0 : (0 : Int) ≤ (m : Int) := Int.natCast_nonneg m
                  obtain ⟨t, ht⟩ : ∃ t, x.m.tag = t := ⟨_, rfl⟩
                  rw [ht] at c0 hft
                  have HTE := Lib.hid ht
                  have HLA := Lib.hid hlast
                  have HAD := Lib.hid ha
                  clear e0 e1 hx hfx hlast hll hm ht hl0
                  by_cases h255 : t = 255
                  · have hbe : (t == 255) = true := by simpa using h255
                    clear h255
                    subst ha
                    go_wp2
                    go_ret
                    exact ⟨rfl, HB8.out⟩
                  · have hbe : (t == 255) = false := by simpa using h255
                    have HLST : Hid (∀ y, (secsM L).getLast? = some y → y.tag < 255) := Lib.hid (fun y hy => by
                      rw [HLA.out] at hy
                      cases hy
                      rw [HTE.out]
                      omega)
                    clear h255 HAD
                    subst ha
                    have HRI : Hid (riseB (secsM L ++ [⟨255, bd⟩]) = true) := Lib.hid (rise_more HEA.out.2.1 HLST.out (by show (-1 : Int) < 255; decide))
                    have HMS : Hid ((∀ x ∈ secsM L ++ [(⟨255, bd⟩ : SecM)], x.body.length ≤ 100) ∧ (secsM L ++ [(⟨255, bd⟩ : SecM)]).length = len + 1) := Lib.hid ⟨fun x hx => by
                      rcases List.mem_append.1 hx with hx | hx
                      · exact HIn.out.small x hx
                      · rw [List.mem_singleton.1 hx]
                        have := HS2.out.1.length
                        show bd.length ≤ 100
                        omega, by rw [List.length_append, HIn.out.ml]; rfl⟩
                    have HE2 : Hid (packE (secsM L ++ [⟨255, bd⟩]) = 0) := Lib.hid (packE_more (by have := HMS.out.2; omega) HRI.out)
                    have HLL : Hid (L.length = len) := Lib.hid HIn.out.at_.rows.length
                    clear HLST HEA
                    go_wp2_with (first
                      | (at_builtin; refine wpList_append_rows (enc := encS) (fit := fitS) (sz := 2) (fun _ => rfl) oneSecs rfl _ _ 61 rfl w8.heap.size 70 i0 (.agg zSecP) 32 Try.underlying61 HI.out HZ0.out HZ1.out HZ2.out rfl (by decide) (.slice (some ⟨w8.heap.size, 0, none⟩) 0 0) [] rfl (.inl ⟨rfl, rfl, _, rfl⟩) (pa := some ⟨b, off, none⟩) (c := cap) (L := L) (b := b) (off := off) rfl ((HIn.out.on HB8.out).on ((Below.refl _ _).alloc (Nat.le_refl _) _)).at_.rows (by simp only [List.length_nil]; omega) (by simp only [List.length_nil]; unfold maxLen; omega) (by simp) ?_; intro v9 w9 hg9 hb9; obtain ⟨ao9, c9, hv9, hc9⟩ := gath_room hg9; subst hv9; have hzl : (([] : List SecV) ++ L).length = len := HLL.out; rw [hzl] at hc9 ⊢; simp only [List.nil_append] at hg9; have HG9 := Lib.hid hg9; have HB9 : Hid (Below w.heap.size w w9 ∧ w8.heap.size ≤ w9.heap.size) := Lib.hid ⟨(HB8.out.alloc HB8.out.size _).trans (hb9.mono HB8.out.size), by have := hb9.size; simp at this; omega⟩; clear hg9 hb9 hzl)
                      | (at_builtin; refine wpList_append_rows (enc := encS) (fit := fitS) (sz := 2) (fun _ => rfl) oneSecs rfl _ _ 61 rfl w8.heap.size 70 i0 (.agg zSecP) 32 Try.underlying61 HI.out HZ0.out HZ1.out HZ2.out rfl (by decide) (.slice ao9 len c9) L rfl (by have h := HG9.out; rw [HLL.out] at h ⊢; exact h.alloc _) (pa := some ⟨w9.heap.size, 0, none⟩) (c := 1) (len := 1) (L := [⟨⟨255, bd⟩, a2, b2, off2, cap2⟩]) (b := w9.heap.size) (off := 0) rfl (rows_block (enc := encS) (fit := fitS) (fun _ => rfl) (heap_new (w := w9) (.cells #[.int .u8 255, .slice a2 len2 cap2] 70) rfl) (by have := HS2.out.1.length; simp [encS, SecV.bv, this]) (by show 1 ≤ maxLen; decide) (fun x hx => by rw [List.mem_singleton.1 hx]; show (Lit.int .u8 255).wf = true; decide) rfl) (by rw [HLL.out]; omega) (by rw [HLL.out]; unfold maxLen; omega) (by have := HB9.out.2; simp; omega) ?_; intro v10 w10 hg10 hb10; have HB10 : Hid (Below w.heap.size w w10) := Lib.hid ((HB9.out.1.alloc HB9.out.1.size _).trans (hb10.mono HB8.out.size)); have HG10 := Lib.hid hg10; clear hg10 hb10; obtain ⟨a10, c10, b10, hv10, hs10⟩ := secs_gath HG10.out (by rw [List.length_append, HLL.out]; show len + 1 ≤ maxLen; unfold maxLen; omega) (fun x hx => by
                          rcases List.mem_append.1 hx with hx | hx
                          · exact HIn.out.at_.rows.fits x hx
                          · rw [List.mem_singleton.1 hx]; show (Lit.int .u8 255).wf = true; decide) (fun x hx => by
                          rcases List.mem_append.1 hx with hx | hx
                          · exact (HIn.out.on HB10.out).at_.inner x hx
                          · rw [List.mem_singleton.1 hx]
                            have hl := HS2.out.1.length
                            exact ⟨by show IntsAt .u8 w10.heap.size w10 a2 b2 off2 bd.length bd; rw [hl]; exact (HS2.out.1.kept HB10.out (Nat.le_refl _)).mono HB10.out.size, by show a2 = none → bd.length = 0 ∧ cap2 = 0; rw [hl]; exact HS2.out.2.1, by show bd.length ≤ cap2; rw [hl]; exact HS2.out.2.2⟩); subst hv10; have hzl2 : (L ++ [(⟨⟨255, bd⟩, a2, b2, off2, cap2⟩ : SecV)]).length = len + 1 := (by rw [List.length_append, HLL.out]; rfl); rw [hzl2] at hs10 ⊢; have hsm10 : secsM (L ++ [(⟨⟨255, bd⟩, a2, b2, off2, cap2⟩ : SecV)]) = secsM L ++ [⟨255, bd⟩] := (by unfold secsM; rw [List.map_append]; rfl); have HS10 := Lib.hid (And.intro hs10 hsm10); clear hs10 hsm10 hzl2 HG10 HG9))
                    have hm2 := HMS.out.2
                    obtain ⟨N2, hN2⟩ : ∃ N2, (packI (secsM L ++ [(⟨255, bd⟩ : SecM)])).length = N2 := ⟨_, rfl⟩
                    have hN2s : N2 ≤ 40000 := by rw [← hN2]; exact pack_small _ (by omega) HMS.out.1
                    have HPk : Hid (Calls Try.prog 34 #[.slice a10 (len + 1) c10] w10 (PkG N2 (secsM L ++ [(⟨255, bd⟩ : SecM)]) w10)) := Lib.hid (by
                      have h := pack_good (n := N2) HS10.out.1 (by omega) (by rw [HS10.out.2]; have := bodies_len _ HMS.out.1; omega) (by rw [HS10.out.2]; exact HE2.out) (by rw [HS10.out.2]; exact hN2)
                      rw [HS10.out.2] at h
                      exact h)
                    have HN2 := Lib.hid (And.intro hN2 hN2s)
                    clear hm2 hN2 hN2s
                    refine HPk.out.mono ?_
                    rintro e w11 ⟨g11, rfl, HQ11⟩
                    have HB11 : Hid (Below w.heap.size w w11) := Lib.hid (HB10.out.trans (HQ11.out.1.mono HB10.out.size))
                    have hsml : ∀ x ∈ secsM L ++ [(⟨255, bd⟩ : SecM)], x.body.length ≤ 60000 := fun x hx => by have := HMS.out.1 x hx; omega
                    have HU11 : Hid (Calls Try.prog 39 #[.slice (some ⟨g11, 0, none⟩) N2 N2] w11 (UnG (len + 1) (secsM L ++ [(⟨255, bd⟩ : SecM)]) w11)) := Lib.hid (unpack_good (zs := packI (secsM L ++ [(⟨255, bd⟩ : SecM)])) (whole_ints HQ11.out.2.2.1 HQ11.out.2.2.2.1 (by rw [HN2.out.1]; have := HN2.out.2; unfold maxLen; omega)) (fun e => by cases e) (by rw [HN2.out.1]; have := HN2.out.2; omega) (pack_back _ HE2.out hsml).1 (pack_back _ HE2.out hsml).2 HMS.out.2 HN2.out.1)
                    clear hsml HPk HB10 HQ11 HS10
                    go_wp2_with fail
                    refine HU11.out.mono ?_
                    rintro e w12 ⟨a12, c12, V12, rfl, HQ12⟩
                    obtain ⟨b12, o12, hV12⟩ := HQ12.out.1
                    have HB12 : Hid (Below w.heap.size w w12) := Lib.hid (HB11.out.trans (HQ12.out.2.2.mono HB11.out.size))
                    have HVM : Hid (secsM V12 = secsM L ++ [(⟨255, bd⟩ : SecM)]) := Lib.hid HQ12.out.2.1
                    have ha12 := hV12.rows.addr.resolve_left (by omega)
                    subst ha12
                    have hcc : len + 1 ≤ c12 := hV12.cap
                    have HV12 := Lib.hid hV12
                    have HFd := Lib.hid (find_any hV12 (fun x hx => by
                      have := HMS.out.1 x.m (by rw [← HVM.out]; unfold secsM; exact List.mem_map_of_mem hx)
                      omega) 255)
                    clear hV12 HU11 HQ12 HB11 HE2 HN2
                    go_wp2_with fail
                    refine HFd.out.mono ?_
                    rintro e w13 ⟨a13, b13, c13, body, ok, rfl, HE13, HQ13⟩
                    have hff : (secsM V12).find? (fun x => x.tag == 255) = some ⟨255, bd⟩ := by
                      rw [HVM.out]
                      exact rise_find (a := -1) (k := len) (x := ⟨255, bd⟩) HRI.out (by rw [List.getElem?_append_right (by rw [HIn.out.ml]; exact Nat.le_refl _), HIn.out.ml, Nat.sub_self]; rfl)
                    have hE1 : body = bd := HE13.out.1.trans (by rw [hff]; rfl)
                    have hE2 : ok = true := HE13.out.2.trans (by rw [hff]; rfl)
                    subst hE1 hE2
                    have HB13 : Hid (Below w.heap.size w w13 ∧ Below w12.heap.size w12 w13) := Lib.hid ⟨HB12.out.trans (HQ13.out.2.2.2.mono HB12.out.size), HQ13.out.2.2.2⟩
                    have hbl := HS2.out.1.length
                    have HSm : Hid (Calls Try.prog 24 #[.slice a13 len2 c13, .slice a2 len2 cap2] w13 fun e w' => e = .returned (.bool true) ∧ w13 = w') := Lib.hid (by
                      have h := same_any HQ13.out.1 (HS2.out.1.kept HB13.out.1 (Nat.le_refl _)) c13 cap2
                      rw [hbl, show decide (body = body) = true by simp] at h
                      exact h)
                    rw [hbl]
                    clear hff HFd HE13 HQ13 HRI hbl
                    have hsl : len ≤ c12 := by omega
                    have hsl2 : (len : Int) ≤ (c12 : Int) := by omega
                    go_wp2_with fail
                    refine HSm.out.mono ?_
                    rintro e w14 ⟨rfl, rfl⟩
                    have HA1 := Lib.hid (as_any (cap := c12) (RowsAt_take (HV12.out.on HB13.out.2).rows len (by omega)) (by omega))
                    clear HSm
                    go_wp2_with fail
                    refine HA1.out.mono ?_
                    rintro e w15 ⟨a15, b15, c15, rfl, HQ15⟩
                    have hvl : (V12.take len).length = len := by
                      have := HV12.out.rows.length
                      rw [List.length_take]; omega
                    rw [hvl] at HQ15 ⊢
                    have HB15 : Hid (Below w.heap.size w w15 ∧ Below w12.heap.size w12 w15) := Lib.hid ⟨HB13.out.1.trans (HQ15.out.2.mono HB13.out.1.size), HB13.out.2.trans (HQ15.out.2.mono HB13.out.2.size)⟩
                    have HA2 := Lib.hid (as_any (cap := cap) (HIn.out.on HB15.out.1).at_.rows (by omega))
                    clear HA1 HB13 hvl
                    go_wp2_with fail
                    refine HA2.out.mono ?_
                    rintro e w16 ⟨a16, b16, c16, rfl, HQ16⟩
                    rw [HLL.out] at HQ16 ⊢
                    have HB16 : Hid (Below w.heap.size w w16 ∧ Below w12.heap.size w12 w16) := Lib.hid ⟨HB15.out.1.trans (HQ16.out.2.mono HB15.out.1.size), HB15.out.2.trans (HQ16.out.2.mono HB15.out.2.size)⟩
                    have HSm : Hid (Calls Try.prog 41 #[.slice a15 len c15, .slice a16 len c16] w16 fun e w' => e = .returned (.bool true) ∧ Below w16.heap.size w16 w') := Lib.hid (by
                      have h := rsame_any (cap := c15) (cap' := c16) (HQ15.out.1.on HQ16.out.2) (fun x hx => (HV12.out.on HB16.out.2).inner x (List.mem_of_mem_take hx)) HQ16.out.1 (HIn.out.on HB16.out.1).at_.inner
                      have hq : secsM (V12.take len) = secsM L := by
                        have h2 : secsM (V12.take len) = (secsM V12).take len := by unfold secsM; rw [List.map_take]
                        rw [h2, HVM.out, List.take_append_of_le_length (by rw [HIn.out.ml]; exact Nat.le_refl _), List.take_of_length_le (by rw [HIn.out.ml]; exact Nat.le_refl _)]
                      rw [hq, show eqS (secsM L) (secsM L) = true by unfold eqS; simp] at h
                      exact h)
                    clear HA2 HB15 HQ15 HQ16
                    go_wp2_with fail
                    refine HSm.out.mono ?_
                    rintro e w17 ⟨rfl, hb17⟩
                    have HF : Hid (Below w.heap.size w w17) := Lib.hid (HB16.out.1.trans (hb17.mono HB16.out.1.size))
                    clear hb17 HSm
                    go_wp2
                    go_ret
                    exact ⟨rfl, HF.out⟩
              · have HPk := Lib.hid (pack_fault (HIn1.out.on HB4.out).at_ (by omega) HIn1.out.few hE (by decide))
                clear hE
                go_wp2_with fail
                refine HPk.out.mono ?_
                rintro e w5 ⟨rfl, hb5⟩
                have HF : Hid (Below w.heap.size w w5) := Lib.hid (HB4.out.trans (hb5.mono HB4.out.size))
                clear hb5
                go_wp2
                go_ret
                exact ⟨rfl, HF.out⟩
            · have HPk := Lib.hid (pack_fault (HIn.out.on HB3.out).at_ (by omega) HIn.out.few hE (by decide))
              clear hE
              go_wp2_with fail
              refine HPk.out.mono ?_
              rintro e w4 ⟨rfl, hb4⟩
              have HB4 : Hid (Below w.heap.size w w4) := Lib.hid (HB3.out.trans (hb4.mono HB3.out.size))
              have HPk1 := Lib.hid (pack_any (HIn1.out.on HB4.out).at_ (by omega) HIn1.out.few)
              clear hb4
              go_wp2_with fail
              refine HPk1.out.mono ?_
              rintro e w5 ⟨a5, c5, g5, rfl, HQ5⟩
              have HF : Hid (Below w.heap.size w w5) := Lib.hid (HB4.out.trans (HQ5.out.1.mono HB4.out.size))
              obtain ⟨pl, hpl⟩ : ∃ pl, (packI (secsM L1)).length = pl := ⟨_, rfl⟩
              obtain ⟨pe, hpe⟩ : ∃ pe, packE (secsM L1) = pe := ⟨_, rfl⟩
              rw [hpl, hpe]
              clear hpl hpe HQ5
              go_wp2
              go_ret
              exact ⟨rfl, HF.out⟩
end Go.Proofs.Ytnkhpmpoemodiaa.Se
