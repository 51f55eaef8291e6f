/- The walk of HeapCounts: one by one, and all at once; a heap that was emptied. -/
import Derived.Test.YtilecfmaehkafaaKe
set_option linter.unusedVariables false
namespace Go.Proofs.Ytilecfmaehkafaa
open Go.RowKit

theorem and_255 (n : Int) : bits .and .i64 n 255 = n % 256 := by
  have h511 : (BitVec.ofInt 64 255).toNat = 2 ^ 8 - 1 := by decide
  have key : (BitVec.ofInt 64 n &&& BitVec.ofInt 64 255).toNat = (n % ((2 ^ 64 : Nat) : Int)).toNat % 2 ^ 8 := by
    rw [BitVec.toNat_and, BitVec.toNat_ofInt, h511, Nat.and_two_pow_sub_one_eq_mod]
  show IntKind.i64.wrap ((BitVec.ofInt 64 n &&& BitVec.ofInt 64 255).toNat : Nat) = n % 256
  rw [key, IntKind.wrap_i64]
  omega

theorem two_cells (w : World) (x y : Int) : ∀ j u, (its [(x, y)])[j]? = some u → ((w.alloc (.cells #[.int .i64 x, .int .i64 y] 27)).alloc (.cells #[.int .i64 x, .int .i64 y] 27)).cell? ((⟨w.heap.size + 1, 0, none⟩ : Addr).add j) = some u := by
  intro j u hu
  have h := cell_two (w.alloc (.cells #[.int .i64 x, .int .i64 y] 27)) (x, y) 27 j u hu
  rwa [show (w.alloc (.cells #[.int .i64 x, .int .i64 y] 27)).heap.size = w.heap.size + 1 from by simp] at h

set_option maxHeartbeats 4000000 in
theorem walk_HeapCounts (a0 : Option Addr) (len0 cap0 : Nat) (z0 : List Int) (a1 : Int) (w : World) (w0 : IsRow .i64 w a0 len0 cap0 z0) (w1 : (Lit.int .i64 a1).wf = true) :
    Calls Try.prog 7 #[.slice a0 len0 cap0, .int .i64 a1] w fun e w' => e = .returned (.bool true) ∧ Below w.heap.size w w' := by
  obtain ⟨b, off, hi⟩ := w0.ints
  have hm := hi.small
  unfold maxLen at hm
  have H1 := Lib.hid hi
  clear hi w0
  generalize z0.take len0 = z at *
  by_cases h200 : 200 < len0
  · go_enter Try.func7, Try.ntmps7
    go_wp2_with fail
    refine (halive_any _).mono ?_
    rintro e w2 ⟨rfl, hB2⟩
    have HB2 := Lib.hid hB2
    clear hB2
    go_wp2
    go_ret
    exact ⟨rfl, HB2.out⟩
  obtain ⟨i0, hi, hz0, hz1, hz2⟩ := info_parts Try.infoItem
  have HIi := Lib.hid hi
  have HZ0 := Lib.hid hz0
  have HZ1 := Lib.hid hz1
  have HZ2 := Lib.hid hz2
  clear hi hz0 hz1 hz2
  obtain ⟨c, hc⟩ : ∃ c : Nat, bits .and .i64 a1 255 = (c : Int) := ⟨(a1 % 256).toNat, by rw [and_255]; omega⟩
  have hc255 : c ≤ 255 := by have := and_255 a1; omega
  obtain ⟨m, hmc⟩ : ∃ m : Nat, (c : Int).tmod ((len0 : Int) + 1) = (m : Int) ∧ m ≤ len0 :=
    ⟨c % (len0 + 1), by rw [Int.tmod_eq_emod_of_nonneg (by omega)]; exact_mod_cast rfl, by have := Nat.mod_lt c (show 0 < len0 + 1 by omega); omega⟩
  obtain ⟨hmc, hml⟩ := hmc
  go_enter Try.func7, Try.ntmps7
  go_wp2_with fail
  refine (halive_any _).mono ?_
  rintro e w2 ⟨rfl, hB2⟩
  have HB2 := Lib.hid hB2
  have hz2 := hB2.size
  clear hB2
  go_wp2_with fail
  refine (hc_new 10 kk w2).mono ?_
  rintro e w3 ⟨rfl, hN, hb2⟩
  have HN := Lib.hid hN
  have HB3 := Lib.hid hb2
  have hz3 := hb2.size
  clear hN hb2
  go_wp2_with fail
  refine (hc_new 10 kk w3).mono ?_
  rintro e w4 ⟨rfl, hN, hb2⟩
  have HP := Lib.hid (HH.of HN.out hb2 hN (Nat.le_refl _))
  have HB4 := Lib.hid ((HB2.out.trans (HB3.out.mono hz2)).trans (hb2.mono (by omega)))
  have hz4 := hb2.size
  have hp3 := HN.out.lt
  clear hN hb2 HN HB2 HB3
  go_wp2
  go_loopw [27] (fun i wr => ∃ k : Nat, i = .int .i64 k ∧ k ≤ len0 ∧ Hid (HH 10 kk w2.heap.size w3.heap.size wr (tg z k) (k : Int) (tg z k) (k : Int)) ∧ Hid (Below w.heap.size w wr))
    (fun i _ => len0 - (intOf i).toNat)
  case atStart =>
    exact ⟨0, rfl, Nat.zero_le _, HP, HB4⟩
  case round =>
    obtain ⟨k, rfl, hk, hH, hB⟩ := hrel
    have hbz := hB.out.size
    by_cases hlt : k < len0
    · have hI := H1.out.kept hB.out (Nat.le_refl _)
      have ha : a0 = some ⟨b, off, none⟩ := hI.addr.resolve_left (by omega)
      subst ha
      have c0 := hI.cell k hlt
      obtain ⟨x, hx⟩ : ∃ x, z.getD k 0 = x := ⟨_, rfl⟩
      rw [hx] at c0
      have HX : Hid (tg z (k + 1) = tg z k ++ [(x, (k : Int))]) := Lib.hid (by rw [← hx]; rfl)
      clear hI hx
      go_wp2_with fail
      refine (hh_push ordLess hH.out x k (by rw [tg_length]; omega) (by omega) (by omega)).mono ?_
      rintro e w5 ⟨rfl, h5, s5⟩
      have H5 := Lib.hid h5
      have S5 := Lib.hid s5
      clear h5 s5
      go_wp2_with fail
      refine (hh_push ordLess H5.out.symm x k (by rw [tg_length]; omega) (by omega) (by omega)).mono ?_
      rintro e w6 ⟨rfl, h6, s6⟩
      have H6 := Lib.hid h6.symm
      have S6 := Lib.hid s6
      clear h6 s6
      go_wp2
      go_roundw
      case rel =>
        refine ⟨k + 1, by go_num, by omega, Lib.hid ?_, Lib.hid ?_⟩
        · rw [HX.out]; exact_mod_cast H6.out
        · exact (hB.out.trans (S5.out.below.mono hz2)).trans (S6.out.below.mono (by omega))
      case measure => simp [intOf]; omega
    · obtain rfl : k = len0 := by omega
      have hl := tg_length z k
      generalize tg z k = R at *
      have ho1 := Hm.outs_length (kf := kk) m R
      have hl1 := Hm.left_length (kf := kk) m R
      have ho2 : Hm.outs kk 1000 (Hm.left kk m R) = Hm.srt kk (Hm.left kk m R) := Hm.outs_all 1000 _ (by omega)
      have hl2 := Hm.left_length (kf := kk) 1000 (Hm.left kk m R)
      have hs1 := Hm.srt_length (kf := kk) (Hm.left kk m R)
      have hcat := Hm.outs_left (kf := kk) m R
      have hall := Hm.outs_all (kf := kk) k R (by omega)
      have hl2 : Hm.left kk 1000 (Hm.left kk m R) = [] := Hm.nil_of (by omega)
      go_wp2_with fail
      refine (hh_take ordLess hH.out (by omega) (m : Int)).mono ?_
      rintro e w5 ⟨v9, rfl, g9, h5, s5⟩
      have ez : ((m : Int)).toNat = m := by omega
      rw [ez] at g9 h5
      rw [show (Hm.outs kk m R).length = m by omega] at g9
      have H5 := Lib.hid h5
      have S5 := Lib.hid s5
      have hz5 := s5.size
      obtain ⟨a9, cap9, rfl⟩ := g9.slice
      have G9 := Lib.hid g9
      clear g9 h5 s5
      go_wp2_with fail
      refine (hh_take ordLess H5.out (by omega) 1000).mono ?_
      rintro e w6 ⟨v10, rfl, g10, h6, s6⟩
      rw [show (1000 : Int).toNat = 1000 from rfl, ho2] at g10
      rw [show (1000 : Int).toNat = 1000 from rfl, hl2] at h6
      rw [show (Hm.srt kk (Hm.left kk m R)).length = k - m by omega] at g10
      have g9' := s6.gath G9.out (by decide) (by decide)
      have H6 := Lib.hid h6
      have S6 := Lib.hid s6
      have hz6 := s6.size
      obtain ⟨a10, cap10, rfl⟩ := g10.slice
      have G10 := Lib.hid g10
      have G9' := Lib.hid g9'
      have hp6 := H6.out.one.lt
      have hq6 := H6.out.symm.one.lt
      have B6 := Lib.hid ((hB.out.trans (S5.out.below.mono hz2)).trans (S6.out.below.mono (by omega)))
      clear g9' g10 h6 s6 G9
      go_wp2
      go_loopw [11, 57] (fun v i W => ∃ j : Nat, i = .int .i64 j ∧ j ≤ k ∧ Hid (Gath W w6.heap.size 27 2 v j (its (Hm.outs kk j R))) ∧ Hid (HH 10 kk w2.heap.size w3.heap.size W [] (k : Int) (Hm.left kk j R) (k : Int)) ∧ Hid (Spared w2.heap.size w6 W))
        (fun _ i _ => k - (intOf i).toNat)
      case atStart =>
        exact ⟨0, rfl, Nat.zero_le _, Lib.hid (.inl ⟨rfl, rfl, _, rfl⟩), Lib.hid (H6.out.below ((Below.refl _ _).alloc (Nat.le_refl _) _)), Lib.hid (Spared.of_below ((Below.refl _ _).alloc (Nat.le_refl _) _) (by omega))⟩
      case round =>
        obtain ⟨j, rfl, hj, hG, hH2, hS⟩ := hrel
        obtain ⟨a11, cap11, rfl⟩ := hG.out.slice
        have hlj := Hm.left_length (kf := kk) j R
        have hoj := Hm.outs_length (kf := kk) j R
        have hzW := hS.out.size
        by_cases hlt : j < k
        · have hsn := Hm.left_snoc (kf := kk) j R (by omega)
          have hos := Hm.outs_snoc (kf := kk) j R (by omega)
          go_wp2_with fail
          refine (hh_pop ordLess hH2.out.symm (by omega) (by omega)).mono ?_
          rintro e w7 ⟨rfl, h7, s7⟩
          rw [← hsn] at h7
          have G7 := Lib.hid (s7.gath hG.out (by decide) (by decide))
          have H7 := Lib.hid h7.symm
          have S7 := Lib.hid (hS.out.trans (s7.mono (by omega)))
          have hz7 := s7.size
          generalize ht : Hm.top kk (Hm.left kk j R) = tp at *
          obtain ⟨t1, t2⟩ := tp
          clear h7 s7 hH hH2 hG hS
          refine Hid.out (Lib.hid ?_)
          go_wp2_with (at_builtin; refine wpList_append_gathW _ rfl (.tmp 66) (.tmp 68) 29 rfl w6.heap.size 27 i0 (.agg #[.int .i64 0, .int .i64 0]) 2 16 Try.underlying29 HIi.out HZ0.out HZ1.out HZ2.out rfl (by decide) (.slice a11 j cap11) j (its (Hm.outs kk j R)) rfl (G7.out.kept (((Below.refl _ _).alloc (Nat.le_refl _) _).alloc (by simp) _)) ⟨w7.heap.size + 1, 0, none⟩ 1 1 (its [(t1, t2)]) rfl rfl (two_cells w7 t1 t2) (its_one _) (by decide) (by unfold maxLen; omega) (by omega) (by simp; omega) ?_; intro g8 cp8 w8 r8 hown hgrow hr hg; have H8 := Lib.hid (And.intro hown (And.intro hgrow (And.intro hr hg))); clear hown hgrow hr hg)
          obtain ⟨hown, hgrow, hr, hg⟩ := H8.out
          have hal := ((Below.refl w7.heap.size w7).alloc (Nat.le_refl _) (.cells #[.int .i64 t1, .int .i64 t2] 27)).alloc (by simp) (.cells #[.int .i64 t1, .int .i64 t2] 27)
          go_roundw
          case rel =>
            refine ⟨j + 1, by go_num, by omega, Lib.hid ?_, Lib.hid ?_, Lib.hid ?_⟩
            · rw [hos, its_append]
              exact .inr hown
            · exact (H7.out.below hal).kept hgrow (fun i e => by obtain ⟨e1, e2⟩ := hr i e; obtain ⟨_, cur, e3⟩ := owns_block e2 e1; exact ⟨_, e3, foreign_cells (by decide) (by decide)⟩)
            · exact S7.out.grown ((hal.mono (by omega)).grown hgrow (by simp; omega) (fun i e => by obtain ⟨e1, e2⟩ := hr i e; exact (owns_block e2 e1).1)) (by omega)
          case measure => simp [intOf]; omega
        · obtain rfl : j = k := by omega
          have hz0 : (Hm.left kk j R).length = 0 := by omega
          rw [hall] at hG
          have hG9 := hS.out.gath G9'.out (by decide) (by decide)
          have hG10 := hS.out.gath G10.out (by decide) (by decide)
          have HGA := Lib.hid hG9
          have HGB := Lib.hid hG10
          have HC1 := Lib.hid hH2.out.one
          have HC2 := Lib.hid hH2.out.symm.one
          have BW := Lib.hid (B6.out.trans (hS.out.below.mono hz2))
          have HCAT := Lib.hid hcat
          clear hG9 hG10 G9' G10 hS hH2 hH hcat hall
          go_wp2_with fail
          refine (hc_len HC1.out).mono ?_
          rintro e _ ⟨rfl, rfl⟩
          rw [show ([] : List (Int × Int)).length = 0 from rfl]
          go_wp2_with fail
          refine (hc_len HC2.out).mono ?_
          rintro e _ ⟨rfl, rfl⟩
          rw [hz0]
          refine Hid.out (Lib.hid ?_)
          go_wp2_with (at_builtin; first
            | (refine wpList_append_two _ rfl (.tmp 80) (.tmp 81) 29 rfl wr.heap.size 27 i0 (.agg #[.int .i64 0, .int .i64 0]) 2 16 Try.underlying29 HIi.out HZ0.out HZ1.out HZ2.out rfl (by decide) (.slice (some ⟨wr.heap.size, 0, none⟩) 0 0) 0 [] rfl (.inl ⟨rfl, rfl, _, rfl⟩) _ (.slice a9 m cap9) m (its (Hm.outs kk m R)) rfl (HGA.out.kept ((Below.refl _ _).alloc (Nat.le_refl _) _)) (its_ones _) (by unfold maxLen; omega) (by omega) (by simp) ?_; intro v12 w8 hg8 hb8; have H8 := Lib.hid (And.intro hg8 hb8); clear hg8 hb8)
            | (refine wpList_append_two _ rfl (.tmp 82) (.tmp 83) 29 rfl wr.heap.size 27 i0 (.agg #[.int .i64 0, .int .i64 0]) 2 16 Try.underlying29 HIi.out HZ0.out HZ1.out HZ2.out rfl (by decide) v12 (0 + m) ([] ++ its (Hm.outs kk m R)) rfl H8.out.1 _ (.slice a10 (j - m) cap10) (j - m) (its (Hm.srt kk (Hm.left kk m R))) rfl (HGB.out.kept (((Below.refl _ _).alloc (Nat.le_refl _) _).trans H8.out.2)) (its_ones _) (by unfold maxLen; omega) (by omega) (by have := H8.out.2.size; simp at this; omega) ?_; intro v13 w9 hg9 hb9; have H9 := Lib.hid (And.intro hg9 hb9); clear hg9 hb9))
          have hg13 := H9.out.1
          rw [List.nil_append, ← its_append, HCAT.out, show 0 + m + (j - m) = j by omega] at hg13
          have hB9 : Below wr.heap.size wr w9 := (((Below.refl _ wr).alloc (Nat.le_refl _) (.cells #[] 27)).trans (H8.out.2)).trans H9.out.2
          have hsl := Hm.srt_length (kf := kk) R
          obtain ⟨a13, cap13, b13, rfl, hc13, _, hI13⟩ := Gath.itsAt hg13 (by omega)
          obtain ⟨a14, cap14, b14, hv14, hc14, _, hI14⟩ := Gath.itsAt (hG.out.kept hB9) (by omega)
          cases hv14
          have HSa := Lib.hid (same_any (cap := cap13) (cap' := cap11) hI13 hI14 (by omega) (by omega) (Nat.le_refl _))
          rw [decide_eq_true (rfl : Hm.srt kk R = Hm.srt kk R)] at HSa
          have HB9 := Lib.hid hB9
          have hz9 := hB9.size
          clear hg13 hI13 hI14 H8 H9 hB9
          go_wp2_with fail
          refine HSa.out.mono ?_
          rintro e w10 ⟨rfl, hb10⟩
          have HB10 := Lib.hid (HB9.out.trans (hb10.mono hz9))
          have hz10 := hb10.size
          clear hb10 HSa
          go_wp2_with fail
          refine (hc_push ordLess (HC1.out.below HB10.out) 5 1 (by simp) (by omega) (by omega)).mono ?_
          rintro e w11 ⟨rfl, h11, s11⟩
          have H11 : Hid (HC 10 kk w2.heap.size w11 [(5, 1)] ((j : Int) + 1)) := Lib.hid h11
          have S11 := Lib.hid s11
          have hz11 := s11.size
          clear h11 s11
          have htop : Hm.top kk [((5 : Int), (1 : Int))] = (5, 1) := by decide
          have hrest : Hm.rest kk [((5 : Int), (1 : Int))] = [] := by decide
          go_wp2_with fail
          refine (hc_pop ordLess H11.out (by simp) (by simp)).mono ?_
          rintro e w12 ⟨rfl, h12, s12⟩
          rw [htop]
          rw [hrest] at h12
          have S12 := Lib.hid (S11.out.trans s12)
          have hz12 := s12.size
          have H12 := Lib.hid (h12.below ((Below.refl w12.heap.size w12).alloc (Nat.le_refl _) (.cells #[.int .i64 5, .int .i64 1] 27)))
          clear h12 s12 htop hrest
          go_wp2_with fail
          refine (hc_peek0 H12.out rfl).mono ?_
          rintro e w13 ⟨rfl, hb13⟩
          have f0 := heap_below (heap_new (w := w12) (.cells #[.int .i64 5, .int .i64 1] 27) (g := w12.heap.size) rfl) hb13 (by simp)
          have f1 := heap_alloc f0 (.cells #[.int .i64 0, .int .i64 0] 27)
          have c1 : (w13.alloc (.cells #[.int .i64 0, .int .i64 0] 27)).cell? ⟨w12.heap.size, 1, none⟩ = some (.int .i64 1) := heap_cell f1 rfl
          clear f0 f1
          have hz13 := hb13.size
          simp at hz13
          have HB13 := Lib.hid ((((BW.out.trans (HB10.out.mono (by omega))).trans (S12.out.below.mono hz2)).alloc (by omega) (.cells #[.int .i64 5, .int .i64 1] 27)).trans (hb13.mono (by simp; omega)))
          clear hb13
          go_wp2
          go_ret
          refine ⟨rfl, HB13.out.alloc (by have := HB13.out.size; omega) _⟩
end Go.Proofs.Ytilecfmaehkafaa
