/- The walk of HeapMixes: as many of each key; what comes out in turns with what is put in. -/
import Derived.Test.YtfghcjhfbbdanaaMs
import Derived.Maps.RangeWalk
set_option linter.unusedVariables false
namespace Go.Proofs.Ytfghcjhfbbdanaa
open Go.RowKit Go.Maps

theorem Try.lawInt : Keyed Try.prog 3 := int_keyed Try.underlying3

theorem neqU (a b : Int) (V : World) : (binOp BinOp.neq 26 (.agg #[.int .i64 a, .int .i64 b]) (.agg #[.int .i64 a, .int .i64 b])).run Try.prog V = .ok (.bool false) V := by
  have h := neq_item (a, b) (a, b) V
  simpa using h

set_option maxRecDepth 100000 in
set_option maxHeartbeats 8000000 in
theorem walk_HeapMixes (a0 : Option Addr) (len0 cap0 : Nat) (z0 : List Int) (a1 : Option Addr) (len1 cap1 : Nat) (z1 : List Int) (w : World) (w0 : IsRow .i64 w a0 len0 cap0 z0) (w1 : IsRow .i64 w a1 len1 cap1 z1) :
    Calls Try.prog 4 #[.slice a0 len0 cap0, .slice a1 len1 cap1] w fun e w' => e = .returned (.bool true) ∧ Below w.heap.size w w' := by
  obtain ⟨b, off, hi⟩ := w0.ints
  obtain ⟨b', off', hi'⟩ := w1.ints
  have hm := hi.small
  have hm' := hi'.small
  unfold maxLen at hm hm'
  have H1 := Lib.hid hi
  have H2 := Lib.hid hi'
  have NA0 : Hid (a0 = none → len0 = 0 ∧ cap0 = 0) := Lib.hid (fun e => by rcases w0 with ⟨_, h1, h2, _⟩ | ⟨x, h1, _⟩; exact ⟨h1, h2⟩; rw [e] at h1; cases h1)
  have NA1 : Hid (a1 = none → len1 = 0 ∧ cap1 = 0) := Lib.hid (fun e => by rcases w1 with ⟨_, h1, h2, _⟩ | ⟨x, h1, _⟩; exact ⟨h1, h2⟩; rw [e] at h1; cases h1)
  clear hi hi' w0 w1
  generalize z0.take len0 = za at *
  generalize z1.take len1 = zb at *
  by_cases h100 : 100 < len0
  · go_enter Try.func4, Try.ntmps4
    go_wp2_with fail
    refine (halive_any _).mono ?_
    rintro e w2 ⟨rfl, hB2⟩
    have HB2 := Lib.hid hB2
    clear hB2
    go_wp2
    go_ret
    exact ⟨rfl, HB2.out⟩
  by_cases h101 : 100 < len1
  · go_enter Try.func4, Try.ntmps4
    go_wp2_with fail
    refine (halive_any _).mono ?_
    rintro e w2 ⟨rfl, hB2⟩
    have HB2 := Lib.hid hB2
    clear hB2
    go_wp2
    go_ret
    exact ⟨rfl, HB2.out⟩
  have hnn : len0 + len1 ≤ 200 := by omega
  obtain ⟨i0, hi, hz0, hz1, hz2⟩ := info_parts Try.infoItem
  have HIi := Lib.hid hi
  have HZ0 := Lib.hid hz0
  have HZ1 := Lib.hid hz1
  have HZ2 := Lib.hid hz2
  clear hi hz0 hz1 hz2
  obtain ⟨i1, hi, hz0, hz1, hz2⟩ := info_parts Try.infoMix
  have HIn := Lib.hid hi
  have HN0 := Lib.hid hz0
  have HN1 := Lib.hid hz1
  have HN2 := Lib.hid hz2
  clear hi hz0 hz1 hz2
  go_enter Try.func4, Try.ntmps4
  go_wp2_with fail
  refine (halive_any _).mono ?_
  rintro e w2 ⟨rfl, hB2⟩
  have HB2 := Lib.hid hB2
  have hz2 := hB2.size
  clear hB2
  have hmm := @run_makeMap Try.prog
  have HBs : Hid (Below w.heap.size w (((w2.alloc (.map #[] 0)).alloc (.cells #[] 26)).alloc (.cells #[] 3))) := Lib.hid (((HB2.out.alloc hz2 _).alloc (by simp; omega) _).alloc (by simp; omega) _)
  have HO : Hid ((((w2.alloc (.map #[] 0)).alloc (.cells #[] 26)).alloc (.cells #[] 3)).ownsRow (w2.heap.size + 1) 3 1 (.slice (some ⟨w2.heap.size + 1 + 1, 0, none⟩) 0 0) 0 []) := Lib.hid (by
    have h := World.ownsRow_made (base := w2.heap.size + 1) (e := 3) (size := 1) ((w2.alloc (.map #[] 0)).alloc (.cells #[] 26)) #[] 0 (by simp) (Nat.zero_le _) rfl
    simpa using h)
  obtain ⟨n, hn⟩ : ∃ n, n = len0 + len1 := ⟨_, rfl⟩
  have HLn : Hid ((za ++ zb).length = n) := Lib.hid (by rw [List.length_append, H1.out.length, H2.out.length, hn])
  have HFi : Hid (∀ x ∈ za ++ zb, (Lit.int .i64 x).wf = true) := Lib.hid (fun x hx => (List.mem_append.1 hx).elim (H1.out.fits x) (H2.out.fits x))
  have HBm : Hid (Below (w2.heap.size + 1) (w2.alloc (.map #[] 0)) (((w2.alloc (.map #[] 0)).alloc (.cells #[] 26)).alloc (.cells #[] 3))) := Lib.hid (((Below.refl _ _).alloc (by simp) _).alloc (by simp) _)
  have HNn := Lib.hid hn
  have hn200 : n ≤ 200 := by omega
  clear hn
  go_wp2_with (first
    | (at_builtin; refine wpList_append_ints _ rfl (.tmp 34) (.tmp 35) 22 rfl (w2.heap.size + 1) 3 i1 (.int .i64 0) 8 Try.underlying22 HIn.out HN0.out HN1.out HN2.out rfl (.slice (some ⟨w2.heap.size + 1 + 1, 0, none⟩) 0 0) 0 [] rfl HO.out .i64 w.heap.size w.heap.size w a0 b off len0 cap0 za rfl NA0.out H1.out HBs.out (Nat.le_refl _) (by unfold maxLen; omega) (by omega) (by simp) ?_; intro v3 w3 hown3 hbel3; rw [Nat.zero_add, List.nil_append] at hown3; have HO3 := Lib.hid hown3; have HBs3 := Lib.hid (HBs.out.trans (hbel3.mono (by omega))); have hz3 := hbel3.size; have HBm3 := Lib.hid (HBm.out.trans hbel3); clear hown3 hbel3)
    | (at_builtin; refine wpList_append_ints _ rfl (.tmp 36) (.tmp 37) 22 rfl (w2.heap.size + 1) 3 i1 (.int .i64 0) 8 Try.underlying22 HIn.out HN0.out HN1.out HN2.out rfl v3 len0 (ivals .i64 za) rfl HO3.out .i64 w.heap.size w.heap.size w a1 b' off' len1 cap1 zb rfl NA1.out H2.out HBs3.out (Nat.le_refl _) (by unfold maxLen; omega) (by omega) (by simp at hz3; omega) ?_; intro v4 w4 hown4 hbel4; rw [← HNn.out, ← ivals_append] at hown4; have HB4 := Lib.hid (HBs3.out.trans (hbel4.mono (by omega))); have hz4 := hbel4.size; have HBm4 := Lib.hid (HBm3.out.trans hbel4); obtain ⟨a4, cap4, rfl⟩ := (show Gath w4 (w2.heap.size + 1) 3 1 v4 n (ivals .i64 (za ++ zb)) from .inr hown4).slice; have G4 := Lib.hid (show Gath w4 (w2.heap.size + 1) 3 1 (.slice a4 n cap4) n (ivals .i64 (za ++ zb)) from .inr hown4); clear hown4 hbel4))
  simp at hz3
  have hz4' : w2.heap.size + 3 ≤ w4.heap.size := by omega
  have HM4 : Hid (MapI w4 Try.prog 3 3 w2.heap.size 0 (fun _ => 0)) := Lib.hid ((MapI.made w2 Try.prog 3 3).kept (grown_below (by simpa using HBm4.out) none) (by simp))
  clear HBs HBs3 HBm HBm3 HBm4 HO HO3 hz3 hz4
  generalize za ++ zb = zs at *
  go_loopw [6, 40] (fun v6 i wr => ∃ k : Nat, i = .int .i64 k ∧ k ≤ n ∧ Hid (Gath wr w4.heap.size 26 2 v6 k (its (tg zs k))) ∧ Hid (MapI wr Try.prog 3 3 w2.heap.size k (cn (tg zs k))) ∧ Hid (w4.grownBy wr (some w2.heap.size)))
    (fun _ i _ => n - (intOf i).toNat)
  case atStart => exact ⟨0, rfl, Nat.zero_le _, Lib.hid (.inl ⟨rfl, rfl, _, rfl⟩), Lib.hid (HM4.out.congr (fun _ => rfl)), Lib.hid (World.grownBy.refl _ _)⟩
  case round =>
    obtain ⟨k, rfl, hk, hG3, hM, hg⟩ := hrel
    obtain ⟨a3, cap3, rfl⟩ := hG3.out.slice
    have hgz := hg.out.size
    by_cases hlt : k < n
    · obtain ⟨a', cp', b4, hv, _, _, _, hI⟩ := (gath_grown G4.out hg.out (by omega)).ints HLn.out HFi.out
      cases hv
      obtain rfl : a4 = some ⟨b4, 0, none⟩ := hI.addr.resolve_left (by omega)
      have c0 := hI.cell k hlt
      rw [Nat.zero_add] at c0
      have hwf := hI.fits (zs.getD k 0) (by have h := HLn.out; rw [show zs.getD k 0 = zs[k]'(by omega) by simp [List.getD, show k < zs.length by omega]]; exact List.getElem_mem _)
      have HX : Hid (tg zs (k + 1) = tg zs k ++ [(zs.getD k 0, (k : Int))]) := Lib.hid rfl
      obtain ⟨x, hx⟩ : ∃ x, zs.getD k 0 = x := ⟨_, rfl⟩
      rw [hx] at c0 hwf HX
      obtain ⟨hc0, hc1⟩ := cn_small (tg zs k) x
      rw [tg_length] at hc1
      obtain ⟨c, hc⟩ : ∃ c, cn (tg zs k) x = c := ⟨_, rfl⟩
      have HC := Lib.hid hc
      rw [hc] at hc0 hc1
      obtain ⟨hwv, hwr⟩ := wf_count (c + 1) (by omega) (by omega)
      have hkm : k < maxLen := by unfold maxLen; omega
      clear hI hx hc hc0 hc1
      refine Hid.out (Lib.hid ?_)
      go_wp2_with (first
        | (at_builtin; refine wpList_append_gathW _ rfl (.tmp 45) (.tmp 49) 24 rfl w4.heap.size 26 i0 (.agg #[.int .i64 0, .int .i64 0]) 2 16 Try.underlying24 HIi.out HZ0.out HZ1.out HZ2.out rfl (by decide) (.slice a3 k cap3) k (its (tg zs k)) rfl (hG3.out.kept ((Below.refl _ _).alloc (Nat.le_refl _) _)) ⟨wr.heap.size, 0, none⟩ 1 1 (its [(x, (k : Int))]) rfl rfl (cell_two _ _ _) (its_one _) (by decide) (by unfold maxLen; omega) (by omega) (by simp; omega) ?_; intro g5 cp5 w5 r5 hown hgrow hr hgg; have HM5 := Lib.hid ((hM.out.kept (World.grownBy_alloc wr (.cells #[.int .i64 x, .int .i64 (k : Int)] 26) none) (by simp)).kept hgrow (fun e => by obtain ⟨e1, e2⟩ := hr _ e.symm; have := (owns_block e2 e1).1; omega)); have HG5 := Lib.hid ((hg.out.andThen (World.grownBy_alloc wr (.cells #[.int .i64 x, .int .i64 (k : Int)] 26) none) (by simp)).andThen hgrow (fun i e => by obtain ⟨e1, e2⟩ := hr i e; exact .inl (owns_block e2 e1).1)); have HOW := Lib.hid hown; have HLK := Lib.hid (HM5.out.look (t := 32) Try.underlying32 Try.underlying3 Try.underlying3 (by rfl) hwf); rw [HC.out] at HLK; clear hown hgrow hr hgg)
        | (at_lookup; refine wpList_look rfl 32 _ _ rfl _ _ _ rfl rfl HLK.out ?_)
        | (at_mapUpdate; refine wpList_mapUpdate_I rfl _ _ _ 32 rfl 3 3 Try.underlying32 Try.underlying3 Try.underlying3 w2.heap.size k _ rfl HM5.out hkm x (c + 1) rfl rfl hwf hwv ?_; intro w8 hM8 hg8; have H8 := Lib.hid (And.intro hM8 hg8); clear hM8 hg8))
      go_roundw
      case rel =>
        obtain ⟨hM8, hg8⟩ := H8.out
        have hz5 := HG5.out.size
        refine ⟨k + 1, by go_num, by omega, Lib.hid ?_, Lib.hid (hM8.congr (fun y => ?_)), Lib.hid (HG5.out.andThen hg8 (fun j e => .inr e))⟩
        · rw [HX.out, its_append]; exact gath_grown (.inr HOW.out) hg8 (by omega)
        · rw [HX.out, ← cn_snoc, HC.out]
      case measure => simp [intOf]; omega
    · obtain rfl : k = n := by omega
      have B0 := Lib.hid (HB4.out.grown hg.out (by omega) (fun r e => by cases e; omega))
      obtain ⟨b3, hI3, hc3⟩ := Gath.sits hG3.out (tg_length zs k)
      have HSo := Lib.hid (sort_any ordLess hI3 hc3 (by omega))
      clear hI3 G4 HM4 HB4
      go_wp2_with fail
      refine HSo.out.mono ?_
      rintro e w5 ⟨v6, rfl, hg6, hb5⟩
      rw [tg_length] at hg6
      obtain ⟨a6, cap6, rfl⟩ := hg6.slice
      have hz5 := hb5.size
      have hsl := Hm.srt_length (kf := kk) (tg zs k)
      rw [tg_length] at hsl
      have HPm : Hid (∀ y, cn (Hm.srt kk (tg zs k)) y = cn (tg zs k) y) := Lib.hid (fun y => cn_perm (Hm.srt_perm _ _ rfl) y)
      have HWF := Lib.hid (srt_wf zs k HLn.out HFi.out)
      have G6 := Lib.hid hg6
      have B5 := Lib.hid (B0.out.trans (hb5.mono (by omega)))
      have M5 := Lib.hid (hM.out.kept (grown_below hb5 none) (by simp))
      generalize hSS : Hm.srt kk (tg zs k) = S at *
      clear hg6 hb5 HSo hG3 hM hg B0 hSS
      go_wp2
      go_loopw [59] (fun i wr => ∃ j : Nat, i = .int .i64 j ∧ j ≤ k ∧ Hid (MapI wr Try.prog 3 3 w2.heap.size (k + j) (fun y => cn (tg zs k) y - cn (S.take j) y)) ∧ Hid (w5.grownBy wr (some w2.heap.size)))
        (fun i _ => k - (intOf i).toNat)
      case atStart => exact ⟨0, rfl, Nat.zero_le _, Lib.hid (M5.out.congr (fun y => by rw [List.take_zero, cn_nil]; omega)), Lib.hid (World.grownBy.refl _ _)⟩
      case round =>
        obtain ⟨j, rfl, hj, hM, hg⟩ := hrel
        have hgj := hg.out.size
        by_cases hjk : j < k
        · obtain ⟨b6, hI6, hc6⟩ := Gath.sits (gath_grown G6.out hg.out (by omega)) hsl
          obtain rfl : a6 = some ⟨b6, 0, none⟩ := hI6.addr.resolve_left (by omega)
          obtain ⟨q1, q2⟩ := hI6.cell j hjk
          have hwf := HWF.out j hjk
          obtain ⟨x, hx⟩ : ∃ x, (S.getD j default).1 = x := ⟨_, rfl⟩
          obtain ⟨p2, hp2⟩ : ∃ p2, (S.getD j default).2 = p2 := ⟨_, rfl⟩
          have HP1 := Lib.hid hx
          rw [hx] at q1 hwf
          rw [hp2] at q2
          obtain ⟨hc0, hc1⟩ := cn_small (tg zs k) x
          obtain ⟨hd0, hd1⟩ := cn_small (S.take j) x
          rw [tg_length] at hc1
          rw [List.length_take] at hd1
          obtain ⟨c, hc⟩ : ∃ c, cn (tg zs k) x - cn (S.take j) x = c := ⟨_, rfl⟩
          have HC := Lib.hid hc
          obtain ⟨hwv, hwr⟩ := wf_count (c - 1) (by omega) (by omega)
          have hkm : k + j < maxLen := by unfold maxLen; omega
          have M1 := Lib.hid (hM.out.kept (World.grownBy_alloc wr (.cells #[.int .i64 x, .int .i64 p2] 26) none) (by simp))
          have HLK := Lib.hid (M1.out.look (t := 32) Try.underlying32 Try.underlying3 Try.underlying3 (by rfl) hwf)
          rw [HC.out] at HLK
          clear hI6 hx hp2 hc0 hc1 hd0 hd1 hc hM
          go_wp2_with (first
            | (at_lookup; refine wpList_look rfl 32 _ _ rfl _ _ _ rfl rfl HLK.out ?_)
            | (at_mapUpdate; refine wpList_mapUpdate_I rfl _ _ _ 32 rfl 3 3 Try.underlying32 Try.underlying3 Try.underlying3 w2.heap.size (k + j) _ rfl M1.out hkm x (c - 1) rfl rfl hwf hwv ?_; intro w8 hM8 hg8; have H8 := Lib.hid (And.intro hM8 hg8); clear hM8 hg8))
          go_roundw
          case rel =>
            obtain ⟨hM8, hg8⟩ := H8.out
            refine ⟨j + 1, by go_num, by omega, Lib.hid ?_, Lib.hid ((hg.out.andThen (World.grownBy_alloc wr _ none) (by simp)).andThen hg8 (fun j e => .inr e))⟩
            rw [show k + (j + 1) = k + j + 1 from rfl]
            refine hM8.congr (fun y => ?_)
            have h := cn_down (cn (tg zs k)) S j (by omega) y
            rw [HP1.out, HC.out] at h
            exact h
          case measure => simp [intOf]; omega
        · obtain rfl : j = k := by omega
          have B6 := Lib.hid (B5.out.grown hg.out (by omega) (fun r e => by cases e; omega))
          obtain ⟨D, hD1, hD2⟩ := hM.out
          have HD1 := Lib.hid hD1
          have HD2 : Hid (∀ x : Int, (Lit.int .i64 x).wf = true → D.atKey (.int .i64 x) (.lit (.int .i64 0)) = .lit (.int .i64 0)) := Lib.hid (fun x hx => by rw [hD2 x hx]; show DataW.lit (Lit.int .i64 (cn (tg zs j) x - cn (S.take j) x)) = _; rw [List.take_of_length_le (by omega), HPm.out, Int.sub_self])
          clear hD1 hD2 hM hg G6 HPm HWF HFi
          go_wp2_with (first
            | (at_range; refine wpList_range_own _ rfl _ 32 rfl 3 3 Try.lawInt Try.underlying32 _ w2.heap.size (j + j) D rfl HD1.out ?_; intro w6 hrg6 hg6 hs6; have H6 := Lib.hid (And.intro hrg6 hg6); clear hrg6 hg6 hs6)
            | go_in)
          go_frame
          go_loopw [12] (fun _ W => ∃ (left : Lit → Bool) (cnt : Nat), Hid (W.ranges Try.prog 3 (plainElem Try.prog 3) w2.heap.size wr.heap.size (j + j) D left cnt) ∧ Hid (wr.grownBy W none))
            (fun _ W => W.rangeLeft w2.heap.size wr.heap.size)
          case atStart => exact ⟨_, _, Lib.hid H6.out.1, Lib.hid H6.out.2⟩
          case round =>
            obtain ⟨left, cnt, hrg, hgw⟩ := hrel
            go_wp2_with (first
              | (at_next; refine wpList_next_ranges_ii _ rfl _ rfl 3 3 .i64 .i64 Try.lawInt Try.underlying3 Try.underlying3 w2.heap.size _ (j + j) D left cnt rfl hrg.out ?_ ?_)
              | go_in)
            · intro _ hl0
              have B7 := Lib.hid (B6.out.trans ((below_grown hgw.out).mono B6.out.size))
              clear hl0 hrg hgw H6 HD1 HD2
              have hz7 := B7.out.size
              clear B5 B6 M5 HLn
              go_wp2_with fail
              refine (hc_new 7 kk wr).mono ?_
              rintro e w8 ⟨rfl, hN, hb8⟩
              have HN8 := Lib.hid hN
              have HB8 := Lib.hid (B7.out.trans (hb8.mono hz7))
              have hz8 := hb8.size
              clear hN hb8 B7
              generalize wr.heap.size = hb at *
              go_wp2
              go_loopw [80] (fun i W => ∃ k : Nat, i = .int .i64 k ∧ k ≤ len0 ∧ Hid (HC 7 kk hb W (tg za k) (k : Int)) ∧ Hid (Below w.heap.size w W))
                (fun i _ => len0 - (intOf i).toNat)
              case atStart => exact ⟨0, rfl, Nat.zero_le _, HN8, HB8⟩
              case round =>
                obtain ⟨p, rfl, hp, hH, hB⟩ := hrel
                have hbz := hB.out.size
                by_cases hpl : p < len0
                · have hI := H1.out.kept hB.out (Nat.le_refl _)
                  have ha : a0 = some ⟨b, off, none⟩ := hI.addr.resolve_left (by omega)
                  subst ha
                  have c0 := hI.cell p hpl
                  obtain ⟨x, hx⟩ : ∃ x, za.getD p 0 = x := ⟨_, rfl⟩
                  rw [hx] at c0
                  have HX : Hid (tg za (p + 1) = tg za p ++ [(x, (p : Int))]) := Lib.hid (by rw [← hx]; rfl)
                  clear hI hx
                  go_wp2_with fail
                  refine (hc_push ordLess hH.out x p (by rw [tg_length]; omega) (by omega) (by omega)).mono ?_
                  rintro e w9 ⟨rfl, h9, s9⟩
                  have H9 := Lib.hid h9
                  have S9 := Lib.hid s9
                  clear h9 s9
                  go_wp2
                  go_roundw
                  case rel =>
                    refine ⟨p + 1, by go_num, by omega, Lib.hid ?_, Lib.hid ?_⟩
                    · rw [HX.out]; exact_mod_cast H9.out
                    · exact hB.out.trans (S9.out.below.mono hz7)
                  case measure => simp [intOf]; omega
                · obtain rfl : p = len0 := by omega
                  have hl := tg_length za p
                  generalize tg za p = R at *
                  have hp100 : p ≤ 100 := by omega
                  have HR : Hid (R.length = p) := Lib.hid hl
                  have HH0 := Lib.hid hH.out
                  have HBq := Lib.hid hB.out
                  clear hl hH hB
                  go_wp2
                  go_loopw [93] (fun i W => ∃ (q : Nat) (row : List (Int × Int)), i = .int .i64 q ∧ q ≤ len1 ∧ Hid (row.length = p) ∧ Hid (HC 7 kk hb W row ((p : Int) + (q : Int))) ∧ Hid (Below w.heap.size w W))
                    (fun i _ => len1 - (intOf i).toNat)
                  case atStart => exact ⟨0, R, rfl, Nat.zero_le _, HR, Lib.hid (by simpa using HH0.out), HBq⟩
                  case round =>
                    obtain ⟨q, row, rfl, hq, hL, hH, hB⟩ := hrel
                    have hbq := hB.out.size
                    by_cases hql : q < len1
                    · have hI := H2.out.kept hB.out (Nat.le_refl _)
                      have ha : a1 = some ⟨b', off', none⟩ := hI.addr.resolve_left (by omega)
                      subst ha
                      have c0 := hI.cell q hql
                      obtain ⟨x, hx⟩ : ∃ x, zb.getD q 0 = x := ⟨_, rfl⟩
                      rw [hx] at c0
                      have hwt : IntKind.i64.wrap ((p : Int) + (q : Int)) = (p : Int) + (q : Int) := IntWalk.i64_in _ (by omega)
                      clear hI hx
                      have hg := Try.guardItem
                      by_cases h0 : p = 0
                      · have H0 := Lib.hid h0
                        have HT : Hid (Hm.top kk (row ++ [(x, (p : Int) + (q : Int))]) = (x, (p : Int) + (q : Int))) := Lib.hid (Hm.top_snoc_new row _ (.inl (by rw [hL.out, h0])))
                        clear h0
                        go_wp2_with fail
                        refine (hc_peek0 hH.out (by rw [hL.out, H0.out])).mono ?_
                        rintro e w9 ⟨rfl, b9⟩
                        have hz9 := b9.size
                        have H9 := Lib.hid ((hH.out.below b9).below ((Below.refl _ _).alloc (Nat.le_refl _) (.cells #[.int .i64 0, .int .i64 0] 26)))
                        have B9 := Lib.hid ((hB.out.trans (b9.mono hbq)).alloc (by omega) (.cells #[.int .i64 0, .int .i64 0] 26))
                        have X9 : Hid ((w9.alloc (.cells #[.int .i64 0, .int .i64 0] 26)).heap[w9.heap.size]? = some (.cells #[.int .i64 0, .int .i64 0] 26 (0, 0))) := Lib.hid (heap_new (w := w9) _ rfl)
                        clear b9
                        go_wp2_with fail
                        refine (hc_push ordLess H9.out x ((p : Int) + (q : Int)) (by rw [hL.out]; omega) (by omega) (by omega)).mono ?_
                        rintro e w10 ⟨rfl, h10, s10⟩
                        have hpop := hc_pop ordLess h10 (by simp; rw [hL.out]; omega) (by simp)
                        rw [HT.out] at hpop
                        have HPOP := Lib.hid hpop
                        have X10 := Lib.hid (s10.boxed X9.out (by decide) (by decide))
                        have B10 := Lib.hid (B9.out.trans (s10.below.mono hz7))
                        clear h10 s10 hpop H9 X9 B9
                        go_wp2_with fail
                        refine HPOP.out.mono ?_
                        rintro e w11 ⟨rfl, h11, s11⟩
                        have H11 := Lib.hid (h11.below ((Below.refl _ _).alloc (Nat.le_refl _) (.cells #[.int .i64 x, .int .i64 ((p : Int) + (q : Int))] 26)))
                        obtain ⟨d1, d2, _, _⟩ := pair_cells (heap_alloc (s11.boxed X10.out (by decide) (by decide)) (.cells #[.int .i64 x, .int .i64 ((p : Int) + (q : Int))] 26))
                        have B11 := Lib.hid ((B10.out.trans (s11.below.mono hz7)).alloc (by have := B10.out.size; have := s11.size; omega) (.cells #[.int .i64 x, .int .i64 ((p : Int) + (q : Int))] 26))
                        have HML := Lib.hid (mix_len row (x, (p : Int) + (q : Int)))
                        clear h11 s11 HPOP X10 B10 HT
                        have hxx : (x != x) = false := by simp
                        go_wp2
                        go_roundw
                        case rel =>
                          refine ⟨q + 1, _, by go_num, by omega, Lib.hid (HML.out.trans hL.out), Lib.hid ?_, B11⟩
                          have h := H11.out
                          rw [Int.add_assoc] at h
                          exact_mod_cast h
                        case measure => simp [intOf]; omega
                      · have HN0p : Hid (row.length ≠ 0) := Lib.hid (by rw [hL.out]; exact h0)
                        clear h0
                        obtain ⟨t1, ht1⟩ : ∃ t1, (Hm.top kk row).1 = t1 := ⟨_, rfl⟩
                        obtain ⟨t2, ht2⟩ : ∃ t2, (Hm.top kk row).2 = t2 := ⟨_, rfl⟩
                        have HPk := hc_peek hH.out HN0p.out
                        rw [ht1, ht2] at HPk
                        have HPK := Lib.hid HPk
                        clear HPk
                        by_cases hxt : x < t1
                        · have HT : Hid (Hm.top kk (row ++ [(x, (p : Int) + (q : Int))]) = (x, (p : Int) + (q : Int))) := Lib.hid (Hm.top_snoc_new row _ (.inr (by show x < (Hm.top kk row).1; omega)))
                          have e1 : decide (x < t1) = true := by simp; omega
                          have e2 : decide (t1 ≤ x) = false := by simp; omega
                          clear ht1 ht2 hxt
                          go_wp2_with fail
                          refine (HPK.out).mono ?_
                          rintro e w9 ⟨rfl, b9⟩
                          have hz9 := b9.size
                          have H9 := Lib.hid ((hH.out.below b9).below ((Below.refl _ _).alloc (Nat.le_refl _) (.cells #[.int .i64 t1, .int .i64 t2] 26)))
                          have B9 := Lib.hid ((hB.out.trans (b9.mono hbq)).alloc (by omega) (.cells #[.int .i64 t1, .int .i64 t2] 26))
                          have X9 : Hid ((w9.alloc (.cells #[.int .i64 t1, .int .i64 t2] 26)).heap[w9.heap.size]? = some (.cells #[.int .i64 t1, .int .i64 t2] 26 (0, 0))) := Lib.hid (heap_new (w := w9) _ rfl)
                          clear b9
                          go_wp2_with fail
                          refine (hc_push ordLess H9.out x ((p : Int) + (q : Int)) (by rw [hL.out]; omega) (by omega) (by omega)).mono ?_
                          rintro e w10 ⟨rfl, h10, s10⟩
                          have hpop := hc_pop ordLess h10 (by simp; rw [hL.out]; omega) (by simp)
                          rw [HT.out] at hpop
                          have HPOP := Lib.hid hpop
                          have X10 := Lib.hid (s10.boxed X9.out (by decide) (by decide))
                          have B10 := Lib.hid (B9.out.trans (s10.below.mono hz7))
                          clear h10 s10 hpop H9 X9 B9
                          go_wp2_with fail
                          refine HPOP.out.mono ?_
                          rintro e w11 ⟨rfl, h11, s11⟩
                          have H11 := Lib.hid (h11.below ((Below.refl _ _).alloc (Nat.le_refl _) (.cells #[.int .i64 x, .int .i64 ((p : Int) + (q : Int))] 26)))
                          obtain ⟨d1, d2, _, _⟩ := pair_cells (heap_alloc (s11.boxed X10.out (by decide) (by decide)) (.cells #[.int .i64 x, .int .i64 ((p : Int) + (q : Int))] 26))
                          have B11 := Lib.hid ((B10.out.trans (s11.below.mono hz7)).alloc (by have := B10.out.size; have := s11.size; omega) (.cells #[.int .i64 x, .int .i64 ((p : Int) + (q : Int))] 26))
                          have HML := Lib.hid (mix_len row (x, (p : Int) + (q : Int)))
                          clear h11 s11 HPOP X10 B10 HT
                          have hxx : (x != x) = false := by simp
                          go_wp2
                          go_roundw
                          case rel =>
                            refine ⟨q + 1, _, by go_num, by omega, Lib.hid (HML.out.trans hL.out), Lib.hid ?_, B11⟩
                            have h := H11.out
                            rw [Int.add_assoc] at h
                            exact_mod_cast h
                          case measure => simp [intOf]; omega
                        · have HT : Hid (Hm.top kk (row ++ [(x, (p : Int) + (q : Int))]) = (t1, t2)) := Lib.hid (by rw [Hm.top_snoc_old row _ HN0p.out (by show (Hm.top kk row).1 ≤ x; omega), ← ht1, ← ht2])
                          have e1 : decide (x < t1) = false := by simp; omega
                          have e2 : decide (t1 ≤ x) = true := by simp; omega
                          have hneq := neqU t1 t2
                          clear ht1 ht2 hxt
                          go_wp2_with fail
                          refine (HPK.out).mono ?_
                          rintro e w9 ⟨rfl, b9⟩
                          have hz9 := b9.size
                          have H9 := Lib.hid ((hH.out.below b9).below ((Below.refl _ _).alloc (Nat.le_refl _) (.cells #[.int .i64 t1, .int .i64 t2] 26)))
                          have B9 := Lib.hid ((hB.out.trans (b9.mono hbq)).alloc (by omega) (.cells #[.int .i64 t1, .int .i64 t2] 26))
                          have X9 : Hid ((w9.alloc (.cells #[.int .i64 t1, .int .i64 t2] 26)).heap[w9.heap.size]? = some (.cells #[.int .i64 t1, .int .i64 t2] 26 (0, 0))) := Lib.hid (heap_new (w := w9) _ rfl)
                          clear b9
                          go_wp2_with fail
                          refine (hc_push ordLess H9.out x ((p : Int) + (q : Int)) (by rw [hL.out]; omega) (by omega) (by omega)).mono ?_
                          rintro e w10 ⟨rfl, h10, s10⟩
                          have hpop := hc_pop ordLess h10 (by simp; rw [hL.out]; omega) (by simp)
                          rw [HT.out] at hpop
                          have HPOP := Lib.hid hpop
                          have X10 := Lib.hid (s10.boxed X9.out (by decide) (by decide))
                          have B10 := Lib.hid (B9.out.trans (s10.below.mono hz7))
                          clear h10 s10 hpop H9 X9 B9
                          go_wp2_with fail
                          refine HPOP.out.mono ?_
                          rintro e w11 ⟨rfl, h11, s11⟩
                          have H11 := Lib.hid (h11.below ((Below.refl _ _).alloc (Nat.le_refl _) (.cells #[.int .i64 t1, .int .i64 t2] 26)))
                          obtain ⟨d1, d2, _, _⟩ := pair_cells (heap_alloc (s11.boxed X10.out (by decide) (by decide)) (.cells #[.int .i64 t1, .int .i64 t2] 26))
                          have B11 := Lib.hid ((B10.out.trans (s11.below.mono hz7)).alloc (by have := B10.out.size; have := s11.size; omega) (.cells #[.int .i64 t1, .int .i64 t2] 26))
                          have HML := Lib.hid (mix_len row (x, (p : Int) + (q : Int)))
                          clear h11 s11 HPOP X10 B10 HT
                          go_wp2
                          go_roundw
                          case rel =>
                            refine ⟨q + 1, _, by go_num, by omega, Lib.hid (HML.out.trans hL.out), Lib.hid ?_, B11⟩
                            have h := H11.out
                            rw [Int.add_assoc] at h
                            exact_mod_cast h
                          case measure => simp [intOf]; omega
                    · obtain rfl : q = len1 := by omega
                      have HLe := hc_len hH.out
                      rw [hL.out] at HLe
                      have HLE := Lib.hid HLe
                      clear HLe
                      go_wp2_with fail
                      refine HLE.out.mono ?_
                      rintro e w9 ⟨rfl, rfl⟩
                      go_wp2
                      go_ret
                      exact ⟨rfl, hB.out⟩
            · intro x c w1 cnt1 hwx hwc hlx hat hrg1 hlt hg1 hs1 hen
              have hc0 := hat (.lit (.int .i64 0))
              rw [HD2.out x hwx] at hc0
              cases hc0
              clear hat
              have HRG1 := Lib.hid hrg1
              have HG1 := Lib.hid hg1
              clear hrg1 hg1
              go_wp2
              go_roundw
              case rel => exact ⟨_, cnt1, HRG1, Lib.hid (hgw.out.andThen HG1.out (fun j hj => by cases hj; exact Or.inl (Nat.le_refl _)))⟩
              case measure => rw [HRG1.out.left_eq, hrg.out.left_eq]; exact hlt
end Go.Proofs.Ytfghcjhfbbdanaa
