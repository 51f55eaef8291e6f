/- The walk of GrowPulls. -/
import Derived.Test.YtepmgjohjeiopaaXl
import Derived.Test.YtepmgjohjeiopaaXm
set_option linter.unusedVariables false
set_option linter.unusedSectionVars false
namespace Go.Proofs.Ytepmgjohjeiopaa.L12
open Go.RowKit Go.Shelf Rk

/-- The other part. -/
def turnF (ms : List Int) : List Int := ms.map (fun p => 1 - p)
theorem turnF_getD {ms : List Int} {i : Nat} (h : i < ms.length) : (turnF ms).getD i 0 = 1 - ms.getD i 0 := by
  simp [turnF, List.getD, h]
theorem turnF_length (ms : List Int) : (turnF ms).length = ms.length := by simp [turnF]
theorem pulls_row {ms : List Int} (h : ∀ i, i < ms.length → ms.getD i 0 = 0 ∨ ms.getD i 0 = 1) : ∀ l : List (Int × Int), (∀ x ∈ l, 0 ≤ x.1 ∧ x.1 < (ms.length : Int)) → plS ms l + plS (turnF ms) l = vals l
  | [], _ => rfl
  | x :: l, hl => by
    have ih := pulls_row h l (fun y hy => hl y (List.mem_cons_of_mem _ hy))
    have hx := hl x (List.mem_cons_self ..)
    have e1 : plS ms (x :: l) = pl1 ms x + plS ms l := by simp [plS]
    have e2 : plS (turnF ms) (x :: l) = pl1 (turnF ms) x + plS (turnF ms) l := by simp [plS]
    have e3 : vals (x :: l) = x.2 + vals l := by simp [vals]
    rw [e1, e2, e3]
    have hx1 : x.1.toNat < ms.length := by omega
    have h4 := h _ hx1
    have h5 := turnF_getD hx1
    have : pl1 ms x + pl1 (turnF ms) x = x.2 := by
      unfold pl1
      rw [h5]
      rcases h4 with e | e <;> rw [e] <;> simp
    omega
theorem pulls_all {n : Nat} {F : Nat → Nat → Int} {ms : List Int} (hl : ms.length = n) (h : ∀ i, i < n → ms.getD i 0 = 0 ∨ ms.getD i 0 = 1) (i : Int) : pullA n F ms i + pullA n F (turnF ms) i = vals (nearD n F i) := by
  unfold pullA
  rw [if_pos hl, if_pos (by rw [turnF_length]; exact hl)]
  refine pulls_row (fun i hi => h i (by omega)) _ (fun x hx => ?_)
  unfold nearD at hx
  split at hx
  · obtain ⟨b, h1, _, rfl⟩ := mem_rowOf.1 hx
    simp only
    omega
  · cases hx
theorem sideL_turn {ms : List Int} : ∀ k, k ≤ ms.length → sideL (turnF ms) 1 k = sideL ms 0 k
  | 0, _ => rfl
  | k + 1, hk => by
    rw [sideL, sideL, sideL_turn k (by omega), turnF_getD (by omega)]
    by_cases e : ms.getD k 0 = 0
    · rw [if_pos (by omega), if_pos e]
    · rw [if_neg (by omega), if_neg e]
theorem pull_bd (n : Nat) {F : Nat → Nat → Int} (ht : Tab n F) (hn : n ≤ 30) (ms : List Int) (i : Int) : 0 ≤ pullA n F ms i ∧ pullA n F ms i ≤ 32985348833280 := by
  unfold pullA
  split
  · have h1 := plS_bd ms (nearD n F i) (fun x hx => by
      unfold nearD at hx
      split at hx
      · obtain ⟨b, _, h2, rfl⟩ := mem_rowOf.1 hx
        exact ⟨by show 0 ≤ F _ b; omega, ht.hi _ b⟩
      · cases hx)
    have h2 := nearD_length n F i
    omega
  · omega
set_option maxRecDepth 100000 in
set_option maxHeartbeats 8000000 in
theorem walk_GrowPulls (a0 : Option Addr) (len0 cap0 : Nat) (z0 : List Int) (a1 : Option Addr) (len1 cap1 : Nat) (z1 : List RopV) (a2 : Int) (w : World) (w0 : IsRow .i64 w a0 len0 cap0 z0) (w1 : IsRops w a1 len1 cap1 z1) (w2 : (Lit.int .i64 a2).wf = true) :
    Calls Try.prog 6 #[.slice a0 len0 cap0, .slice a1 len1 cap1, .int .i64 a2] w fun e w' => e = .returned (.bool true) ∧ Below w.heap.size w w' := by
  obtain ⟨b0, off0, zs, hi0, hn0⟩ := w0.zz
  obtain ⟨_, b1, off1, hi1⟩ := w1
  have H0 := Lib.hid hi0
  have HN := Lib.hid hn0
  have H1 := Lib.hid hi1
  obtain rfl := hi0.length
  clear w0 hi0 hn0 hi1
  go_enter Try.func6, Try.ntmps6
  go_wp2_with fail
  refine (alive_any _).mono ?_
  rintro e x1 ⟨rfl, hB1⟩
  have HB1 := Lib.hid hB1
  have HBd := Lib.hid (build_any (cap0 := cap0) (cap1 := cap1) ((H0.out.kept hB1 (Nat.le_refl _)).mono hB1.size) HN.out ((H1.out.kept hB1 (Nat.le_refl _)).mono hB1.size))
  have z1s := hB1.size
  clear hB1
  go_wp2_with fail
  refine HBd.out.mono ?_
  rintro e x2 ⟨hB, hc⟩
  have HB2 := Lib.hid (HB1.out.trans (hB.mono z1s))
  clear hB HBd
  rcases hc with ⟨_, rfl⟩ | ⟨⟨hl30, _⟩, g, nb, lo, Bx, X, rfl, hR, _, _⟩
  · have HB3 := Lib.hid (HB2.out.alloc HB2.out.size (.cells #[.slice none 0 0, .slice none 0 0] 29))
    go_wp2
    go_ret
    exact ⟨by simp, HB3.out⟩
  have hR' := hR.base HB1.out
  have hal := (Below.refl x2.heap.size x2).alloc (Nat.le_refl _) (.cells #[.slice X.wa zs.length X.wc, .slice X.ra zs.length X.rc] 29)
  have HR := Lib.hid (hR'.on hal)
  have HW := Lib.hid hR.one.wts
  have HTab := Lib.hid hR.one.tab
  clear hR hR' hal HB2 HB1 z1s
  unfold XD.val
  go_upto_region 4 with fail
  revert HR
  generalize x2.alloc (.cells #[.slice X.wa zs.length X.wc, .slice X.ra zs.length X.rc] 29) = x3
  intro HR
  obtain ⟨ms, hms⟩ : ∃ ms, halveF zs zs.length (joins zs.length noTab z1) a2 = ms := ⟨_, rfl⟩
  obtain ⟨hml, h01, _, _, _⟩ := halveF_facts HW.out _ a2 hms
  obtain ⟨ha2, ha2'⟩ := bounds_i64 w2
  have C1 := Lib.hid (halveI_any HR.out.one hl30 a2 ha2 ha2')
  rw [hms] at C1
  have H01 := Lib.hid h01
  have HML := Lib.hid hml
  have HS2 := Lib.hid (sideL_both h01 zs.length (Nat.le_refl _))
  have HPA := Lib.hid (fun i => pulls_all (F := joins zs.length noTab z1) hml h01 i)
  have HPB := Lib.hid (fun ms i => pull_bd zs.length HTab.out hl30 ms i)
  have HST := Lib.hid (sideL_turn (ms := ms) zs.length (by omega))
  have HPO : Hid (∀ i : Int, ¬ (0 ≤ i ∧ i < (zs.length : Int)) → pullA zs.length (joins zs.length noTab z1) ms i = 0) := Lib.hid (fun i hi => pullA_out hi)
  obtain ⟨i0, hi, hz0, hz1, hz2⟩ := info_parts Try.infoInt
  have HI := Lib.hid hi
  have HZ0 := Lib.hid hz0
  have HZ1 := Lib.hid hz1
  have HZ2 := Lib.hid hz2
  clear hms h01 hml w2 hi hz0 hz1 hz2
  go_wp2_with fail
  refine C1.out.mono ?_
  rintro e x4 ⟨pb, rfl, hp, hpl, hb⟩
  have HR4 := Lib.hid (HR.out.on hb)
  have HP4 := Lib.hid hp
  clear hp hpl hb C1 HR
  go_wp2
  go_loopw [11, 34] (fun v i wr => ∃ (j : Nat) (bt : Option Nat) (ad : Addr) (ct : Nat), j ≤ zs.length ∧ i = .int .i64 j ∧ v = .slice (some ad) (turnF (ms.take j)).length ct ∧ Hid (GB wr x4.heap.size 3 1 v (turnF (ms.take j)).length (L12.ints (turnF (ms.take j))) bt) ∧ Hid (Below x4.heap.size x4 wr)) (fun _ i _ => zs.length - (intOf i).toNat)
  case atStart => exact ⟨0, none, _, _, Nat.zero_le _, rfl, rfl, Lib.hid (gb_nil _ _ _ _ _), Lib.hid ((Below.refl _ _).alloc (Nat.le_refl _) _)⟩
  case round =>
    obtain ⟨j, bt, ad, ct1, hj, rfl, rfl, HG, HB⟩ := hrel
    have zr := HB.out.size
    by_cases hlt : j < zs.length
    · have hcell := (HP4.out.kept HB.out (Nat.le_refl _)).cell j hlt
      rw [Nat.zero_add] at hcell
      have h01 := H01.out j hlt
      have HS : Hid (turnF (ms.take (j + 1)) = turnF (ms.take j) ++ [1 - ms.getD j 0]) := Lib.hid (by rw [take_snoc (by rw [HML.out]; exact hlt)]; simp [turnF])
      have hll : (turnF (ms.take j)).length ≤ 30 := by rw [turnF_length, List.length_take]; omega
      generalize turnF (ms.take j) = l at *
      generalize ms.getD j 0 = y at *
      have hw1 : IntKind.i64.wrap (1 - y) = 1 - y := IntWalk.i64_in _ (by omega)
      have hjn : (j : Int) < (zs.length : Int) := by omega
      go_wp2_with (at_builtin; refine wpList_append_GB _ rfl _ _ 24 rfl x4.heap.size 3 i0 (.int .i64 0) 1 8 Try.underlying24 HI.out HZ0.out HZ1.out HZ2.out rfl (by decide) _ _ _ bt rfl (HG.out.alloc _) ⟨wr.heap.size, 0, none⟩ 1 1 [.int .i64 (1 - y)] rfl rfl (cell_one _ _ _) (one_val rfl) (by decide) (by unfold maxLen; omega) (by omega) (by simp; omega) ?_; intro g5 cap5 w5 row5 hG5 hg5 hr5 hw5; have HG5 := Lib.hid hG5; have HB5 : Hid (Below x4.heap.size x4 w5) := Lib.hid ((HB.out.alloc zr _).grown hg5 (by simp; omega) (fun q e => by rcases hr5 with hr5 | hr5; (· rw [hr5] at e; cases e); (· have := HG.out.lt q (by rw [← hr5]; exact e); omega))); clear hG5 hg5 hr5 hw5 HG)
      go_roundw
      case rel => exact ⟨j + 1, some g5, ⟨g5, 0, none⟩, cap5, by omega, by go_num, by rw [HS.out, List.length_append]; rfl, by rw [HS.out]; exact Lib.hid (by rw [List.length_append, L12.ints_snoc]; exact HG5.out), HB5⟩
      case measure => simp [intOf]; omega
    · obtain rfl : j = zs.length := by omega
      rw [List.take_of_length_le (by rw [HML.out]; exact Nat.le_refl _)] at HG ⊢
      have hwf : ∀ x ∈ turnF ms, (Lit.int .i64 x).wf = true := fun x hx => by
        obtain ⟨p, hp, rfl⟩ := List.mem_map.1 hx
        obtain ⟨i, hi, rfl⟩ := List.getElem_of_mem hp
        have := H01.out i (by rw [HML.out] at hi; exact hi)
        rw [List.getD_eq_getElem?_getD, List.getElem?_eq_getElem hi] at this
        simp only [Option.getD_some] at this
        exact wf_01 (by omega)
      obtain ⟨at3, ct3, bt3, et, hc3, hn3, _, hI⟩ := Gath.ints (k := .i64) HG.out.gath rfl hwf
      cases et
      have htl : (turnF ms).length = zs.length := (turnF_length ms).trans HML.out
      rw [htl] at hI ⊢
      have HT5 := Lib.hid hI
      have HR5 := Lib.hid (HR4.out.on HB.out)
      have HP5 := Lib.hid ((HP4.out.kept HB.out (Nat.le_refl _)).mono HB.out.size)
      clear hwf hI HG HB zr htl HP4 HR4 hc3 hn3
      go_wp2
      rename World => w5
      go_loopw [46] (fun i wr => ∃ j : Nat, j ≤ zs.length ∧ i = .int .i64 j ∧ Hid (Below w5.heap.size w5 wr)) (fun i _ => zs.length - (intOf i).toNat)
      case atStart => exact ⟨0, Nat.zero_le _, rfl, Lib.hid (Below.refl _ _)⟩
      case round =>
        obtain ⟨j, hj, rfl, HX⟩ := hrel
        have HRx := Lib.hid (HR5.out.on HX.out)
        have HPx := Lib.hid ((HP5.out.kept HX.out (Nat.le_refl _)).mono HX.out.size)
        have HTx := Lib.hid ((HT5.out.kept HX.out (Nat.le_refl _)).mono HX.out.size)
        have zx := HX.out.size
        by_cases hlt : j < zs.length
        · have hpa := HPA.out (j : Int)
          have hb1 := HPB.out ms (j : Int)
          have hb2 := HPB.out (turnF ms) (j : Int)
          have HD : Hid (∀ W, Below wr.heap.size wr W → Calls Try.prog 39 #[.pointer (some ⟨g, 0, none⟩), .int .i64 (j : Int)] W (fun e w' => e = .returned (.int .i64 (vals (nearD zs.length (joins zs.length noTab z1) (j : Int)))) ∧ Below W.heap.size W w')) := Lib.hid (fun W hW => degree_any (HRx.out.on hW).one (j : Int))
          have C1 := Lib.hid (pull_lit (cap := zs.length) HRx.out.one hl30 HPx.out (j : Int) rfl)
          have C2 : Hid (∀ W, Below wr.heap.size wr W → Calls Try.prog 35 #[.pointer (some ⟨g, 0, none⟩), .slice (some ad) zs.length ct1, .int .i64 (j : Int)] W (fun e w' => e = .returned (.int .i64 (pullA zs.length (joins zs.length noTab z1) (turnF ms) (j : Int))) ∧ Below W.heap.size W w')) := Lib.hid (fun W hW => pull_lit (HRx.out.on hW).one hl30 ((HTx.out.kept hW (Nat.le_refl _)).mono hW.size) (j : Int) rfl)
          generalize pullA zs.length (joins zs.length noTab z1) ms (j : Int) = p1 at *
          generalize pullA zs.length (joins zs.length noTab z1) (turnF ms) (j : Int) = p2 at *
          generalize vals (nearD zs.length (joins zs.length noTab z1) (j : Int)) = pd at *
          have hs : IntKind.i64.wrap (p1 + p2) = pd := by rw [hpa]; exact IntWalk.i64_in _ (by omega)
          clear hpa hb1 hb2
          go_wp2_with fail
          refine C1.out.mono ?_
          rintro e y1 ⟨rfl, hb⟩
          have HY1 := Lib.hid hb
          clear hb C1
          go_wp2_with fail
          refine (C2.out _ HY1.out).mono ?_
          rintro e y2 ⟨rfl, hb⟩
          have HY2 := Lib.hid (HY1.out.trans (hb.mono HY1.out.size))
          clear hb HY1 C2
          go_wp2_with fail
          refine (HD.out _ HY2.out).mono ?_
          rintro e y3 ⟨rfl, hb⟩
          have HY3 := Lib.hid (HX.out.trans ((HY2.out.trans (hb.mono HY2.out.size)).mono zx))
          clear hb HY2 HD
          go_wp2
          go_roundw
          case rel => exact ⟨j + 1, by omega, by go_num, HY3⟩
          case measure => simp [intOf]; omega
        · obtain rfl : j = zs.length := by omega
          have hwf : ∀ k, ∀ x ∈ sideL ms k zs.length, (Lit.int .i64 x).wf = true := fun k x hx => by
            obtain ⟨d, hd, _, rfl⟩ := mem_sideL.1 hx
            exact wf_small d (by omega)
          have HWf := Lib.hid hwf
          have HL := lside_any (cap := zs.length) HPx.out (fun e => by cases e) (by omega) 0 1000 (by decide)
          rw [HML.out, List.take_of_length_le (by have := sideL_length ms 0 zs.length; show _ ≤ 1000; omega)] at HL
          have HL := Lib.hid HL
          have h2 : ∀ W, Below wr.heap.size wr W → _ := fun W hW => lside_any (cap := zs.length) ((HPx.out.kept hW (Nat.le_refl _)).mono hW.size) (fun e => by cases e) (by omega) 1 1000 (by decide)
          rw [HML.out, List.take_of_length_le (by have := sideL_length ms 1 zs.length; show _ ≤ 1000; omega)] at h2
          have H2 := Lib.hid h2
          have h3 : ∀ W, Below wr.heap.size wr W → _ := fun W hW => lside_any (cap := ct1) ((HTx.out.kept hW (Nat.le_refl _)).mono hW.size) (fun e => by cases e) (by omega) 1 1000 (by decide)
          rw [turnF_length, HML.out, HST.out, List.take_of_length_le (by have := sideL_length ms 0 zs.length; show _ ≤ 1000; omega)] at h3
          have H3 := Lib.hid h3
          clear hwf h2 h3 HST HPA HPB
          have hS := HS2.out
          have hl0 := sideL_length ms 0 zs.length
          have hl1 := sideL_length ms 1 zs.length
          have hwf0 := HWf.out 0
          generalize sideL ms 0 zs.length = s0 at *
          generalize sideL ms 1 zs.length = s1 at *
          have hs : IntKind.i64.wrap ((s0.length : Int) + (s1.length : Int)) = (zs.length : Int) := by rw [show (s0.length : Int) + (s1.length : Int) = (zs.length : Int) by omega]; exact IntWalk.i64_in _ (by omega)
          have HW0 := Lib.hid hwf0
          clear HS2 hS
          go_wp2_with fail
          refine HL.out.mono ?_
          rintro e y1 ⟨v, rfl, hg, hb⟩
          obtain ⟨aa, ca, ba, rfl, hca, hna, _, hIa⟩ := Gath.ints (k := .i64) hg rfl hwf0
          have HIa := Lib.hid hIa
          have HY1 := Lib.hid hb
          clear hg hb hIa HL hwf0
          go_wp2_with fail
          refine (H2.out _ HY1.out).mono ?_
          rintro e y2 ⟨v, rfl, hg, hb⟩
          obtain ⟨ab, cb, rfl⟩ := hg.slice
          have HY2 := Lib.hid (HY1.out.trans (hb.mono HY1.out.size))
          have HIa2 := Lib.hid ((HIa.out.kept hb (Nat.le_refl _)).mono hb.size)
          clear hg hb H2 HIa HY1
          go_wp2_with fail
          refine (H3.out _ HY2.out).mono ?_
          rintro e y3 ⟨v, rfl, hg, hb⟩
          obtain ⟨ac, cc, bc, rfl, hcc, hnc, _, hIc⟩ := Gath.ints (k := .i64) hg rfl HW0.out
          have HY3 := Lib.hid (HY2.out.trans (hb.mono HY2.out.size))
          have HSm := Lib.hid (sameints_any (cap := ca) (cap' := cc) ((HIa2.out.kept hb (Nat.le_refl _)).mono hb.size) hIc)
          rw [show decide (s0 = s0) = true from decide_eq_true rfl] at HSm
          clear hg hb hIc H3 HIa2 HY2 hcc hnc hca hna HWf
          go_wp2_with fail
          refine HSm.out.mono ?_
          rintro e y4 ⟨rfl, hb⟩
          have HY4 := Lib.hid (HY3.out.trans (hb.mono HY3.out.size))
          clear hb HSm HY3
          have C1 := Lib.hid (pull_lit (cap := zs.length) (HRx.out.on HY4.out).one hl30 ((HPx.out.kept HY4.out (Nat.le_refl _)).mono HY4.out.size) (-1) (HPO.out (-1) (by omega)))
          go_wp2_with fail
          refine C1.out.mono ?_
          rintro e y5 ⟨rfl, hb⟩
          have HY5 := Lib.hid (HY4.out.trans (hb.mono HY4.out.size))
          clear hb C1 HY4
          have C1 := Lib.hid (pull_lit (cap := zs.length) (HRx.out.on HY5.out).one hl30 ((HPx.out.kept HY5.out (Nat.le_refl _)).mono HY5.out.size) (zs.length : Int) (HPO.out (zs.length : Int) (by omega)))
          go_wp2_with fail
          refine C1.out.mono ?_
          rintro e y6 ⟨rfl, hb⟩
          have HY6 := Lib.hid (HRx.out.on (HY5.out.trans (hb.mono HY5.out.size))).below
          clear hb C1 HY5
          go_wp2
          go_ret
          exact ⟨by simp, HY6.out⟩
end Go.Proofs.Ytepmgjohjeiopaa.L12
