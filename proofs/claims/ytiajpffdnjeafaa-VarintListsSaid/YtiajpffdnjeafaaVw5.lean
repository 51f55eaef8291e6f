/- The walk of VarintLists. -/
import Derived.Test.YtiajpffdnjeafaaVt
import Derived.Test.YtiajpffdnjeafaaVr
set_option linter.unusedVariables false
namespace Go.Proofs.Ytiajpffdnjeafaa
open Go.RowKit

theorem drewN_below' (B : Nat) (w : World) (n : Nat) : Below B w (w.drewN n) := ⟨rfl, rfl, rfl, Nat.le_refl _, fun _ _ => rfl⟩
def sndI (pre : List (Nat × Nat)) : List Int := pre.map fun x => (x.2 : Int)
def fstI (pre : List (Nat × Nat)) : List Int := pre.map fun x => (x.1 : Int)
theorem nums_snd (pre : List (Nat × Nat)) : nums pre = ivals .u64 (sndI pre) := by unfold nums ivals sndI; rw [List.map_map]; rfl
theorem plcs_fst (pre : List (Nat × Nat)) : plcs pre = ivals .i64 (fstI pre) := by unfold plcs ivals fstI; rw [List.map_map]; rfl
theorem items_fits (f : Nat) : ∀ (l : List Int) (o : Nat), (∀ x ∈ l, 0 ≤ x ∧ x ≤ 255) → ∀ x ∈ itemsGo f l o, x.2 ≤ 18446744073709551615 ∧ x.1 ≤ o + l.length := by
  induction f with
  | zero => intro l o _ x hx; simp [itemsGo] at hx
  | succ f ih =>
    intro l o hb x hx
    simp only [itemsGo] at hx
    split at hx
    · simp at hx
    · split at hx
      · rename_i he
        have hs := getF_size hb he
        rcases List.mem_cons.1 hx with rfl | hx
        · exact ⟨hs.2.2.2, by simp⟩
        · have := ih _ _ (fun y hy => hb y (List.mem_of_mem_drop hy)) x hx
          rw [List.length_drop] at this
          exact ⟨this.1, by omega⟩
      · simp at hx

def heldN (n : Int) (L : Nat) : Nat := if n < 0 then 0 else if (L : Int) < n then L else n.toNat
theorem heldN_le (n : Int) (L : Nat) : heldN n L ≤ L := by unfold heldN; split <;> (try split) <;> omega
theorem held_any (n : Int) (L : Nat) (w : World) :
    Calls Try.prog 42 #[.int .i64 n, .int .i64 0, .int .i64 L] w fun e w' => e = .returned (.int .i64 (heldN n L)) ∧ w = w' := by
  by_cases h1 : n < 0
  · have H : Hid (heldN n L = 0) := Lib.hid (by unfold heldN; rw [if_pos h1])
    go_enter Try.func42, Try.ntmps42
    go_wp2
    go_ret
    exact ⟨retu (by rw [H.out]; rfl), rfl⟩
  · by_cases h2 : (L : Int) < n
    · have H : Hid (heldN n L = L) := Lib.hid (by unfold heldN; rw [if_neg h1, if_pos h2])
      go_enter Try.func42, Try.ntmps42
      go_wp2
      go_ret
      exact ⟨retu (by rw [H.out]), rfl⟩
    · have H : Hid ((heldN n L : Int) = n) := Lib.hid (by unfold heldN; rw [if_neg h1, if_neg h2]; omega)
      go_enter Try.func42, Try.ntmps42
      go_wp2
      go_ret
      exact ⟨retu H.out.symm, rfl⟩

set_option maxRecDepth 100000 in
set_option maxHeartbeats 4000000 in
theorem lists_main (a0 : Option Addr) (len0 cap0 b0 o0 : Nat) (zs : List Int) (a1 : Int) (w : World) (I0 : Hid (IntsAt .u8 w.heap.size w a0 b0 o0 len0 zs)) (N0 : Hid (a0 = none → len0 = 0 ∧ cap0 = 0)) (hcap : len0 ≤ cap0) (h300 : len0 ≤ 300) :
    Calls Try.prog 13 #[.slice a0 len0 cap0, .int .i64 a1] w fun e w' => e = .returned (.bool true) ∧ Below w.heap.size w w' := by
  obtain ⟨iu, hiu, hzu0, hzu1, hzu2⟩ := info_parts Try.infoU64
  obtain ⟨ii, hii, hzi0, hzi1, hzi2⟩ := info_parts Try.infoInt
  have HIU := Lib.hid (And.intro hiu (And.intro hzu0 (And.intro hzu1 hzu2)))
  have HII := Lib.hid (And.intro hii (And.intro hzi0 (And.intro hzi1 hzi2)))
  clear hiu hzu0 hzu1 hzu2 hii hzi0 hzi1 hzi2
  have HLEN := Lib.hid I0.out.length
  have hby : ∀ x ∈ zs, 0 ≤ x ∧ x ≤ 255 := fun x hx => bounds_u8 (I0.out.fits x hx)
  have HBY := Lib.hid hby
  have hitl := itemsGo_length zs.length zs 0
  rw [HLEN.out] at hitl
  have HIL : Hid ((itemsF zs).length ≤ len0) := Lib.hid (by unfold itemsF; rw [HLEN.out]; exact hitl)
  have HFIT : Hid (∀ x ∈ itemsF zs, x.2 ≤ 18446744073709551615 ∧ x.1 ≤ len0) := Lib.hid (fun x hx => by
    have := items_fits zs.length zs 0 hby x hx
    rw [HLEN.out, Nat.zero_add] at this
    exact this)
  clear hby hitl
  go_enter Try.func13, Try.ntmps13
  go_wp2_with (go_at_call 28; refine (valive_any _).mono ?_; rintro e w' ⟨rfl, hB⟩)
  have hsz := hB.size
  go_loopw [5, 6, 7] (fun v u i wr => ∃ (k f : Nat) (pre : List (Nat × Nat)), k ≤ len0 ∧ i = .int .i64 k ∧ Hid (itemsF zs = pre ++ itemsGo f (zs.drop k) k ∧ len0 - k ≤ f) ∧ Hid (Gath wr (w'.heap.size + 2) 34 1 v pre.length (nums pre)) ∧ Hid (Gath wr (w'.heap.size + 2) 3 1 u pre.length (plcs pre)) ∧ Below w.heap.size w wr ∧ w'.heap.size + 2 ≤ wr.heap.size) (fun _ _ i _ => len0 - (intOf i).toNat)
  case atStart => exact ⟨0, len0, [], Nat.zero_le _, rfl, Lib.hid ⟨by unfold itemsF; rw [HLEN.out]; rfl, by omega⟩, Lib.hid (.inl ⟨rfl, rfl, _, rfl⟩), Lib.hid (.inl ⟨rfl, rfl, _, rfl⟩), (hB.alloc hB.size _).alloc (by simp; omega) _, by simp⟩
  case round =>
    obtain ⟨k, f, pre, hk, rfl, hit, hg1, hg2, hBr, hszr⟩ := hrel
    have hpl : pre.length ≤ 300 := by
      have h1 := congrArg List.length hit.out.1
      rw [List.length_append] at h1
      have := HIL.out
      omega
    by_cases hlt : k < len0
    · have HA := I0.out.kept hBr (Nat.le_refl _)
      obtain rfl : a0 = some ⟨b0, o0, none⟩ := HA.addr.resolve_left (by omega)
      have hkc : ¬ k = cap0 := by omega
      have hD := HA.drop k (by omega) (some ⟨b0, o0 + k, none⟩) (.inr rfl)
      have HG := Lib.hid (rget_any (zs.drop k) _ _ b0 (o0 + k) (len0 - k) (cap0 - k) wr hD)
      have hbd : ∀ x ∈ zs.drop k, 0 ≤ x ∧ x ≤ 255 := fun x hx => HBY.out x (List.mem_of_mem_drop hx)
      have hne : zs.drop k ≠ [] := by intro h; have := congrArg List.length h; rw [List.length_drop, HLEN.out] at this; simp at this; omega
      have hdl : (zs.drop k).length ≤ f := by rw [List.length_drop, HLEN.out]; exact hit.out.2
      have HSTOP := Lib.hid (fun h => itemsGo_stop (f := f) (at0 := k) (l := zs.drop k) h)
      have HSTEP := Lib.hid (fun h => itemsGo_step (at0 := k) hne hdl h)
      have HSZ := Lib.hid (fun h => getF_size hbd h)
      rw [List.length_drop, HLEN.out] at HSZ
      clear HA hD hbd hne hdl
      obtain ⟨m, s, e, hg⟩ : ∃ m s e, getF (zs.drop k) = (m, s, e) := ⟨_, _, _, rfl⟩
      rw [hg] at HG HSTOP HSTEP HSZ
      clear hg
      simp only at HG HSTOP HSTEP HSZ
      by_cases he : e = 0
      · subst he
        obtain ⟨g, hfg, hstep⟩ := HSTEP.out rfl
        have hs1 := (HSZ.out rfl).1
        have hs2 := (HSZ.out rfl).2.1
        have HF := Lib.hid hfg
        have HST := Lib.hid hstep
        clear hfg hstep HSTOP HSTEP HSZ
        go_wp2_with (first
          | (go_at_call 30; refine HG.out.mono ?_; rintro e w2 ⟨rfl, rfl⟩)
          | (at_builtin; refine wpList_append_gathR _ rfl (.tmp 34) (.tmp 36) 47 rfl (w'.heap.size + 2) 34 iu (.int .u64 0) 1 8 Try.underlying47 HIU.out.1 HIU.out.2.1 HIU.out.2.2.1 HIU.out.2.2.2 rfl (by decide) _ _ _ rfl (hg1.out.alloc _) ⟨wr.heap.size, 0, none⟩ 1 1 [.int .u64 (m : Int)] rfl rfl (cell_one _ _ _) (one_val rfl) (by decide) (by unfold maxLen; omega) (by omega) (by simp; omega) ?_; intro v4 w4 row4 hown4 hgr4 hrow4; have hb4 := hrow4.below hgr4 (by simp; omega); have hsz4 := hgr4.size; simp only [World.size_alloc] at hsz4; have HOWN4 := Lib.hid hown4; have G2 := Lib.hid ((hg2.out.alloc (.cells #[.int .u64 (m : Int)] 34)).other hgr4 hrow4 (by decide)); have HB4 := Lib.hid ((hBr.alloc (by omega) (.cells #[.int .u64 (m : Int)] 34)).trans (hb4.mono (by omega))); clear hb4 hgr4 hrow4 hown4)
          | (at_builtin; refine wpList_append_gathR _ rfl (.tmp 38) (.tmp 40) 48 rfl (w'.heap.size + 2) 3 ii (.int .i64 0) 1 8 Try.underlying48 HII.out.1 HII.out.2.1 HII.out.2.2.1 HII.out.2.2.2 rfl (by decide) _ _ _ rfl (G2.out.alloc _) ⟨w4.heap.size, 0, none⟩ 1 1 [.int .i64 (k : Int)] rfl rfl (cell_one _ _ _) (one_val rfl) (by decide) (by unfold maxLen; omega) (by omega) (by simp; omega) ?_; intro v6 w6 row6 hown6 hgr6 hrow6))
        have hb6 := hrow6.below hgr6 (by simp; omega)
        have hsz6 := hgr6.size
        simp only [World.size_alloc] at hsz6
        go_roundw
        case rel =>
          refine ⟨k + s, g, pre ++ [(k, m)], by omega, by go_num, Lib.hid ⟨?_, ?_⟩, Lib.hid ?_, Lib.hid (.inr ?_), (HB4.out.alloc (by omega) _).trans (hb6.mono (by omega)), by omega⟩
          · rw [hit.out.1, HST.out, List.append_assoc, List.drop_drop]; rfl
          · have := hit.out.2; have := HF.out; omega
          · rw [List.length_append, nums_snoc]
            exact ((Gath.alloc (.inr HOWN4.out) _).other hgr6 hrow6 (by decide))
          · rw [List.length_append, plcs_snoc]
            exact hown6
        case measure => simp [intOf]; omega
      · have heb : ((e : Int) != 0) = true := by simp; exact he
        have HPRE : Hid (itemsF zs = pre) := Lib.hid (by rw [hit.out.1, HSTOP.out he, List.append_nil])
        clear HSTOP HSTEP HSZ he
        have hlenp : (itemsF zs).length = pre.length := by rw [HPRE.out]
        have hfit : ∀ x ∈ pre, x.2 ≤ 18446744073709551615 ∧ x.1 ≤ len0 := by rw [← HPRE.out]; exact HFIT.out
        have HSL : Hid ((sndI pre).length = pre.length) := Lib.hid (by unfold sndI; exact List.length_map ..)
        have HFL : Hid ((fstI pre).length = pre.length) := Lib.hid (by unfold fstI; exact List.length_map ..)
        have HSF : Hid (∀ x ∈ sndI pre, (Lit.int .u64 x).wf = true) := Lib.hid (fun x hx => by
          obtain ⟨y, hy, rfl⟩ := List.mem_map.1 hx
          exact WalkArith.wf_u64 (by have := (hfit y hy).1; omega))
        have HFF : Hid (∀ x ∈ fstI pre, (Lit.int .i64 x).wf = true) := Lib.hid (fun x hx => by
          obtain ⟨y, hy, rfl⟩ := List.mem_map.1 hx
          exact WalkArith.wf_i64 (by have := (hfit y hy).2; omega))
        have hg1' := hg1.out
        have hg2' := hg2.out
        rw [nums_snd] at hg1'
        rw [plcs_fst] at hg2'
        obtain ⟨a5, cap5, b5, rfl, hc5, hc5', _, HS5⟩ := hg1'.ints HSL.out HSF.out
        obtain ⟨a6, cap6, b6, rfl, hc6, hc6', _, HS6⟩ := hg2'.ints HFL.out HFF.out
        have H5 := Lib.hid HS5
        have H6 := Lib.hid HS6
        have HLIST := Lib.hid (list_any 1000 (I0.out.kept hBr (Nat.le_refl _)) N0.out (by omega) (by decide) hBr.size)
        have HPL := Lib.hid (fun W (hb : Below wr.heap.size wr W) => places_any (w := W) 1000 (I0.out.kept (hBr.trans (hb.mono hBr.size)) (Nat.le_refl _)) N0.out (by omega) (by decide) (Nat.le_trans hBr.size hb.size))
        have htk : (itemsF zs).take 1000 = pre := by rw [HPRE.out]; exact List.take_of_length_le (by omega)
        rw [htk] at HLIST HPL
        obtain ⟨m0, hm0⟩ : ∃ m0, heldN a1 pre.length = m0 := ⟨_, rfl⟩
        have hm0l : m0 ≤ pre.length := by rw [← hm0]; exact heldN_le _ _
        have HH := Lib.hid (fun w => held_any a1 pre.length w)
        rw [hm0] at HH
        have HLM := Lib.hid (fun W (hb : Below w.heap.size w W) => list_any m0 (I0.out.kept hb (Nat.le_refl _)) N0.out (by omega) (by omega) hb.size)
        rw [HPRE.out] at HLM
        have HTL : Hid ((pre.take m0).length = m0) := Lib.hid (by rw [List.length_take]; omega)
        have HBr := Lib.hid hBr
        clear HS5 HS6 hg1 hg2 hg1' hg2' htk hlenp hfit hm0 hit HIL HFIT HBY hBr HPRE HIU HII
        generalize hLL : pre.length = L at *
        have HLL := Lib.hid hLL
        clear hLL
        unfold maxLen at hc5' hc6'
        go_wp2_with (go_at_call 30; refine HG.out.mono ?_; rintro e w2 ⟨rfl, rfl⟩)
        refine HLIST.out.mono ?_
        rintro e w2 ⟨v, rfl, hgl, hB2⟩
        rw [HLL.out, nums_snd] at hgl
        obtain ⟨a7, cap7, b7, rfl, hc7, hc8, _, HS7⟩ := hgl.ints HSL.out HSF.out
        have H7 := Lib.hid HS7
        have HPL2 := Lib.hid (HPL.out w2 hB2)
        have HB2 := Lib.hid hB2
        clear hgl HS7 hB2 HLIST HPL
        go_wp2_with fail
        refine HPL2.out.mono ?_
        rintro e w3 ⟨v, rfl, hgp, hB3⟩
        rw [HLL.out, plcs_fst] at hgp
        obtain ⟨a8, cap8, b8, rfl, hc9, hc10, _, HS8⟩ := hgp.ints HFL.out HFF.out
        have HSAME := Lib.hid (sameints_yes HS8 ((H6.out.kept HB2.out (Nat.le_refl _)).kept hB3 HB2.out.size) cap8 cap6)
        have HB3 := Lib.hid (HBr.out.trans ((HB2.out.trans (hB3.mono HB2.out.size)).mono HBr.out.size))
        have H7' := Lib.hid (H7.out.kept hB3 (Nat.le_refl _))
        have H5' := Lib.hid ((H5.out.kept HB2.out (Nat.le_refl _)).kept hB3 HB2.out.size)
        clear hgp HS8 hB3 HPL2 H7 H5 H6 HB2 HBr
        go_wp2_with fail
        refine HSAME.out.mono ?_
        rintro e w4 ⟨rfl, nq, rfl⟩
        clear HSAME
        go_wp2_with fail
        generalize wr = W0 at *
        go_loopw [61] (fun i wq => ∃ j q : Nat, j ≤ L ∧ i = .int .i64 j ∧ wq = w3.drewN q) (fun i _ => L - (intOf i).toNat)
        case atStart => exact ⟨0, nq, Nat.zero_le _, rfl, rfl⟩
        case round =>
          obtain ⟨j, q, hj, rfl, rfl⟩ := hrel
          by_cases hlt2 : j < L
          · have c1 := H5'.out.cell j hlt2
            have c2 := H7'.out.cell j hlt2
            obtain rfl : a5 = some ⟨b5, 0, none⟩ := H5'.out.addr.resolve_left (by omega)
            obtain rfl : a7 = some ⟨b7, 0, none⟩ := H7'.out.addr.resolve_left (by omega)
            rw [Nat.zero_add] at c1 c2
            generalize (sndI pre).getD j 0 = x at *
            have hki : (j : Int) < (L : Int) := by omega
            have hk0 : (0 : Int) ≤ (j : Int) := by omega
            go_wp2
            go_quiet (fail)
            go_wp2
            go_roundw
            case rel => exact ⟨j + 1, _, by omega, by go_num, rfl⟩
            case measure => simp [intOf]; omega
          · go_wp2_with fail
            refine (HH.out _).mono ?_
            rintro e w5 ⟨rfl, rfl⟩
            go_wp2_with fail
            refine (HLM.out _ (HB3.out.trans (drewN_below' _ _ _))).mono ?_
            rintro e w6 ⟨v, rfl, hgm, hB6⟩
            rw [HTL.out] at hgm
            obtain ⟨a9, cap9, rfl⟩ := hgm.slice
            have HB6 := Lib.hid ((HB3.out.trans (drewN_below' _ _ q)).trans (hB6.mono HB3.out.size))
            clear hgm hB6
            go_wp2
            go_ret
            exact ⟨rfl, HB6.out⟩
    · obtain rfl : k = len0 := by omega
      have HPRE : Hid (itemsF zs = pre) := Lib.hid (by rw [hit.out.1, List.drop_of_length_le (by rw [HLEN.out]; exact Nat.le_refl _), itemsGo_nil, List.append_nil])
      have hlenp : (itemsF zs).length = pre.length := by rw [HPRE.out]
      have hfit : ∀ x ∈ pre, x.2 ≤ 18446744073709551615 ∧ x.1 ≤ k := by rw [← HPRE.out]; exact HFIT.out
      have HSL : Hid ((sndI pre).length = pre.length) := Lib.hid (by unfold sndI; exact List.length_map ..)
      have HFL : Hid ((fstI pre).length = pre.length) := Lib.hid (by unfold fstI; exact List.length_map ..)
      have HSF : Hid (∀ x ∈ sndI pre, (Lit.int .u64 x).wf = true) := Lib.hid (fun x hx => by
        obtain ⟨y, hy, rfl⟩ := List.mem_map.1 hx
        exact WalkArith.wf_u64 (by have := (hfit y hy).1; omega))
      have HFF : Hid (∀ x ∈ fstI pre, (Lit.int .i64 x).wf = true) := Lib.hid (fun x hx => by
        obtain ⟨y, hy, rfl⟩ := List.mem_map.1 hx
        exact WalkArith.wf_i64 (by have := (hfit y hy).2; omega))
      have hg1' := hg1.out
      have hg2' := hg2.out
      rw [nums_snd] at hg1'
      rw [plcs_fst] at hg2'
      obtain ⟨a5, cap5, b5, rfl, hc5, hc5', _, HS5⟩ := hg1'.ints HSL.out HSF.out
      obtain ⟨a6, cap6, b6, rfl, hc6, hc6', _, HS6⟩ := hg2'.ints HFL.out HFF.out
      have H5 := Lib.hid HS5
      have H6 := Lib.hid HS6
      have HLIST := Lib.hid (list_any 1000 (I0.out.kept hBr (Nat.le_refl _)) N0.out (by omega) (by decide) hBr.size)
      have HPL := Lib.hid (fun W (hb : Below wr.heap.size wr W) => places_any (w := W) 1000 (I0.out.kept (hBr.trans (hb.mono hBr.size)) (Nat.le_refl _)) N0.out (by omega) (by decide) (Nat.le_trans hBr.size hb.size))
      have htk : (itemsF zs).take 1000 = pre := by rw [HPRE.out]; exact List.take_of_length_le (by omega)
      rw [htk] at HLIST HPL
      obtain ⟨m0, hm0⟩ : ∃ m0, heldN a1 pre.length = m0 := ⟨_, rfl⟩
      have hm0l : m0 ≤ pre.length := by rw [← hm0]; exact heldN_le _ _
      have HH := Lib.hid (fun w => held_any a1 pre.length w)
      rw [hm0] at HH
      have HLM := Lib.hid (fun W (hb : Below w.heap.size w W) => list_any m0 (I0.out.kept hb (Nat.le_refl _)) N0.out (by omega) (by omega) hb.size)
      rw [HPRE.out] at HLM
      have HTL : Hid ((pre.take m0).length = m0) := Lib.hid (by rw [List.length_take]; omega)
      have HBr := Lib.hid hBr
      clear HS5 HS6 hg1 hg2 hg1' hg2' htk hlenp hfit hm0 hit HIL HFIT HBY hBr HPRE HIU HII
      generalize hLL : pre.length = L at *
      have HLL := Lib.hid hLL
      clear hLL
      unfold maxLen at hc5' hc6'
      go_wp2_with fail
      refine HLIST.out.mono ?_
      rintro e w2 ⟨v, rfl, hgl, hB2⟩
      rw [HLL.out, nums_snd] at hgl
      obtain ⟨a7, cap7, b7, rfl, hc7, hc8, _, HS7⟩ := hgl.ints HSL.out HSF.out
      have H7 := Lib.hid HS7
      have HPL2 := Lib.hid (HPL.out w2 hB2)
      have HB2 := Lib.hid hB2
      clear hgl HS7 hB2 HLIST HPL
      go_wp2_with fail
      refine HPL2.out.mono ?_
      rintro e w3 ⟨v, rfl, hgp, hB3⟩
      rw [HLL.out, plcs_fst] at hgp
      obtain ⟨a8, cap8, b8, rfl, hc9, hc10, _, HS8⟩ := hgp.ints HFL.out HFF.out
      have HSAME := Lib.hid (sameints_yes HS8 ((H6.out.kept HB2.out (Nat.le_refl _)).kept hB3 HB2.out.size) cap8 cap6)
      have HB3 := Lib.hid (HBr.out.trans ((HB2.out.trans (hB3.mono HB2.out.size)).mono HBr.out.size))
      have H7' := Lib.hid (H7.out.kept hB3 (Nat.le_refl _))
      have H5' := Lib.hid ((H5.out.kept HB2.out (Nat.le_refl _)).kept hB3 HB2.out.size)
      clear hgp HS8 hB3 HPL2 H7 H5 H6 HB2 HBr
      go_wp2_with fail
      refine HSAME.out.mono ?_
      rintro e w4 ⟨rfl, nq, rfl⟩
      clear HSAME
      go_wp2_with fail
      generalize wr = W0 at *
      go_loopw [61] (fun i wq => ∃ j q : Nat, j ≤ L ∧ i = .int .i64 j ∧ wq = w3.drewN q) (fun i _ => L - (intOf i).toNat)
      case atStart => exact ⟨0, nq, Nat.zero_le _, rfl, rfl⟩
      case round =>
        obtain ⟨j, q, hj, rfl, rfl⟩ := hrel
        by_cases hlt2 : j < L
        · have c1 := H5'.out.cell j hlt2
          have c2 := H7'.out.cell j hlt2
          obtain rfl : a5 = some ⟨b5, 0, none⟩ := H5'.out.addr.resolve_left (by omega)
          obtain rfl : a7 = some ⟨b7, 0, none⟩ := H7'.out.addr.resolve_left (by omega)
          rw [Nat.zero_add] at c1 c2
          generalize (sndI pre).getD j 0 = x at *
          have hki : (j : Int) < (L : Int) := by omega
          have hk0 : (0 : Int) ≤ (j : Int) := by omega
          go_wp2
          go_quiet (fail)
          go_wp2
          go_roundw
          case rel => exact ⟨j + 1, _, by omega, by go_num, rfl⟩
          case measure => simp [intOf]; omega
        · go_wp2_with fail
          refine (HH.out _).mono ?_
          rintro e w5 ⟨rfl, rfl⟩
          go_wp2_with fail
          refine (HLM.out _ (HB3.out.trans (drewN_below' _ _ _))).mono ?_
          rintro e w6 ⟨v, rfl, hgm, hB6⟩
          rw [HTL.out] at hgm
          obtain ⟨a9, cap9, rfl⟩ := hgm.slice
          have HB6 := Lib.hid ((HB3.out.trans (drewN_below' _ _ q)).trans (hB6.mono HB3.out.size))
          clear hgm hB6
          go_wp2
          go_ret
          exact ⟨rfl, HB6.out⟩
theorem walk_VarintLists (a0 : Option Addr) (len0 cap0 : Nat) (z0 : List Int) (a1 : Int) (w : World) (w0 : IsRow .u8 w a0 len0 cap0 z0) (w1 : (Lit.int .i64 a1).wf = true) :
    Calls Try.prog 13 #[.slice a0 len0 cap0, .int .i64 a1] w fun e w' => e = .returned (.bool true) ∧ Below w.heap.size w w' := by
  have hcap := w0.cap
  have hn0 : a0 = none → len0 = 0 ∧ cap0 = 0 := fun h => by subst h; exact w0.nil
  obtain ⟨b, off, hi⟩ := w0.ints
  clear w0 w1
  by_cases h3 : 300 < len0
  · have hm := hi.small
    unfold maxLen at hm
    clear hi hn0
    go_enter Try.func13, Try.ntmps13
    go_wp2_with (go_at_call 28; refine (valive_any _).mono ?_; rintro e w' ⟨rfl, hB⟩)
    go_ret
    exact ⟨rfl, by assumption⟩
  · exact lists_main a0 len0 cap0 b off _ a1 w (Lib.hid hi) (Lib.hid hn0) hcap (by omega)
end Go.Proofs.Ytiajpffdnjeafaa
