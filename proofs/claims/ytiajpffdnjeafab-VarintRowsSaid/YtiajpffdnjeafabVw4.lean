/- The walk of VarintRows. -/
import Derived.Test.YtiajpffdnjeafabVt
set_option linter.unusedVariables false
namespace Go.Proofs.Ytiajpffdnjeafab
open Go.RowKit

def toI (l : List Nat) : List Int := l.map fun n : Nat => (n : Int)
theorem toI_getD (l : List Nat) (k : Nat) (h : k < l.length) : (toI l).getD k 0 = ((l[k] : Nat) : Int) := by unfold toI; simp [List.getD, h]
theorem toI_length (l : List Nat) : (toI l).length = l.length := by unfold toI; exact List.length_map ..
def cat : List Nat → List Int
  | [] => []
  | n :: l => putF n ++ cat l
def offs : List Nat → Nat → List Int
  | [], _ => []
  | n :: l, o => (o : Int) :: offs l (o + (putF n).length)
def pairs : List Nat → Nat → List (Nat × Nat)
  | [], _ => []
  | n :: l, o => (o, n) :: pairs l (o + (putF n).length)
theorem cat_snoc (l : List Nat) (n : Nat) : cat (l ++ [n]) = cat l ++ putF n := by
  induction l with
  | nil => simp [cat]
  | cons m l ih => simp only [List.cons_append, cat, ih, List.append_assoc]
theorem offs_snoc (l : List Nat) (n o : Nat) : offs (l ++ [n]) o = offs l o ++ [((o + (cat l).length : Nat) : Int)] := by
  induction l generalizing o with
  | nil => simp [offs, cat]
  | cons m l ih => simp only [List.cons_append, offs, cat, ih, List.length_append, Nat.add_assoc]
theorem offs_length (l : List Nat) (o : Nat) : (offs l o).length = l.length := by
  induction l generalizing o with
  | nil => rfl
  | cons m l ih => simp [offs, ih]
theorem pairs_length (l : List Nat) (o : Nat) : (pairs l o).length = l.length := by
  induction l generalizing o with
  | nil => rfl
  | cons m l ih => simp [pairs, ih]
theorem cat_length (l : List Nat) : (cat l).length ≤ 10 * l.length := by
  induction l with
  | nil => simp [cat]
  | cons m l ih => have := putL_length 9 m; simp only [cat, List.length_append, List.length_cons]; unfold putF; omega
theorem items_cat (l : List Nat) : ∀ (f o : Nat), (cat l).length ≤ f → (∀ n ∈ l, n ≤ 18446744073709551615) → itemsGo f (cat l) o = pairs l o := by
  induction l with
  | nil => intro f o _ _; exact itemsGo_nil f o
  | cons n l ih =>
    intro f o hf hn
    have hn1 := hn n (List.mem_cons_self ..)
    have hg := get_putF n (cat l) hn1
    have hl := putL_length 9 n
    have hpe : (putF n).length = (putL 9 n).length := rfl
    rw [← hpe] at hl
    simp only [cat, List.length_append] at hf
    have hne : putF n ++ cat l ≠ [] := by intro h; have := congrArg List.length h; rw [List.length_append] at this; simp only [List.length_nil] at this; omega
    obtain ⟨g, rfl, hs⟩ := itemsGo_step (f := f) (at0 := o) hne (by simpa using hf) (by rw [hg])
    simp only [cat, pairs]
    rw [hs, hg]
    simp only
    rw [List.drop_left, ih g _ (by omega) (fun m hm => hn m (List.mem_cons_of_mem _ hm))]
theorem itemsF_cat (l : List Nat) (hn : ∀ n ∈ l, n ≤ 18446744073709551615) : itemsF (cat l) = pairs l 0 := items_cat l _ 0 (Nat.le_refl _) hn
theorem nums_pairs (l : List Nat) (o : Nat) : nums (pairs l o) = ivals .u64 (toI l) := by
  unfold nums ivals toI
  induction l generalizing o with
  | nil => rfl
  | cons n l ih => simp only [pairs, List.map_cons]; rw [ih]
theorem plcs_pairs (l : List Nat) (o : Nat) : plcs (pairs l o) = ivals .i64 (offs l o) := by
  unfold plcs ivals
  induction l generalizing o with
  | nil => rfl
  | cons n l ih => simp only [pairs, offs, List.map_cons]; rw [ih]
theorem cat_fits (l : List Nat) (hn : ∀ n ∈ l, n ≤ 18446744073709551615) : ∀ x ∈ cat l, (Lit.int .u8 x).wf = true := by
  induction l with
  | nil => intro x hx; simp [cat] at hx
  | cons n l ih =>
    intro x hx
    rcases List.mem_append.1 hx with h | h
    · exact WalkArith.wf_u8 (putL_bytes 9 n (by have := hn n (List.mem_cons_self ..); rw [show (128 : Nat) ^ (9 + 1) = 1180591620717411303424 by decide]; omega) x h)
    · exact ih (fun m hm => hn m (List.mem_cons_of_mem _ hm)) x h
theorem offs_fits (l : List Nat) : ∀ o, o + 10 * l.length ≤ 65536 → ∀ x ∈ offs l o, (Lit.int .i64 x).wf = true := by
  induction l with
  | nil => intro o _ x hx; simp [offs] at hx
  | cons n l ih =>
    intro o ho x hx
    have := putL_length 9 n
    simp only [List.length_cons] at ho
    simp only [offs, List.mem_cons] at hx
    rcases hx with rfl | hx
    · exact WalkArith.wf_i64 (by omega)
    · exact ih _ (by unfold putF; omega) x hx
theorem Try.infoU64b : (Try.prog.info? 22).map (fun i => (i.zero, i.size, i.bytes)) = some (some (.int .u64 0), 1, 8) := by kernel_rfl

theorem drewN_below (B : Nat) (w : World) (n : Nat) : Below B w (w.drewN n) := ⟨rfl, rfl, rfl, Nat.le_refl _, fun _ _ => rfl⟩
set_option maxRecDepth 100000 in
set_option maxHeartbeats 2000000 in
theorem rows_main (a0 : Option Addr) (len0 cap0 b0 o0 : Nat) (ms : List Nat) (w : World) (I0 : Hid (IntsAt .u64 w.heap.size w a0 b0 o0 len0 (toI ms))) (hms : Hid (∀ n ∈ ms, n ≤ 18446744073709551615)) (h60 : len0 ≤ 60) :
    Calls Try.prog 4 #[.slice a0 len0 cap0] w fun e w' => e = .returned (.bool true) ∧ Below w.heap.size w w' := by
  obtain ⟨i8, hi8, hz80, hz81, hz82⟩ := info_parts Try.infoU8
  obtain ⟨ii, hii, hzi0, hzi1, hzi2⟩ := info_parts Try.infoInt
  have HI8 := Lib.hid (And.intro hi8 (And.intro hz80 (And.intro hz81 hz82)))
  have HII := Lib.hid (And.intro hii (And.intro hzi0 (And.intro hzi1 hzi2)))
  clear hi8 hz80 hz81 hz82 hii hzi0 hzi1 hzi2
  have HLEN : Hid (ms.length = len0) := Lib.hid (by have := I0.out.length; rwa [toI_length] at this)
  go_enter Try.func4, Try.ntmps4
  go_wp2_with (go_at_call 5; refine (valive_any _).mono ?_; rintro e w' ⟨rfl, hB⟩)
  have hsz := hB.size
  go_loopw [3, 4, 19] (fun v u i wr => ∃ k : Nat, k ≤ len0 ∧ i = .int .i64 k ∧ Hid (Gath wr (w'.heap.size + 2) 5 1 v (cat (ms.take k)).length (ivals .u8 (cat (ms.take k)))) ∧ Hid (Gath wr (w'.heap.size + 2) 3 1 u k (ivals .i64 (offs (ms.take k) 0))) ∧ Below w.heap.size w wr ∧ w'.heap.size + 2 ≤ wr.heap.size) (fun _ _ i _ => len0 - (intOf i).toNat)
  case atStart => exact ⟨0, Nat.zero_le _, rfl, Lib.hid (.inl ⟨rfl, rfl, _, rfl⟩), Lib.hid (.inl ⟨rfl, rfl, _, rfl⟩), (hB.alloc hB.size _).alloc (by simp; omega) _, by simp⟩
  case round =>
    obtain ⟨k, hk, rfl, hg1, hg2, hBr, hszr⟩ := hrel
    by_cases hlt : k < len0
    · have HA := I0.out.kept hBr (Nat.le_refl _)
      have hcell := HA.cell k hlt
      have hl : k < ms.length := by rw [HLEN.out]; exact hlt
      obtain ⟨n, hn⟩ : ∃ n, ms[k] = n := ⟨_, rfl⟩
      rw [toI_getD ms k hl, hn] at hcell
      have hnb : n ≤ 18446744073709551615 := hms.out n (by rw [← hn]; exact List.getElem_mem hl)
      have htk : ms.take (k + 1) = ms.take k ++ [n] := by rw [List.take_succ_eq_append_getElem hl, hn]
      obtain rfl : a0 = some ⟨b0, o0, none⟩ := HA.addr.resolve_left (by omega)
      have hcl := cat_length (ms.take k)
      rw [List.length_take] at hcl
      have HTK := Lib.hid htk
      have HP := Lib.hid (fun W => put_any n W hnb)
      have hpl := putL_length 9 n
      have hpe : (putF n).length = (putL 9 n).length := rfl
      rw [← hpe] at hpl
      have HWF := Lib.hid (fun x hx => WalkArith.wf_u8 (putL_bytes 9 n (by rw [show (128 : Nat) ^ (9 + 1) = 1180591620717411303424 by decide]; omega) x hx))
      obtain ⟨a3, cap3, rfl⟩ := hg1.out.slice
      clear HA htk hpe hn hl hnb
      generalize hCL : (cat (ms.take k)).length = C at *
      have HCL := Lib.hid hCL
      clear hCL
      go_wp2_with (first
        | (at_builtin; refine wpList_append_gathR _ rfl (.tmp 23) (.tmp 26) 31 rfl (w'.heap.size + 2) 3 ii (.int .i64 0) 1 8 Try.underlying31 HII.out.1 HII.out.2.1 HII.out.2.2.1 HII.out.2.2.2 rfl (by decide) _ _ _ rfl (hg2.out.alloc _) ⟨wr.heap.size, 0, none⟩ 1 1 [.int .i64 (C : Int)] rfl rfl (cell_one _ _ _) (one_val rfl) (by decide) (by unfold maxLen; omega) (by omega) (by simp; omega) ?_; intro v4 w4 row4 hown4 hgr4 hrow4))
      have hb4 := hrow4.below hgr4 (by simp; omega)
      have hsz4 := hgr4.size
      simp only [World.size_alloc] at hsz4
      have G1 := Lib.hid ((hg1.out.alloc (.cells #[.int .i64 (C : Int)] 3)).other hgr4 hrow4 (by decide))
      have G2 : Hid (Gath w4 (w'.heap.size + 2) 3 1 v4 (k + 1) _) := Lib.hid (.inr hown4)
      have HB4 := Lib.hid ((hBr.alloc (by omega) (.cells #[.int .i64 (C : Int)] 3)).trans (hb4.mono (by omega)))
      clear hb4 hgr4 hrow4 hown4 hg1 hg2
      refine (HP.out _).mono ?_
      rintro e w5 ⟨v5, rfl, hg5, hB5⟩
      obtain ⟨a5, cap5, b5, rfl, hc5, hc6, hb5, HS5⟩ := hg5.ints rfl HWF.out
      have ha5 : a5 = some ⟨b5, 0, none⟩ := HS5.addr.resolve_left (by omega)
      subst ha5
      have hsz5 := hB5.size
      have G1' := Lib.hid (G1.out.kept hB5)
      have G2' := Lib.hid (G2.out.kept hB5)
      have HB5 := Lib.hid (HB4.out.trans (hB5.mono (by omega)))
      have HC5 := Lib.hid (ints_cells HS5 (Below.refl w5.heap.size w5) (Nat.le_refl _))
      clear G1 G2 HB4 hg5 hb5 hB5 HS5
      unfold maxLen at hc6
      generalize hLL : (putF n).length = L at *
      have HLL := Lib.hid hLL
      clear hLL
      go_wp2_with (at_builtin; refine wpList_append_gathR _ rfl (.tmp 28) (.tmp 30) 27 rfl (w'.heap.size + 2) 5 i8 (.int .u8 0) 1 1 Try.underlying27 HI8.out.1 HI8.out.2.1 HI8.out.2.2.1 HI8.out.2.2.2 rfl (by decide) _ _ _ rfl G1'.out ⟨b5, 0, none⟩ L cap5 (ivals .u8 (putF n)) rfl (by rw [ivals_length, HLL.out, Nat.mul_one]) HC5.out (ivals_one _ _) (by omega) (by unfold maxLen; omega) (by omega) (by omega) ?_; intro v6 w6 row6 hown6 hgr6 hrow6)
      have hb6 := hrow6.below hgr6 (by omega)
      have hsz6 := hgr6.size
      go_roundw
      case rel =>
        refine ⟨k + 1, by omega, by go_num, Lib.hid (.inr ?_), Lib.hid ?_, HB5.out.trans (hb6.mono (by omega)), by omega⟩
        · rw [HTK.out, cat_snoc, List.length_append, HCL.out, HLL.out, ivals_append]
          exact hown6
        · rw [HTK.out, offs_snoc, ivals_snoc, HCL.out, Nat.zero_add]
          exact G2'.out.other hgr6 hrow6 (by decide)
      case measure => simp [intOf]; omega
    · obtain rfl : k = len0 := by omega
      have htk : ms.take k = ms := List.take_of_length_le (by rw [HLEN.out]; exact Nat.le_refl _)
      rw [htk] at hg1 hg2
      obtain ⟨a3, cap3, b3, rfl, hc3, hc4, _, HS3⟩ := hg1.out.ints rfl (cat_fits ms hms.out)
      have N3 := Lib.hid hg1.out.nilcap
      obtain ⟨a4, cap4, b4, rfl, _, _, _, HS4⟩ := hg2.out.ints (by rw [offs_length, HLEN.out]) (offs_fits ms 0 (by rw [HLEN.out]; omega))
      have H3 := Lib.hid HS3
      have H4 := Lib.hid HS4
      have hcl := cat_length ms
      rw [HLEN.out] at hcl
      have HITEMS := Lib.hid (itemsF_cat ms hms.out)
      have HLIST := Lib.hid (list_any 1000 HS3 (cap := cap3) N3.out (by omega) (by decide) (Nat.le_refl _))
      have HPL := Lib.hid (fun W (hb : Below wr.heap.size wr W) => places_any (w := W) 1000 (HS3.kept hb (Nat.le_refl _)) (cap := cap3) N3.out (by omega) (by decide) hb.size)
      have htk2 : (pairs ms 0).take 1000 = pairs ms 0 := List.take_of_length_le (by rw [pairs_length, HLEN.out]; omega)
      rw [HITEMS.out, htk2] at HLIST HPL
      have HNL := Lib.hid (nums_pairs ms 0)
      have HPP := Lib.hid (plcs_pairs ms 0)
      have hpln := pairs_length ms 0
      rw [HLEN.out] at hpln
      have HPLN := Lib.hid hpln
      have HBr := Lib.hid hBr
      clear HS3 HS4 hg1 hg2 htk htk2 hpln hBr
      generalize hCL : (cat ms).length = C at *
      clear hCL
      go_wp2_with fail
      refine HLIST.out.mono ?_
      rintro e w2 ⟨v, rfl, hgl, hB2⟩
      rw [HPLN.out, HNL.out] at hgl
      obtain ⟨a7, cap7, b7, rfl, hc7, hc8, _, HS7⟩ := hgl.ints (by rw [toI_length, HLEN.out]) (fun x hx => by
        obtain ⟨n, hn, rfl⟩ := List.mem_map.1 hx
        exact WalkArith.wf_u64 (by have := hms.out n hn; omega))
      have H7 := Lib.hid HS7
      have HPL2 := Lib.hid (HPL.out w2 hB2)
      have HB2 := Lib.hid hB2
      clear hgl HS7 hB2 HLIST HPL
      go_wp2_with fail
      refine HPL2.out.mono ?_
      rintro e w3 ⟨v, rfl, hgp, hB3⟩
      rw [HPLN.out, HPP.out] at hgp
      obtain ⟨a8, cap8, b8, rfl, hc9, hc10, _, HS8⟩ := hgp.ints (by rw [offs_length, HLEN.out]) (offs_fits ms 0 (by rw [HLEN.out]; omega))
      have HSAME := Lib.hid (sameints_yes HS8 ((H4.out.kept HB2.out (Nat.le_refl _)).kept hB3 HB2.out.size) cap8 cap4)
      have HB3 := Lib.hid (HBr.out.trans ((HB2.out.trans (hB3.mono HB2.out.size)).mono HBr.out.size))
      have H7' := Lib.hid (H7.out.kept hB3 (Nat.le_refl _))
      have I3 := Lib.hid (I0.out.kept HB3.out (Nat.le_refl _))
      clear hgp HS8 hB3 HPL2 H7 H4 H3 HB2 HBr N3
      go_wp2_with fail
      refine HSAME.out.mono ?_
      rintro e w4 ⟨rfl, nq, rfl⟩
      clear HSAME
      go_wp2_with fail
      generalize wr = W0 at *
      go_loopw [49] (fun i wq => ∃ j q : Nat, j ≤ k ∧ i = .int .i64 j ∧ wq = w3.drewN q) (fun i _ => k - (intOf i).toNat)
      case atStart => exact ⟨0, nq, Nat.zero_le _, rfl, rfl⟩
      case round =>
        obtain ⟨j, q, hj, rfl, rfl⟩ := hrel
        by_cases hlt2 : j < k
        · have c1 := I3.out.cell j hlt2
          have c2 := H7'.out.cell j hlt2
          obtain rfl : a0 = some ⟨b0, o0, none⟩ := I3.out.addr.resolve_left (by omega)
          obtain rfl : a7 = some ⟨b7, 0, none⟩ := H7'.out.addr.resolve_left (by omega)
          rw [Nat.zero_add] at c2
          generalize (toI ms).getD j 0 = x at *
          have hki : (j : Int) < (k : Int) := by omega
          have hk0 : (0 : Int) ≤ (j : Int) := by omega
          go_wp2
          go_roundw
          case rel => exact ⟨j + 1, _, by omega, by go_num, rfl⟩
          case measure => simp [intOf]; omega
        · go_wp2
          go_ret
          exact ⟨rfl, HB3.out.trans (drewN_below _ _ _)⟩
theorem walk_VarintRows (a0 : Option Addr) (len0 cap0 : Nat) (z0 : List Int) (w : World) (w0 : IsRow .u64 w a0 len0 cap0 z0) :
    Calls Try.prog 4 #[.slice a0 len0 cap0] w fun e w' => e = .returned (.bool true) ∧ Below w.heap.size w w' := by
  obtain ⟨b, off, hi⟩ := w0.ints
  clear w0
  have hm := hi.small
  by_cases h3 : 60 < len0
  · unfold maxLen at hm
    clear hi
    go_enter Try.func4, Try.ntmps4
    go_wp2_with (go_at_call 5; refine (valive_any _).mono ?_; rintro e w' ⟨rfl, hB⟩)
    go_ret
    exact ⟨rfl, by assumption⟩
  · have hb : ∀ x ∈ z0.take len0, 0 ≤ x ∧ x ≤ 18446744073709551615 := fun x hx => bounds_u64 (hi.fits x hx)
    have hz : z0.take len0 = toI ((z0.take len0).map Int.toNat) := by
      unfold toI
      rw [List.map_map]
      exact (List.map_id _).symm.trans (List.map_congr_left fun x hx => by have := hb x hx; simp only [id, Function.comp]; omega)
    rw [hz] at hi
    exact rows_main a0 len0 cap0 b off _ w (Lib.hid hi) (Lib.hid fun n hn => by
      obtain ⟨x, hx, rfl⟩ := List.mem_map.1 hn
      have := hb x hx
      omega) (by omega)
end Go.Proofs.Ytiajpffdnjeafab
