/- The walk of IdentSorts. -/
import Derived.Test.YtmilchkemobchaaDoorNs
import Derived.Test.YtmilchkemobchaaDoorNt
import Derived.Deep.Cut
set_option linter.unusedVariables false
set_option linter.unusedSectionVars false
set_option linter.unusedSimpArgs false
namespace Go.Proofs.YtmilchkemobchaaDoor
open Go.RowKit Go.Shelf Ss

theorem gb_one (w : World) (x : ByteArray) (t : TypeId) {base : Nat} (hb : base ≤ w.heap.size) : GB (w.alloc (.cells #[.string x] t)) base t 1 (.slice (some ⟨w.heap.size, 0, none⟩) 1 1) 1 [.string x] (some w.heap.size) :=
  .inr ⟨_, rfl, rfl, by simp, .inr ⟨w.heap.size, 1, _, rfl, hb, heap_new _ rfl, Nat.le_refl _, by decide, rfl, rfl⟩⟩
theorem bytes_zz {w : World} {a : Option Addr} {len cap : Nat} {z : List Int} (h : IsRow .u8 w a len cap z) : ∃ b off zs, IntsAt .u8 w.heap.size w a b off len zs := by
  obtain ⟨b, off, hi⟩ := h.ints
  exact ⟨b, off, _, hi⟩
theorem wpList_append_guard {P : Program} (w : World) {ops : Array Oper} {rest : List Oper} {o : Oper} {a : Act} {Q : Exit → Act → World → Prop} (hw : Region.wanted o (yielded ops a.tmps) = true) (s x : Operand) (t : TypeId)
    (ho : o.op = .call { callee := .builtin .append, args := #[s, x], argTypes := #[t, t] })
    (base : Nat) (e : TypeId) (i : TypeInfo) (z : Value) (size bytes : Nat) (ht : P.underlying t = some (.slice e)) (hi : P.info? e = some i) (hz : i.zero = some z)
    (hsize : i.size = size) (hby : i.bytes = bytes) (hzs : z.cells.size = size) (hsz : 0 < size)
    (v : Value) (n : Nat) (xs : List Value) (hs : a.eval s = v) (hown : w.ownsRow base e size v n xs)
    (ad : Addr) (m c : Nat) (news : List Value) (hx : a.eval x = .slice (some ad) m c) (hl : news.length = m * size) (hnews : ∀ j u, news[j]? = some u → w.cell? (ad.add j) = some u) (h1 : ∀ u ∈ news, u.oneCell' = true)
    (h63 : n + m ≤ maxLen) (hbytes : (n + m) * bytes ≤ 140737488355328) (hbase : base ≤ w.heap.size)
    (h : ∀ v' w', w'.ownsRow base e size v' (n + m) (xs ++ news) → w.grownBy w' v.ownBlock → wpList P ops Q rest (a.put o.dst v') w') : wpList P ops Q (o :: rest) a w :=
  wpList_step fun K hK => by
    rw [if_pos hw]
    exact wp_append_own w s x t ho base e i z size bytes ht hi hz hsize hby hzs hsz v n xs hs hown ad m c news hx hl hnews h1 h63 hbytes hbase fun v' w' h2 h3 _ => hK _ _ (h v' w' h2 h3)
set_option maxRecDepth 100000 in
set_option maxHeartbeats 4000000 in
theorem walk_IdentSorts (s : ByteArray) (a1 : Option Addr) (len1 cap1 : Nat) (z1 : List Int) (w : World) (w0 : s.size ≤ maxLen) (w1 : IsRow .u8 w a1 len1 cap1 z1) :
    Calls Tryd.prog 5 #[.string s, .slice a1 len1 cap1] w fun e w' => e = .returned (.bool true) ∧ Below w.heap.size w w' := by
  obtain ⟨i0, hi0, hz0, hz1, hz2⟩ := info_parts Gt.Tryd.infoStr
  have HI := Lib.hid hi0
  have HZ0 := Lib.hid hz0
  have HZ1 := Lib.hid hz1
  have HZ2 := Lib.hid hz2
  clear hi0 hz0 hz1 hz2
  obtain ⟨b, off, zs, hi⟩ := bytes_zz w1
  have H0 := Lib.hid hi
  obtain rfl := hi.length
  have hz := w0
  unfold maxLen at hz
  have HZ := Lib.hid w0
  clear w0 w1 hi
  go_enter Tryd.func5, Tryd.ntmps5
  go_wp2_with fail
  refine (alive_any _).mono ?_
  rintro e x1 ⟨rfl, hB1⟩
  have HB1 := Lib.hid hB1
  have H1 := Lib.hid ((H0.out.kept hB1 (Nat.le_refl _)).mono hB1.size)
  clear hB1 H0
  by_cases h100 : 100 < s.size
  · have d0 : decide (100 < (s.size : Int)) = true := by simp; omega
    go_wp2
    go_ret
    exact ⟨rfl, HB1.out⟩
  have d0 : decide (100 < (s.size : Int)) = false := by simp; omega
  by_cases h20 : 20 < zs.length
  · have d1 : decide (20 < (zs.length : Int)) = true := by simp; omega
    go_wp2
    go_ret
    exact ⟨rfl, HB1.out⟩
  have d1 : decide (20 < (zs.length : Int)) = false := by simp; omega
  cases hb : nameB s with
  | false =>
    have CK := Lib.hid (check_lit HZ.out (chk_no hb) x1)
    clear hb
    go_wp2_with (go_at_call 12; refine CK.out.mono ?_; clear CK; rintro e w' ⟨rfl, rfl⟩)
    go_ret
    exact ⟨rfl, HB1.out⟩
  | true =>
    have CK := Lib.hid (check_lit HZ.out (chk_yes hb) x1)
    have HR0 : Hid (RdR x1 (.slice (some ⟨x1.heap.size, 0, none⟩) 1 1) (sufL s zs 1) (some x1.heap.size) (x1.alloc (.cells #[.string s] 9))) := Lib.hid ⟨gb_one x1 s _ (Nat.le_refl _), (Below.refl _ _).alloc (Nat.le_refl _) _, _, _, _, rfl⟩
    have HSN : Hid (∀ k, chkE (sufB s zs k) = if s.size + k ≤ 64 then 0 else 40) := Lib.hid (fun k => by unfold chkE; rw [sufB_name hb k]; simp)
    have hsz := (chk_size hb).2.1
    clear hb
    go_wp2_with (go_at_call 12; refine CK.out.mono ?_; clear CK; rintro e w' ⟨rfl, rfl⟩)
    go_loopw [5, 30] (fun tv i wr => ∃ (j : Nat) (b1 : Option Nat), j ≤ zs.length ∧ i = .int .i64 j ∧ Hid (RdR x1 tv (sufL s zs (j + 1)) b1 wr)) (fun _ i _ => zs.length - (intOf i).toNat)
    case atStart => exact ⟨0, _, Nat.zero_le _, rfl, HR0⟩
    case round =>
      clear HR0
      obtain ⟨j, b1, hj, rfl, hT⟩ := hrel
      have hxl : (sufL s zs (j + 1)).length = j + 1 := sufL_length s zs (j + 1)
      have hfx : ∀ y ∈ sufL s zs (j + 1), y.size ≤ maxLen := fun y hy => by
        obtain ⟨i, hi, rfl⟩ := List.mem_map.1 hy
        have := List.mem_range.1 hi
        exact sz_lit (by rw [sufB_size]; omega)
      have hg := hT.out.g.gath
      rw [hxl] at hg
      obtain ⟨a6, cap6, b6, rfl, _, _, _, hst⟩ := Gath.strs hg hxl hfx
      have HST := Lib.hid hst
      clear hg hfx hst
      by_cases hlt : j < zs.length
      · have c2 := strs_at HST.out j (by omega)
        rw [sufL_at s zs (show j < j + 1 by omega), Nat.zero_add] at c2
        obtain rfl : a6 = some ⟨b6, 0, none⟩ := HST.out.addr.resolve_left (by omega)
        have hI := H1.out.kept hT.out.below (Nat.le_refl _)
        have c1 := hI.cell j hlt
        obtain rfl : a1 = some ⟨b, off, none⟩ := hI.addr.resolve_left (by omega)
        have hjn : (j : Int) < (zs.length : Int) := by omega
        have hbd : 0 ≤ zs.getD j 0 ∧ zs.getD j 0 ≤ 255 := by
          have h := hI.fits (zs.getD j 0) (by rw [List.getD_eq_getElem?_getD, List.getElem?_eq_getElem hlt]; exact List.getElem_mem hlt)
          unfold Lit.wf at h
          rw [Bool.and_eq_true, decide_eq_true_eq, decide_eq_true_eq] at h
          have e1 : IntKind.u8.min = 0 := by decide
          have e2 : IntKind.u8.max = 255 := by decide
          omega
        obtain ⟨q, hq⟩ : ∃ q, Utf8.encode (97 + zs.getD j 0 % 26) = q := ⟨_, rfl⟩
        have hqs : q.size = 1 := by rw [← hq]; exact (cz_facts (zs.getD j 0)).1
        have hnx : sufB s zs j ++ q = sufB s zs (j + 1) := by rw [← hq]; rfl
        have hszp := sufB_size s zs j
        have hszn := sufB_size s zs (j + 1)
        have hck := HSN.out (j + 1)
        have HX := Lib.hid (sufL_succ s zs (j + 1))
        have hno : ¬ 9223372036854775807 < s.size + j + 1 := by omega
        have hgb := hT.out.g
        rw [hxl] at hgb
        generalize sufL s zs (j + 1) = xs at *
        generalize zs.getD j 0 = y at *
        generalize sufB s zs j = p at *
        generalize sufB s zs (j + 1) = nx at *
        have HXL := Lib.hid hxl
        have HGB := Lib.hid hgb
        have hm64 : nx.size ≤ maxLen := sz_lit (by omega)
        clear hxl hgb hI
        by_cases h64 : s.size + (j + 1) ≤ 64
        · rw [if_pos h64] at hck
          have CK2 := Lib.hid (check_lit hm64 hck wr)
          have d2 : decide ((nx.size : Int) ≤ 64) = true := by simp; omega
          clear hck hm64 hszn h64
          go_wp2_with (first
            | (go_at_call 12; refine CK2.out.mono ?_; clear CK2; rintro e w' ⟨rfl, rfl⟩)
            | (at_builtin; refine wpList_append_GB _ rfl _ _ 22 rfl x1.heap.size 9 i0 (.string ByteArray.empty) 1 16 Tryd.underlying22 HI.out HZ0.out HZ1.out HZ2.out rfl (by decide) _ (j + 1) (svals xs) _ rfl (HGB.out.alloc _) ⟨wr.heap.size, 0, none⟩ 1 1 [.string nx] rfl rfl (cell_one _ _ _) (by intro u hu; simp at hu; subst hu; rfl) (by decide) (by unfold maxLen; omega) (by omega) (by have := hT.out.below.size; simp; omega) ?_; intro g5 p5 w5 r5 hG5 hg5 hr5 hw5; have h9 := (hT.out.alloc (.cells #[.string nx] 9)).app (x := nx) (g := g5) (c := p5) (row := r5) (by rw [HXL.out]; exact hG5) hg5 hr5; rw [HXL.out] at h9; have HT5 := Lib.hid h9; clear h9 hG5 hg5 hr5 hw5 c1 c2 hT HGB))
          go_roundw
          case rel => exact ⟨j + 1, some g5, by omega, by go_num, by rw [HX.out]; exact HT5⟩
          case measure => simp [intOf]; omega
        · rw [if_neg h64] at hck
          have CK2 := Lib.hid (check_lit hm64 hck wr)
          have d2 : decide ((nx.size : Int) ≤ 64) = false := by simp; omega
          clear hck hm64 hszn h64
          go_wp2_with (first
            | (go_at_call 12; refine CK2.out.mono ?_; clear CK2; rintro e w' ⟨rfl, rfl⟩)
            | (at_builtin; refine wpList_append_GB _ rfl _ _ 22 rfl x1.heap.size 9 i0 (.string ByteArray.empty) 1 16 Tryd.underlying22 HI.out HZ0.out HZ1.out HZ2.out rfl (by decide) _ (j + 1) (svals xs) _ rfl (HGB.out.alloc _) ⟨wr.heap.size, 0, none⟩ 1 1 [.string nx] rfl rfl (cell_one _ _ _) (by intro u hu; simp at hu; subst hu; rfl) (by decide) (by unfold maxLen; omega) (by omega) (by have := hT.out.below.size; simp; omega) ?_; intro g5 p5 w5 r5 hG5 hg5 hr5 hw5; have h9 := (hT.out.alloc (.cells #[.string nx] 9)).app (x := nx) (g := g5) (c := p5) (row := r5) (by rw [HXL.out]; exact hG5) hg5 hr5; rw [HXL.out] at h9; have HT5 := Lib.hid h9; clear h9 hG5 hg5 hr5 hw5 c1 c2 hT HGB))
          go_roundw
          case rel => exact ⟨j + 1, some g5, by omega, by go_num, by rw [HX.out]; exact HT5⟩
          case measure => simp [intOf]; omega
      · obtain rfl : j = zs.length := by omega
        have hmemL : ∀ y ∈ sufL s zs (zs.length + 1), y.size ≤ maxLen := HST.out.fits
        have HB3 := Lib.hid (below_on HB1.out hT.out.below)
        have hSort := sufL_sorted s zs (zs.length + 1)
        have hBk := bk_sorted s zs (zs.length + 1)
        have hTw := twice_len s zs (zs.length + 1) (by omega)
        have hFi := find_first s zs (n := zs.length + 1) (by omega)
        have HLm := Lib.hid hmemL
        generalize sufL s zs (zs.length + 1) = L at *
        have HSort := Lib.hid hSort
        have HBk := Lib.hid hBk
        have HTw := Lib.hid hTw
        have HFi := Lib.hid hFi
        obtain rfl : a6 = some ⟨b6, 0, none⟩ := HST.out.addr.resolve_left (by omega)
        clear hSort hBk hTw hFi hmemL H1 hT HSN
        generalize zs.length = n at *
        have HXL := Lib.hid hxl
        clear hxl
        have HR0 : Hid (RdR wr (.slice (some ⟨wr.heap.size, 0, none⟩) 0 0) (bkL L 0) none (wr.alloc (.cells #[] 9))) := Lib.hid ⟨gb_nil _ _ _ _ _, (Below.refl _ _).alloc (Nat.le_refl _) _, _, _, _, rfl⟩
        go_wp2
        generalize wr = v0 at *
        go_loopw [9, 10] (fun tv i wr => ∃ (k : Nat) (m : Int) (b2 : Option Nat), k ≤ n + 1 ∧ i = .int .i64 m ∧ Hid (m = (n : Int) - k) ∧ Hid (RdR v0 tv (bkL L k) b2 wr)) (fun _ i _ => (intOf i + 1).toNat)
        case atStart => exact ⟨0, _, none, Nat.zero_le _, by go_num, Lib.hid (by simp), HR0⟩
        case round =>
          clear HR0
          obtain ⟨k, m, b2, hk, rfl, hm, hT⟩ := hrel
          have hbl := bkL_length L k
          have hfb : ∀ y ∈ bkL L k, y.size ≤ maxLen := fun y hy => HLm.out y (bkL_mem (by rw [HXL.out]; omega) hy)
          have hgb := hT.out.g
          rw [hbl] at hgb
          obtain ⟨a7, cap7, b7, rfl, _, _, _, hst7⟩ := Gath.strs hgb.gath hbl hfb
          have HGB := Lib.hid hgb
          have HST7 := Lib.hid hst7
          have HBL := Lib.hid hbl
          have HLk := Lib.hid (StrsAt.mono (HST.out.kept hT.out.below (Nat.le_refl _)) hT.out.below.size)
          clear hbl hfb hgb hst7
          by_cases hlt2 : k < n + 1
          · have hmv := hm.out
            have hm0 : 0 ≤ m := by omega
            have hml : m < (n : Int) + 1 := by omega
            have d3 : decide (0 ≤ m) = true := by simpa using hm0
            obtain ⟨qn, hqe⟩ : ∃ qn, n - k = qn := ⟨_, rfl⟩
            have hqn : m.toNat = qn := by omega
            have c2 := strs_at HLk.out qn (by omega)
            rw [Nat.zero_add] at c2
            have HX : Hid (bkL L (k + 1) = bkL L k ++ [atS L qn]) := Lib.hid (by show bkL L k ++ [atS L (L.length - 1 - k)] = _; rw [HXL.out, show n + 1 - 1 - k = qn by omega])
            generalize atS L qn = x at *
            generalize bkL L k = ys at *
            clear hmv hqe
            go_wp2_with (at_builtin; refine wpList_append_GB _ rfl _ _ 22 rfl v0.heap.size 9 i0 (.string ByteArray.empty) 1 16 Tryd.underlying22 HI.out HZ0.out HZ1.out HZ2.out rfl (by decide) _ k (svals ys) _ rfl (HGB.out.alloc _) ⟨wr.heap.size, 0, none⟩ 1 1 [.string x] rfl rfl (cell_one _ _ _) (by intro u hu; simp at hu; subst hu; rfl) (by decide) (by unfold maxLen; omega) (by omega) (by have := hT.out.below.size; simp; omega) ?_; intro g5 p5 w5 r5 hG5 hg5 hr5 hw5; have h9 := (hT.out.alloc (.cells #[.string x] 9)).app (x := x) (g := g5) (c := p5) (row := r5) (by rw [HBL.out]; exact hG5) hg5 hr5; rw [HBL.out] at h9; have HT5 := Lib.hid h9; clear h9 hG5 hg5 hr5 hw5 c2 hT HGB)
            go_roundw
            case rel => exact ⟨k + 1, m - 1, some g5, by omega, by go_num, Lib.hid (by have := hm.out; omega), by rw [HX.out]; exact HT5⟩
            case measure => simp [intOf]; omega
          · obtain rfl : k = n + 1 := by omega
            have hmv := hm.out
            have d3 : decide (0 ≤ m) = false := by simp; omega
            have HY : Hid (Below w.heap.size w wr) := Lib.hid (below_on HB3.out hT.out.below)
            clear hmv hm hT HGB HBL HST HB3
            generalize bkL L (n + 1) = B at *
            obtain rfl : a7 = some ⟨b7, 0, none⟩ := HST7.out.addr.resolve_left (by omega)
            have hN0 : 0 < n + 1 := by omega
            have hN21 : n + 1 ≤ 21 := by omega
            clear hj hlt hk hlt2 h20 d1
            go_upto_region 19 with fail
            generalize n + 1 = N at *
            have C1 : Hid (∀ W, Below wr.heap.size wr W → Calls Tryd.prog 14 #[.slice (some ⟨b6, 0, none⟩) N cap6] W (fun e w' => e = .returned (.bool true) ∧ Hid (Below wr.heap.size wr w'))) := Lib.hid (fun W hW => (sorted_lit (cap := cap6) (HLk.out.kept hW (Nat.le_refl _)) HSort.out).mono (fun e w' ⟨he, k, hk⟩ => ⟨he, Lib.hid (by rw [hk]; exact below_drewN hW k)⟩))
            have C2 : Hid (∀ W, Below wr.heap.size wr W → Calls Tryd.prog 14 #[.slice (some ⟨b7, 0, none⟩) N cap7] W (fun e w' => e = .returned (.bool (decide (N < 2))) ∧ Hid (Below wr.heap.size wr w'))) := Lib.hid (fun W hW => (sorted_lit (cap := cap7) (HST7.out.kept hW (Nat.le_refl _)) HBk.out).mono (fun e w' ⟨he, k, hk⟩ => ⟨he, Lib.hid (by rw [hk]; exact below_drewN hW k)⟩))
            have D1 : Hid (∀ (W : World) (ad : Addr) (b off cap : Nat), StrsAt W.heap.size W (some ad) b off (N + N) (L ++ B) → Calls Tryd.prog 19 #[.slice (some ad) (N + N) cap, .int .i64 1000] W (fun e w' => (∃ a' c', e = .returned (.slice a' N c')) ∧ Hid (Below W.heap.size W w'))) := Lib.hid (fun W ad b off cap h => distinct_len h (fun e => by cases e) (by omega) (by decide) HTw.out)
            have F1 : Hid (∀ W, Below wr.heap.size wr W → Calls Tryd.prog 16 #[.slice (some ⟨b6, 0, none⟩) N cap6, .string s] W (fun e w' => e = .returned (.int .i64 0) ∧ W = w')) := Lib.hid (fun W hW => find_lit (cap := cap6) (HLk.out.kept hW (Nat.le_refl _)) HFi.out)
            obtain ⟨sA, hsA⟩ : ∃ x, s ++ (⟨#[65]⟩ : ByteArray) = x := ⟨_, rfl⟩
            have hcA : chkE sA = 40 := by rw [← hsA]; exact check_A
            have hszA : sA.size ≤ maxLen := sz_lit (by rw [← hsA, size_append]; show s.size + 1 ≤ 1000; omega)
            have K1 := Lib.hid (fun W => check_lit hszA hcA W)
            have hno : ¬ 9223372036854775807 < s.size + 1 := by omega
            have HBl := Lib.hid HST7.out.length
            obtain ⟨bv, hbv⟩ : ∃ bv, decide (N < 2) = bv := ⟨_, rfl⟩
            have hbi : decide ((N : Int) < 2) = bv := by rw [← hbv]; exact decide_eq_decide.2 (by omega)
            rw [hbv] at C2
            have HS7 := Lib.hid hno
            clear hcA hszA hbv HBk HTw HSort HFi HLm
            go_wp2_with (first
              | (go_at_call 14; refine (C1.out _ (Below.refl _ _)).mono ?_; clear C1; rintro e y1 ⟨rfl, hY1⟩)
              | (go_at_call 14; refine (C2.out _ hY1.out).mono ?_; clear C2; rintro e y2 ⟨rfl, hY2⟩)
              | (at_builtin; refine wpList_append_guard _ (by rfl) (.tmp 84) _ 22 rfl wr.heap.size 9 i0 (.string ByteArray.empty) 1 16 Tryd.underlying22 HI.out HZ0.out HZ1.out HZ2.out rfl (by decide) _ 0 [] rfl (World.ownsRow_made y2 #[] 0 hY2.out.size (Nat.zero_le _) rfl) ⟨b6, 0, none⟩ N cap6 (svals L) rfl (by unfold svals; rw [List.length_map, HXL.out, Nat.mul_one]) (fun j u hj => by obtain ⟨h1, rfl⟩ := svals_get hj; rw [addr_add]; exact strs_at (HLk.out.kept (hY2.out.alloc hY2.out.size _) (Nat.le_refl _)) j (by rw [← HXL.out]; exact h1)) (by intro u hu; unfold svals at hu; obtain ⟨y, _, rfl⟩ := List.mem_map.1 hu; rfl) (by unfold maxLen; omega) (by omega) (by have := hY2.out.size; simp; omega) ?_; intro v5 w5 hO5 hg5; simp only [Nat.zero_add, List.nil_append] at hO5; have hb5 : Below wr.heap.size wr w5 := (hY2.out.alloc hY2.out.size _).grown hg5 (by have := hY2.out.size; simp; omega) (fun r e => by cases e; exact hY2.out.size); rcases hO5.2 with ⟨_, h0⟩ | ⟨g5, p5, cur5, rfl, hbg5, _⟩; (omega); have HO5 := Lib.hid hO5; have HY5 := Lib.hid hb5; clear hO5 hg5 hb5)
              | (at_builtin; refine wpList_append_guard _ (by rfl) (.tmp 86) _ 22 rfl wr.heap.size 9 i0 (.string ByteArray.empty) 1 16 Tryd.underlying22 HI.out HZ0.out HZ1.out HZ2.out rfl (by decide) _ N (svals L) rfl HO5.out ⟨b7, 0, none⟩ N cap7 (svals B) rfl (by unfold svals; rw [List.length_map, HBl.out, Nat.mul_one]) (fun j u hj => by obtain ⟨h1, rfl⟩ := svals_get hj; rw [addr_add]; exact strs_at (HST7.out.kept HY5.out (Nat.le_refl _)) j (by rw [← HBl.out]; exact h1)) (by intro u hu; unfold svals at hu; obtain ⟨y, _, rfl⟩ := List.mem_map.1 hu; rfl) (by unfold maxLen; omega) (by omega) (HY5.out.size) ?_; intro v6 w6 hO6 hg6; have hb6 : Below wr.heap.size wr w6 := HY5.out.grown hg6 HY5.out.size (fun r e => by cases e; exact hbg5); rcases hO6.2 with ⟨_, h0⟩ | ⟨g6, p6, cur6, rfl, hbg6, _⟩; (omega); obtain ⟨a8, c8, b8, e8, _, _, _, hst8⟩ := Gath.strs (zs := L ++ B) (.inr (by unfold svals at hO6 ⊢; rw [List.map_append]; exact hO6)) (by rw [List.length_append, HXL.out, HBl.out]) (fun y hy => by rcases List.mem_append.1 hy with h | h; (exact HLk.out.fits y h); (exact HST7.out.fits y h)); cases e8; have HST8 := Lib.hid hst8; have HY6 := Lib.hid hb6; clear hO6 hg6 hb6 hst8)
              | (go_at_call 19; refine (D1.out _ _ _ _ _ HST8.out).mono ?_; clear D1; rintro e y9 ⟨⟨a9, c9, rfl⟩, hY9⟩; have HY9 := Lib.hid (HY6.out.trans (hY9.out.mono HY6.out.size)))
              | (go_at_call 12; refine (K1.out _).mono ?_; clear K1; rintro e w' ⟨rfl, rfl⟩)
              | (go_at_call 16; refine (F1.out _ HY9.out).mono ?_; clear F1; rintro e w' ⟨rfl, rfl⟩))
            go_ret
            exact ⟨by simp, below_on HY.out HY9.out⟩
end Go.Proofs.YtmilchkemobchaaDoor
