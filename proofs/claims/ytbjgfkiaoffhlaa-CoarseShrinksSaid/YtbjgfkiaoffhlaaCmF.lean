/- The walks of the first and third of layer 11; the document's In, Lift and Shrink. -/
import Derived.Test.YtbjgfkiaoffhlaaCmD
import Derived.Test.YtbjgfkiaoffhlaaCmA
import Derived.Test.YtbjgfkiaoffhlaaYi
set_option linter.unusedVariables false
set_option linter.unusedSectionVars false
namespace Go.Proofs.Ytbjgfkiaoffhlaa.L11
open Go.RowKit Go.Shelf Rk

theorem infoInt : (Try.prog.info? 3).map (fun i => (i.zero, i.size, i.bytes)) = some (some (.int .i64 0), 1, 8) := Gc.Try.infoInt
theorem idL_succ (j : Nat) : idL (j + 1) = idL j ++ [(j : Int)] := by simp [idL, matesL, List.range_succ]
/-- A row of levels, as it lies. -/
structure LitsAt (W : World) (a : Option Addr) (b : Nat) (xs : List (Value × Value)) : Prop where
  addr : xs.length = 0 ∨ a = some ⟨b, 0, none⟩
  lt : xs.length = 0 ∨ b < W.heap.size
  cell : ∀ (i : Nat) (x : Value × Value), xs[i]? = some x → W.cell? ⟨b, i * 2, none⟩ = some x.1 ∧ W.cell? ⟨b, i * 2 + 1, none⟩ = some x.2
theorem LitsAt.below {W W' : World} {a : Option Addr} {b : Nat} {xs : List (Value × Value)} (h : LitsAt W a b xs) (hb : Below W.heap.size W W') : LitsAt W' a b xs :=
  ⟨h.addr, h.lt.imp id (fun g => Nat.lt_of_lt_of_le g hb.size), fun i x hi => by
    have hl := (List.getElem?_eq_some_iff.1 hi).1
    have hlt : b < W.heap.size := h.lt.resolve_left (by omega)
    obtain ⟨h1, h2⟩ := h.cell i x hi
    exact ⟨by rw [World.cell?_of_block (w := W) (hb.block b hlt)]; exact h1, by rw [World.cell?_of_block (w := W) (hb.block b hlt)]; exact h2⟩⟩
theorem lits_at' {W : World} {base : Nat} {v : Value} {xs : List (Value × Value)} (h : Gath W base 59 2 v xs.length (lits xs)) : ∃ a c b, v = .slice a xs.length c ∧ LitsAt W a b xs := by
  have hl := lits_length xs
  rcases h with ⟨h1, _, ao, rfl⟩ | h
  · exact ⟨ao, 0, 0, by rw [h1], ⟨.inl h1, .inl h1, fun i x hi => by have := (List.getElem?_eq_some_iff.1 hi).1; omega⟩⟩
  · rcases h.2 with ⟨rfl, h1⟩ | ⟨g, cap, cur, rfl, hb, hg, hnc, hcm, hcs, htake⟩
    · exact ⟨none, 0, 0, by rw [h1], ⟨.inl h1, .inl h1, fun i x hi => by have := (List.getElem?_eq_some_iff.1 hi).1; omega⟩⟩
    · refine ⟨_, cap, g, rfl, ⟨.inr rfl, .inr (heap_lt hg), fun i x hi => ?_⟩⟩
      obtain ⟨e1, e2⟩ := lits_at xs i x hi
      have key : ∀ j u, (lits xs)[j]? = some u → W.cell? ⟨g, j, none⟩ = some u := by
        intro j u hu
        have := h.cells (g := g) rfl j u hu
        rwa [addr_add, Nat.zero_add] at this
      exact ⟨key _ _ e1, key _ _ e2⟩
/-- Behind the build. -/
structure BdR (w : World) (g nb lo bx : Nat) (X : XD) (zs : List Int) (F : Nat → Nat → Int) (W : World) : Prop where
  one : IsG W g nb zs F
  two : IsX W X lo zs F
  box : W.heap[bx]? = some (.cells #[.slice X.wa zs.length X.wc, .slice X.ra zs.length X.rc] 29 (0, 0))
  below : Below w.heap.size w W
theorem BdR.on {w W W' : World} {g nb lo bx : Nat} {X : XD} {zs : List Int} {F : Nat → Nat → Int} (h : BdR w g nb lo bx X zs F W) (hb : Below W.heap.size W W') : BdR w g nb lo bx X zs F W' :=
  ⟨h.one.below hb, h.two.below hb, heap_below h.box hb (heap_lt h.box), h.below.trans (hb.mono h.below.size)⟩
theorem BdR.good {w W : World} {g nb lo bx : Nat} {X : XD} {zs : List Int} {F : Nat → Nat → Int} (h : BdR w g nb lo bx X zs F W) : GdG zs F := ⟨h.one.tab, h.one.small, h.one.wts⟩
theorem BdR.d0 {w W : World} {g nb lo bx : Nat} {X : XD} {zs : List Int} {F : Nat → Nat → Int} (h : BdR w g nb lo bx X zs F W) : W.cell? ⟨bx, 0, none⟩ = some (.slice X.wa zs.length X.wc) := heap_cell h.box rfl
theorem BdR.d1 {w W : World} {g nb lo bx : Nat} {X : XD} {zs : List Int} {F : Nat → Nat → Int} (h : BdR w g nb lo bx X zs F W) : W.cell? ⟨bx, 1, none⟩ = some (.slice X.ra zs.length X.rc) := heap_cell h.box rfl
theorem shr_id {W : World} {g nb : Nat} {zs : List Int} {F : Nat → Nat → Int} (h : IsG W g nb zs F) {ad : Addr} {b off c : Nat} (hI : IntsAt .i64 W.heap.size W (some ad) b off zs.length (idL zs.length)) :
    Calls Try.prog 24 #[.pointer (some ⟨g, 0, none⟩), .slice (some ad) zs.length c] W fun e w' => ∃ g' nb' ib, e = .returned (.tuple #[.pointer (some ⟨g', 0, none⟩), .slice (some ⟨ib, 0, none⟩) zs.length zs.length, .int .i64 0]) ∧ IsG w' g' nb' zs F ∧ IntsAt .i64 w'.heap.size w' (some ⟨ib, 0, none⟩) ib 0 zs.length (idL zs.length) ∧ Below W.heap.size W w' := by
  obtain ⟨h1, h2⟩ := id_shr h.tab h.small h.wts
  refine (shrink_any (cap := c) h hI (fun e => by cases e)).mono ?_
  rintro e w' ⟨hb, ⟨h3, _⟩ | ⟨_, g', nb', ib, rfl, k1, k2, _⟩⟩
  · exact absurd h1 h3
  · rw [id_wsS, h2] at k1
    rw [id_in] at k2
    exact ⟨g', nb', ib, rfl, k1, k2, hb⟩
set_option maxRecDepth 100000 in
set_option maxHeartbeats 8000000 in
theorem walk_CoarseAlone (a0 : Option Addr) (len0 cap0 : Nat) (z0 : List Int) (a1 : Option Addr) (len1 cap1 : Nat) (z1 : List RopV) (x2 : Int) (w : World) (w0 : IsRow .i64 w a0 len0 cap0 z0) (w1 : IsRops w a1 len1 cap1 z1) (w2 : (Lit.int .i64 x2).wf = true) :
    Calls Try.prog 10 #[.slice a0 len0 cap0, .slice a1 len1 cap1, .int .i64 x2] w fun e w' => e = .returned (.bool true) ∧ Below w.heap.size w w' := by
  obtain ⟨b0, off0, zs, hi0, hn0⟩ := w0.zz
  obtain ⟨_, b1, off1, hi1⟩ := w1
  have H0 := Lib.hid hi0
  have HN := Lib.hid hn0
  have H1 := Lib.hid hi1
  obtain rfl := hi0.length
  obtain ⟨i0, hi, hz0, hz1, hz2⟩ := info_parts infoInt
  have HI := Lib.hid hi
  have HZ0 := Lib.hid hz0
  have HZ1 := Lib.hid hz1
  have HZ2 := Lib.hid hz2
  clear w0 hi0 hn0 hi1 w2 hi hz0 hz1 hz2
  go_enter Try.func10, Try.ntmps10
  go_wp2_with fail
  refine (alive_any _).mono ?_
  rintro e x1 ⟨rfl, hB1⟩
  have HB1 := Lib.hid hB1
  have HBd := Lib.hid (build_any (cap0 := cap0) (cap1 := cap1) ((H0.out.kept hB1 (Nat.le_refl _)).mono hB1.size) HN.out ((H1.out.kept hB1 (Nat.le_refl _)).mono hB1.size))
  have z1s := hB1.size
  clear hB1
  go_wp2_with fail
  refine HBd.out.mono ?_
  rintro e x3 ⟨hB, hc⟩
  have HB2 := Lib.hid (HB1.out.trans (hB.mono z1s))
  clear hB HBd
  rcases hc with ⟨_, rfl⟩ | ⟨⟨hl30, _⟩, g, nb, lo, Bx, X, rfl, hR, _, _⟩
  · have HB3 := Lib.hid (HB2.out.alloc HB2.out.size (.cells #[.slice none 0 0, .slice none 0 0] 29))
    go_wp2
    go_ret
    exact ⟨rfl, HB3.out⟩
  have hR' := hR.base HB1.out
  have hal := (Below.refl x3.heap.size x3).alloc (Nat.le_refl _) (.cells #[.slice X.wa zs.length X.wc, .slice X.ra zs.length X.rc] 29)
  have HR : Hid (BdR w g nb lo x3.heap.size X zs (joins zs.length noTab z1) (x3.alloc (.cells #[.slice X.wa zs.length X.wc, .slice X.ra zs.length X.rc] 29))) := Lib.hid ⟨hR'.one.below hal, hR'.two.below hal, heap_new (w := x3) _ rfl, hR'.below.trans (hal.mono hR'.below.size)⟩
  clear hR hR' hal HB2 HB1 z1s H0 HN H1
  unfold XD.val
  obtain ⟨F, hF⟩ : ∃ F, joins zs.length noTab z1 = F := ⟨_, rfl⟩
  rw [hF] at HR
  clear hF
  go_upto_region 4 with fail
  obtain ⟨x4, hx4⟩ : ∃ x4, (x3.alloc (.cells #[.slice X.wa zs.length X.wc, .slice X.ra zs.length X.rc] 29)) = x4 := ⟨_, rfl⟩
  obtain ⟨bx, hbx⟩ : ∃ bx, x3.heap.size = bx := ⟨_, rfl⟩
  rw [hx4, hbx] at HR
  rw [hx4, hbx]
  clear hx4 hbx x3
  have hz4 := HR.out.below.size
  obtain ⟨n, hn⟩ : ∃ n, zs.length = n := ⟨_, rfl⟩
  have HNz := Lib.hid hn
  have HG0 : Hid (GB (x4.alloc (.cells #[] 3)) x4.heap.size 3 1 (.slice (some ⟨x4.heap.size, 0, none⟩) 0 0) 0 (ivals .i64 (idL 0)) none) := Lib.hid (gb_nil _ _ _ _ _)
  have HB4 := Lib.hid ((Below.refl x4.heap.size x4).alloc (Nat.le_refl _) (.cells #[] 3))
  rw [hn] at hl30 ⊢
  clear hn
  go_wp2
  go_loopw [10, 32] (fun v i wr => ∃ (j : Nat) (bt : Option Nat) (ad : Addr) (ct : Nat), j ≤ n ∧ i = .int .i64 j ∧ v = .slice (some ad) j ct ∧ Hid (GB wr x4.heap.size 3 1 v j (ivals .i64 (idL j)) bt) ∧ Hid (Below x4.heap.size x4 wr)) (fun _ i _ => n - (intOf i).toNat)
  case atStart => exact ⟨0, none, _, _, Nat.zero_le _, rfl, rfl, HG0, HB4⟩
  case round =>
    clear HG0 HB4
    obtain ⟨j, bt, ad, ct1, hj, rfl, rfl, HG, HB⟩ := hrel
    have zr := HB.out.size
    by_cases hlt : j < n
    · have hjn : (j : Int) < (n : Int) := by omega
      go_wp2_with (at_builtin; refine wpList_append_GB _ rfl _ _ 24 rfl x4.heap.size 3 i0 (.int .i64 0) 1 8 Try.underlying24 HI.out HZ0.out HZ1.out HZ2.out rfl (by decide) _ _ _ bt rfl (HG.out.alloc _) ⟨wr.heap.size, 0, none⟩ 1 1 [.int .i64 (j : Int)] rfl rfl (cell_one _ _ _) (one_val rfl) (by decide) (by unfold maxLen; omega) (by omega) (by simp; omega) ?_; intro g5 cap5 w5 row5 hG5 hg5 hr5 hw5; have HG5 := Lib.hid hG5; have HB5 : Hid (Below x4.heap.size x4 w5) := Lib.hid ((HB.out.alloc zr _).grown hg5 (by simp; omega) (fun q e => by rcases hr5 with hr5 | hr5; (· rw [hr5] at e; cases e); (· have := HG.out.lt q (by rw [← hr5]; exact e); omega))); clear hG5 hg5 hr5 hw5 HG)
      go_roundw
      case rel => exact ⟨j + 1, some g5, ⟨g5, 0, none⟩, cap5, by omega, by go_num, rfl, Lib.hid (by rw [idL_succ, ivals_snoc]; exact HG5.out), HB5⟩
      case measure => simp [intOf]; omega
    · obtain rfl : j = n := by omega
      have hwf : ∀ x ∈ idL j, (Lit.int .i64 x).wf = true := fun x hx => by
        obtain ⟨d, hd, rfl⟩ := List.mem_map.1 hx
        exact wf_nat d (by have := List.mem_range.1 hd; omega)
      obtain ⟨at3, ct3, bt3, et, hc3, _, _, hI⟩ := Gath.ints (k := .i64) HG.out.gath (idL_length j) hwf
      cases et
      have hR3 := HR.out.on HB.out
      have C1 := Lib.hid (shr_id (c := ct1) hR3.one (ad := ad) (b := bt3) (off := 0) (by rw [HNz.out]; exact hI))
      have HI3 := Lib.hid hI
      have HR3 := Lib.hid hR3
      rw [HNz.out] at C1
      clear hwf hI HG hR3 HB HR hlt
      go_wp2_with fail
      refine C1.out.mono ?_
      rintro e x5 ⟨g', nb', ib, rfl, hG5, hI5, hb5⟩
      have HR5 := Lib.hid (HR3.out.on hb5)
      have HM5 := Lib.hid ((HI3.out.kept hb5 (Nat.le_refl _)).mono hb5.size)
      have HI5 := Lib.hid hI5
      have CE := Lib.hid (equal_any hG5 HR5.out.two)
      unfold XD.val at CE
      have d0 := HR5.out.d0
      have d1 := HR5.out.d1
      rw [HNz.out] at CE d0 d1
      clear hG5 hI5 hb5 C1 HR3 HI3
      go_wp2_with (first
        | (go_at_call 26; refine CE.out.mono ?_; clear CE; rintro e x6 ⟨rfl, hb⟩; have HR6 := Lib.hid (HR5.out.on hb); have CS := Lib.hid (sameints_any (cap := j) (cap' := ct1) ((HI5.out.kept hb (Nat.le_refl _)).mono hb.size) ((HM5.out.kept hb (Nat.le_refl _)).mono hb.size)); rw [decide_eq_true (rfl : idL j = idL j)] at CS; clear hb d0 d1)
        | (go_at_call 13; refine CS.out.mono ?_; clear CS; rintro e x7 ⟨rfl, hb⟩; have HR7 := Lib.hid (HR6.out.on hb); have CL := Lib.hid (levels_any HR7.out.one x2 1000 (by decide)); clear hb)
        | (go_at_call 29; refine CL.out.mono ?_; clear CL; rintro e x8 ⟨v, xs, rfl, hga, hlx, hlv, hb⟩; obtain ⟨ax, cx, bxs, rfl, hlt⟩ := lits_at' hga; have HR8 := Lib.hid (HR7.out.on hb); have HLt := Lib.hid hlt; have HLv := Lib.hid hlv; have HLx := Lib.hid hlx; clear hb hga hlt hlv hlx))
      have hDl : (levelsD x2 zs F).length ≤ 30 := Nat.le_trans (levelsD_le x2 zs.length zs F (Nat.le_refl _)) (by rw [HNz.out]; exact hl30)
      have HStep : Hid (∀ W k, Below x8.heap.size x8 W → k < xs.length → ∃ (gk nbk ibk pk : Nat) (dws : List Int) (dF : Nat → Nat → Int), W.cell? ⟨bxs, k * 2, none⟩ = some (.pointer (some ⟨gk, 0, none⟩)) ∧ W.cell? ⟨bxs, k * 2 + 1, none⟩ = some (.slice (some ⟨ibk, 0, none⟩) pk pk) ∧ IsG W gk nbk dws dF ∧ dws.sum = zs.sum ∧ lenAt j (levelsD x2 zs F) k = pk ∧ dws.length < pk ∧ pk ≤ 2 * dws.length ∧ lenAt j (levelsD x2 zs F) (k + 1) = dws.length ∧ pk ≤ 30) := Lib.hid (fun W k hW hk => by
        have htk : (levelsD x2 zs F).take (Int.toNat 1000) = levelsD x2 zs F := List.take_of_length_le (by show _ ≤ 1000; omega)
        have hlx := HLx.out
        have hlv := HLv.out
        rw [htk] at hlx hlv
        obtain ⟨y, hy⟩ : ∃ y, xs[k]? = some y := ⟨_, List.getElem?_eq_getElem hk⟩
        obtain ⟨d, hd⟩ : ∃ d, (levelsD x2 zs F)[k]? = some d := ⟨_, List.getElem?_eq_getElem (by omega)⟩
        obtain ⟨gk, nbk, ibk, rfl, k1, k2⟩ := hlv.at_ k y d hy hd
        obtain ⟨q1, q2, q3, q4, q5⟩ := lev_at zs.length zs F (Nat.le_refl _) HR8.out.good k d hd
        obtain ⟨c1, c2⟩ := (HLt.out.below hW).cell k _ hy
        rw [HNz.out] at q2 q3 q5
        have hL1 : lenAt j (levelsD x2 zs F) (k + 1) = d.ws.length := by show (match (levelsD x2 zs F)[k]? with | some d => d.ws.length | none => 0) = _; rw [hd]
        have hsm : ∀ i, lenAt j (levelsD x2 zs F) i ≤ j ∨ (levelsD x2 zs F)[i - 1]? = none := fun i => by
          induction i with
          | zero => exact .inl (Nat.le_refl _)
          | succ i ih =>
            cases he : (levelsD x2 zs F)[i]? with
            | none => exact .inr (by simpa using he)
            | some e =>
              left
              obtain ⟨_, r2, _⟩ := lev_at zs.length zs F (Nat.le_refl _) HR8.out.good i e he
              rw [HNz.out] at r2
              have h1 : lenAt j (levelsD x2 zs F) (i + 1) = e.ws.length := by show (match (levelsD x2 zs F)[i]? with | some d => d.ws.length | none => 0) = _; rw [he]
              rcases ih with ih | ih
              · omega
              · exfalso
                have hi := (List.getElem?_eq_some_iff.1 he).1
                rw [List.getElem?_eq_none_iff] at ih
                omega
        have hpk : lenAt j (levelsD x2 zs F) k ≤ j := by
          rcases hsm k with h | h
          · exact h
          · exfalso
            have hi := (List.getElem?_eq_some_iff.1 hd).1
            rw [List.getElem?_eq_none_iff] at h
            omega
        rw [q5] at c2
        exact ⟨gk, nbk, ibk, _, d.ws, d.F, c1, c2, k1.below hW, q4, rfl, q2, q3, hL1, by omega⟩)
      have HTot : Hid (∀ W, Below x8.heap.size x8 W → Calls Try.prog 30 #[.pointer (some ⟨g, 0, none⟩)] W fun e w' => e = .returned (.int .i64 zs.sum) ∧ W = w') := Lib.hid (fun W hW => total_any (HR8.out.on hW).one)
      have HAd : Hid (xs.length = 0 ∨ ax = some ⟨bxs, 0, none⟩) := Lib.hid HLt.out.addr
      have HB8 := Lib.hid HR8.out.below
      have hxl : xs.length ≤ 30 := by
        have := HLx.out
        rw [List.length_take] at this
        omega
      have hst : lenAt j (levelsD x2 zs F) 0 = j := rfl
      have HSt := Lib.hid hst
      clear HLt HLv HLx HR5 HM5 HI5 HR6 HR7 HR8 hDl hst
      generalize levelsD x2 zs F = D at *
      generalize xs.length = m at *
      go_loopw [15, 67] (fun v i wr => ∃ k : Nat, i = .int .i64 k ∧ k ≤ m ∧ v = .int .i64 (lenAt j D k : Nat) ∧ Hid (Below x8.heap.size x8 wr)) (fun _ i _ => m - (intOf i).toNat)
      case atStart => exact ⟨0, rfl, Nat.zero_le _, by rw [HSt.out], Lib.hid (Below.refl _ _)⟩
      case round =>
        clear HSt
        obtain ⟨k, rfl, hk, rfl, HB⟩ := hrel
        by_cases hlk : k < m
        · obtain ⟨gk, nbk, ibk, pk, dws, dF, c1, c2, hG, hsum, e1, h2, h3, e4, h5⟩ := HStep.out _ k HB.out hlk
          obtain rfl : ax = some ⟨bxs, 0, none⟩ := HAd.out.resolve_left (by omega)
          have hki : (k : Int) < (m : Int) := by omega
          have HE4 := Lib.hid e4
          have HGk := Lib.hid (fun W (hW : Below wr.heap.size wr W) => hG.below hW)
          have HSum := Lib.hid hsum
          rw [e1]
          clear hG e1 e4 hsum
          have hb9 := (Below.refl wr.heap.size wr).alloc (Nat.le_refl _) (.cells #[.pointer (some ⟨gk, 0, none⟩), .slice (some ⟨ibk, 0, none⟩) pk pk] 59)
          have HB9 : Hid (Below x8.heap.size x8 (wr.alloc (.cells #[.pointer (some ⟨gk, 0, none⟩), .slice (some ⟨ibk, 0, none⟩) pk pk] 59))) := Lib.hid (HB.out.trans (hb9.mono HB.out.size))
          have HG9 := Lib.hid (HGk.out _ hb9)
          have HN9 : Hid ((wr.alloc (.cells #[.pointer (some ⟨gk, 0, none⟩), .slice (some ⟨ibk, 0, none⟩) pk pk] 59)).heap[wr.heap.size]? = some (.cells #[.pointer (some ⟨gk, 0, none⟩), .slice (some ⟨ibk, 0, none⟩) pk pk] 59 (0, 0))) := Lib.hid (heap_new (w := wr) _ rfl)
          clear hb9 HB HGk
          go_upto_region 19 with fail
          obtain ⟨x9, hx9⟩ : ∃ x9, (wr.alloc (.cells #[.pointer (some ⟨gk, 0, none⟩), .slice (some ⟨ibk, 0, none⟩) pk pk] 59)) = x9 := ⟨_, rfl⟩
          rw [hx9] at HB9 HG9 HN9 ⊢
          clear hx9 c1 c2
          have c3 : x9.cell? ⟨wr.heap.size, 0, none⟩ = some (.pointer (some ⟨gk, 0, none⟩)) := heap_cell HN9.out rfl
          have c4 : x9.cell? ⟨wr.heap.size, 1, none⟩ = some (.slice (some ⟨ibk, 0, none⟩) pk pk) := heap_cell HN9.out rfl
          have CLn := Lib.hid (glen_any HG9.out)
          have CT1 := Lib.hid (total_any HG9.out)
          rw [HSum.out] at CT1
          have CT2 := Lib.hid (HTot.out x9 HB9.out)
          generalize dws.length = q at *
          have k1 : decide ((pk : Int) ≤ (q : Int)) = false := by simp; omega
          have k2 : IntKind.i64.wrap (2 * (q : Int)) = 2 * (q : Int) := IntWalk.i64_in _ (by omega)
          have k3 : decide (2 * (q : Int) < (pk : Int)) = false := by simp; omega
          have k4 : (zs.sum != zs.sum) = false := by simp
          have k5 : ((pk : Int) != (pk : Int)) = false := by simp
          go_wp2_with (first
            | (go_at_call 31; refine CLn.out.mono ?_; rintro e w' ⟨rfl, rfl⟩)
            | (go_at_call 30; refine CT1.out.mono ?_; clear CT1; rintro e w' ⟨rfl, rfl⟩)
            | (go_at_call 30; refine CT2.out.mono ?_; clear CT2; rintro e w' ⟨rfl, rfl⟩))
          go_roundw
          case rel => exact ⟨k + 1, by go_num, by omega, by rw [HE4.out], HB9⟩
          case measure => simp [intOf]; omega
        · obtain rfl : k = m := by omega
          go_wp2
          go_ret
          exact ⟨rfl, HB8.out.trans (HB.out.mono HB8.out.size)⟩
end Go.Proofs.Ytbjgfkiaoffhlaa.L11

namespace Go.Proofs.Ytbjgfkiaoffhlaa.L11
open Go.RowKit Go.Shelf Rk

theorem inS_wf {ms : List Int} (h : mateR ms = true) {k : Nat} (hk : k ≤ ms.length) (hs : ms.length ≤ 1000000) : ∀ x ∈ (inS ms k).1, (Lit.int .i64 x).wf = true := fun x hx => by
  obtain ⟨i, hi, rfl⟩ := List.getElem_of_mem hx
  have hl := inS_length ms k
  obtain ⟨o, h1, h2⟩ := inS_bd h k hk i (by omega)
  have hon : ∀ k, (inS ms k).2 ≤ k := fun k => by
    induction k with
    | zero => exact Nat.le_refl _
    | succ k ih =>
      by_cases h1 : ms.getD k 0 < (k : Int)
      · rw [(inS_lt ms h1).2]; omega
      · rw [(inS_ge ms h1).2]; omega
  have e : (inS ms k).1[i] = (inS ms k).1.getD i 0 := by rw [List.getD_eq_getElem?_getD, List.getElem?_eq_getElem hi]; rfl
  rw [e, h1]
  exact wf_nat o (by have := hon k; omega)
set_option maxRecDepth 100000 in
set_option maxHeartbeats 4000000 in
theorem xin_any {w : World} {a : Option Addr} {b off len cap : Nat} {ms : List Int} (hm : IntsAt .i64 w.heap.size w a b off len ms) (hr : mateR ms = true) (h4 : len ≤ 4096) :
    Calls Try.prog 47 #[.slice a len cap] w fun e w' => ∃ ad c b', e = .returned (.tuple #[.slice (some ad) len c, .int .i64 (onesN ms : Nat)]) ∧ (IntsAt .i64 w'.heap.size w' (some ad) b' 0 len (inL ms) ∧ (len = 0 ∨ w.heap.size ≤ b')) ∧ Below w.heap.size w w' := by
  obtain ⟨i0, hi, hz0, hz1, hz2⟩ := info_parts infoInt
  have HI := Lib.hid hi
  have HZ0 := Lib.hid hz0
  have HZ1 := Lib.hid hz1
  have HZ2 := Lib.hid hz2
  have b0 : Below w.heap.size w (w.alloc (.cells #[] 3)) := (Below.refl _ _).alloc (Nat.le_refl _) _
  have HB0 := Lib.hid b0
  have HM := Lib.hid hm
  have hl := hm.length
  have HMr := Lib.hid (mateR_iff.1 hr)
  rw [hl] at HMr
  have HBd := Lib.hid (fun k (hk : k ≤ len) => inS_bd hr k (by rw [hl]; exact hk))
  have HWf := Lib.hid (fun k (hk : k ≤ len) => inS_wf hr (k := k) (by rw [hl]; exact hk) (by omega))
  have HEnd : Hid (inS ms len = (inL ms, onesN ms)) := Lib.hid (by unfold inL onesN; rw [hl])
  have hon : ∀ k, (inS ms k).2 ≤ k := fun k => by
    induction k with
    | zero => exact Nat.le_refl _
    | succ k ih =>
      by_cases h1 : ms.getD k 0 < (k : Int)
      · rw [(inS_lt ms h1).2]; omega
      · rw [(inS_ge ms h1).2]; omega
  have HOn := Lib.hid hon
  clear hi hz0 hz1 hz2 hm b0 hr hl hon
  go_enter Try.func47, Try.ntmps47
  go_wp2
  go_loopw [4, 5, 6] (fun v o i wr => ∃ (j : Nat) (bt : Option Nat) (ad : Addr) (ct : Nat), j ≤ len ∧ i = .int .i64 j ∧ o = .int .i64 ((inS ms j).2 : Nat) ∧ v = .slice (some ad) j ct ∧ Hid (GB wr w.heap.size 3 1 v j (ivals .i64 (inS ms j).1) bt) ∧ Hid (Below w.heap.size w wr)) (fun _ _ i _ => len - (intOf i).toNat)
  case atStart => exact ⟨0, none, _, _, Nat.zero_le _, rfl, rfl, rfl, Lib.hid (gb_nil _ _ _ _ _), HB0⟩
  case round =>
    clear HB0
    obtain ⟨j, bt, ad, ct1, hj, rfl, rfl, rfl, HG, HB⟩ := hrel
    have zr := HB.out.size
    by_cases hlt : j < len
    · have c0 := (HM.out.kept HB.out (Nat.le_refl _)).cell j hlt
      obtain rfl : a = some ⟨b, off, none⟩ := HM.out.addr.resolve_left (by omega)
      have hji : (j : Int) < (len : Int) := by omega
      obtain ⟨hm0, hm1, _⟩ := HMr.out j hlt
      obtain ⟨c, hc⟩ : ∃ c : Nat, ms.getD j 0 = (c : Int) := ⟨_, (Int.toNat_of_nonneg hm0).symm⟩
      by_cases hlo : c < j
      · have hclo : (c : Int) < (j : Int) := by omega
        obtain ⟨o, ho, _⟩ := HBd.out j (by omega) c hlo
        have hst : inS ms (j + 1) = ((inS ms j).1 ++ [(o : Int)], (inS ms j).2) := by
          show stepC ms (inS ms j) j = _
          unfold stepC
          rw [if_pos (by rw [hc]; exact hclo), hc, Int.toNat_natCast, ho]
        obtain ⟨at3, ct3, bt3, et, hc3, _, _, hI⟩ := Gath.ints (k := .i64) HG.out.gath (inS_length ms j) (HWf.out j (by omega))
        cases et
        obtain rfl : ad = ⟨bt3, 0, none⟩ := by have := hI.addr.resolve_left (by omega); simpa using this
        have c1 := hI.cell c hlo
        rw [ho, Nat.zero_add] at c1
        have HS := Lib.hid hst
        rw [hc] at c0
        clear hm0 hm1 hc hst ho hI
        generalize (inS ms j).2 = on at *
        go_wp2_with (at_builtin; refine wpList_append_GB _ rfl _ _ 24 rfl w.heap.size 3 i0 (.int .i64 0) 1 8 Try.underlying24 HI.out HZ0.out HZ1.out HZ2.out rfl (by decide) _ _ _ bt rfl (HG.out.alloc _) ⟨wr.heap.size, 0, none⟩ 1 1 [.int .i64 (o : Int)] rfl rfl (cell_one _ _ _) (one_val rfl) (by decide) (by unfold maxLen; omega) (by omega) (by simp; omega) ?_; intro g5 cap5 w5 row5 hG5 hg5 hr5 hw5; have HG5 := Lib.hid hG5; have HB5 : Hid (Below w.heap.size w w5) := Lib.hid ((HB.out.alloc zr _).grown hg5 (by simp; omega) (fun q e => by rcases hr5 with hr5 | hr5; (· rw [hr5] at e; cases e); (· have := HG.out.lt q (by rw [← hr5]; exact e); omega))); clear hG5 hg5 hr5 hw5 HG)
        go_roundw
        case rel => exact ⟨j + 1, some g5, ⟨g5, 0, none⟩, cap5, by omega, by go_num, by rw [HS.out], rfl, Lib.hid (by rw [HS.out, ivals_snoc]; exact HG5.out), HB5⟩
        case measure => simp [intOf]; omega
      · have hclo : decide ((c : Int) < (j : Int)) = false := by simp; omega
        have hst : inS ms (j + 1) = ((inS ms j).1 ++ [((inS ms j).2 : Int)], (inS ms j).2 + 1) := by
          show stepC ms (inS ms j) j = _
          unfold stepC
          rw [if_neg (by rw [hc]; omega)]
        have hon := HOn.out j
        have HS := Lib.hid hst
        rw [hc] at c0
        clear hm0 hm1 hc hst
        generalize (inS ms j).2 = on at *
        go_wp2_with (at_builtin; refine wpList_append_GB _ rfl _ _ 24 rfl w.heap.size 3 i0 (.int .i64 0) 1 8 Try.underlying24 HI.out HZ0.out HZ1.out HZ2.out rfl (by decide) _ _ _ bt rfl (HG.out.alloc _) ⟨wr.heap.size, 0, none⟩ 1 1 [.int .i64 (on : Int)] rfl rfl (cell_one _ _ _) (one_val rfl) (by decide) (by unfold maxLen; omega) (by omega) (by simp; omega) ?_; intro g5 cap5 w5 row5 hG5 hg5 hr5 hw5; have HG5 := Lib.hid hG5; have HB5 : Hid (Below w.heap.size w w5) := Lib.hid ((HB.out.alloc zr _).grown hg5 (by simp; omega) (fun q e => by rcases hr5 with hr5 | hr5; (· rw [hr5] at e; cases e); (· have := HG.out.lt q (by rw [← hr5]; exact e); omega))); clear hG5 hg5 hr5 hw5 HG)
        go_roundw
        case rel => exact ⟨j + 1, some g5, ⟨g5, 0, none⟩, cap5, by omega, by go_num, by rw [HS.out]; go_num, rfl, Lib.hid (by rw [HS.out, ivals_snoc]; exact HG5.out), HB5⟩
        case measure => simp [intOf]; omega
    · obtain rfl : j = len := by omega
      obtain ⟨at3, ct3, bt3, et, hc3, _, hge, hI⟩ := Gath.ints (k := .i64) HG.out.gath (inS_length ms j) (HWf.out j (Nat.le_refl _))
      cases et
      have HGe := Lib.hid hge
      rw [HEnd.out] at hI ⊢
      have HI3 := Lib.hid hI
      clear hI HG
      go_wp2
      go_ret2
      exact ⟨_, ⟨_, rfl⟩, ⟨_, HI3.out, HGe.out⟩, HB.out⟩
/-- What the document's lifting leaves. -/
def XLiftPost (ps is : List Int) (w : World) (e : Ending) (w' : World) : Prop :=
  Below w.heap.size w w' ∧ ((liftR ps is = false ∧ e = .returned (.tuple #[.slice none 0 0, .bool false])) ∨
    (liftR ps is = true ∧ ∃ ad c b', e = .returned (.tuple #[.slice (some ad) is.length c, .bool true]) ∧ IntsAt .i64 w'.heap.size w' (some ad) b' 0 is.length (liftL ps is)))
def liftK (ps is : List Int) (j : Nat) : List Int := matesL j (liftF ps is)
theorem liftK_succ (ps is : List Int) (j : Nat) : liftK ps is (j + 1) = liftK ps is j ++ [liftF ps is j] := by simp [liftK, matesL, List.range_succ]
set_option maxRecDepth 100000 in
set_option maxHeartbeats 4000000 in
theorem xlift_any {w : World} {a1 a2 : Option Addr} {b1 off1 len1 cap1 b2 off2 len2 cap2 : Nat} {ps is : List Int} (hp : IntsAt .i64 w.heap.size w a1 b1 off1 len1 ps) (hi : IntsAt .i64 w.heap.size w a2 b2 off2 len2 is) (h4 : len2 ≤ 4096) :
    Calls Try.prog 28 #[.slice a1 len1 cap1, .slice a2 len2 cap2] w (XLiftPost ps is w) := by
  obtain ⟨i0, hi', hz0, hz1, hz2⟩ := info_parts infoInt
  have HIi := Lib.hid hi'
  have HZ0 := Lib.hid hz0
  have HZ1 := Lib.hid hz1
  have HZ2 := Lib.hid hz2
  have hlp := hp.length
  have hli := hi.length
  have hsp := hp.small
  unfold maxLen at hsp
  have b0 : Below w.heap.size w (w.alloc (.cells #[] 3)) := (Below.refl _ _).alloc (Nat.le_refl _) _
  have HB0 := Lib.hid b0
  have HP := Lib.hid hp
  have HI := Lib.hid hi
  have HLP := Lib.hid hlp
  have HLI := Lib.hid hli
  have HNo : Hid (∀ j, j < len2 → ¬ (0 ≤ is.getD j 0 ∧ is.getD j 0 < (len1 : Int)) → liftR ps is = false) := Lib.hid (fun j hj h => liftR_no (by rw [hli]; exact hj) (by rw [hlp]; exact h))
  have HYes : Hid ((∀ j, j < len2 → 0 ≤ is.getD j 0 ∧ is.getD j 0 < (len1 : Int)) → liftR ps is = true) := Lib.hid (fun h => liftR_iff.2 (by rw [hli, hlp]; exact h))
  clear hp hi hlp hli b0 hi' hz0 hz1 hz2
  go_enter Try.func28, Try.ntmps28
  go_wp2
  go_loopw [6, 7] (fun v i wr => ∃ (j : Nat) (bt : Option Nat) (ad : Addr) (ct : Nat), j ≤ len2 ∧ i = .int .i64 j ∧ v = .slice (some ad) j ct ∧ Hid (GB wr w.heap.size 3 1 v j (ivals .i64 (liftK ps is j)) bt) ∧ Hid (∀ i, i < j → 0 ≤ is.getD i 0 ∧ is.getD i 0 < (len1 : Int)) ∧ Hid (Below w.heap.size w wr)) (fun _ i _ => len2 - (intOf i).toNat)
  case atStart => exact ⟨0, none, _, _, Nat.zero_le _, rfl, rfl, Lib.hid (gb_nil _ _ _ _ _), Lib.hid (fun i hi => absurd hi (Nat.not_lt_zero _)), HB0⟩
  case round =>
    clear HB0
    obtain ⟨j, bt, ad, ct1, hj, rfl, rfl, HG, HJ, HB⟩ := hrel
    have zr := HB.out.size
    by_cases hlt : j < len2
    · have c0 := (HI.out.kept HB.out (Nat.le_refl _)).cell j hlt
      obtain rfl : a2 = some ⟨b2, off2, none⟩ := HI.out.addr.resolve_left (by omega)
      have hji : (j : Int) < (len2 : Int) := by omega
      by_cases h1 : is.getD j 0 < 0
      · have d1 : decide (is.getD j 0 < 0) = true := by simpa using h1
        have hr := Lib.hid (HNo.out j hlt (by omega))
        clear h1 HG
        generalize is.getD j 0 = y at *
        go_wp2
        go_ret2
        exact ⟨HB.out, .inl ⟨hr.out, rfl⟩⟩
      · have d1 : decide (is.getD j 0 < 0) = false := by simpa using h1
        by_cases h2 : (len1 : Int) ≤ is.getD j 0
        · have d2 : decide ((len1 : Int) ≤ is.getD j 0) = true := by simpa using h2
          have hr := Lib.hid (HNo.out j hlt (by omega))
          clear h1 h2 HG
          generalize is.getD j 0 = y at *
          go_wp2
          go_ret2
          exact ⟨HB.out, .inl ⟨hr.out, rfl⟩⟩
        · have d2 : decide ((len1 : Int) ≤ is.getD j 0) = false := by simpa using h2
          have HJ2 : Hid (∀ i, i < j + 1 → 0 ≤ is.getD i 0 ∧ is.getD i 0 < (len1 : Int)) := Lib.hid (fun i hi => by
            by_cases e : i = j
            · subst e; omega
            · exact HJ.out i (by omega))
          obtain ⟨c, hc⟩ : ∃ c : Nat, is.getD j 0 = (c : Int) := ⟨_, (Int.toNat_of_nonneg (by omega)).symm⟩
          have hcl : c < len1 := by omega
          have hci : (c : Int) < (len1 : Int) := by omega
          have c1 := (HP.out.kept HB.out (Nat.le_refl _)).cell c hcl
          obtain rfl : a1 = some ⟨b1, off1, none⟩ := HP.out.addr.resolve_left (by omega)
          have HS : Hid (liftK ps is (j + 1) = liftK ps is j ++ [ps.getD c 0]) := Lib.hid (by rw [liftK_succ, show liftF ps is j = ps.getD c 0 by unfold liftF; rw [hc, Int.toNat_natCast]])
          rw [hc] at c0 d1 d2
          clear h1 h2 hc HJ
          generalize ps.getD c 0 = y at *
          go_wp2_with (at_builtin; refine wpList_append_GB _ rfl _ _ 24 rfl w.heap.size 3 i0 (.int .i64 0) 1 8 Try.underlying24 HIi.out HZ0.out HZ1.out HZ2.out rfl (by decide) _ _ _ bt rfl (HG.out.alloc _) ⟨wr.heap.size, 0, none⟩ 1 1 [.int .i64 y] rfl rfl (cell_one _ _ _) (one_val rfl) (by decide) (by unfold maxLen; omega) (by omega) (by simp; omega) ?_; intro g5 cap5 w5 row5 hG5 hg5 hr5 hw5; have HG5 := Lib.hid hG5; have HB5 : Hid (Below w.heap.size w w5) := Lib.hid ((HB.out.alloc zr _).grown hg5 (by simp; omega) (fun q e => by rcases hr5 with hr5 | hr5; (· rw [hr5] at e; cases e); (· have := HG.out.lt q (by rw [← hr5]; exact e); omega))); clear hG5 hg5 hr5 hw5 HG)
          go_roundw
          case rel => exact ⟨j + 1, some g5, ⟨g5, 0, none⟩, cap5, by omega, by go_num, rfl, Lib.hid (by rw [HS.out, ivals_snoc]; exact HG5.out), HJ2, HB5⟩
          case measure => simp [intOf]; omega
    · obtain rfl : j = len2 := by omega
      have hwf : ∀ x ∈ liftK ps is j, (Lit.int .i64 x).wf = true := fun x hx => by
        obtain ⟨i, hi, rfl⟩ := List.mem_map.1 hx
        have hi := List.mem_range.1 hi
        have h1 := HJ.out i hi
        have h2 : (is.getD i 0).toNat < ps.length := by rw [HLP.out]; omega
        unfold liftF
        rw [List.getD_eq_getElem?_getD, List.getElem?_eq_getElem h2]
        exact HP.out.fits _ (List.getElem_mem h2)
      obtain ⟨at3, ct3, bt3, et, hc3, _, _, hI⟩ := Gath.ints (k := .i64) HG.out.gath (matesL_length _ _) hwf
      cases et
      have HI3 : Hid (IntsAt .i64 wr.heap.size wr (some ad) bt3 0 is.length (liftL ps is)) := Lib.hid (by unfold liftL; rw [HLI.out]; exact hI)
      clear hI HG hwf
      go_wp2
      go_ret2
      refine ⟨HB.out, .inr ⟨HYes.out HJ.out, _, _, _, by rw [HLI.out]; rfl, HI3.out⟩⟩
end Go.Proofs.Ytbjgfkiaoffhlaa.L11

namespace Go.Proofs.Ytbjgfkiaoffhlaa.L11
open Go.RowKit Go.Shelf Rk

/-- What the document's Shrink leaves. -/
def XShrinkPost (ws : List Int) (F : Nat → Nat → Int) (ms : List Int) (w : World) (e : Ending) (w' : World) : Prop :=
  Below w.heap.size w w' ∧ ((shrE ws F ms ≠ 0 ∧ e = .returned (.tuple #[.agg #[.slice none 0 0, .slice none 0 0], .slice none 0 0, .int .i64 (shrE ws F ms)])) ∨
    (shrE ws F ms = 0 ∧ ∃ (X' : XD) (lo' : Nat) (ad : Addr) (c b' : Nat), e = .returned (.tuple #[X'.val (onesN ms), .slice (some ad) ws.length c, .int .i64 0]) ∧ IsX w' X' lo' (wsS ws ms) (shrF ws F ms) ∧ IntsAt .i64 w'.heap.size w' (some ad) b' 0 ws.length (inL ms) ∧ w.heap.size ≤ lo'))
/-- The call's own cells. -/
structure XsR (w : World) (wa ra : Option Addr) (n wc rc : Nat) (W : World) : Prop where
  b2 : W.heap[w.heap.size]? = some (.cells #[.slice wa n wc, .slice ra n rc] 29 (0, 0))
  b4 : W.heap[w.heap.size + 1]? = some (.cells #[.slice none 0 0, .slice none 0 0] 29 (0, 0))
  below : Below w.heap.size w W
theorem XsR.on {w : World} {wa ra : Option Addr} {n wc rc : Nat} {W W' : World} (h : XsR w wa ra n wc rc W) (hb : Below W.heap.size W W') : XsR w wa ra n wc rc W' :=
  ⟨heap_below h.b2 hb (heap_lt h.b2), heap_below h.b4 hb (heap_lt h.b4), h.below.trans (hb.mono h.below.size)⟩
theorem XsR.start (w : World) (wa ra : Option Addr) (n wc rc : Nat) : XsR w wa ra n wc rc ((w.alloc (.cells #[.slice wa n wc, .slice ra n rc] 29)).alloc (.cells #[.slice none 0 0, .slice none 0 0] 29)) :=
  ⟨heap_alloc (heap_new _ rfl) _, heap_new _ (by simp), ((Below.refl _ w).alloc (Nat.le_refl _) _).alloc (by simp) _⟩
/-- The answer's cells are written. -/
theorem XsR.give {w : World} {wa ra : Option Addr} {n wc rc : Nat} {W : World} (h : XsR w wa ra n wc rc W) (x y : Value) :
    ((W.setCell ⟨w.heap.size + 1, 0, none⟩ x).setCell ⟨w.heap.size + 1, 1, none⟩ y).heap[w.heap.size + 1]? = some (.cells #[x, y] 29 (0, 0)) ∧ Below w.heap.size w ((W.setCell ⟨w.heap.size + 1, 0, none⟩ x).setCell ⟨w.heap.size + 1, 1, none⟩ y) := by
  refine ⟨?_, (h.below.setCell (p := ⟨w.heap.size + 1, 0, none⟩) (by show w.heap.size ≤ w.heap.size + 1; omega) _).setCell (p := ⟨w.heap.size + 1, 1, none⟩) (by show w.heap.size ≤ w.heap.size + 1; omega) _⟩
  have := heap_set (heap_set h.b4 0 x) 1 y
  simpa using this
set_option maxRecDepth 100000 in
set_option maxHeartbeats 4000000 in
theorem xshrink_wrong {w : World} {X : XD} {lo : Nat} {ws : List Int} {F : Nat → Nat → Int} (h : IsX w X lo ws F) {a : Option Addr} {b off len cap : Nat} {ms : List Int} (hm : IntsAt .i64 w.heap.size w a b off len ms) (hE : ms.length ≠ ws.length ∨ mateR ms = false) :
    Calls Try.prog 25 #[X.val ws.length, .slice a len cap] w (XShrinkPost ws F ms w) := by
  have hv : shrE ws F ms = 1 := if_pos hE
  have HPst : Hid (∀ W, Below w.heap.size w W → XShrinkPost ws F ms w (.returned (.tuple #[.agg #[.slice none 0 0, .slice none 0 0], .slice none 0 0, .int .i64 1])) W) := Lib.hid (fun W hW => ⟨hW, .inl ⟨by rw [hv]; decide, by rw [hv]⟩⟩)
  have HS0 := Lib.hid (XsR.start w X.wa X.ra ws.length X.wc X.rc)
  have HRt := Lib.hid (fun W (hW : Below w.heap.size w W) => xmright_any (cap := cap) (hm.kept hW (Nat.le_refl _)))
  have hl := hm.length
  unfold XD.val
  clear h hm hv
  go_enter Try.func25, Try.ntmps25
  go_upto_region 1 with fail
  obtain ⟨w1, hw1⟩ : ∃ w1, ((w.alloc (.cells #[.slice X.wa ws.length X.wc, .slice X.ra ws.length X.rc] 29)).alloc (.cells #[.slice none 0 0, .slice none 0 0] 29)) = w1 := ⟨_, rfl⟩
  rw [hw1] at HS0 ⊢
  have HRt1 := Lib.hid (HRt.out _ HS0.out.below)
  clear hw1 HRt
  have d0 : w1.cell? ⟨w.heap.size, 0, none⟩ = some (.slice X.wa ws.length X.wc) := heap_cell HS0.out.b2 rfl
  have c4 : w1.cell? ⟨w.heap.size + 1, 0, none⟩ = some (.slice none 0 0) := heap_cell HS0.out.b4 rfl
  have c5 : w1.cell? ⟨w.heap.size + 1, 1, none⟩ = some (.slice none 0 0) := heap_cell HS0.out.b4 rfl
  have f4 := heap_frozen HS0.out.b4 0
  have f5 := heap_frozen HS0.out.b4 1
  have HG := Lib.hid (HS0.out.give (.slice none 0 0) (.slice none 0 0))
  by_cases hne : len = ws.length
  · have hr : mateR ms = false := hE.resolve_left (fun e => e (by omega))
    rw [hr] at HRt1
    subst hne
    clear hE hr hl
    generalize ws.length = n at *
    have hd : ((n : Int) != (n : Int)) = false := by simp
    go_wp2_with (first
      | (go_at_call 17; refine HRt1.out.mono ?_; rintro e w' ⟨rfl, rfl⟩))
    obtain ⟨q, hb⟩ := HG.out
    have q0 := heap_cell q (i := 0) rfl
    have q1 := heap_cell q (i := 1) rfl
    refine bodyPost_ret (v := .tuple #[.agg #[.slice none 0 0, .slice none 0 0], .slice none 0 0, .int .i64 1]) (by simp [results, Try.f25, go_sem, q0, q1]) rfl (HPst.out _ hb)
  · have hd2 : ((len : Int) != (ws.length : Int)) = true := by simp; omega
    clear hE hl hne
    generalize ws.length = n at *
    go_wp2
    obtain ⟨q, hb⟩ := HG.out
    have q0 := heap_cell q (i := 0) rfl
    have q1 := heap_cell q (i := 1) rfl
    refine bodyPost_ret (v := .tuple #[.agg #[.slice none 0 0, .slice none 0 0], .slice none 0 0, .int .i64 1]) (by simp [results, Try.f25, go_sem, q0, q1]) rfl (HPst.out _ hb)
/-- What came up to place b of row a. -/
def preE (n : Nat) (F : Nat → Nat → Int) (a b : Nat) : List Edg := upTo n F a ++ (rowOf b (above ((a : Int) + 1) (F a))).map (tag a)
theorem preE_start (n : Nat) (F : Nat → Nat → Int) (a : Nat) : ∀ b, b ≤ a + 1 → preE n F a b = upTo n F a := fun b hb => by
  have : rowOf b (above ((a : Int) + 1) (F a)) = [] := by
    induction b with
    | zero => rfl
    | succ b ih =>
      rw [rowOf_succ, ih (by omega), if_neg]
      · rfl
      · unfold above; rw [if_pos (by omega)]; omega
  unfold preE
  rw [this]; simp
theorem preE_row (n : Nat) (F : Nat → Nat → Int) (a : Nat) : preE n F a n = upTo n F (a + 1) := rfl
theorem preE_yes {n : Nat} {F : Nat → Nat → Int} {a b : Nat} (h : a < b) (hp : 0 < F a b) : preE n F a (b + 1) = preE n F a b ++ [((a : Int), (b : Int), F a b)] := by
  unfold preE
  have : above ((a : Int) + 1) (F a) b = F a b := by unfold above; rw [if_neg (by omega)]
  rw [rowOf_succ, this, if_pos hp, List.map_append, List.append_assoc]
  rfl
theorem preE_no {n : Nat} {F : Nat → Nat → Int} {a b : Nat} (h : a < b) (hp : ¬ 0 < F a b) : preE n F a (b + 1) = preE n F a b := by
  unfold preE
  have : above ((a : Int) + 1) (F a) b = F a b := by unfold above; rw [if_neg (by omega)]
  rw [rowOf_succ, this, if_neg hp, List.append_nil]
theorem preE_prefix {n : Nat} {F : Nat → Nat → Int} {a b : Nat} (ha : a < n) (hb : b ≤ n) : preE n F a b <+: edgesD n F := by
  have h1 : preE n F a b <+: upTo n F (a + 1) := by
    unfold preE
    show _ <+: upTo n F a ++ (rowOf n (above ((a : Int) + 1) (F a))).map (tag a)
    obtain ⟨j, rfl⟩ : ∃ j, n = b + j := ⟨n - b, by omega⟩
    have h2 : rowOf b (above ((a : Int) + 1) (F a)) <+: rowOf (b + j) (above ((a : Int) + 1) (F a)) := by
      clear hb ha
      induction j with
      | zero => exact List.prefix_refl _
      | succ j ih => exact ih.trans (by rw [show b + (j + 1) = b + j + 1 by omega, rowOf_succ]; exact List.prefix_append _ _)
    obtain ⟨t, ht⟩ := h2
    exact ⟨t.map (tag a), by rw [← ht, List.map_append, List.append_assoc]⟩
  obtain ⟨j, rfl⟩ : ∃ j, n = (a + 1) + j := ⟨n - (a + 1), by omega⟩
  exact h1.trans (upTo_pre _ F (a + 1) j)
/-- While the document's graph of pairs is joined. -/
structure XsJ (w : World) (wa ra : Option Addr) (n wc rc : Nat) (x3 : World) (b11 : Nat) (X' : XD) (m : Nat) (W : World) : Prop where
  own : XsR w wa ra n wc rc W
  below : Below x3.heap.size x3 W
  box : W.heap[b11]? = some (.cells #[.slice X'.wa m X'.wc, .slice X'.ra m X'.rc] 29 (0, 0))
theorem XsJ.on {w : World} {wa ra : Option Addr} {n wc rc : Nat} {x3 : World} {b11 : Nat} {X' : XD} {m : Nat} {W W' : World} (h : XsJ w wa ra n wc rc x3 b11 X' m W) (hb : Below W.heap.size W W') : XsJ w wa ra n wc rc x3 b11 X' m W' :=
  ⟨h.own.on hb, h.below.trans (hb.mono h.below.size), heap_below h.box hb (heap_lt h.box)⟩
theorem XsJ.rows {w : World} {wa ra : Option Addr} {n wc rc : Nat} {x3 : World} {b11 : Nat} {X' : XD} {zs : List Int} {Fp : Nat → Nat → Int} {lo : Nat} {W W' : World} {m : Nat} (hm : zs.length = m) (h : XsJ w wa ra n wc rc x3 b11 X' m W) (hX : IsX W X' lo zs Fp) (ht : Turned (RowsR X' m) W W') (hlo : x3.heap.size ≤ lo) (hw : w.heap.size ≤ x3.heap.size) : XsJ w wa ra n wc rc x3 b11 X' m W' := by
  subst hm
  have hne : ∀ (b : Nat) (cs : Array Value), W.heap[b]? = some (.cells cs 29 (0, 0)) → ¬ RowsR X' zs.length b := fun b cs hb => by
    rintro ⟨a, ha, rfl⟩
    have := (hX.row a ha).2.2
    rw [hb] at this
    injection this with this
    injection this with _ this
    exact absurd this (by decide)
  have hlow : ∀ i, i < x3.heap.size → RowsR X' zs.length i → False := fun i hi => by
    rintro ⟨a, ha, rfl⟩
    have := (hX.row a ha).1
    omega
  exact ⟨⟨ht.old h.own.b2 (hne _ _ h.own.b2), ht.old h.own.b4 (hne _ _ h.own.b4), below_turned h.own.below ht (fun i hi e => hlow i (by omega) e) h.own.below.size⟩, below_turned h.below ht hlow h.below.size, ht.old h.box (hne _ _ h.box)⟩
set_option maxRecDepth 100000 in
set_option maxHeartbeats 8000000 in
theorem xshrink_right {w : World} {X : XD} {lo : Nat} {ws : List Int} {F : Nat → Nat → Int} (h : IsX w X lo ws F) (hw : ∀ x ∈ ws, 1 ≤ x ∧ x ≤ 1099511627776) {a : Option Addr} {b off len cap : Nat} {ms : List Int} (hm : IntsAt .i64 w.heap.size w a b off len ms) (hl : ms.length = ws.length) (hr : mateR ms = true) :
    Calls Try.prog 25 #[X.val ws.length, .slice a len cap] w (XShrinkPost ws F ms w) := by
  have hlen : len = ws.length := by rw [← hm.length, hl]
  subst hlen
  have hsm := h.small
  obtain ⟨m, hmm⟩ : ∃ m, onesN ms = m := ⟨_, rfl⟩
  have hmle : m ≤ 4096 := by have := ones_le (ms := ms); omega
  have HP1 : Hid (∀ W v, Below w.heap.size w W → v ≠ 0 → shrE ws F ms = v → XShrinkPost ws F ms w (.returned (.tuple #[.agg #[.slice none 0 0, .slice none 0 0], .slice none 0 0, .int .i64 v])) W) := Lib.hid (fun W v hW hv he => ⟨hW, .inl ⟨by rw [he]; exact hv, by rw [he]⟩⟩)
  have HP2 : Hid (∀ W, shrE ws F ms = 0 → Below w.heap.size w W → ∀ (X' : XD) lo' ad c b', IsX W X' lo' (wsS ws ms) (shrF ws F ms) → IntsAt .i64 W.heap.size W (some ad) b' 0 ws.length (inL ms) → w.heap.size ≤ lo' → XShrinkPost ws F ms w (.returned (.tuple #[.agg #[.slice X'.wa m X'.wc, .slice X'.ra m X'.rc], .slice (some ad) ws.length c, .int .i64 0])) W) := Lib.hid (fun W he hW X' lo' ad c b' k1 k2 k3 => ⟨hW, .inr ⟨he, X', lo', ad, c, b', by rw [hmm]; rfl, k1, k2, k3⟩⟩)
  have HV1 : Hid (newE (wsS ws ms) ≠ 0 → shrE ws F ms = newE (wsS ws ms)) := Lib.hid (fun e => by
    unfold shrE
    rw [if_neg (by rw [hr]; simp [hl]), if_pos (.inl e)]
    rcases newE_cases (zs := wsS ws ms) (by rw [wsS_length, hmm]; omega) with h | h
    · exact absurd h e
    · exact h.symm)
  have HV2 : Hid (newE (wsS ws ms) = 0 → shrO ws F ms = none → shrE ws F ms = 23) := Lib.hid (fun e1 e2 => by
    unfold shrE
    rw [if_neg (by rw [hr]; simp [hl]), if_pos (.inr e2)])
  have HV3 : Hid (newE (wsS ws ms) = 0 → ∀ F', shrO ws F ms = some F' → shrE ws F ms = 0 ∧ shrF ws F ms = F') := Lib.hid (fun e1 F' e2 => by
    unfold shrE shrF
    rw [if_neg (by rw [hr]; simp [hl]), if_neg (by rw [e2]; simp [e1]), e2]
    exact ⟨rfl, rfl⟩)
  have HO : Hid (shrO ws F ms = shJ m (inL ms) (upTo ws.length F ws.length) noTab) := Lib.hid (by unfold shrO; rw [hmm]; rfl)
  have HPre : Hid (∀ a b, a < ws.length → b ≤ ws.length → shJ m (inL ms) (preE ws.length F a b) noTab = none → shrO ws F ms = none) := Lib.hid (fun a b ha hb hn => by
    have := shJ_none m (inL ms) (preE_prefix (F := F) ha hb) hn
    unfold shrO
    rw [hmm]
    exact this)
  have HZl : Hid ((wsS ws ms).length = m) := Lib.hid (by rw [wsS_length, hmm])
  have hil := inL_length ms
  rw [hl] at hil
  have HIB : Hid (∀ i, i < ws.length → ∃ o : Nat, (inL ms).getD i 0 = (o : Int) ∧ o < m) := Lib.hid (fun i hi => by rw [← hmm]; exact in_bd hr (by omega))
  have HS0 := Lib.hid (XsR.start w X.wa X.ra ws.length X.wc X.rc)
  have HX := Lib.hid (fun W (hW : Below w.heap.size w W) => h.below hW)
  have HRt : Hid (∀ W, Below w.heap.size w W → Calls Try.prog 17 #[.slice a ws.length cap] W fun e w' => e = .returned (.bool true) ∧ W = w') := Lib.hid (fun W hW => by have := xmright_any (cap := cap) (hm.kept hW (Nat.le_refl _)); rw [hr] at this; exact this)
  have HIn := Lib.hid (fun W (hW : Below w.heap.size w W) => xin_any (cap := cap) ((hm.kept hW (Nat.le_refl _)).mono hW.size) hr hsm)
  rw [hmm] at HIn
  have HWS : Hid (wsS ws ms = matesL m (wtsT ws (inL ms) ws.length)) := Lib.hid (by unfold wsS; rw [hmm])
  have HBd := Lib.hid (fun j hj => wtsT_bd (inL ms) hw j hj)
  have HWg := Lib.hid (fun k (hk : k < ws.length) => getD_wts hw hk)
  clear h hm hl hr hmm hw
  obtain ⟨is, hls⟩ : ∃ is, inL ms = is := ⟨_, rfl⟩
  rw [hls] at hil HO HPre HIB HP2 HWS HBd HIn
  have HIl := Lib.hid hil
  clear hls hil
  generalize wsS ws ms = zs at *
  generalize shrE ws F ms = sE at *
  generalize shrF ws F ms = sF at *
  generalize shrO ws F ms = sO at *
  generalize XShrinkPost ws F ms w = Post at *
  unfold XD.val
  obtain ⟨n, hn⟩ : ∃ n, ws.length = n := ⟨_, rfl⟩
  have HNz := Lib.hid hn
  rw [hn] at hsm HO HPre HIB HP2 HWS HBd HIn HRt HS0 HWg ⊢
  have HIl2 : Hid (is.length = n) := Lib.hid (by rw [← hn]; exact HIl.out)
  clear hn HIl
  go_enter Try.func25, Try.ntmps25
  go_upto_region 1 with fail
  obtain ⟨w1, hw1⟩ : ∃ w1, ((w.alloc (.cells #[.slice X.wa n X.wc, .slice X.ra n X.rc] 29)).alloc (.cells #[.slice none 0 0, .slice none 0 0] 29)) = w1 := ⟨_, rfl⟩
  have hz1 : w.heap.size + 1 + 1 ≤ w1.heap.size := by rw [← hw1]; simp
  rw [hw1] at HS0 ⊢
  have HRt1 := Lib.hid (HRt.out _ HS0.out.below)
  have HIn1 := Lib.hid (HIn.out _ HS0.out.below)
  clear hw1 HRt HIn
  have d0 : w1.cell? ⟨w.heap.size, 0, none⟩ = some (.slice X.wa n X.wc) := heap_cell HS0.out.b2 rfl
  have hd : ((n : Int) != (n : Int)) = false := by simp
  go_upto_region 4 with (first
    | (go_at_call 17; refine HRt1.out.mono ?_; clear HRt1; rintro e w' ⟨rfl, rfl⟩)
    | (go_at_call 47; refine HIn1.out.mono ?_; clear HIn1; rintro e w2 ⟨ad, ca, ba, rfl, ⟨hI2, hge2⟩, hb2⟩; have HI2 := Lib.hid hI2; have HGe := Lib.hid hge2; have HZ1 := Lib.hid hz1; clear hge2; have HS2 := Lib.hid (HS0.out.on hb2); clear hI2 hb2))
  clear HS0 d0 hd
  have hmk := madeRow w2 m hmle
  have HW0 : Hid (WtR w2 w2.heap.size m (wtsT ws is 0) (w2.alloc (.cells (rowC m (noTab 0)) 2))) := Lib.hid ⟨World.alloc_heap_new w2 _, Nat.le_refl _, (Below.refl _ w2).alloc (Nat.le_refl _) _⟩
  go_wp2
  go_loopw [10] (fun i wr => ∃ j : Nat, i = .int .i64 j ∧ j ≤ n ∧ Hid (WtR w2 w2.heap.size m (wtsT ws is j) wr)) (fun i _ => n - (intOf i).toNat)
  case atStart => exact ⟨0, rfl, Nat.zero_le _, HW0⟩
  case round =>
    clear HW0 hmk
    obtain ⟨j, rfl, hj, HW⟩ := hrel
    by_cases hlt : j < n
    · have hI := HI2.out.kept HW.out.below (Nat.le_refl _)
      have c1 := hI.cell j hlt
      obtain rfl : ad = ⟨ba, 0, none⟩ := by have := HI2.out.addr.resolve_left (by omega); simpa using this
      obtain ⟨p, hp, hpk⟩ := HIB.out j hlt
      rw [hp, Nat.zero_add] at c1
      have hS3 := HS2.out.on HW.out.below
      have c2 : wr.cell? ⟨w.heap.size, 0, none⟩ = some (.slice X.wa n X.wc) := heap_cell hS3.b2 rfl
      have hXi := (HX.out wr hS3.below).ints
      have c3 := hXi.cell j (by rw [HNz.out]; exact hlt)
      have hxa := hXi.addr.resolve_left (by rw [HNz.out]; omega)
      rw [Nat.zero_add] at c3
      have hS : wtsT ws is (j + 1) = upd (wtsT ws is j) p (wtsT ws is j p + ws.getD j 0) := by simp only [wtsT, hp, Int.toNat_natCast]
      have hb1 := HBd.out j (by omega) p
      have hx := HWg.out j hlt
      have HS := Lib.hid hS
      have HSn : Hid (WtR w2 w2.heap.size m (wtsT ws is (j + 1)) ((wr.setCell ⟨w2.heap.size, p, none⟩ (.int .i64 (wtsT ws is j p + ws.getD j 0))).drew)) := Lib.hid (by rw [hS]; exact (HW.out.set hpk _).on (Below.refl _ _).drew)
      have c4 : wr.cell? ⟨w2.heap.size, p, none⟩ = some (.int .i64 (wtsT ws is j p)) := heap_cell HW.out.row (rowC_at (wtsT ws is j) hpk)
      have f4 : wr.frozen? ⟨w2.heap.size, p, none⟩ = false := heap_frozen HW.out.row p
      have hbl : w2.heap.size < wr.heap.size := heap_lt HW.out.row
      clear hI hp hS hS3 hXi HS
      generalize wtsT ws is j p = fp at *
      generalize ws.getD j 0 = x at *
      have hw : IntKind.i64.wrap (fp + x) = fp + x := IntWalk.i64_in _ (by omega)
      have hpi : (p : Int) < (m : Int) := by omega
      have hp0 : (0 : Int) ≤ (p : Int) := by omega
      have hji : (j : Int) < (n : Int) := by omega
      have hj0 : (0 : Int) ≤ (j : Int) := by omega
      rw [hxa] at c2
      go_wp2
      go_region
      go_wp2
      go_roundw
      case rel => exact ⟨j + 1, by go_num, by omega, HSn⟩
      case measure => simp [intOf]; omega
    · obtain rfl : j = n := by omega
      have hZ : IntsAt .i64 wr.heap.size wr (some ⟨w2.heap.size, 0, none⟩) w2.heap.size 0 m zs := by
        have := ints_rowC HW.out.row (by omega) (fun i _ => by
          have := HBd.out j (Nat.le_refl _) i
          have h1 : IntKind.i64.min = -9223372036854775808 := by decide
          have h2 : IntKind.i64.max = 9223372036854775807 := by decide
          show (decide (IntKind.i64.min ≤ _) && decide (_ ≤ IntKind.i64.max)) = true
          rw [h1, h2, Bool.and_eq_true, decide_eq_true_eq, decide_eq_true_eq]
          omega)
        rw [HWS.out]
        exact this
      have HNw := Lib.hid (newX_any (cap := m) hZ)
      have HS3 := Lib.hid (HS2.out.on HW.out.below)
      have HI3 := Lib.hid ((HI2.out.kept HW.out.below (Nat.le_refl _)).mono HW.out.below.size)
      have hz3 := HS3.out.below.size
      clear hZ HW HI2 HS2 HWS HBd HWg
      rename World => x3
      go_wp2_with fail
      refine HNw.out.mono ?_
      rintro e x4 ⟨hb4, ⟨h1, rfl⟩ | ⟨h1, X', rfl, hX'⟩⟩
      · have hb5 := hb4.alloc hb4.size (.cells #[.slice none 0 0, .slice none 0 0] 29)
        have HS5 : Hid (XsR w X.wa X.ra j X.wc X.rc (x4.alloc (.cells #[.slice none 0 0, .slice none 0 0] 29))) := Lib.hid (HS3.out.on hb5)
        have HPp := Lib.hid (fun W hW => HP1.out W _ hW h1 (HV1.out h1))
        have e1 : (newE zs != 0) = true := by simpa using h1
        have e2 : (newE zs == 0) = false := by simpa using h1
        clear hb4 hb5 HNw h1 HP1 HP2 HV1 HV2 HV3
        generalize newE zs = nz at *
        go_upto_region 10 with fail
        obtain ⟨x5, hx5⟩ : ∃ x5, (x4.alloc (.cells #[.slice none 0 0, .slice none 0 0] 29)) = x5 := ⟨_, rfl⟩
        rw [hx5] at HS5 ⊢
        have c4 : x5.cell? ⟨w.heap.size + 1, 0, none⟩ = some (.slice none 0 0) := heap_cell HS5.out.b4 rfl
        have c5 : x5.cell? ⟨w.heap.size + 1, 1, none⟩ = some (.slice none 0 0) := heap_cell HS5.out.b4 rfl
        have f4 := heap_frozen HS5.out.b4 0
        have f5 := heap_frozen HS5.out.b4 1
        have HG := Lib.hid (HS5.out.give (.slice none 0 0) (.slice none 0 0))
        clear hx5
        go_wp2
        obtain ⟨q, hb⟩ := HG.out
        have q0 := heap_cell q (i := 0) rfl
        have q1 := heap_cell q (i := 1) rfl
        refine bodyPost_ret (v := .tuple #[.agg #[.slice none 0 0, .slice none 0 0], .slice none 0 0, .int .i64 nz]) (by simp [results, Try.f25, go_sem, q0, q1]) rfl (HPp.out _ hb)
      · have hb5 := hb4.alloc hb4.size (.cells #[.slice X'.wa m X'.wc, .slice X'.ra m X'.rc] 29)
        have hb45 := (Below.refl x4.heap.size x4).alloc (Nat.le_refl _) (.cells #[.slice X'.wa m X'.wc, .slice X'.ra m X'.rc] 29)
        have HJ5 : Hid (XsJ w X.wa X.ra j X.wc X.rc x3 x4.heap.size X' m (x4.alloc (.cells #[.slice X'.wa m X'.wc, .slice X'.ra m X'.rc] 29))) := Lib.hid ⟨HS3.out.on hb5, hb5, heap_new (w := x4) _ rfl⟩
        have HX5 : Hid (IsX (x4.alloc (.cells #[.slice X'.wa m X'.wc, .slice X'.ra m X'.rc] 29)) X' x3.heap.size zs noTab) := Lib.hid (hX'.below hb45)
        have HVa := Lib.hid (HV2.out h1)
        have HVb := Lib.hid (HV3.out h1)
        unfold XD.val
        rw [HZl.out]
        clear hb4 hb5 hb45 hX' HNw HV1 HV2 HV3 h1
        go_upto_region 10 with fail
        obtain ⟨x5, hx5⟩ : ∃ x5, (x4.alloc (.cells #[.slice X'.wa m X'.wc, .slice X'.ra m X'.rc] 29)) = x5 := ⟨_, rfl⟩
        obtain ⟨b11, hb11⟩ : ∃ b11, x4.heap.size = b11 := ⟨_, rfl⟩
        rw [hx5] at HJ5 HX5 ⊢
        rw [hb11] at HJ5 ⊢
        clear hx5 hb11 x4
        go_wp2
        go_loopw [13] (fun i wr => ∃ (a : Nat) (Fp : Nat → Nat → Int), i = .int .i64 a ∧ a ≤ j ∧ Hid (shJ m is (upTo j F a) noTab = some Fp) ∧ Hid (IsX wr X' x3.heap.size zs Fp) ∧ Hid (XsJ w X.wa X.ra j X.wc X.rc x3 b11 X' m wr)) (fun i _ => j - (intOf i).toNat)
        case atStart => exact ⟨0, noTab, rfl, Nat.zero_le _, Lib.hid rfl, HX5, HJ5⟩
        case round =>
          clear HX5 HJ5
          obtain ⟨a', Fp, rfl, ha, HSh, HXp, HJ⟩ := hrel
          by_cases hla : a' < j
          · have hai : (a' : Int) < (j : Int) := by omega
            have HSh' : Hid (shJ m is (preE j F a' (a' + 1)) noTab = some Fp) := Lib.hid (by rw [preE_start j F a' (a' + 1) (Nat.le_refl _)]; exact HSh.out)
            clear HSh
            go_wp2
            go_loopw [14] (fun i wr => ∃ (b : Nat) (Fp : Nat → Nat → Int), i = .int .i64 b ∧ a' < b ∧ b ≤ j ∧ Hid (shJ m is (preE j F a' b) noTab = some Fp) ∧ Hid (IsX wr X' x3.heap.size zs Fp) ∧ Hid (XsJ w X.wa X.ra j X.wc X.rc x3 b11 X' m wr)) (fun i _ => j - (intOf i).toNat)
            case atStart => exact ⟨a' + 1, Fp, by go_num, Nat.lt_succ_self _, by omega, HSh', HXp, HJ⟩
            case round =>
              clear HSh' HXp HJ
              obtain ⟨b', Fq, rfl, hab, hb, HSh, HXp, HJ⟩ := hrel
              by_cases hlb : b' < j
              · have hbi : (b' : Int) < (j : Int) := by omega
                have ha0 : (0 : Int) ≤ (a' : Int) := by omega
                have hb0 : (0 : Int) ≤ (b' : Int) := by omega
                obtain rfl : ad = ⟨ba, 0, none⟩ := by have := HI3.out.addr.resolve_left (by omega); simpa using this
                obtain ⟨o1, ho1, hm1⟩ := HIB.out a' hla
                obtain ⟨o2, ho2, hm2⟩ := HIB.out b' hlb
                have hSi : ∀ W, XsJ w X.wa X.ra j X.wc X.rc x3 b11 X' m W → W.cell? ⟨ba, a', none⟩ = some (.int .i64 (o1 : Int)) ∧ W.cell? ⟨ba, b', none⟩ = some (.int .i64 (o2 : Int)) := fun W hW => by
                  have hI := HI3.out.kept hW.below (Nat.le_refl _)
                  have q1 := hI.cell a' hla
                  have q2 := hI.cell b' hlb
                  rw [ho1, Nat.zero_add] at q1
                  rw [ho2, Nat.zero_add] at q2
                  exact ⟨q1, q2⟩
                have hra : X.ra = some ⟨X.rb, 0, none⟩ := ((HX.out wr HJ.out.own.below).rbl.resolve_left (by rw [HNz.out]; omega)).1
                have hSx : ∀ W, XsJ w X.wa X.ra j X.wc X.rc x3 b11 X' m W → W.cell? ⟨w.heap.size, 1, none⟩ = some (.slice (some ⟨X.rb, 0, none⟩) j X.rc) ∧ W.cell? ⟨X.rb, a', none⟩ = some (.slice (some ⟨X.rows a', 0, none⟩) j j) ∧ W.cell? ⟨X.rows a', b', none⟩ = some (.int .i64 (F a' b')) := fun W hW => by
                  have hX := HX.out W hW.own.below
                  obtain ⟨k1, k2, cs, k3, k4⟩ := hX.rbl.resolve_left (by rw [HNz.out]; omega)
                  rw [HNz.out] at k4
                  have k5 := (hX.row a' (by rw [HNz.out]; exact hla)).2.2
                  rw [HNz.out] at k5
                  exact ⟨by rw [← hra]; exact heap_cell hW.own.b2 rfl, heap_cell k3 (k4 a' hla), heap_cell k5 (rowC_at (F a') hlb)⟩
                have hJs : shS m is ((a' : Int), (b' : Int), F a' b') Fq = if (o1 : Int) = (o2 : Int) then some Fq else if joinE m Fq (o1 : Int) (o2 : Int) (F a' b') = 0 then some (joinF m Fq (o1 : Int) (o2 : Int) (F a' b')) else none := by
                  unfold shS
                  simp only [Int.toNat_natCast, ho1, ho2]
                have HYes : Hid (0 < F a' b' → shJ m is (preE j F a' (b' + 1)) noTab = if (o1 : Int) = (o2 : Int) then some Fq else if joinE m Fq (o1 : Int) (o2 : Int) (F a' b') = 0 then some (joinF m Fq (o1 : Int) (o2 : Int) (F a' b')) else none) := Lib.hid (fun hp => by rw [preE_yes hab hp, shJ_snoc m is _ _ _ _ HSh.out, hJs])
                have HNo : Hid (¬ 0 < F a' b' → shJ m is (preE j F a' (b' + 1)) noTab = some Fq) := Lib.hid (fun hp => by rw [preE_no hab hp]; exact HSh.out)
                have HPn : Hid (shJ m is (preE j F a' (b' + 1)) noTab = none → sO = none) := Lib.hid (fun h => HPre.out a' (b' + 1) hla (by omega) h)
                have HQ : Hid (∀ nq : Nat, IsX (wr.drewN nq) X' x3.heap.size zs Fq ∧ XsJ w X.wa X.ra j X.wc X.rc x3 b11 X' m (wr.drewN nq)) := Lib.hid (fun nq => ⟨HXp.out.below ⟨rfl, rfl, rfl, Nat.le_refl _, fun _ _ => rfl⟩, HJ.out.on ⟨rfl, rfl, rfl, Nat.le_refl _, fun _ _ => rfl⟩⟩)
                obtain ⟨c1, c2⟩ := hSi wr HJ.out
                obtain ⟨c3, c4, c5⟩ := hSx wr HJ.out
                have HSi := Lib.hid hSi
                have HSx := Lib.hid hSx
                clear hJs ho1 ho2 hSi hSx
                obtain ⟨sh, hsh⟩ : ∃ sh, shJ m is (preE j F a' (b' + 1)) noTab = sh := ⟨_, rfl⟩
                rw [hsh] at HYes HNo HPn
                have HSE := Lib.hid hsh
                clear hsh
                generalize F a' b' = y at *
                by_cases h1 : o1 = o2
                · subst h1
                  have hd1 : ((o1 : Int) != (o1 : Int)) = false := by simp
                  have HN : Hid (sh = some Fq) := Lib.hid (by
                    by_cases hp : 0 < y
                    · rw [HYes.out hp, if_pos rfl]
                    · exact HNo.out hp)
                  clear HYes HNo HPn
                  go_wp2
                  go_quiet (fail)
                  go_wp2
                  go_roundw
                  case rel => exact ⟨b' + 1, Fq, by go_num, by omega, by omega, Lib.hid (HSE.out.trans HN.out), Lib.hid (HQ.out _).1, Lib.hid (HQ.out _).2⟩
                  case measure => simp [intOf]; omega
                · have hd1 : ((o1 : Int) != (o2 : Int)) = true := by simp; omega
                  by_cases hp : 0 < y
                  · have hd2 : decide (0 < y) = true := by simpa using hp
                    have HN := Lib.hid ((HYes.out hp).trans (if_neg (by omega)))
                    have hje := joinE_cases m Fq y hm1 hm2 h1
                    clear HYes HNo hp c1 c2 c3 c4 c5 hra
                    go_wp2
                    have c1 := (HSi.out wr HJ.out).1
                    have c2 := (HSi.out wr HJ.out).2
                    obtain ⟨c3, c4, c5⟩ := HSx.out wr HJ.out
                    go_quiet (fail)
                    have HQ1 := Lib.hid (HQ.out nq)
                    clear HQ HXp HJ c1 c2 c3 c4 c5
                    generalize wr.drewN nq = wq at *
                    have HJn : Hid (∀ W, Below wq.heap.size wq W → Calls Try.prog 38 #[.agg #[.slice X'.wa m X'.wc, .slice X'.ra m X'.rc], .int .i64 (o1 : Int), .int .i64 (o2 : Int), .int .i64 y] W fun e w' => e = .returned (.int .i64 (joinE m Fq (o1 : Int) (o2 : Int) y)) ∧ IsX w' X' x3.heap.size zs (joinF m Fq (o1 : Int) (o2 : Int) y) ∧ XsJ w X.wa X.ra j X.wc X.rc x3 b11 X' m w') := Lib.hid (fun W hW => by
                      have := xjoin_any (HQ1.out.1.below hW) (o1 : Int) (o2 : Int) y
                      unfold XJoinPost XD.val at this
                      rw [HZl.out] at this
                      exact this.mono (fun e w' ⟨he, hx, ht⟩ => ⟨he, hx, XsJ.rows HZl.out (HQ1.out.2.on hW) (HQ1.out.1.below hW) ht (Nat.le_refl _) hz3⟩))
                    have hS1 : ∀ W, XsJ w X.wa X.ra j X.wc X.rc x3 b11 X' m W → W.cell? ⟨ba, a', none⟩ = some (.int .i64 (o1 : Int)) := fun W hW => (HSi.out W hW).1
                    have hS2 : ∀ W, XsJ w X.wa X.ra j X.wc X.rc x3 b11 X' m W → W.cell? ⟨ba, b', none⟩ = some (.int .i64 (o2 : Int)) := fun W hW => (HSi.out W hW).2
                    have hS3 : ∀ W, XsJ w X.wa X.ra j X.wc X.rc x3 b11 X' m W → W.cell? ⟨w.heap.size, 1, none⟩ = some (.slice (some ⟨X.rb, 0, none⟩) j X.rc) := fun W hW => (HSx.out W hW).1
                    have hS4 : ∀ W, XsJ w X.wa X.ra j X.wc X.rc x3 b11 X' m W → W.cell? ⟨X.rb, a', none⟩ = some (.slice (some ⟨X.rows a', 0, none⟩) j j) := fun W hW => (HSx.out W hW).2.1
                    have hS5 : ∀ W, XsJ w X.wa X.ra j X.wc X.rc x3 b11 X' m W → W.cell? ⟨X.rows a', b', none⟩ = some (.int .i64 y) := fun W hW => (HSx.out W hW).2.2
                    have hS6 : ∀ W, XsJ w X.wa X.ra j X.wc X.rc x3 b11 X' m W → W.cell? ⟨b11, 0, none⟩ = some (.slice X'.wa m X'.wc) := fun W hW => heap_cell hW.box rfl
                    have hS7 : ∀ W, XsJ w X.wa X.ra j X.wc X.rc x3 b11 X' m W → W.cell? ⟨b11, 1, none⟩ = some (.slice X'.ra m X'.rc) := fun W hW => heap_cell hW.box rfl
                    have hQ1 := HQ1.out.2
                    have hQ2 := HQ1.out.2.on (Below.refl _ _).drew
                    go_wp2_with fail
                    go_region_held3 (fun W => XsJ w X.wa X.ra j X.wc X.rc x3 b11 X' m W) (first | assumption) (first
                      | (go_at_call 38; refine (HJn.out _ (by first | exact Below.refl _ _ | exact (Below.refl _ _).drew)).mono ?_; rintro e w5 ⟨rfl, hX5, hJ5⟩; have HX5 := Lib.hid hX5; have HJ5 := Lib.hid hJ5; clear hX5))
                    clear hS1 hS2 hS3 hS4 hS5 hS6 hS7 hQ1 hQ2 hJ5 HQ1 HJn HSi HSx
                    rcases hje with he | he
                    · rw [he]
                      have HN2 := Lib.hid (HSE.out.trans (HN.out.trans (if_pos he)))
                      clear he HPn
                      go_wp2
                      go_roundw
                      case rel => exact ⟨b' + 1, _, by go_num, by omega, by omega, HN2, HX5, HJ5⟩
                      case measure => simp [intOf]; omega
                    · rw [he]
                      have HEn := Lib.hid (HVa.out (HPn.out (HN.out.trans (if_neg (by rw [he]; decide)))))
                      have c4 : w5.cell? ⟨w.heap.size + 1, 0, none⟩ = some (.slice none 0 0) := heap_cell HJ5.out.own.b4 rfl
                      have c5 : w5.cell? ⟨w.heap.size + 1, 1, none⟩ = some (.slice none 0 0) := heap_cell HJ5.out.own.b4 rfl
                      have f4 := heap_frozen HJ5.out.own.b4 0
                      have f5 := heap_frozen HJ5.out.own.b4 1
                      have HG := Lib.hid (HJ5.out.own.give (.slice none 0 0) (.slice none 0 0))
                      clear he HN HPn HX5 HJ5
                      go_wp2
                      obtain ⟨q, hb⟩ := HG.out
                      have q0 := heap_cell q (i := 0) rfl
                      have q1 := heap_cell q (i := 1) rfl
                      refine bodyPost_ret (v := .tuple #[.agg #[.slice none 0 0, .slice none 0 0], .slice none 0 0, .int .i64 23]) (by simp [results, Try.f25, go_sem, q0, q1]) rfl (HP1.out _ _ hb (by decide) HEn.out)
                  · have hd2 : decide (0 < y) = false := by simpa using hp
                    have HN := Lib.hid (HNo.out hp)
                    clear HYes HNo HPn hp
                    go_wp2
                    go_quiet (fail)
                    go_wp2
                    go_roundw
                    case rel => exact ⟨b' + 1, Fq, by go_num, by omega, by omega, Lib.hid (HSE.out.trans HN.out), Lib.hid (HQ.out _).1, Lib.hid (HQ.out _).2⟩
                    case measure => simp [intOf]; omega
              · obtain rfl : b' = j := by omega
                rw [preE_row] at HSh
                go_wp2
                go_roundw
                case rel => exact ⟨a' + 1, Fq, by go_num, by omega, HSh, HXp, HJ⟩
                case measure => simp [intOf]; omega
          · obtain rfl : a' = j := by omega
            have hJ := HSh.out
            rw [← HO.out] at hJ
            obtain ⟨he, hFe⟩ := HVb.out Fp hJ
            have HHe := Lib.hid he
            have HFe := Lib.hid hFe
            have d0 : wr.cell? ⟨b11, 0, none⟩ = some (.slice X'.wa m X'.wc) := heap_cell HJ.out.box rfl
            have d1 : wr.cell? ⟨b11, 1, none⟩ = some (.slice X'.ra m X'.rc) := heap_cell HJ.out.box rfl
            have c4 : wr.cell? ⟨w.heap.size + 1, 0, none⟩ = some (.slice none 0 0) := heap_cell HJ.out.own.b4 rfl
            have c5 : wr.cell? ⟨w.heap.size + 1, 1, none⟩ = some (.slice none 0 0) := heap_cell HJ.out.own.b4 rfl
            have f4 := heap_frozen HJ.out.own.b4 0
            have f5 := heap_frozen HJ.out.own.b4 1
            have HG := Lib.hid (HJ.out.own.give (.slice X'.wa m X'.wc) (.slice X'.ra m X'.rc))
            have ht1 := Turned.set wr (w.heap.size + 1) 0 (.slice X'.wa m X'.wc)
            have hb1 := heap_set HJ.out.own.b4 0 (.slice X'.wa m X'.wc)
            have ht2 := Turned.set (wr.setCell ⟨w.heap.size + 1, 0, none⟩ (.slice X'.wa m X'.wc)) (w.heap.size + 1) 1 (.slice X'.ra m X'.rc)
            have hlt4 := heap_lt HS3.out.b4
            have hne : ∀ (W : World) (cur : Array Value), W.heap[w.heap.size + 1]? = some (.cells cur 29 (0, 0)) → ∀ c, c = w.heap.size + 1 → ∀ cs fr, W.heap[c]? ≠ some (.cells cs 84 fr) := fun W cur hc c e cs fr hcs => by
              subst e
              rw [hc] at hcs
              injection hcs with hcs
              injection hcs with _ hcs
              exact absurd hcs (by decide)
            have hX9 : IsX ((wr.setCell ⟨w.heap.size + 1, 0, none⟩ (.slice X'.wa m X'.wc)).setCell ⟨w.heap.size + 1, 1, none⟩ (.slice X'.ra m X'.rc)) X' x3.heap.size zs Fp :=
              (HXp.out.spared ht1 (fun c e => .inl (by omega)) (.inr fun c e cs fr hc => absurd hc (hne _ _ HJ.out.own.b4 c e cs fr))).spared ht2 (fun c e => .inl (by omega)) (.inr fun c e cs fr hc => absurd hc (hne _ _ hb1 c e cs fr))
            have hba : a' = 0 ∨ ba ≠ w.heap.size + 1 := by
              rcases HGe.out with h | h
              · exact .inl h
              · have := HZ1.out
                exact .inr (by omega)
            have hI9 : IntsAt .i64 ((wr.setCell ⟨w.heap.size + 1, 0, none⟩ (.slice X'.wa m X'.wc)).setCell ⟨w.heap.size + 1, 1, none⟩ (.slice X'.ra m X'.rc)).heap.size ((wr.setCell ⟨w.heap.size + 1, 0, none⟩ (.slice X'.wa m X'.wc)).setCell ⟨w.heap.size + 1, 1, none⟩ (.slice X'.ra m X'.rc)) (some ad) ba 0 a' is :=
              ((((HI3.out.kept HJ.out.below (Nat.le_refl _)).mono HJ.out.below.size).turned ht1 hba).turned ht2 hba)
            have HF := Lib.hid (And.intro hX9 hI9)
            clear hX9 hI9 hba hne ht1 hb1 ht2 hJ he hFe HXp HJ
            go_wp2
            obtain ⟨q, hb⟩ := HG.out
            obtain ⟨hX9, hI9⟩ := HF.out
            have q0 := heap_cell q (i := 0) rfl
            have q1 := heap_cell q (i := 1) rfl
            refine bodyPost_ret (v := .tuple #[.agg #[.slice X'.wa m X'.wc, .slice X'.ra m X'.rc], .slice (some ad) a' ca, .int .i64 0]) (by simp [results, Try.f25, go_sem, q0, q1]) rfl (HP2.out _ HHe.out hb X' x3.heap.size ad ca ba (by rw [HFe.out]; exact hX9) hI9 hz3)
/-- Of whatever list. -/
theorem xshrink_any {w : World} {X : XD} {lo : Nat} {ws : List Int} {F : Nat → Nat → Int} (h : IsX w X lo ws F) (hw : ∀ x ∈ ws, 1 ≤ x ∧ x ≤ 1099511627776) {a : Option Addr} {b off len cap : Nat} {ms : List Int} (hm : IntsAt .i64 w.heap.size w a b off len ms) :
    Calls Try.prog 25 #[X.val ws.length, .slice a len cap] w (XShrinkPost ws F ms w) := by
  by_cases hE : ms.length ≠ ws.length ∨ mateR ms = false
  · exact xshrink_wrong h hm hE
  · refine xshrink_right h hw hm (by omega) ?_
    cases e : mateR ms with
    | true => rfl
    | false => exact absurd (.inr e) hE
end Go.Proofs.Ytbjgfkiaoffhlaa.L11

namespace Go.Proofs.Ytbjgfkiaoffhlaa.L11
open Go.RowKit Go.Shelf Rk

theorem ints_nil (w : World) : IntsAt .i64 w.heap.size w none 0 0 0 [] := ⟨.inl rfl, rfl, Nat.zero_le _, .inl rfl, fun i hi => absurd hi (Nat.not_lt_zero _), fun n hn => by simp at hn⟩
set_option maxRecDepth 100000 in
set_option maxHeartbeats 8000000 in
theorem walk_CoarseShrinks (a0 : Option Addr) (len0 cap0 : Nat) (z0 : List Int) (a1 : Option Addr) (len1 cap1 : Nat) (z1 : List RopV) (a2 : Option Addr) (len2 cap2 : Nat) (z2 : List Int) (a3 : Option Addr) (len3 cap3 : Nat) (z3 : List Int) (a4 : Option Addr) (len4 cap4 : Nat) (z4 : List Int) (w : World) (w0 : IsRow .i64 w a0 len0 cap0 z0) (w1 : IsRops w a1 len1 cap1 z1) (w2 : IsRow .i64 w a2 len2 cap2 z2) (w3 : IsRow .i64 w a3 len3 cap3 z3) (w4 : IsRow .i64 w a4 len4 cap4 z4) :
    Calls Try.prog 7 #[.slice a0 len0 cap0, .slice a1 len1 cap1, .slice a2 len2 cap2, .slice a3 len3 cap3, .slice a4 len4 cap4] w fun e w' => e = .returned (.bool true) ∧ Below w.heap.size w w' := by
  obtain ⟨b0, off0, zs, hi0, hn0⟩ := w0.zz
  obtain ⟨b2, off2, ms, hi2, hn2⟩ := w2.zz
  obtain ⟨b3, off3, ps3, hi3, _⟩ := w3.zz
  obtain ⟨b4, off4, is4, hi4, _⟩ := w4.zz
  obtain ⟨_, b1, off1, hi1⟩ := w1
  have H0 := Lib.hid hi0
  have HN := Lib.hid hn0
  have H1 := Lib.hid hi1
  have HM : Hid (∀ W, Below w.heap.size w W → IntsAt .i64 W.heap.size W a2 b2 off2 len2 ms) := Lib.hid (fun W hW => (hi2.kept hW (Nat.le_refl _)).mono hW.size)
  have HP : Hid (∀ W, Below w.heap.size w W → IntsAt .i64 W.heap.size W a3 b3 off3 len3 ps3) := Lib.hid (fun W hW => (hi3.kept hW (Nat.le_refl _)).mono hW.size)
  have HN4 : Hid (∀ W, Below w.heap.size w W → IntsAt .i64 W.heap.size W a4 b4 off4 len4 is4) := Lib.hid (fun W hW => (hi4.kept hW (Nat.le_refl _)).mono hW.size)
  have HN2 := Lib.hid hn2
  have s2 := hi2.small
  have s3 := hi3.small
  have s4 := hi4.small
  unfold maxLen at s2 s3 s4
  obtain rfl := hi0.length
  clear w0 w2 w3 w4 hi0 hn0 hi1 hi2 hi3 hi4 hn2
  go_enter Try.func7, Try.ntmps7
  go_wp2_with fail
  refine (alive_any _).mono ?_
  rintro e x1 ⟨rfl, hB1⟩
  have HB1 := Lib.hid hB1
  have HBd := Lib.hid (build_any (cap0 := cap0) (cap1 := cap1) ((H0.out.kept hB1 (Nat.le_refl _)).mono hB1.size) HN.out ((H1.out.kept hB1 (Nat.le_refl _)).mono hB1.size))
  have z1s := hB1.size
  clear hB1
  go_wp2_with fail
  refine HBd.out.mono ?_
  rintro e x3 ⟨hB, hc⟩
  have HB2 := Lib.hid (HB1.out.trans (hB.mono z1s))
  clear hB HBd
  rcases hc with ⟨_, rfl⟩ | ⟨⟨hl30, _⟩, g, nb, lo, Bx, X, rfl, hR, _, _⟩
  · have HB3 := Lib.hid (HB2.out.alloc HB2.out.size (.cells #[.slice none 0 0, .slice none 0 0] 29))
    go_wp2
    go_ret
    exact ⟨rfl, HB3.out⟩
  have hR' := hR.base HB1.out
  have hal := (Below.refl x3.heap.size x3).alloc (Nat.le_refl _) (.cells #[.slice X.wa zs.length X.wc, .slice X.ra zs.length X.rc] 29)
  have HR : Hid (BdR w g nb lo x3.heap.size X zs (joins zs.length noTab z1) (x3.alloc (.cells #[.slice X.wa zs.length X.wc, .slice X.ra zs.length X.rc] 29))) := Lib.hid ⟨hR'.one.below hal, hR'.two.below hal, heap_new (w := x3) _ rfl, hR'.below.trans (hal.mono hR'.below.size)⟩
  clear hR hR' hal HB2 HB1 z1s H0 HN H1
  unfold XD.val
  obtain ⟨F, hF⟩ : ∃ F, joins zs.length noTab z1 = F := ⟨_, rfl⟩
  rw [hF] at HR
  clear hF
  go_upto_region 4 with fail
  obtain ⟨x4, hx4⟩ : ∃ x4, (x3.alloc (.cells #[.slice X.wa zs.length X.wc, .slice X.ra zs.length X.rc] 29)) = x4 := ⟨_, rfl⟩
  obtain ⟨bx, hbx⟩ : ∃ bx, x3.heap.size = bx := ⟨_, rfl⟩
  rw [hx4, hbx] at HR
  rw [hx4, hbx]
  clear hx4 hbx x3
  by_cases hout : 60 < len2 ∨ 60 < len3 ∨ 60 < len4
  · by_cases h1 : 60 < len2
    · have d1 : decide (60 < (len2 : Int)) = true := by simp; omega
      clear hout h1
      go_wp2
      go_ret
      exact ⟨rfl, HR.out.below⟩
    · have d1 : decide (60 < (len2 : Int)) = false := by simp; omega
      by_cases h2 : 60 < len3
      · have d2 : decide (60 < (len3 : Int)) = true := by simp; omega
        clear hout h1 h2
        go_wp2
        go_ret
        exact ⟨rfl, HR.out.below⟩
      · have d2 : decide (60 < (len3 : Int)) = false := by simp; omega
        have d3 : decide (60 < (len4 : Int)) = true := by simp; omega
        clear hout h1 h2
        go_wp2
        go_ret
        exact ⟨rfl, HR.out.below⟩
  have d1 : decide (60 < (len2 : Int)) = false := by simp; omega
  have d2 : decide (60 < (len3 : Int)) = false := by simp; omega
  have d3 : decide (60 < (len4 : Int)) = false := by simp; omega
  have hl4 : len4 ≤ 60 := by omega
  clear hout s2 s3 s4
  have HSh := Lib.hid (shrink_any (cap := cap2) HR.out.one (HM.out _ HR.out.below) HN2.out)
  go_wp2_with fail
  refine HSh.out.mono ?_
  rintro e x5 ⟨hb, hcs⟩
  have HR5 := Lib.hid (HR.out.on hb)
  have HCs := Lib.hid hcs
  have HXs := Lib.hid (xshrink_any (cap := cap2) HR5.out.two HR5.out.good.wts (HM.out _ HR5.out.below))
  unfold XD.val at HXs
  have e0 := HR5.out.d0
  have e1 := HR5.out.d1
  clear hcs HSh HR hb d1 d2 d3
  rcases HCs.out with ⟨hE, rfl⟩ | ⟨hE, g2, nb2, ib, rfl, hG2, hI2, _⟩
  · have HE := Lib.hid hE
    clear hE HCs
    go_wp2_with fail
    refine HXs.out.mono ?_
    rintro e x6 ⟨hb, ⟨_, rfl⟩ | ⟨h2, _⟩⟩
    rotate_left
    · exact absurd h2 HE.out
    have hal := hb.alloc hb.size (.cells #[.slice none 0 0, .slice none 0 0] 29)
    have HR6 := Lib.hid (HR5.out.on hal)
    have hE := HE.out
    generalize shrE zs F ms = sE at *
    have k1 : (sE != sE) = false := by simp
    have k2 : (sE == 0) = false := by simpa using hE
    have k3 : (sE != 0) = true := by simpa using hE
    clear hE hb hal HXs e0 e1 HR5
    go_upto_region 8 with fail
    obtain ⟨x7, hx7⟩ : ∃ x7, (x6.alloc (.cells #[.slice none 0 0, .slice none 0 0] 29)) = x7 := ⟨_, rfl⟩
    rw [hx7] at HR6 ⊢
    clear hx7
    have CS := Lib.hid (sameints_any (cap := 0) (cap' := 0) (ints_nil x7) (ints_nil x7))
    rw [decide_eq_true (rfl : ([] : List Int) = [])] at CS
    go_upto_region 10 with (go_at_call 13; refine CS.out.mono ?_; clear CS; rintro e x8 ⟨rfl, hb⟩; have HRz := Lib.hid (HR6.out.on hb); clear hb)
    clear HR6 k1 k2 k3
    have CLf := Lib.hid (lift_any (cap1 := cap3) (cap2 := cap4) (HP.out _ HRz.out.below) (HN4.out _ HRz.out.below) (by omega))
    go_wp2_with fail
    refine CLf.out.mono ?_
    rintro e y1 ⟨hb, hcl⟩
    have HRy := Lib.hid (HRz.out.on hb)
    have HCl := Lib.hid hcl
    clear hb CLf hcl
    have CLx := Lib.hid (xlift_any (cap1 := cap3) (cap2 := cap4) (HP.out _ HRy.out.below) (HN4.out _ HRy.out.below) (by omega))
    rcases HCl.out with ⟨h1, rfl⟩ | ⟨h1, lb, rfl, hL, _⟩
    · have HLr := Lib.hid h1
      clear h1 HCl
      go_wp2_with fail
      refine CLx.out.mono ?_
      rintro e y2 ⟨hb, ⟨h2, rfl⟩ | ⟨h2, _⟩⟩
      rotate_left
      · rw [HLr.out] at h2; cases h2
      have HRw := Lib.hid (HRy.out.on hb)
      have CSl := Lib.hid (sameints_any (cap := 0) (cap' := 0) (ints_nil y2) (ints_nil y2))
      rw [decide_eq_true (rfl : ([] : List Int) = [])] at CSl
      clear hb h2 CLx
      go_wp2_with fail
      refine CSl.out.mono ?_
      rintro e y3 ⟨rfl, hb⟩
      have HRv := Lib.hid (HRw.out.on hb)
      clear hb
      go_wp2
      go_ret
      exact ⟨rfl, HRv.out.below⟩
    · have HLr := Lib.hid h1
      have HL1 := Lib.hid hL
      clear h1 HCl hL
      go_wp2_with fail
      refine CLx.out.mono ?_
      rintro e y2 ⟨hb, ⟨h2, rfl⟩ | ⟨h2, adx, cx, bx2, rfl, hLx⟩⟩
      · rw [HLr.out] at h2; cases h2
      have HRw := Lib.hid (HRy.out.on hb)
      have CSl := Lib.hid (sameints_any (cap := is4.length) (cap' := cx) ((HL1.out.kept hb (Nat.le_refl _)).mono hb.size) hLx)
      rw [decide_eq_true rfl] at CSl
      clear hb h2 CLx hLx
      go_wp2_with fail
      refine CSl.out.mono ?_
      rintro e y3 ⟨rfl, hb⟩
      have HRv := Lib.hid (HRw.out.on hb)
      clear hb
      go_wp2
      go_ret
      exact ⟨rfl, HRv.out.below⟩
  · have HE := Lib.hid hE
    have HG2 := Lib.hid hG2
    have HI2 := Lib.hid hI2
    clear hE HCs hG2 hI2
    go_wp2_with fail
    refine HXs.out.mono ?_
    rintro e x6 ⟨hb, ⟨h2, _⟩ | ⟨_, X', lo', adi, ci, bi, rfl, hX', hIx, _⟩⟩
    · exact absurd HE.out h2
    unfold XD.val
    have hal1 := (Below.refl x6.heap.size x6).alloc (Nat.le_refl _) (.cells #[.slice X'.wa (onesN ms) X'.wc, .slice X'.ra (onesN ms) X'.rc] 29)
    have hal := hb.trans (hal1.mono hb.size)
    have HR6 := Lib.hid (HR5.out.on hal)
    have HG6 := Lib.hid (HG2.out.below hal)
    have HI6 := Lib.hid ((HI2.out.kept hal (Nat.le_refl _)).mono hal.size)
    have HX6 := Lib.hid (hX'.below hal1)
    have HJ6 := Lib.hid ((hIx.kept hal1 (Nat.le_refl _)).mono hal1.size)
    have HN6 : Hid ((x6.alloc (.cells #[.slice X'.wa (onesN ms) X'.wc, .slice X'.ra (onesN ms) X'.rc] 29)).heap[x6.heap.size]? = some (.cells #[.slice X'.wa (onesN ms) X'.wc, .slice X'.ra (onesN ms) X'.rc] 29 (0, 0))) := Lib.hid (heap_new (w := x6) _ rfl)
    clear hb hal hal1 hX' hIx HG2 HI2 HXs e0 e1 HR5
    go_upto_region 8 with fail
    obtain ⟨x7, hx7⟩ : ∃ x7, (x6.alloc (.cells #[.slice X'.wa (onesN ms) X'.wc, .slice X'.ra (onesN ms) X'.rc] 29)) = x7 := ⟨_, rfl⟩
    rw [hx7] at HR6 HG6 HI6 HX6 HJ6 HN6 ⊢
    clear hx7
    have CS := Lib.hid (sameints_any (cap := zs.length) (cap' := ci) HI6.out HJ6.out)
    rw [decide_eq_true rfl] at CS
    go_upto_region 10 with (first
      | (go_at_call 13; refine CS.out.mono ?_; clear CS; rintro e x8 ⟨rfl, hb⟩; have HR8 := Lib.hid (HR6.out.on hb); have CE := Lib.hid (equal_any (HG6.out.below hb) (HX6.out.below hb)); unfold XD.val at CE; rw [wsS_length] at CE; have HN8 := Lib.hid (heap_below HN6.out hb (heap_lt HN6.out)); have q0 := heap_cell HN8.out (i := 0) rfl; have q1 := heap_cell HN8.out (i := 1) rfl; clear hb)
      | (go_at_call 26; refine CE.out.mono ?_; clear CE; rintro e x9 ⟨rfl, hb⟩; have HRz := Lib.hid (HR8.out.on hb); clear hb))
    clear HR6 HG6 HI6 HX6 HJ6 HN6 HR8 HN8 q0 q1
    have CLf := Lib.hid (lift_any (cap1 := cap3) (cap2 := cap4) (HP.out _ HRz.out.below) (HN4.out _ HRz.out.below) (by omega))
    go_wp2_with fail
    refine CLf.out.mono ?_
    rintro e y1 ⟨hb, hcl⟩
    have HRy := Lib.hid (HRz.out.on hb)
    have HCl := Lib.hid hcl
    clear hb CLf hcl
    have CLx := Lib.hid (xlift_any (cap1 := cap3) (cap2 := cap4) (HP.out _ HRy.out.below) (HN4.out _ HRy.out.below) (by omega))
    rcases HCl.out with ⟨h1, rfl⟩ | ⟨h1, lb, rfl, hL, _⟩
    · have HLr := Lib.hid h1
      clear h1 HCl
      go_wp2_with fail
      refine CLx.out.mono ?_
      rintro e y2 ⟨hb, ⟨h2, rfl⟩ | ⟨h2, _⟩⟩
      rotate_left
      · rw [HLr.out] at h2; cases h2
      have HRw := Lib.hid (HRy.out.on hb)
      have CSl := Lib.hid (sameints_any (cap := 0) (cap' := 0) (ints_nil y2) (ints_nil y2))
      rw [decide_eq_true (rfl : ([] : List Int) = [])] at CSl
      clear hb h2 CLx
      go_wp2_with fail
      refine CSl.out.mono ?_
      rintro e y3 ⟨rfl, hb⟩
      have HRv := Lib.hid (HRw.out.on hb)
      clear hb
      go_wp2
      go_ret
      exact ⟨rfl, HRv.out.below⟩
    · have HLr := Lib.hid h1
      have HL1 := Lib.hid hL
      clear h1 HCl hL
      go_wp2_with fail
      refine CLx.out.mono ?_
      rintro e y2 ⟨hb, ⟨h2, rfl⟩ | ⟨h2, adx, cx, bx2, rfl, hLx⟩⟩
      · rw [HLr.out] at h2; cases h2
      have HRw := Lib.hid (HRy.out.on hb)
      have CSl := Lib.hid (sameints_any (cap := is4.length) (cap' := cx) ((HL1.out.kept hb (Nat.le_refl _)).mono hb.size) hLx)
      rw [decide_eq_true rfl] at CSl
      clear hb h2 CLx hLx
      go_wp2_with fail
      refine CSl.out.mono ?_
      rintro e y3 ⟨rfl, hb⟩
      have HRv := Lib.hid (HRw.out.on hb)
      clear hb
      go_wp2
      go_ret
      exact ⟨rfl, HRv.out.below⟩
end Go.Proofs.Ytbjgfkiaoffhlaa.L11
