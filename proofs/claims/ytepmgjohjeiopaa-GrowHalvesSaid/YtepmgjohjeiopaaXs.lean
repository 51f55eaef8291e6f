/- Plain: what the document's halving finds next is what the program's does; contract: the reference's Halve. -/
import Derived.Test.YtepmgjohjeiopaaXm
set_option linter.unusedVariables false
set_option linter.unusedSectionVars false
namespace Go.Proofs.Ytepmgjohjeiopaa
open Go.RowKit Go.Shelf Rk

/-- The document's choice among the first j things. -/
def xatF (ws : List Int) (n : Nat) (F : Nat → Nat → Int) (most : Int) (ms : List Int) : Nat → Int
  | 0 => -1
  | j + 1 => if ms.getD j 0 = 1 ∧ wt0 ws ms n + ws.getD j 0 ≤ most ∧ (xatF ws n F most ms j < 0 ∨ pullF n F ms (xatF ws n F most ms j).toNat < pullF n F ms j) then (j : Int) else xatF ws n F most ms j
theorem xat_lt (ws : List Int) (n : Nat) (F : Nat → Nat → Int) (most : Int) (ms : List Int) : ∀ j, -1 ≤ xatF ws n F most ms j ∧ xatF ws n F most ms j < (j : Int)
  | 0 => by simp [xatF]
  | j + 1 => by
    have ih := xat_lt ws n F most ms j
    simp only [xatF]
    split <;> omega
theorem xat_nx {ws : List Int} {n : Nat} {F : Nat → Nat → Int} {most : Int} {ms : List Int} {f : Nat → Int} (hf : ∀ b, f b = pullF n F ms b) : ∀ j, xatF ws n F most ms j = if (nxS ws f (most - wt0 ws ms n) (sideL ms 1 j)).2 = true then ((nxS ws f (most - wt0 ws ms n) (sideL ms 1 j)).1 : Int) else -1
  | 0 => rfl
  | j + 1 => by
    have ih := xat_nx (most := most) hf (ws := ws) j
    rw [sideL]
    by_cases e : ms.getD j 0 = 1
    · rw [if_pos e, nxS_snoc]
      simp only [xatF]
      generalize nxS ws f (most - wt0 ws ms n) (sideL ms 1 j) = st at *
      have hs : nxStep ws f (most - wt0 ws ms n) st (j : Int) = if ws.getD j 0 ≤ most - wt0 ws ms n ∧ (st.2 = false ∨ pullF n F ms st.1 < pullF n F ms j) then (j, true) else st := by
        unfold nxStep
        rw [Int.toNat_natCast, hf, hf]
      rw [hs]
      clear hs
      by_cases hr : ws.getD j 0 ≤ most - wt0 ws ms n ∧ (st.2 = false ∨ pullF n F ms st.1 < pullF n F ms j)
      · rw [if_pos hr]
        show _ = (j : Int)
        refine if_pos ⟨e, by omega, ?_⟩
        cases h2 : st.2 with
        | false => rw [h2, if_neg (by decide)] at ih; left; rw [ih]; decide
        | true =>
          rw [h2] at ih hr
          right
          rw [ih, if_pos rfl, Int.toNat_natCast]
          rcases hr.2 with h3 | h3
          · cases h3
          · exact h3
      · rw [if_neg hr, ← ih]
        refine if_neg (fun h => hr ⟨by have := h.2.1; omega, ?_⟩)
        cases h2 : st.2 with
        | false => exact .inl rfl
        | true =>
          rw [h2, if_pos rfl] at ih
          rcases h.2.2 with h3 | h3
          · omega
          · rw [ih, Int.toNat_natCast] at h3; exact .inr h3
    · rw [if_neg e, List.append_nil]
      simp only [xatF]
      rw [if_neg (fun h => e h.1), ih]
theorem addP_row {g : Nat → Int} (hg : ∀ b, 0 ≤ g b) (f : Nat → Int) : ∀ m b, addP f (rowOf m g) b = f b + if b < m then g b else 0
  | 0, b => by simp [addP, rowOf]
  | m + 1, b => by
    have ih := addP_row hg f m
    have hgm := hg m
    by_cases h0 : 0 < g m
    · have e : rowOf (m + 1) g = rowOf m g ++ [((m : Int), g m)] := by rw [rowOf_succ, if_pos h0]
      rw [e, addP_snoc]
      simp only [Int.toNat_natCast]
      unfold upd
      by_cases h : b = m
      · subst h
        rw [if_pos rfl, ih, if_neg (Nat.lt_irrefl _), if_pos (Nat.lt_succ_self _)]
        show f b + 0 + g b = f b + g b
        omega
      · rw [if_neg h, ih]
        by_cases h2 : b < m
        · rw [if_pos h2, if_pos (by omega)]
        · rw [if_neg h2, if_neg (by omega)]
    · have e : rowOf (m + 1) g = rowOf m g := by rw [rowOf_succ, if_neg h0, List.append_nil]
      rw [e, ih]
      by_cases h : b = m
      · subst h
        rw [if_neg (Nat.lt_irrefl _), if_pos (Nat.lt_succ_self _)]; omega
      · by_cases h2 : b < m
        · rw [if_pos h2, if_pos (by omega)]
        · rw [if_neg h2, if_neg (by omega)]
theorem pullF_upd {n : Nat} {F : Nat → Nat → Int} {pf : Nat → Int} {i : Nat} (hi : i < n) (h1 : pf i = 1) (b : Nat) : pullF n F (parts n (upd pf i 0)) b = pullF n F (parts n pf) b + F b i := by
  have e : ∀ qf : Nat → Int, pullF n F (parts n qf) b = sumTo n (fun c => if qf c = 0 then F b c else 0) := fun qf => sumTo_congr (fun c hc => by show (if (parts n qf).getD c 0 = 0 then _ else _) = _; rw [parts_getD qf hc])
  rw [e, e]
  have key : ∀ m, sumTo m (fun c => if upd pf i 0 c = 0 then F b c else 0) = sumTo m (fun c => if pf c = 0 then F b c else 0) + if i < m then F b i else 0 := fun m => by
    induction m with
    | zero => rfl
    | succ m ih =>
      simp only [sumTo]
      rw [ih]
      by_cases e : m = i
      · subst e
        have e1 : upd pf m 0 m = 0 := by simp [upd]
        rw [e1, if_neg (Nat.lt_irrefl _), if_pos (Nat.lt_succ_self _), if_pos rfl, if_neg (by omega)]
      · have e1 : upd pf i 0 m = pf m := by simp [upd, e]
        rw [e1]
        by_cases h2 : i < m
        · have e1 : (if i < m then F b i else 0) = F b i := if_pos h2
          have e2 : (if i < m + 1 then F b i else 0) = F b i := if_pos (by omega)
          omega
        · have e1 : (if i < m then F b i else 0) = 0 := if_neg h2
          have e2 : (if i < m + 1 then F b i else 0) = 0 := if_neg (by omega)
          omega
  have := key n
  rw [if_pos hi] at this
  exact this
theorem hv_pull {ws : List Int} {n : Nat} {F : Nat → Nat → Int} (ht : Tab n F) {most : Int} : ∀ k b, (hvAt ws n F most k).2.1 b = pullF n F (parts n (hvAt ws n F most k).1) b
  | 0, b => by
    have : pullF n F (parts n (fun _ => 1)) b = sumTo n (fun _ => 0) := sumTo_congr (fun c hc => by show (if (parts n _).getD c 0 = 0 then _ else _) = _; rw [parts_getD _ hc]; rfl)
    show (0 : Int) = pullF n F (parts n (fun _ => 1)) b
    rw [this, sumTo_zero n (fun _ _ => rfl)]
  | k + 1, b => by
    have ih := hv_pull ht (ws := ws) (most := most) k b
    by_cases h : (hvNx ws n most (hvAt ws n F most k)).2 = true
    · rw [hv_step h]
      obtain ⟨h1, h2, _⟩ := nx_ok h
      show addP _ _ b = pullF n F (parts n (upd _ _ 0)) b
      rw [addP_row (fun c => ht.lo _ c), ih]
      have := pullF_upd (F := F) h1 h2 b
      unfold hvNx
      rw [this, ht.sym b]
      by_cases hb : b < n
      · rw [if_pos hb]
      · rw [if_neg hb, ht.out _ b (by omega)]
    · rw [hv_stay h 1]; exact ih
theorem hv_wt0 (ws : List Int) (n : Nat) (F : Nat → Nat → Int) (most : Int) (k : Nat) : (hvAt ws n F most k).2.2 = wt0 ws (parts n (hvAt ws n F most k).1) n := by
  rw [hv_w0]
  exact sumTo_congr (fun c hc => by show _ = (if (parts n _).getD c 0 = 0 then _ else _); rw [parts_getD _ hc])
theorem parts_upd {n : Nat} (pf : Nat → Int) (i : Nat) (v : Int) : parts n (upd pf i v) = (parts n pf).set i v := by
  apply List.ext_getElem
  · simp [parts]
  · intro j h1 h2
    simp only [parts, List.getElem_map, List.getElem_range, List.getElem_set, upd]
    by_cases e : i = j
    · rw [if_pos e, if_pos e.symm]
    · rw [if_neg e, if_neg (fun h => e h.symm)]
/-- The document's choice among all things, and what it leaves, are the program's. -/
theorem hv_x {ws : List Int} {n : Nat} {F : Nat → Nat → Int} (ht : Tab n F) {most : Int} (k : Nat) {ms : List Int} (hms : parts n (hvAt ws n F most k).1 = ms) : parts n (hvAt ws n F most (k + 1)).1 = if 0 ≤ xatF ws n F most ms n then ms.set (xatF ws n F most ms n).toNat 0 else ms := by
  subst hms
  have h := xat_nx (ws := ws) (most := most) (ms := parts n (hvAt ws n F most k).1) (hv_pull ht (ws := ws) (most := most) k) n
  rw [← hv_wt0] at h
  have e : nxS ws (hvAt ws n F most k).2.1 (most - (hvAt ws n F most k).2.2) (sideL (parts n (hvAt ws n F most k).1) 1 n) = hvNx ws n most (hvAt ws n F most k) := by
    unfold hvNx nxF
    rw [parts_length]
  rw [e] at h
  rw [h]
  by_cases hn : (hvNx ws n most (hvAt ws n F most k)).2 = true
  · rw [if_pos hn, if_pos (by omega), Int.toNat_natCast, hv_step hn, parts_upd]
  · rw [if_neg hn, if_neg (by omega), hv_stay hn 1]
end Go.Proofs.Ytepmgjohjeiopaa

namespace Go.Proofs.Ytepmgjohjeiopaa
open Go.RowKit Go.Shelf Rk

/-- A row of parts that a walk owns. -/
structure PtR (w1 : World) (ad : Addr) (b n : Nat) (ms : List Int) (W : World) : Prop where
  ints : IntsAt .i64 W.heap.size W (some ad) b 0 n ms
  own : n = 0 ∨ ∃ cur, W.heap[b]? = some (.cells cur 3 (0, 0))
  new : n = 0 ∨ w1.heap.size ≤ b
  below : Below w1.heap.size w1 W
theorem PtR.on {w1 : World} {ad : Addr} {b n : Nat} {ms : List Int} {W W' : World} (h : PtR w1 ad b n ms W) (hb : Below W.heap.size W W') : PtR w1 ad b n ms W' :=
  ⟨(h.ints.kept hb (Nat.le_refl _)).mono hb.size, h.own.imp id (fun ⟨cur, hc⟩ => ⟨cur, heap_below hc hb (heap_lt hc)⟩), h.new, h.below.trans (hb.mono h.below.size)⟩
theorem PtR.set {w1 : World} {ad : Addr} {b n : Nat} {ms : List Int} {W : World} (h : PtR w1 ad b n ms W) {i : Nat} (hi : i < n) {v : Int} (hv : (Lit.int .i64 v).wf = true) : PtR w1 ad b n (ms.set i v) (W.setCell ⟨b, i, none⟩ (.int .i64 v)) := by
  obtain ⟨cur, hc⟩ := h.own.resolve_left (by omega)
  exact ⟨h.ints.set hc hi hv, .inr ⟨_, heap_set hc i (.int .i64 v)⟩, h.new, h.below.setCell (p := ⟨b, i, none⟩) (h.new.resolve_left (by omega)) _⟩
theorem below_drawn (w : World) (nq : Nat) : Below w.heap.size w (w.drewN nq) := ⟨rfl, rfl, rfl, Nat.le_refl _, fun _ _ => rfl⟩
def ones1 (j : Nat) : List Int := (List.range j).map (fun _ => 1)
theorem ones1_succ (j : Nat) : ones1 (j + 1) = ones1 j ++ [1] := by simp [ones1, List.range_succ]
theorem ones1_length (j : Nat) : (ones1 j).length = j := by simp [ones1]
set_option maxRecDepth 100000 in
set_option maxHeartbeats 8000000 in
theorem xhalve_any {w : World} {X : XD} {lo : Nat} {ws : List Int} {F : Nat → Nat → Int} (h : IsX w X lo ws F) (hw : ∀ x ∈ ws, 1 ≤ x ∧ x ≤ 1099511627776) (hn30 : ws.length ≤ 30) (most : Int) :
    Calls Try.prog 34 #[X.val ws.length, .int .i64 most] w fun e w' => ∃ ad c b', e = .returned (.slice (some ad) ws.length c) ∧ ws.length ≤ c ∧ IntsAt .i64 w'.heap.size w' (some ad) b' 0 ws.length (halveF ws ws.length F most) ∧ Below w.heap.size w w' := by
  have hal : Below w.heap.size w (w.alloc (.cells #[.slice X.wa ws.length X.wc, .slice X.ra ws.length X.rc] 29)) := (Below.refl _ _).alloc (Nat.le_refl _) _
  have hXd : (w.alloc (.cells #[.slice X.wa ws.length X.wc, .slice X.ra ws.length X.rc] 29)).heap[w.heap.size]? = some (.cells #[.slice X.wa ws.length X.wc, .slice X.ra ws.length X.rc] 29 (0, 0)) := heap_new (w := w) _ rfl
  obtain ⟨i0, hi, hz0, hz1, hz2⟩ := info_parts L12.Try.infoInt
  have HI := Lib.hid hi
  have HZ0 := Lib.hid hz0
  have HZ1 := Lib.hid hz1
  have HZ2 := Lib.hid hz2
  have HXD := Lib.hid hXd
  have HA := Lib.hid hal
  have HX := Lib.hid (h.below hal)
  have HW := Lib.hid hw
  have HTb := Lib.hid h.tab
  have HXS := Lib.hid (fun k ms => hv_x (ws := ws) h.tab (most := most) k (ms := ms))
  obtain ⟨n, hnn⟩ : ∃ n, ws.length = n := ⟨_, rfl⟩
  have HN := Lib.hid hnn
  unfold XD.val
  rw [hnn] at HXD HA HX HTb hn30 HXS ⊢
  clear h hal hXd hw hnn hi hz0 hz1 hz2
  go_enter Try.func34, Try.ntmps34
  go_upto_region 1 with fail
  generalize w.alloc (.cells #[.slice X.wa n X.wc, .slice X.ra n X.rc] 29) = w1 at *
  have HC : Hid (∀ W, Below w1.heap.size w1 W → W.cell? ⟨w.heap.size, 0, none⟩ = some (.slice X.wa n X.wc) ∧ W.cell? ⟨w.heap.size, 1, none⟩ = some (.slice X.ra n X.rc)) := Lib.hid (fun W hW => ⟨heap_cell (heap_below HXD.out hW (heap_lt HXD.out)) rfl, heap_cell (heap_below HXD.out hW (heap_lt HXD.out)) rfl⟩)
  go_wp2
  go_loopw [5, 6] (fun v i wr => ∃ (j : Nat) (bt : Option Nat) (ad : Addr) (ct : Nat), j ≤ n ∧ i = .int .i64 j ∧ v = .slice (some ad) j ct ∧ Hid (GB wr w1.heap.size 3 1 v j (L12.ints (ones1 j)) bt) ∧ Hid (Below w1.heap.size w1 wr)) (fun _ i _ => n - (intOf i).toNat)
  case atStart => exact ⟨0, none, _, _, Nat.zero_le _, rfl, rfl, Lib.hid (gb_nil _ _ _ _ _), Lib.hid ((Below.refl _ _).alloc (Nat.le_refl _) _)⟩
  case round =>
    obtain ⟨j, bt, ad, ct1, hj, rfl, rfl, HG, HB⟩ := hrel
    have zr := HB.out.size
    obtain ⟨c0, c1⟩ := HC.out _ HB.out
    by_cases hlt : j < n
    · have hjn : (j : Int) < (n : Int) := by omega
      go_wp2_with (at_builtin; refine wpList_append_GB _ rfl _ _ 24 rfl w1.heap.size 3 i0 (.int .i64 0) 1 8 Try.underlying24 HI.out HZ0.out HZ1.out HZ2.out rfl (by decide) _ _ _ bt rfl (HG.out.alloc _) ⟨wr.heap.size, 0, none⟩ 1 1 [.int .i64 1] rfl rfl (cell_one _ _ _) (one_val rfl) (by decide) (by unfold maxLen; omega) (by omega) (by simp; omega) ?_; intro g5 cap5 w5 row5 hG5 hg5 hr5 hw5; have HG5 := Lib.hid hG5; have HB5 : Hid (Below w1.heap.size w1 w5) := Lib.hid ((HB.out.alloc zr _).grown hg5 (by simp; omega) (fun q e => by rcases hr5 with hr5 | hr5; (· rw [hr5] at e; cases e); (· have := HG.out.lt q (by rw [← hr5]; exact e); omega))); clear hG5 hg5 hr5 hw5 HG)
      go_roundw
      case rel => exact ⟨j + 1, some g5, ⟨g5, 0, none⟩, cap5, by omega, by go_num, rfl, Lib.hid (by rw [ones1_succ, L12.ints_snoc]; exact HG5.out), HB5⟩
      case measure => simp [intOf]; omega
    · obtain rfl : j = n := by omega
      have hwf : ∀ x ∈ ones1 j, (Lit.int .i64 x).wf = true := fun x hx => by
        obtain ⟨_, _, rfl⟩ := List.mem_map.1 hx
        decide
      have hPt : ∃ b, PtR w1 ad b j (ones1 j) wr ∧ j ≤ ct1 := by
        obtain ⟨at3, ct3, bt3, et, hc3, _, _, _⟩ := Gath.ints (k := .i64) HG.out.gath (ones1_length j) hwf
        cases et
        by_cases h0 : j = 0
        · exact ⟨0, ⟨⟨.inl h0, ones1_length j, by unfold maxLen; omega, .inl h0, fun i hi => absurd hi (by omega), hwf⟩, .inl h0, .inl h0, HB.out⟩, hc3⟩
        · rcases HG.out with ⟨_, hb2, _⟩ | ⟨g, _, _, hb3⟩
          · exact absurd hb2 h0
          · obtain ⟨g', cap, cur, hv, hg1, hg2, hg3⟩ := own_ints hb3 (ones1_length j) hwf (by omega)
            cases hv
            exact ⟨g', ⟨hg3, .inr ⟨cur, hg2⟩, .inr hg1, HB.out⟩, hc3⟩
      obtain ⟨pb, hPt, hct⟩ := hPt
      have HP : Hid (PtR w1 ad pb j (parts j (hvAt ws j F most 0).1) wr) := Lib.hid hPt
      clear HG HB zr hPt hwf
      rename World => wA
      go_wp2
      go_loopw [7] (fun i wr => ∃ k : Nat, k ≤ j ∧ i = .int .i64 k ∧ Hid (PtR w1 ad pb j (parts j (hvAt ws j F most k).1) wr)) (fun i _ => j - (intOf i).toNat)
      case atStart => exact ⟨0, Nat.zero_le _, rfl, HP⟩
      case round =>
        clear HP c0 c1
        obtain ⟨k, hk, rfl, HP⟩ := hrel
        rename World => wo
        obtain ⟨c0, c1⟩ := HC.out _ HP.out.below
        by_cases hlt : k < j
        · have hkn : (k : Int) < (j : Int) := by omega
          obtain ⟨ms, hms⟩ : ∃ ms, parts j (hvAt ws j F most k).1 = ms := ⟨_, rfl⟩
          have HXk := Lib.hid (HXS.out k ms hms)
          rw [hms] at HP
          clear hms
          go_wp2
          go_loopw [8, 9] (fun av i wr => ∃ q : Nat, q ≤ j ∧ i = .int .i64 q ∧ av = .int .i64 (xatF ws j F most ms q) ∧ Hid (Below wo.heap.size wo wr)) (fun _ i _ => j - (intOf i).toNat)
          case atStart => exact ⟨0, Nat.zero_le _, rfl, rfl, Lib.hid (Below.refl _ _)⟩
          case round =>
            clear c0 c1
            obtain ⟨q, hq, rfl, rfl, HQ⟩ := hrel
            rename World => wi
            have HPi := Lib.hid (HP.out.on HQ.out)
            have hxl := xat_lt ws j F most ms q
            by_cases hltq : q < j
            · have hqn : (q : Int) < (j : Int) := by omega
              obtain ⟨c0, c1⟩ := HC.out _ HPi.out.below
              have cq := HPi.out.ints.cell q hltq
              have hXi := HX.out.below HPi.out.below
              have cx := hXi.ints.cell q (by rw [HN.out]; exact hltq)
              have ea := hXi.ints.addr.resolve_left (by rw [HN.out]; omega)
              have ead := HPi.out.ints.addr.resolve_left (by omega)
              cases ead
              rw [Nat.zero_add] at cq cx
              rw [ea] at c0
              have CW : Hid (∀ W, Below wi.heap.size wi W → Calls Try.prog 67 #[.agg #[.slice (some ⟨X.wb, 0, none⟩) j X.wc, .slice X.ra j X.rc], .slice (some ⟨pb, 0, none⟩) j ct1] W (fun e w' => e = .returned (.int .i64 (wt0 ws ms j)) ∧ Below wi.heap.size wi w')) := Lib.hid (fun W hW => by
                have h := xweight0_any (cap := ct1) (hXi.below hW) HW.out (by rw [HN.out]; exact hn30) ((HPi.out.ints.kept hW (Nat.le_refl _)).mono hW.size) (Nat.le_refl _) HN.out.symm
                unfold XD.val at h
                rw [HN.out, ea] at h
                exact h.mono (fun e w' ⟨he, hb⟩ => ⟨he, hW.trans (hb.mono hW.size)⟩))
              have CP : Hid (∀ i : Nat, i < j → ∀ W, Below wi.heap.size wi W → Calls Try.prog 31 #[.agg #[.slice (some ⟨X.wb, 0, none⟩) j X.wc, .slice X.ra j X.rc], .slice (some ⟨pb, 0, none⟩) j ct1, .int .i64 (i : Int)] W (fun e w' => e = .returned (.int .i64 (pullF j F ms i)) ∧ Below wi.heap.size wi w')) := Lib.hid (fun i hi W hW => by
                have h := xpull_any (cap := ct1) (hXi.below hW) (by rw [HN.out]; exact hn30) ((HPi.out.ints.kept hW (Nat.le_refl _)).mono hW.size) (Nat.le_refl _) HN.out.symm (i := i) (by rw [HN.out]; exact hi)
                unfold XD.val at h
                rw [HN.out, ea] at h
                exact h.mono (fun e w' ⟨he, hb⟩ => ⟨he, hW.trans (hb.mono hW.size)⟩))
              have hb1 := wt0_bd HW.out ms j (by rw [HN.out]; exact Nat.le_refl _)
              have hx := getD_wts HW.out (k := q) (by rw [HN.out]; exact hltq)
              have HS : Hid (xatF ws j F most ms (q + 1) = if ms.getD q 0 = 1 ∧ wt0 ws ms j + ws.getD q 0 ≤ most ∧ (xatF ws j F most ms q < 0 ∨ pullF j F ms (xatF ws j F most ms q).toNat < pullF j F ms q) then (q : Int) else xatF ws j F most ms q) := Lib.hid rfl
              have HK : Hid (∀ W, Below wi.heap.size wi W → W.cell? ⟨w.heap.size, 0, none⟩ = some (.slice (some ⟨X.wb, 0, none⟩) j X.wc) ∧ W.cell? ⟨w.heap.size, 1, none⟩ = some (.slice X.ra j X.rc) ∧ W.cell? ⟨pb, q, none⟩ = some (.int .i64 (ms.getD q 0)) ∧ W.cell? ⟨X.wb, q, none⟩ = some (.int .i64 (ws.getD q 0)) ∧ Hid (Below wi.heap.size wi W)) := Lib.hid (fun W hW => by
                obtain ⟨k0, k1⟩ := HC.out _ (HPi.out.on hW).below
                rw [ea] at k0
                have k2 := (HPi.out.ints.kept hW (Nat.le_refl _)).cell q hltq
                have k3 := (hXi.ints.kept hW (Nat.le_refl _)).cell q (by rw [HN.out]; exact hltq)
                rw [Nat.zero_add] at k2 k3
                exact ⟨k0, k1, k2, k3, Lib.hid hW⟩)
              have CPq := Lib.hid (CP.out q hltq)
              have CPa : Hid (∀ i : Nat, xatF ws j F most ms q = (i : Int) → ∀ W, Below wi.heap.size wi W → Calls Try.prog 31 #[.agg #[.slice (some ⟨X.wb, 0, none⟩) j X.wc, .slice X.ra j X.rc], .slice (some ⟨pb, 0, none⟩) j ct1, .int .i64 (i : Int)] W (fun e w' => e = .returned (.int .i64 (pullF j F ms (xatF ws j F most ms q).toNat)) ∧ Below wi.heap.size wi w')) := Lib.hid (fun i hi W hW => by
                rw [hi, Int.toNat_natCast]
                exact CP.out i (by omega) W hW)
              clear hXi ea CP
              generalize xatF ws j F most ms q = A at *
              generalize pullF j F ms A.toNat = pa at *
              generalize pullF j F ms q = pq at *
              generalize wt0 ws ms j = W0 at *
              generalize ms.getD q 0 = y at *
              generalize ws.getD q 0 = x at *
              obtain ⟨res, hres⟩ : ∃ r, decide (y = 1 ∧ W0 + x ≤ most ∧ (A < 0 ∨ pa < pq)) = r := ⟨_, rfl⟩
              have hwr : IntKind.i64.wrap (W0 + x) = W0 + x := IntWalk.i64_in _ (by omega)
              have HHres := Lib.hid hres
              clear hres hb1 hx
              go_upto_region 13 with fail
              go_cut [66] from 34 to 66 (fun s66 wx => s66 = .bool res ∧ Hid (Below wi.heap.size wi wx))
              case first =>
                by_cases hy : y = 1
                · have d1 : (y == 1) = true := by simpa using hy
                  by_cases hr : W0 + x ≤ most
                  · have d2 : decide (W0 + x ≤ most) = true := by simpa using hr
                    by_cases hA : A < 0
                    · have d3 : decide (A < 0) = true := by simpa using hA
                      have hres : res = true := by rw [← HHres.out]; exact decide_eq_true ⟨hy, hr, .inl hA⟩
                      clear hy hr hA hxl CPq CPa HS HHres
                      refine wp_region_held_drew (S := (fun w' => w'.cell? ⟨w.heap.size, 0, none⟩ = some (.slice (some ⟨X.wb, 0, none⟩) j X.wc) ∧ w'.cell? ⟨w.heap.size, 1, none⟩ = some (.slice X.ra j X.rc) ∧ w'.cell? ⟨pb, q, none⟩ = some (.int .i64 y) ∧ w'.cell? ⟨X.wb, q, none⟩ = some (.int .i64 x) ∧ Hid (Below wi.heap.size wi w'))) (by kernel_rfl) ?_ (fun hHeld => ?_)
                      · exact HK.out _ (Below.refl _ _).drew
                      refine wpAnyH_take (i := 0) (oi := { dst := some 34, op := Op.move (Operand.tmp 5), type := 24, pos := "ref.go:37", after := #[], guard := none }) (v := ?_) rfl (by kernel_rfl) (by kernel_rfl) (by kernel_rfl) (fun _ _ _ h => h) (Or.inl ⟨by rfl, ?_⟩) (by assumption) ?_
                      rotate_left
                      · (intro W hSw; (try dsimp only at hSw); go_simp; try with_reducible rfl)
                      try simp only [Act.put, List.setIfInBounds_toArray, List.set_cons_zero, List.set_cons_succ]
                      refine wpAnyH_take (i := 1) (oi := { dst := some 35, op := Op.move (Operand.tmp 9), type := 3, pos := "ref.go:37", after := #[], guard := none }) (v := ?_) rfl (by kernel_rfl) (by kernel_rfl) (by kernel_rfl) (fun _ _ _ h => h) (Or.inl ⟨by rfl, ?_⟩) (by assumption) ?_
                      rotate_left
                      · (intro W hSw; (try dsimp only at hSw); go_simp; try with_reducible rfl)
                      try simp only [Act.put, List.setIfInBounds_toArray, List.set_cons_zero, List.set_cons_succ]
                      refine wpAnyH_take (i := 2) (oi := { dst := some 36, op := Op.indexAddr 24 (Operand.tmp 34) (Operand.tmp 35), type := 0, pos := "ref.go:37", after := #[{ on := 0, ground := Ground.data }, { on := 1, ground := Ground.data }], guard := none }) (v := ?_) rfl (by kernel_rfl) (by kernel_rfl) (by kernel_rfl) (fun _ _ _ h => h) (Or.inl ⟨by rfl, ?_⟩) (by assumption) ?_
                      rotate_left
                      · (intro W hSw; (try dsimp only at hSw); go_simp; try with_reducible rfl)
                      try simp only [Act.put, List.setIfInBounds_toArray, List.set_cons_zero, List.set_cons_succ]
                      refine wpAnyH_take (i := 3) (oi := { dst := some 37, op := Op.load 3 (Operand.tmp 36), type := 3, pos := "ref.go:37", after := #[{ on := 2, ground := Ground.data }], guard := none }) (v := ?_) rfl (by kernel_rfl) (by kernel_rfl) (by kernel_rfl) (fun _ _ _ h => h) (Or.inl ⟨by rfl, ?_⟩) (by assumption) ?_
                      rotate_left
                      · (intro W hSw; (try dsimp only at hSw); go_simp; try with_reducible rfl)
                      try simp only [Act.put, List.setIfInBounds_toArray, List.set_cons_zero, List.set_cons_succ]
                      refine wpAnyH_take (i := 4) (oi := { dst := some 38, op := Op.binOp BinOp.eql 3 (Operand.tmp 37) (Operand.const (Value.int IntKind.i64 1)) 3, type := 4, pos := "ref.go:37", after := #[{ on := 3, ground := Ground.data }], guard := none }) (v := ?_) rfl (by kernel_rfl) (by kernel_rfl) (by kernel_rfl) (fun _ _ _ h => h) (Or.inl ⟨by rfl, ?_⟩) (by assumption) ?_
                      rotate_left
                      · (intro W hSw; (try dsimp only at hSw); go_simp; try with_reducible rfl)
                      try simp only [Act.put, List.setIfInBounds_toArray, List.set_cons_zero, List.set_cons_succ]
                      refine wpAnyH_take (i := 5) (oi := { dst := some 39, op := Op.move (Operand.tmp 38), type := 4, pos := "ref.go:37", after := #[{ on := 4, ground := Ground.data }], guard := none }) (v := ?_) rfl (by kernel_rfl) (by kernel_rfl) (by kernel_rfl) (fun _ _ _ h => h) (Or.inl ⟨by rfl, ?_⟩) (by assumption) ?_
                      rotate_left
                      · (intro W hSw; (try dsimp only at hSw); go_simp; try with_reducible rfl)
                      try simp only [Act.put, List.setIfInBounds_toArray, List.set_cons_zero, List.set_cons_succ]
                      refine wpAnyH_take (i := 6) (oi := { dst := some 40, op := Op.load 29 (Operand.tmp 2), type := 29, pos := "ref.go:37", after := #[{ on := 5, ground := Ground.guard }], guard := some (5, true) }) (v := ?_) rfl (by kernel_rfl) (by kernel_rfl) (by kernel_rfl) (fun _ _ _ h => h) (Or.inl ⟨by rfl, ?_⟩) (by assumption) ?_
                      rotate_left
                      · (intro W hSw; (try dsimp only at hSw); go_simp; try with_reducible rfl)
                      try simp only [Act.put, List.setIfInBounds_toArray, List.set_cons_zero, List.set_cons_succ]
                      refine wpAnyH_take (i := 7) (oi := { dst := some 41, op := Op.move (Operand.tmp 5), type := 24, pos := "ref.go:37", after := #[{ on := 5, ground := Ground.guard }], guard := some (5, true) }) (v := ?_) rfl (by kernel_rfl) (by kernel_rfl) (by kernel_rfl) (fun _ _ _ h => h) (Or.inl ⟨by rfl, ?_⟩) (by assumption) ?_
                      rotate_left
                      · (intro W hSw; (try dsimp only at hSw); go_simp; try with_reducible rfl)
                      try simp only [Act.put, List.setIfInBounds_toArray, List.set_cons_zero, List.set_cons_succ]
                      refine wpAnyH_take (i := 9) (oi := { dst := some 43, op := Op.fieldAddr 29 (Operand.tmp 2) 0, type := 0, pos := "ref.go:37", after := #[{ on := 5, ground := Ground.guard }], guard := some (5, true) }) (v := ?_) rfl (by kernel_rfl) (by kernel_rfl) (by kernel_rfl) (fun _ _ _ h => h) (Or.inl ⟨by rfl, ?_⟩) (by assumption) ?_
                      rotate_left
                      · (intro W hSw; (try dsimp only at hSw); go_simp; try with_reducible rfl)
                      try simp only [Act.put, List.setIfInBounds_toArray, List.set_cons_zero, List.set_cons_succ]
                      refine wpAnyH_take (i := 10) (oi := { dst := some 44, op := Op.load 22 (Operand.tmp 43), type := 22, pos := "ref.go:37", after := #[{ on := 9, ground := Ground.data }, { on := 5, ground := Ground.guard }], guard := some (5, true) }) (v := ?_) rfl (by kernel_rfl) (by kernel_rfl) (by kernel_rfl) (fun _ _ _ h => h) (Or.inl ⟨by rfl, ?_⟩) (by assumption) ?_
                      rotate_left
                      · (intro W hSw; (try dsimp only at hSw); go_simp; try with_reducible rfl)
                      try simp only [Act.put, List.setIfInBounds_toArray, List.set_cons_zero, List.set_cons_succ]
                      refine wpAnyH_take (i := 11) (oi := { dst := some 45, op := Op.move (Operand.tmp 9), type := 3, pos := "ref.go:37", after := #[{ on := 5, ground := Ground.guard }], guard := some (5, true) }) (v := ?_) rfl (by kernel_rfl) (by kernel_rfl) (by kernel_rfl) (fun _ _ _ h => h) (Or.inl ⟨by rfl, ?_⟩) (by assumption) ?_
                      rotate_left
                      · (intro W hSw; (try dsimp only at hSw); go_simp; try with_reducible rfl)
                      try simp only [Act.put, List.setIfInBounds_toArray, List.set_cons_zero, List.set_cons_succ]
                      refine wpAnyH_take (i := 12) (oi := { dst := some 46, op := Op.indexAddr 22 (Operand.tmp 44) (Operand.tmp 45), type := 0, pos := "ref.go:37", after := #[{ on := 10, ground := Ground.data }, { on := 11, ground := Ground.data }, { on := 5, ground := Ground.guard }], guard := some (5, true) }) (v := ?_) rfl (by kernel_rfl) (by kernel_rfl) (by kernel_rfl) (fun _ _ _ h => h) (Or.inl ⟨by rfl, ?_⟩) (by assumption) ?_
                      rotate_left
                      · (intro W hSw; (try dsimp only at hSw); go_simp; try with_reducible rfl)
                      try simp only [Act.put, List.setIfInBounds_toArray, List.set_cons_zero, List.set_cons_succ]
                      refine wpAnyH_take (i := 13) (oi := { dst := some 47, op := Op.load 2 (Operand.tmp 46), type := 2, pos := "ref.go:37", after := #[{ on := 12, ground := Ground.data }, { on := 5, ground := Ground.guard }], guard := some (5, true) }) (v := ?_) rfl (by kernel_rfl) (by kernel_rfl) (by kernel_rfl) (fun _ _ _ h => h) (Or.inl ⟨by rfl, ?_⟩) (by assumption) ?_
                      rotate_left
                      · (intro W hSw; (try dsimp only at hSw); go_simp; try with_reducible rfl)
                      try simp only [Act.put, List.setIfInBounds_toArray, List.set_cons_zero, List.set_cons_succ]
                      refine wpAnyH_take (i := 15) (oi := { dst := some 49, op := Op.move (Operand.tmp 1), type := 2, pos := "ref.go:37", after := #[{ on := 5, ground := Ground.guard }], guard := some (5, true) }) (v := ?_) rfl (by kernel_rfl) (by kernel_rfl) (by kernel_rfl) (fun _ _ _ h => h) (Or.inl ⟨by rfl, ?_⟩) (by assumption) ?_
                      rotate_left
                      · (intro W hSw; (try dsimp only at hSw); go_simp; try with_reducible rfl)
                      try simp only [Act.put, List.setIfInBounds_toArray, List.set_cons_zero, List.set_cons_succ]
                      refine wpAnyH_ready (rs := [8]) (by kernel_rfl) (by simp) ?_
                      refine AllReadyH.cons (o := { dst := some 42, op := Op.call { callee := Callee.value (Operand.func 67), args := #[Operand.tmp 40, Operand.tmp 41], argTypes := #[29, 24] }, type := 2, pos := "ref.go:37", after := #[{ on := 6, ground := Ground.data }, { on := 7, ground := Ground.data }, { on := 5, ground := Ground.chain }, { on := 5, ground := Ground.guard }], guard := some (5, true) }) rfl (fun K hK => ?_) AllReadyH.nil
                      go_simp
                      go_at_call 67
                      refine (CW.out _ (Below.refl _ _).drew).mono ?_
                      clear CW
                      rintro e u1 ⟨rfl, hb⟩
                      have hB1 := Lib.hid hb
                      clear hb
                      refine hK.out _ _ ?_ (fun hHeld => ?_)
                      · exact HK.out _ hB1.out
                      clear hK K
                      try simp only [Act.put, List.setIfInBounds_toArray, List.set_cons_zero, List.set_cons_succ]
                      refine wpAnyH_take (i := 14) (oi := { dst := some 48, op := Op.binOp BinOp.add 2 (Operand.tmp 42) (Operand.tmp 47) 2, type := 2, pos := "ref.go:37", after := #[{ on := 8, ground := Ground.data }, { on := 13, ground := Ground.data }, { on := 5, ground := Ground.guard }], guard := some (5, true) }) (v := ?_) rfl (by kernel_rfl) (by kernel_rfl) (by kernel_rfl) (fun _ _ _ h => h) (Or.inl ⟨by rfl, ?_⟩) (by assumption) ?_
                      rotate_left
                      · (intro W hSw; (try dsimp only at hSw); go_simp; try with_reducible rfl)
                      try simp only [Act.put, List.setIfInBounds_toArray, List.set_cons_zero, List.set_cons_succ]
                      refine wpAnyH_take (i := 16) (oi := { dst := some 50, op := Op.binOp BinOp.leq 2 (Operand.tmp 48) (Operand.tmp 49) 2, type := 4, pos := "ref.go:37", after := #[{ on := 14, ground := Ground.data }, { on := 15, ground := Ground.data }, { on := 5, ground := Ground.guard }], guard := some (5, true) }) (v := ?_) rfl (by kernel_rfl) (by kernel_rfl) (by kernel_rfl) (fun _ _ _ h => h) (Or.inl ⟨by rfl, ?_⟩) (by assumption) ?_
                      rotate_left
                      · (intro W hSw; (try dsimp only at hSw); go_simp; try with_reducible rfl)
                      try simp only [Act.put, List.setIfInBounds_toArray, List.set_cons_zero, List.set_cons_succ]
                      refine wpAnyH_take (i := 17) (oi := { dst := some 51, op := Op.pick (Operand.tmp 39) (Operand.tmp 50) (Operand.const (Value.bool false)), type := 4, pos := "ref.go:37", after := #[{ on := 5, ground := Ground.data }, { on := 16, ground := Ground.data }], guard := none }) (v := ?_) rfl (by kernel_rfl) (by kernel_rfl) (by kernel_rfl) (fun _ _ _ h => h) (Or.inl ⟨by rfl, ?_⟩) (by assumption) ?_
                      rotate_left
                      · (intro W hSw; (try dsimp only at hSw); go_simp; try with_reducible rfl)
                      try simp only [Act.put, List.setIfInBounds_toArray, List.set_cons_zero, List.set_cons_succ]
                      refine wpAnyH_take (i := 18) (oi := { dst := some 52, op := Op.move (Operand.tmp 51), type := 4, pos := "ref.go:37", after := #[{ on := 17, ground := Ground.data }, { on := 8, ground := Ground.chain }], guard := none }) (v := ?_) rfl (by kernel_rfl) (by kernel_rfl) (by kernel_rfl) (fun _ _ _ h => h) (Or.inl ⟨by rfl, ?_⟩) (by assumption) ?_
                      rotate_left
                      · (intro W hSw; (try dsimp only at hSw); go_simp; try with_reducible rfl)
                      try simp only [Act.put, List.setIfInBounds_toArray, List.set_cons_zero, List.set_cons_succ]
                      refine wpAnyH_take (i := 19) (oi := { dst := some 53, op := Op.move (Operand.tmp 8), type := 3, pos := "ref.go:37", after := #[{ on := 18, ground := Ground.guard }], guard := some (18, true) }) (v := ?_) rfl (by kernel_rfl) (by kernel_rfl) (by kernel_rfl) (fun _ _ _ h => h) (Or.inl ⟨by rfl, ?_⟩) (by assumption) ?_
                      rotate_left
                      · (intro W hSw; (try dsimp only at hSw); go_simp; try with_reducible rfl)
                      try simp only [Act.put, List.setIfInBounds_toArray, List.set_cons_zero, List.set_cons_succ]
                      refine wpAnyH_take (i := 20) (oi := { dst := some 54, op := Op.binOp BinOp.lss 3 (Operand.tmp 53) (Operand.const (Value.int IntKind.i64 0)) 3, type := 4, pos := "ref.go:37", after := #[{ on := 19, ground := Ground.data }, { on := 18, ground := Ground.guard }], guard := some (18, true) }) (v := ?_) rfl (by kernel_rfl) (by kernel_rfl) (by kernel_rfl) (fun _ _ _ h => h) (Or.inl ⟨by rfl, ?_⟩) (by assumption) ?_
                      rotate_left
                      · (intro W hSw; (try dsimp only at hSw); go_simp; try with_reducible rfl)
                      try simp only [Act.put, List.setIfInBounds_toArray, List.set_cons_zero, List.set_cons_succ]
                      refine wpAnyH_take (i := 21) (oi := { dst := some 55, op := Op.move (Operand.tmp 54), type := 4, pos := "ref.go:37", after := #[{ on := 20, ground := Ground.data }, { on := 18, ground := Ground.chain }, { on := 18, ground := Ground.guard }], guard := some (18, true) }) (v := ?_) rfl (by kernel_rfl) (by kernel_rfl) (by kernel_rfl) (fun _ _ _ h => h) (Or.inl ⟨by rfl, ?_⟩) (by assumption) ?_
                      rotate_left
                      · (intro W hSw; (try dsimp only at hSw); go_simp; try with_reducible rfl)
                      try simp only [Act.put, List.setIfInBounds_toArray, List.set_cons_zero, List.set_cons_succ]
                      refine wpAnyH_take (i := 22) (oi := { dst := some 56, op := Op.load 29 (Operand.tmp 2), type := 29, pos := "ref.go:37", after := #[{ on := 21, ground := Ground.guard }], guard := some (21, false) }) (v := undef) rfl (by kernel_rfl) (by kernel_rfl) (by kernel_rfl) (fun _ _ _ h => h) (Or.inr ⟨by rfl, rfl⟩) (by assumption) ?_
                      try simp only [Act.put, List.setIfInBounds_toArray, List.set_cons_zero, List.set_cons_succ]
                      refine wpAnyH_take (i := 23) (oi := { dst := some 57, op := Op.move (Operand.tmp 5), type := 24, pos := "ref.go:37", after := #[{ on := 21, ground := Ground.guard }], guard := some (21, false) }) (v := undef) rfl (by kernel_rfl) (by kernel_rfl) (by kernel_rfl) (fun _ _ _ h => h) (Or.inr ⟨by rfl, rfl⟩) (by assumption) ?_
                      try simp only [Act.put, List.setIfInBounds_toArray, List.set_cons_zero, List.set_cons_succ]
                      refine wpAnyH_take (i := 24) (oi := { dst := some 58, op := Op.move (Operand.tmp 9), type := 3, pos := "ref.go:37", after := #[{ on := 21, ground := Ground.guard }], guard := some (21, false) }) (v := undef) rfl (by kernel_rfl) (by kernel_rfl) (by kernel_rfl) (fun _ _ _ h => h) (Or.inr ⟨by rfl, rfl⟩) (by assumption) ?_
                      try simp only [Act.put, List.setIfInBounds_toArray, List.set_cons_zero, List.set_cons_succ]
                      refine wpAnyH_take (i := 25) (oi := { dst := some 59, op := Op.call { callee := Callee.value (Operand.func 31), args := #[Operand.tmp 56, Operand.tmp 57, Operand.tmp 58], argTypes := #[29, 24, 3] }, type := 2, pos := "ref.go:37", after := #[{ on := 22, ground := Ground.data }, { on := 23, ground := Ground.data }, { on := 24, ground := Ground.data }, { on := 21, ground := Ground.chain }, { on := 21, ground := Ground.guard }], guard := some (21, false) }) (v := undef) rfl (by kernel_rfl) (by kernel_rfl) (by kernel_rfl) (fun _ _ _ h => h) (Or.inr ⟨by rfl, rfl⟩) (by assumption) ?_
                      try simp only [Act.put, List.setIfInBounds_toArray, List.set_cons_zero, List.set_cons_succ]
                      refine wpAnyH_take (i := 26) (oi := { dst := some 60, op := Op.load 29 (Operand.tmp 2), type := 29, pos := "ref.go:37", after := #[{ on := 21, ground := Ground.guard }], guard := some (21, false) }) (v := undef) rfl (by kernel_rfl) (by kernel_rfl) (by kernel_rfl) (fun _ _ _ h => h) (Or.inr ⟨by rfl, rfl⟩) (by assumption) ?_
                      try simp only [Act.put, List.setIfInBounds_toArray, List.set_cons_zero, List.set_cons_succ]
                      refine wpAnyH_take (i := 27) (oi := { dst := some 61, op := Op.move (Operand.tmp 5), type := 24, pos := "ref.go:37", after := #[{ on := 21, ground := Ground.guard }], guard := some (21, false) }) (v := undef) rfl (by kernel_rfl) (by kernel_rfl) (by kernel_rfl) (fun _ _ _ h => h) (Or.inr ⟨by rfl, rfl⟩) (by assumption) ?_
                      try simp only [Act.put, List.setIfInBounds_toArray, List.set_cons_zero, List.set_cons_succ]
                      refine wpAnyH_take (i := 28) (oi := { dst := some 62, op := Op.move (Operand.tmp 8), type := 3, pos := "ref.go:37", after := #[{ on := 21, ground := Ground.guard }], guard := some (21, false) }) (v := undef) rfl (by kernel_rfl) (by kernel_rfl) (by kernel_rfl) (fun _ _ _ h => h) (Or.inr ⟨by rfl, rfl⟩) (by assumption) ?_
                      try simp only [Act.put, List.setIfInBounds_toArray, List.set_cons_zero, List.set_cons_succ]
                      refine wpAnyH_take (i := 29) (oi := { dst := some 63, op := Op.call { callee := Callee.value (Operand.func 31), args := #[Operand.tmp 60, Operand.tmp 61, Operand.tmp 62], argTypes := #[29, 24, 3] }, type := 2, pos := "ref.go:37", after := #[{ on := 26, ground := Ground.data }, { on := 27, ground := Ground.data }, { on := 28, ground := Ground.data }, { on := 25, ground := Ground.chain }, { on := 21, ground := Ground.guard }], guard := some (21, false) }) (v := undef) rfl (by kernel_rfl) (by kernel_rfl) (by kernel_rfl) (fun _ _ _ h => h) (Or.inr ⟨by rfl, rfl⟩) (by assumption) ?_
                      try simp only [Act.put, List.setIfInBounds_toArray, List.set_cons_zero, List.set_cons_succ]
                      refine wpAnyH_take (i := 30) (oi := { dst := some 64, op := Op.binOp BinOp.gtr 2 (Operand.tmp 59) (Operand.tmp 63) 2, type := 4, pos := "ref.go:37", after := #[{ on := 25, ground := Ground.data }, { on := 29, ground := Ground.data }, { on := 21, ground := Ground.guard }], guard := some (21, false) }) (v := undef) rfl (by kernel_rfl) (by kernel_rfl) (by kernel_rfl) (fun _ _ _ h => h) (Or.inr ⟨by rfl, rfl⟩) (by assumption) ?_
                      try simp only [Act.put, List.setIfInBounds_toArray, List.set_cons_zero, List.set_cons_succ]
                      refine wpAnyH_take (i := 31) (oi := { dst := some 65, op := Op.pick (Operand.tmp 55) (Operand.const (Value.bool true)) (Operand.tmp 64), type := 4, pos := "ref.go:37", after := #[{ on := 21, ground := Ground.data }, { on := 30, ground := Ground.data }, { on := 18, ground := Ground.guard }], guard := some (18, true) }) (v := ?_) rfl (by kernel_rfl) (by kernel_rfl) (by kernel_rfl) (fun _ _ _ h => h) (Or.inl ⟨by rfl, ?_⟩) (by assumption) ?_
                      rotate_left
                      · (intro W hSw; (try dsimp only at hSw); go_simp; try with_reducible rfl)
                      try simp only [Act.put, List.setIfInBounds_toArray, List.set_cons_zero, List.set_cons_succ]
                      refine wpAnyH_take (i := 32) (oi := { dst := some 66, op := Op.pick (Operand.tmp 52) (Operand.tmp 65) (Operand.const (Value.bool false)), type := 4, pos := "ref.go:37", after := #[{ on := 18, ground := Ground.data }, { on := 31, ground := Ground.data }], guard := none }) (v := ?_) rfl (by kernel_rfl) (by kernel_rfl) (by kernel_rfl) (fun _ _ _ h => h) (Or.inl ⟨by rfl, ?_⟩) (by assumption) ?_
                      rotate_left
                      · (intro W hSw; (try dsimp only at hSw); go_simp; try with_reducible rfl)
                      try simp only [Act.put, List.setIfInBounds_toArray, List.set_cons_zero, List.set_cons_succ]
                      refine wpAnyH_done (by kernel_rfl) ?_ _
                      go_wp2_with fail
                      go_meet
                      exact ⟨by rw [hres], hB1⟩
                    · have d3 : decide (A < 0) = false := by simpa using hA
                      obtain ⟨i, hi⟩ : ∃ i : Nat, A = (i : Int) := ⟨A.toNat, by omega⟩
                      have CPA := Lib.hid (CPa.out i hi)
                      clear CPa
                      have hres : res = decide (pa < pq) := by
                        rw [← HHres.out]
                        exact decide_eq_decide.2 ⟨fun h => h.2.2.resolve_left hA, fun h => ⟨hy, hr, .inr h⟩⟩
                      subst hi
                      clear hy hr hA hxl HS HHres
                      cases d4 : decide (pa < pq) with
                      | false =>
                        rw [d4] at hres
                        go_region_held3 (fun w' => w'.cell? ⟨w.heap.size, 0, none⟩ = some (.slice (some ⟨X.wb, 0, none⟩) j X.wc) ∧ w'.cell? ⟨w.heap.size, 1, none⟩ = some (.slice X.ra j X.rc) ∧ w'.cell? ⟨pb, q, none⟩ = some (.int .i64 y) ∧ w'.cell? ⟨X.wb, q, none⟩ = some (.int .i64 x) ∧ Hid (Below wi.heap.size wi w')) (first | exact HK.out _ (Below.refl _ _) | exact HK.out _ (Below.refl _ _).drew | exact HK.out _ hB3.out | exact HK.out _ hB3.out.drew | exact HK.out _ hB2.out | exact HK.out _ hB2.out.drew | exact HK.out _ hB1.out | exact HK.out _ hB1.out.drew) (first
                          | (go_at_call 67; refine (CW.out _ (by first | exact Below.refl _ _ | exact (Below.refl _ _).drew)).mono ?_; clear CW; rintro e u1 ⟨rfl, hb⟩; have hB1 := Lib.hid hb; clear hb)
                          | (go_at_call 31; refine (CPq.out _ (by first | exact hB1.out | exact hB1.out.drew)).mono ?_; clear CPq; rintro e u2 ⟨rfl, hb⟩; have hB2 := Lib.hid hb; clear hb)
                          | (go_at_call 31; refine (CPA.out _ (by first | exact hB2.out | exact hB2.out.drew)).mono ?_; clear CPA; rintro e u3 ⟨rfl, hb⟩; have hB3 := Lib.hid hb; clear hb))
                        all_goals
                          go_wp2_with fail
                          go_meet
                          exact ⟨by rw [hres], by first | exact hB3 | exact Lib.hid hB3.out.drew⟩
                      | true =>
                        rw [d4] at hres
                        go_region_held3 (fun w' => w'.cell? ⟨w.heap.size, 0, none⟩ = some (.slice (some ⟨X.wb, 0, none⟩) j X.wc) ∧ w'.cell? ⟨w.heap.size, 1, none⟩ = some (.slice X.ra j X.rc) ∧ w'.cell? ⟨pb, q, none⟩ = some (.int .i64 y) ∧ w'.cell? ⟨X.wb, q, none⟩ = some (.int .i64 x) ∧ Hid (Below wi.heap.size wi w')) (first | exact HK.out _ (Below.refl _ _) | exact HK.out _ (Below.refl _ _).drew | exact HK.out _ hB3.out | exact HK.out _ hB3.out.drew | exact HK.out _ hB2.out | exact HK.out _ hB2.out.drew | exact HK.out _ hB1.out | exact HK.out _ hB1.out.drew) (first
                          | (go_at_call 67; refine (CW.out _ (by first | exact Below.refl _ _ | exact (Below.refl _ _).drew)).mono ?_; clear CW; rintro e u1 ⟨rfl, hb⟩; have hB1 := Lib.hid hb; clear hb)
                          | (go_at_call 31; refine (CPq.out _ (by first | exact hB1.out | exact hB1.out.drew)).mono ?_; clear CPq; rintro e u2 ⟨rfl, hb⟩; have hB2 := Lib.hid hb; clear hb)
                          | (go_at_call 31; refine (CPA.out _ (by first | exact hB2.out | exact hB2.out.drew)).mono ?_; clear CPA; rintro e u3 ⟨rfl, hb⟩; have hB3 := Lib.hid hb; clear hb))
                        all_goals
                          go_wp2_with fail
                          go_meet
                          exact ⟨by rw [hres], by first | exact hB3 | exact Lib.hid hB3.out.drew⟩
                  · have d2 : decide (W0 + x ≤ most) = false := by simpa using hr
                    have hres : res = false := by rw [← HHres.out]; exact decide_eq_false (fun h => hr h.2.1)
                    clear hy hr hxl CPq CPa HS HHres
                    refine wp_region_held_drew (S := (fun w' => w'.cell? ⟨w.heap.size, 0, none⟩ = some (.slice (some ⟨X.wb, 0, none⟩) j X.wc) ∧ w'.cell? ⟨w.heap.size, 1, none⟩ = some (.slice X.ra j X.rc) ∧ w'.cell? ⟨pb, q, none⟩ = some (.int .i64 y) ∧ w'.cell? ⟨X.wb, q, none⟩ = some (.int .i64 x) ∧ Hid (Below wi.heap.size wi w'))) (by kernel_rfl) ?_ (fun hHeld => ?_)
                    · exact HK.out _ (Below.refl _ _).drew
                    refine wpAnyH_take (i := 0) (oi := { dst := some 34, op := Op.move (Operand.tmp 5), type := 24, pos := "ref.go:37", after := #[], guard := none }) (v := ?_) rfl (by kernel_rfl) (by kernel_rfl) (by kernel_rfl) (fun _ _ _ h => h) (Or.inl ⟨by rfl, ?_⟩) (by assumption) ?_
                    rotate_left
                    · (intro W hSw; (try dsimp only at hSw); go_simp; try with_reducible rfl)
                    try simp only [Act.put, List.setIfInBounds_toArray, List.set_cons_zero, List.set_cons_succ]
                    refine wpAnyH_take (i := 1) (oi := { dst := some 35, op := Op.move (Operand.tmp 9), type := 3, pos := "ref.go:37", after := #[], guard := none }) (v := ?_) rfl (by kernel_rfl) (by kernel_rfl) (by kernel_rfl) (fun _ _ _ h => h) (Or.inl ⟨by rfl, ?_⟩) (by assumption) ?_
                    rotate_left
                    · (intro W hSw; (try dsimp only at hSw); go_simp; try with_reducible rfl)
                    try simp only [Act.put, List.setIfInBounds_toArray, List.set_cons_zero, List.set_cons_succ]
                    refine wpAnyH_take (i := 2) (oi := { dst := some 36, op := Op.indexAddr 24 (Operand.tmp 34) (Operand.tmp 35), type := 0, pos := "ref.go:37", after := #[{ on := 0, ground := Ground.data }, { on := 1, ground := Ground.data }], guard := none }) (v := ?_) rfl (by kernel_rfl) (by kernel_rfl) (by kernel_rfl) (fun _ _ _ h => h) (Or.inl ⟨by rfl, ?_⟩) (by assumption) ?_
                    rotate_left
                    · (intro W hSw; (try dsimp only at hSw); go_simp; try with_reducible rfl)
                    try simp only [Act.put, List.setIfInBounds_toArray, List.set_cons_zero, List.set_cons_succ]
                    refine wpAnyH_take (i := 3) (oi := { dst := some 37, op := Op.load 3 (Operand.tmp 36), type := 3, pos := "ref.go:37", after := #[{ on := 2, ground := Ground.data }], guard := none }) (v := ?_) rfl (by kernel_rfl) (by kernel_rfl) (by kernel_rfl) (fun _ _ _ h => h) (Or.inl ⟨by rfl, ?_⟩) (by assumption) ?_
                    rotate_left
                    · (intro W hSw; (try dsimp only at hSw); go_simp; try with_reducible rfl)
                    try simp only [Act.put, List.setIfInBounds_toArray, List.set_cons_zero, List.set_cons_succ]
                    refine wpAnyH_take (i := 4) (oi := { dst := some 38, op := Op.binOp BinOp.eql 3 (Operand.tmp 37) (Operand.const (Value.int IntKind.i64 1)) 3, type := 4, pos := "ref.go:37", after := #[{ on := 3, ground := Ground.data }], guard := none }) (v := ?_) rfl (by kernel_rfl) (by kernel_rfl) (by kernel_rfl) (fun _ _ _ h => h) (Or.inl ⟨by rfl, ?_⟩) (by assumption) ?_
                    rotate_left
                    · (intro W hSw; (try dsimp only at hSw); go_simp; try with_reducible rfl)
                    try simp only [Act.put, List.setIfInBounds_toArray, List.set_cons_zero, List.set_cons_succ]
                    refine wpAnyH_take (i := 5) (oi := { dst := some 39, op := Op.move (Operand.tmp 38), type := 4, pos := "ref.go:37", after := #[{ on := 4, ground := Ground.data }], guard := none }) (v := ?_) rfl (by kernel_rfl) (by kernel_rfl) (by kernel_rfl) (fun _ _ _ h => h) (Or.inl ⟨by rfl, ?_⟩) (by assumption) ?_
                    rotate_left
                    · (intro W hSw; (try dsimp only at hSw); go_simp; try with_reducible rfl)
                    try simp only [Act.put, List.setIfInBounds_toArray, List.set_cons_zero, List.set_cons_succ]
                    refine wpAnyH_take (i := 6) (oi := { dst := some 40, op := Op.load 29 (Operand.tmp 2), type := 29, pos := "ref.go:37", after := #[{ on := 5, ground := Ground.guard }], guard := some (5, true) }) (v := ?_) rfl (by kernel_rfl) (by kernel_rfl) (by kernel_rfl) (fun _ _ _ h => h) (Or.inl ⟨by rfl, ?_⟩) (by assumption) ?_
                    rotate_left
                    · (intro W hSw; (try dsimp only at hSw); go_simp; try with_reducible rfl)
                    try simp only [Act.put, List.setIfInBounds_toArray, List.set_cons_zero, List.set_cons_succ]
                    refine wpAnyH_take (i := 7) (oi := { dst := some 41, op := Op.move (Operand.tmp 5), type := 24, pos := "ref.go:37", after := #[{ on := 5, ground := Ground.guard }], guard := some (5, true) }) (v := ?_) rfl (by kernel_rfl) (by kernel_rfl) (by kernel_rfl) (fun _ _ _ h => h) (Or.inl ⟨by rfl, ?_⟩) (by assumption) ?_
                    rotate_left
                    · (intro W hSw; (try dsimp only at hSw); go_simp; try with_reducible rfl)
                    try simp only [Act.put, List.setIfInBounds_toArray, List.set_cons_zero, List.set_cons_succ]
                    refine wpAnyH_take (i := 9) (oi := { dst := some 43, op := Op.fieldAddr 29 (Operand.tmp 2) 0, type := 0, pos := "ref.go:37", after := #[{ on := 5, ground := Ground.guard }], guard := some (5, true) }) (v := ?_) rfl (by kernel_rfl) (by kernel_rfl) (by kernel_rfl) (fun _ _ _ h => h) (Or.inl ⟨by rfl, ?_⟩) (by assumption) ?_
                    rotate_left
                    · (intro W hSw; (try dsimp only at hSw); go_simp; try with_reducible rfl)
                    try simp only [Act.put, List.setIfInBounds_toArray, List.set_cons_zero, List.set_cons_succ]
                    refine wpAnyH_take (i := 10) (oi := { dst := some 44, op := Op.load 22 (Operand.tmp 43), type := 22, pos := "ref.go:37", after := #[{ on := 9, ground := Ground.data }, { on := 5, ground := Ground.guard }], guard := some (5, true) }) (v := ?_) rfl (by kernel_rfl) (by kernel_rfl) (by kernel_rfl) (fun _ _ _ h => h) (Or.inl ⟨by rfl, ?_⟩) (by assumption) ?_
                    rotate_left
                    · (intro W hSw; (try dsimp only at hSw); go_simp; try with_reducible rfl)
                    try simp only [Act.put, List.setIfInBounds_toArray, List.set_cons_zero, List.set_cons_succ]
                    refine wpAnyH_take (i := 11) (oi := { dst := some 45, op := Op.move (Operand.tmp 9), type := 3, pos := "ref.go:37", after := #[{ on := 5, ground := Ground.guard }], guard := some (5, true) }) (v := ?_) rfl (by kernel_rfl) (by kernel_rfl) (by kernel_rfl) (fun _ _ _ h => h) (Or.inl ⟨by rfl, ?_⟩) (by assumption) ?_
                    rotate_left
                    · (intro W hSw; (try dsimp only at hSw); go_simp; try with_reducible rfl)
                    try simp only [Act.put, List.setIfInBounds_toArray, List.set_cons_zero, List.set_cons_succ]
                    refine wpAnyH_take (i := 12) (oi := { dst := some 46, op := Op.indexAddr 22 (Operand.tmp 44) (Operand.tmp 45), type := 0, pos := "ref.go:37", after := #[{ on := 10, ground := Ground.data }, { on := 11, ground := Ground.data }, { on := 5, ground := Ground.guard }], guard := some (5, true) }) (v := ?_) rfl (by kernel_rfl) (by kernel_rfl) (by kernel_rfl) (fun _ _ _ h => h) (Or.inl ⟨by rfl, ?_⟩) (by assumption) ?_
                    rotate_left
                    · (intro W hSw; (try dsimp only at hSw); go_simp; try with_reducible rfl)
                    try simp only [Act.put, List.setIfInBounds_toArray, List.set_cons_zero, List.set_cons_succ]
                    refine wpAnyH_take (i := 13) (oi := { dst := some 47, op := Op.load 2 (Operand.tmp 46), type := 2, pos := "ref.go:37", after := #[{ on := 12, ground := Ground.data }, { on := 5, ground := Ground.guard }], guard := some (5, true) }) (v := ?_) rfl (by kernel_rfl) (by kernel_rfl) (by kernel_rfl) (fun _ _ _ h => h) (Or.inl ⟨by rfl, ?_⟩) (by assumption) ?_
                    rotate_left
                    · (intro W hSw; (try dsimp only at hSw); go_simp; try with_reducible rfl)
                    try simp only [Act.put, List.setIfInBounds_toArray, List.set_cons_zero, List.set_cons_succ]
                    refine wpAnyH_take (i := 15) (oi := { dst := some 49, op := Op.move (Operand.tmp 1), type := 2, pos := "ref.go:37", after := #[{ on := 5, ground := Ground.guard }], guard := some (5, true) }) (v := ?_) rfl (by kernel_rfl) (by kernel_rfl) (by kernel_rfl) (fun _ _ _ h => h) (Or.inl ⟨by rfl, ?_⟩) (by assumption) ?_
                    rotate_left
                    · (intro W hSw; (try dsimp only at hSw); go_simp; try with_reducible rfl)
                    try simp only [Act.put, List.setIfInBounds_toArray, List.set_cons_zero, List.set_cons_succ]
                    refine wpAnyH_ready (rs := [8]) (by kernel_rfl) (by simp) ?_
                    refine AllReadyH.cons (o := { dst := some 42, op := Op.call { callee := Callee.value (Operand.func 67), args := #[Operand.tmp 40, Operand.tmp 41], argTypes := #[29, 24] }, type := 2, pos := "ref.go:37", after := #[{ on := 6, ground := Ground.data }, { on := 7, ground := Ground.data }, { on := 5, ground := Ground.chain }, { on := 5, ground := Ground.guard }], guard := some (5, true) }) rfl (fun K hK => ?_) AllReadyH.nil
                    go_simp
                    go_at_call 67
                    refine (CW.out _ (Below.refl _ _).drew).mono ?_
                    clear CW
                    rintro e u1 ⟨rfl, hb⟩
                    have hB1 := Lib.hid hb
                    clear hb
                    refine hK.out _ _ ?_ (fun hHeld => ?_)
                    · exact HK.out _ hB1.out
                    clear hK K
                    try simp only [Act.put, List.setIfInBounds_toArray, List.set_cons_zero, List.set_cons_succ]
                    refine wpAnyH_take (i := 14) (oi := { dst := some 48, op := Op.binOp BinOp.add 2 (Operand.tmp 42) (Operand.tmp 47) 2, type := 2, pos := "ref.go:37", after := #[{ on := 8, ground := Ground.data }, { on := 13, ground := Ground.data }, { on := 5, ground := Ground.guard }], guard := some (5, true) }) (v := ?_) rfl (by kernel_rfl) (by kernel_rfl) (by kernel_rfl) (fun _ _ _ h => h) (Or.inl ⟨by rfl, ?_⟩) (by assumption) ?_
                    rotate_left
                    · (intro W hSw; (try dsimp only at hSw); go_simp; try with_reducible rfl)
                    try simp only [Act.put, List.setIfInBounds_toArray, List.set_cons_zero, List.set_cons_succ]
                    refine wpAnyH_take (i := 16) (oi := { dst := some 50, op := Op.binOp BinOp.leq 2 (Operand.tmp 48) (Operand.tmp 49) 2, type := 4, pos := "ref.go:37", after := #[{ on := 14, ground := Ground.data }, { on := 15, ground := Ground.data }, { on := 5, ground := Ground.guard }], guard := some (5, true) }) (v := ?_) rfl (by kernel_rfl) (by kernel_rfl) (by kernel_rfl) (fun _ _ _ h => h) (Or.inl ⟨by rfl, ?_⟩) (by assumption) ?_
                    rotate_left
                    · (intro W hSw; (try dsimp only at hSw); go_simp; try with_reducible rfl)
                    try simp only [Act.put, List.setIfInBounds_toArray, List.set_cons_zero, List.set_cons_succ]
                    refine wpAnyH_take (i := 17) (oi := { dst := some 51, op := Op.pick (Operand.tmp 39) (Operand.tmp 50) (Operand.const (Value.bool false)), type := 4, pos := "ref.go:37", after := #[{ on := 5, ground := Ground.data }, { on := 16, ground := Ground.data }], guard := none }) (v := ?_) rfl (by kernel_rfl) (by kernel_rfl) (by kernel_rfl) (fun _ _ _ h => h) (Or.inl ⟨by rfl, ?_⟩) (by assumption) ?_
                    rotate_left
                    · (intro W hSw; (try dsimp only at hSw); go_simp; try with_reducible rfl)
                    try simp only [Act.put, List.setIfInBounds_toArray, List.set_cons_zero, List.set_cons_succ]
                    refine wpAnyH_take (i := 18) (oi := { dst := some 52, op := Op.move (Operand.tmp 51), type := 4, pos := "ref.go:37", after := #[{ on := 17, ground := Ground.data }, { on := 8, ground := Ground.chain }], guard := none }) (v := ?_) rfl (by kernel_rfl) (by kernel_rfl) (by kernel_rfl) (fun _ _ _ h => h) (Or.inl ⟨by rfl, ?_⟩) (by assumption) ?_
                    rotate_left
                    · (intro W hSw; (try dsimp only at hSw); go_simp; try with_reducible rfl)
                    try simp only [Act.put, List.setIfInBounds_toArray, List.set_cons_zero, List.set_cons_succ]
                    refine wpAnyH_take (i := 19) (oi := { dst := some 53, op := Op.move (Operand.tmp 8), type := 3, pos := "ref.go:37", after := #[{ on := 18, ground := Ground.guard }], guard := some (18, true) }) (v := undef) rfl (by kernel_rfl) (by kernel_rfl) (by kernel_rfl) (fun _ _ _ h => h) (Or.inr ⟨by rfl, rfl⟩) (by assumption) ?_
                    try simp only [Act.put, List.setIfInBounds_toArray, List.set_cons_zero, List.set_cons_succ]
                    refine wpAnyH_take (i := 20) (oi := { dst := some 54, op := Op.binOp BinOp.lss 3 (Operand.tmp 53) (Operand.const (Value.int IntKind.i64 0)) 3, type := 4, pos := "ref.go:37", after := #[{ on := 19, ground := Ground.data }, { on := 18, ground := Ground.guard }], guard := some (18, true) }) (v := undef) rfl (by kernel_rfl) (by kernel_rfl) (by kernel_rfl) (fun _ _ _ h => h) (Or.inr ⟨by rfl, rfl⟩) (by assumption) ?_
                    try simp only [Act.put, List.setIfInBounds_toArray, List.set_cons_zero, List.set_cons_succ]
                    refine wpAnyH_take (i := 21) (oi := { dst := some 55, op := Op.move (Operand.tmp 54), type := 4, pos := "ref.go:37", after := #[{ on := 20, ground := Ground.data }, { on := 18, ground := Ground.chain }, { on := 18, ground := Ground.guard }], guard := some (18, true) }) (v := undef) rfl (by kernel_rfl) (by kernel_rfl) (by kernel_rfl) (fun _ _ _ h => h) (Or.inr ⟨by rfl, rfl⟩) (by assumption) ?_
                    try simp only [Act.put, List.setIfInBounds_toArray, List.set_cons_zero, List.set_cons_succ]
                    refine wpAnyH_take (i := 22) (oi := { dst := some 56, op := Op.load 29 (Operand.tmp 2), type := 29, pos := "ref.go:37", after := #[{ on := 21, ground := Ground.guard }], guard := some (21, false) }) (v := undef) rfl (by kernel_rfl) (by kernel_rfl) (by kernel_rfl) (fun _ _ _ h => h) (Or.inr ⟨by rfl, rfl⟩) (by assumption) ?_
                    try simp only [Act.put, List.setIfInBounds_toArray, List.set_cons_zero, List.set_cons_succ]
                    refine wpAnyH_take (i := 23) (oi := { dst := some 57, op := Op.move (Operand.tmp 5), type := 24, pos := "ref.go:37", after := #[{ on := 21, ground := Ground.guard }], guard := some (21, false) }) (v := undef) rfl (by kernel_rfl) (by kernel_rfl) (by kernel_rfl) (fun _ _ _ h => h) (Or.inr ⟨by rfl, rfl⟩) (by assumption) ?_
                    try simp only [Act.put, List.setIfInBounds_toArray, List.set_cons_zero, List.set_cons_succ]
                    refine wpAnyH_take (i := 24) (oi := { dst := some 58, op := Op.move (Operand.tmp 9), type := 3, pos := "ref.go:37", after := #[{ on := 21, ground := Ground.guard }], guard := some (21, false) }) (v := undef) rfl (by kernel_rfl) (by kernel_rfl) (by kernel_rfl) (fun _ _ _ h => h) (Or.inr ⟨by rfl, rfl⟩) (by assumption) ?_
                    try simp only [Act.put, List.setIfInBounds_toArray, List.set_cons_zero, List.set_cons_succ]
                    refine wpAnyH_take (i := 25) (oi := { dst := some 59, op := Op.call { callee := Callee.value (Operand.func 31), args := #[Operand.tmp 56, Operand.tmp 57, Operand.tmp 58], argTypes := #[29, 24, 3] }, type := 2, pos := "ref.go:37", after := #[{ on := 22, ground := Ground.data }, { on := 23, ground := Ground.data }, { on := 24, ground := Ground.data }, { on := 21, ground := Ground.chain }, { on := 21, ground := Ground.guard }], guard := some (21, false) }) (v := undef) rfl (by kernel_rfl) (by kernel_rfl) (by kernel_rfl) (fun _ _ _ h => h) (Or.inr ⟨by rfl, rfl⟩) (by assumption) ?_
                    try simp only [Act.put, List.setIfInBounds_toArray, List.set_cons_zero, List.set_cons_succ]
                    refine wpAnyH_take (i := 26) (oi := { dst := some 60, op := Op.load 29 (Operand.tmp 2), type := 29, pos := "ref.go:37", after := #[{ on := 21, ground := Ground.guard }], guard := some (21, false) }) (v := undef) rfl (by kernel_rfl) (by kernel_rfl) (by kernel_rfl) (fun _ _ _ h => h) (Or.inr ⟨by rfl, rfl⟩) (by assumption) ?_
                    try simp only [Act.put, List.setIfInBounds_toArray, List.set_cons_zero, List.set_cons_succ]
                    refine wpAnyH_take (i := 27) (oi := { dst := some 61, op := Op.move (Operand.tmp 5), type := 24, pos := "ref.go:37", after := #[{ on := 21, ground := Ground.guard }], guard := some (21, false) }) (v := undef) rfl (by kernel_rfl) (by kernel_rfl) (by kernel_rfl) (fun _ _ _ h => h) (Or.inr ⟨by rfl, rfl⟩) (by assumption) ?_
                    try simp only [Act.put, List.setIfInBounds_toArray, List.set_cons_zero, List.set_cons_succ]
                    refine wpAnyH_take (i := 28) (oi := { dst := some 62, op := Op.move (Operand.tmp 8), type := 3, pos := "ref.go:37", after := #[{ on := 21, ground := Ground.guard }], guard := some (21, false) }) (v := undef) rfl (by kernel_rfl) (by kernel_rfl) (by kernel_rfl) (fun _ _ _ h => h) (Or.inr ⟨by rfl, rfl⟩) (by assumption) ?_
                    try simp only [Act.put, List.setIfInBounds_toArray, List.set_cons_zero, List.set_cons_succ]
                    refine wpAnyH_take (i := 29) (oi := { dst := some 63, op := Op.call { callee := Callee.value (Operand.func 31), args := #[Operand.tmp 60, Operand.tmp 61, Operand.tmp 62], argTypes := #[29, 24, 3] }, type := 2, pos := "ref.go:37", after := #[{ on := 26, ground := Ground.data }, { on := 27, ground := Ground.data }, { on := 28, ground := Ground.data }, { on := 25, ground := Ground.chain }, { on := 21, ground := Ground.guard }], guard := some (21, false) }) (v := undef) rfl (by kernel_rfl) (by kernel_rfl) (by kernel_rfl) (fun _ _ _ h => h) (Or.inr ⟨by rfl, rfl⟩) (by assumption) ?_
                    try simp only [Act.put, List.setIfInBounds_toArray, List.set_cons_zero, List.set_cons_succ]
                    refine wpAnyH_take (i := 30) (oi := { dst := some 64, op := Op.binOp BinOp.gtr 2 (Operand.tmp 59) (Operand.tmp 63) 2, type := 4, pos := "ref.go:37", after := #[{ on := 25, ground := Ground.data }, { on := 29, ground := Ground.data }, { on := 21, ground := Ground.guard }], guard := some (21, false) }) (v := undef) rfl (by kernel_rfl) (by kernel_rfl) (by kernel_rfl) (fun _ _ _ h => h) (Or.inr ⟨by rfl, rfl⟩) (by assumption) ?_
                    try simp only [Act.put, List.setIfInBounds_toArray, List.set_cons_zero, List.set_cons_succ]
                    refine wpAnyH_take (i := 31) (oi := { dst := some 65, op := Op.pick (Operand.tmp 55) (Operand.const (Value.bool true)) (Operand.tmp 64), type := 4, pos := "ref.go:37", after := #[{ on := 21, ground := Ground.data }, { on := 30, ground := Ground.data }, { on := 18, ground := Ground.guard }], guard := some (18, true) }) (v := undef) rfl (by kernel_rfl) (by kernel_rfl) (by kernel_rfl) (fun _ _ _ h => h) (Or.inr ⟨by rfl, rfl⟩) (by assumption) ?_
                    try simp only [Act.put, List.setIfInBounds_toArray, List.set_cons_zero, List.set_cons_succ]
                    refine wpAnyH_take (i := 32) (oi := { dst := some 66, op := Op.pick (Operand.tmp 52) (Operand.tmp 65) (Operand.const (Value.bool false)), type := 4, pos := "ref.go:37", after := #[{ on := 18, ground := Ground.data }, { on := 31, ground := Ground.data }], guard := none }) (v := ?_) rfl (by kernel_rfl) (by kernel_rfl) (by kernel_rfl) (fun _ _ _ h => h) (Or.inl ⟨by rfl, ?_⟩) (by assumption) ?_
                    rotate_left
                    · (intro W hSw; (try dsimp only at hSw); go_simp; try with_reducible rfl)
                    try simp only [Act.put, List.setIfInBounds_toArray, List.set_cons_zero, List.set_cons_succ]
                    refine wpAnyH_done (by kernel_rfl) ?_ _
                    go_wp2_with fail
                    go_meet
                    exact ⟨by rw [hres], hB1⟩
                · have d1 : (y == 1) = false := by simpa using hy
                  have hres : res = false := by rw [← HHres.out]; exact decide_eq_false (fun h => hy h.1)
                  clear hy hxl CW CPq CPa HS HHres
                  go_quiet (fail)
                  all_goals
                    go_wp2_with fail
                    go_meet
                    exact ⟨by rw [hres], Lib.hid ((Below.refl _ _).trans (below_drawn _ _))⟩
              case rest =>
                obtain ⟨rfl, HB8⟩ := hcut
                have HQ8 := Lib.hid (HQ.out.trans (HB8.out.mono HQ.out.size))
                clear HB8 CW CPq CPa HK c0 c1 cq cx hwr
                cases hr : res with
                | true =>
                  rw [hr] at HHres
                  have HS2 := Lib.hid (HS.out.trans (if_pos (of_decide_eq_true HHres.out)))
                  go_wp2
                  go_roundw
                  case rel => exact ⟨q + 1, by omega, by go_num, by rw [HS2.out], HQ8⟩
                  case measure => simp [intOf]; omega
                | false =>
                  rw [hr] at HHres
                  have HS2 := Lib.hid (HS.out.trans (if_neg (of_decide_eq_false HHres.out)))
                  go_wp2
                  go_roundw
                  case rel => exact ⟨q + 1, by omega, by go_num, by rw [HS2.out], HQ8⟩
                  case measure => simp [intOf]; omega
            · obtain rfl : q = j := by omega
              generalize xatF ws q F most ms q = A at *
              by_cases hat : 0 ≤ A
              · obtain ⟨i, rfl⟩ : ∃ i : Nat, A = (i : Int) := ⟨A.toNat, by omega⟩
                have hil : i < q := by omega
                have ead := HPi.out.ints.addr.resolve_left (by omega)
                cases ead
                have ci := HPi.out.ints.cell i hil
                rw [Nat.zero_add] at ci
                have HPs := Lib.hid (HPi.out.set hil (v := 0) (by decide))
                have HXk2 := Lib.hid (HXk.out.trans (if_pos hat))
                rw [Int.toNat_natCast] at HXk2
                have d5 : decide ((0 : Int) ≤ (i : Int)) = true := by simp
                obtain ⟨cur, hcur⟩ := HPi.out.own.resolve_left (by omega)
                have fz := heap_frozen hcur i
                clear hcur
                clear hat hxl
                go_wp2
                go_roundw
                case rel => exact ⟨k + 1, by omega, by go_num, by rw [HXk2.out]; exact HPs⟩
                case measure => simp [intOf]; omega
              · have d5 : decide (0 ≤ A) = false := by simpa using hat
                have HXk2 := Lib.hid (HXk.out.trans (if_neg hat))
                clear hat hxl
                go_wp2
                go_roundw
                case rel => exact ⟨k + 1, by omega, by go_num, by rw [HXk2.out]; exact HPi⟩
                case measure => simp [intOf]; omega
        · obtain rfl : k = j := by omega
          go_wp2
          go_ret
          exact ⟨ad, ct1, pb, rfl, hct, HP.out.ints, HA.out.trans (HP.out.below.mono HA.out.size)⟩
end Go.Proofs.Ytepmgjohjeiopaa
