/- Cut of what is lifted; the walk of the second of layer 11. -/
import Derived.Test.YtbjgfkiaoffhlaaCmA
import Derived.Test.YtbjgfkiaoffhlaaCmB
import Derived.Test.YtbjgfkiaoffhlaaZe
import Derived.Test.YtbjgfkiaoffhlaaCmD
import Derived.BigQuiet
set_option linter.unusedVariables false
set_option linter.unusedSectionVars false
namespace Go.Proofs.Ytbjgfkiaoffhlaa
open Go.RowKit Rk

/-- What one pair, cut, weighs. -/
def c1F (ps : List Int) (F : Nat → Nat → Int) (a b : Nat) : Int := if a < b ∧ ps.getD a 0 ≠ ps.getD b 0 then F a b else 0
def c2F (m : Nat) (ps : List Int) (F : Nat → Nat → Int) : Int := sumTo m (fun a => sumTo m (c1F ps F a))
theorem cuS_append (ms : List Int) (l t : List Edg) : cuS ms (l ++ t) = cuS ms l + cuS ms t := by simp [cuS]
theorem cuS_row {m : Nat} {F : Nat → Nat → Int} (ht : Tab m F) (ps : List Int) (k : Nat) : ∀ n, cuS ps ((rowOf n (above ((k : Int) + 1) (F k))).map (tag k)) = sumTo n (c1F ps F k)
  | 0 => rfl
  | n + 1 => by
    rw [rowOf_succ, List.map_append, cuS_append, cuS_row ht ps k n, sumTo]
    congr 1
    have ha : above ((k : Int) + 1) (F k) n = if k < n then F k n else 0 := by
      unfold above
      by_cases e : k < n
      · rw [if_neg (by omega), if_pos e]
      · rw [if_pos (by omega), if_neg e]
    rw [ha]
    have h0 := ht.lo k n
    unfold c1F
    by_cases e : k < n
    · rw [if_pos e]
      by_cases hp : 0 < F k n
      · rw [if_pos hp]
        show (cuS ps [((k : Int), (n : Int), F k n)]) = _
        by_cases he : ps.getD k 0 = ps.getD n 0
        · simp [cuS, cu1, he, -List.getD_eq_getElem?_getD]
        · rw [if_pos ⟨e, he⟩]
          simp [cuS, cu1, he, -List.getD_eq_getElem?_getD]
      · rw [if_neg hp]
        have : F k n = 0 := by omega
        rw [this]
        simp [cuS]
    · rw [if_neg e, if_neg (by omega), if_neg (fun h => e h.1)]
      simp [cuS]
theorem cuS_upTo {m : Nat} {F : Nat → Nat → Int} (ht : Tab m F) (ps : List Int) : ∀ k, cuS ps (upTo m F k) = sumTo k (fun a => sumTo m (c1F ps F a))
  | 0 => rfl
  | k + 1 => by
    rw [upTo, cuS_append, cuS_upTo ht ps k, sumTo]
    congr 1
    exact cuS_row ht ps k m
theorem cuS_edges {m : Nat} {F : Nat → Nat → Int} (ht : Tab m F) (ps : List Int) : cuS ps (edgesD m F) = c2F m ps F := cuS_upTo ht ps m
theorem c2F_none (m : Nat) (ps : List Int) : c2F m ps noTab = 0 := by
  have h : ∀ a, c1F ps noTab a = fun _ => 0 := fun a => by funext b; unfold c1F; split <;> rfl
  have z : ∀ k, sumTo k (fun _ : Nat => (0 : Int)) = 0 := fun k => by induction k with | zero => rfl | succ k ih => rw [sumTo, ih]; rfl
  unfold c2F
  simp only [h, z]
/-- What a join adds to the cut. -/
theorem c2F_join {m : Nat} {F : Nat → Nat → Int} (ht : Tab m F) (ps : List Int) {a b : Nat} (ha : a < m) (hb : b < m) (hab : a ≠ b) (v : Int) : c2F m ps (joinT F a b v) = c2F m ps F + if ps.getD a 0 ≠ ps.getD b 0 then v - F a b else 0 := by
  -- the lesser one first
  have key : ∀ x y : Nat, x < y → y < m → c2F m ps (joinT F x y v) = c2F m ps F + if ps.getD x 0 ≠ ps.getD y 0 then v - F x y else 0 := fun x y hxy hy => by
    have hrow : ∀ c, sumTo m (c1F ps (joinT F x y v) c) = upd (fun c => sumTo m (c1F ps F c)) x (sumTo m (c1F ps F x) + if ps.getD x 0 ≠ ps.getD y 0 then v - F x y else 0) c := fun c => by
      unfold upd
      by_cases e : c = x
      · subst e
        rw [if_pos rfl]
        have h1 : c1F ps (joinT F c y v) c = upd (c1F ps F c) y (if ps.getD c 0 ≠ ps.getD y 0 then v else 0) := by
          funext d
          unfold upd c1F joinT
          by_cases e2 : d = y
          · subst e2
            rw [if_pos rfl]
            by_cases hne : ps.getD c 0 ≠ ps.getD d 0
            · rw [if_pos ⟨hxy, hne⟩, if_pos hne, if_pos (.inl ⟨rfl, rfl⟩)]
            · rw [if_neg (fun h => hne h.2), if_neg hne]
          · rw [if_neg e2]
            by_cases h3 : c < d ∧ ps.getD c 0 ≠ ps.getD d 0
            · rw [if_pos h3, if_pos h3, if_neg (by omega)]
            · rw [if_neg h3, if_neg h3]
        rw [h1, sumTo_upd, if_pos hy]
        unfold c1F
        by_cases hne : ps.getD c 0 ≠ ps.getD y 0
        · rw [if_pos hne, if_pos ⟨hxy, hne⟩, if_pos hne]
        · rw [if_neg hne, if_neg (fun h => hne h.2), if_neg hne]; omega
      · rw [if_neg e]
        refine sumTo_congr (fun d hd => ?_)
        unfold c1F joinT
        by_cases h3 : c < d ∧ ps.getD c 0 ≠ ps.getD d 0
        · rw [if_pos h3, if_pos h3]
          by_cases h4 : (c = x ∧ d = y) ∨ (c = y ∧ d = x)
          · omega
          · rw [if_neg h4]
        · rw [if_neg h3, if_neg h3]
    unfold c2F
    rw [sumTo_congr (fun c _ => hrow c), sumTo_upd, if_pos (by omega)]
    omega
  by_cases h : a < b
  · exact key a b h hb
  · have h1 := key b a (by omega) ha
    have h2 : joinT F b a v = joinT F a b v := by
      funext x y
      unfold joinT
      by_cases e : (x = b ∧ y = a) ∨ (x = a ∧ y = b)
      · rw [if_pos e, if_pos (by omega)]
      · rw [if_neg e, if_neg (by omega)]
    rw [h2] at h1
    rw [h1, ht.sym b a]
    by_cases hne : ps.getD a 0 ≠ ps.getD b 0
    · rw [if_pos hne, if_pos (Ne.symm hne)]
    · rw [if_neg hne, if_neg (fun h => hne (Ne.symm h))]
theorem c2F_step {m : Nat} {F : Nat → Nat → Int} (ht : Tab m F) (ps : List Int) {a b : Nat} {x : Int} (h : joinE m F (a : Int) (b : Int) x = 0) : c2F m ps (joinF m F (a : Int) (b : Int) x) = c2F m ps F + if ps.getD a 0 ≠ ps.getD b 0 then x else 0 := by
  unfold joinF
  rw [if_pos h]
  have h' := h
  unfold joinE at h'
  split at h'
  · omega
  · rename_i h1
    have ha : hasN m (a : Int) = true := by cases e : hasN m (a : Int) with | true => rfl | false => exact absurd (.inl e) h1
    have hb : hasN m (b : Int) = true := by cases e : hasN m (b : Int) with | true => rfl | false => exact absurd (.inr (.inl e)) h1
    obtain ⟨i, hi, hi2⟩ := hasN_t ha
    obtain ⟨j, hj, hj2⟩ := hasN_t hb
    have hab : a ≠ b := fun e => h1 (.inr (.inr (by rw [e])))
    rw [Int.toNat_natCast, Int.toNat_natCast, btw_nat m F (by omega) (by omega), c2F_join ht ps (by omega) (by omega) hab]
    by_cases hne : ps.getD a 0 ≠ ps.getD b 0
    · rw [if_pos hne, if_pos hne]; omega
    · rw [if_neg hne, if_neg hne]
/-- Lifted, all pairs that came cut as much as the graph of them. -/
theorem c2F_shJ {m n : Nat} (ps is : List Int) (hin : ∀ i, i < n → ∃ o : Nat, is.getD i 0 = (o : Int) ∧ o < m) (os : List Int) (hos : ∀ i, i < n → os.getD i 0 = ps.getD (is.getD i 0).toNat 0) : ∀ (l : List Edg) (F F' : Nat → Nat → Int), Tab m F → (∀ x ∈ l, ∃ a b : Nat, a < n ∧ b < n ∧ x.1 = (a : Int) ∧ x.2.1 = (b : Int)) → shJ m is l F = some F' → c2F m ps F' = c2F m ps F + cuS os l
  | [], F, F', ht, _, h => by injection h with h; rw [h]; simp [cuS]
  | e :: t, F, F', ht, hm, h => by
    obtain ⟨a, b, ha, hb, e1, e2⟩ := hm e (List.mem_cons_self ..)
    obtain ⟨o1, h1, h1m⟩ := hin a ha
    obtain ⟨o2, h2, h2m⟩ := hin b hb
    have h' : (shS m is e F).bind (shJ m is t) = some F' := h
    have hs : shS m is e F = if (o1 : Int) = (o2 : Int) then some F else if joinE m F (o1 : Int) (o2 : Int) e.2.2 = 0 then some (joinF m F (o1 : Int) (o2 : Int) e.2.2) else none := by
      unfold shS
      rw [e1, e2]
      simp only [Int.toNat_natCast, h1, h2]
    have hc : cuS os (e :: t) = cu1 os e + cuS os t := by simp [cuS]
    have hcu : cu1 os e = if ps.getD o1 0 = ps.getD o2 0 then 0 else e.2.2 := by
      unfold cu1
      rw [e1, e2, Int.toNat_natCast, Int.toNat_natCast, hos a ha, hos b hb, h1, h2, Int.toNat_natCast, Int.toNat_natCast]
    rw [hs] at h'
    have hmt := fun x hx => hm x (List.mem_cons_of_mem _ hx)
    by_cases ho : (o1 : Int) = (o2 : Int)
    · rw [if_pos ho] at h'
      have := c2F_shJ ps is hin os hos t F F' ht hmt h'
      rw [this, hc, hcu, if_pos (by rw [show o1 = o2 by omega])]
      omega
    · rw [if_neg ho] at h'
      by_cases hj : joinE m F (o1 : Int) (o2 : Int) e.2.2 = 0
      · rw [if_pos hj] at h'
        have := c2F_shJ ps is hin os hos t _ F' (tab_joinF ht hj) hmt h'
        rw [this, c2F_step ht ps hj, hc, hcu]
        by_cases hne : ps.getD o1 0 = ps.getD o2 0
        · rw [if_neg (fun h => h hne), if_pos hne]; omega
        · rw [if_pos hne, if_neg hne]; omega
      · rw [if_neg hj] at h'; cases h'
/-- What of the first j is of a part. -/
theorem wts_sum (zs ps : List Int) (p : Nat) : ∀ j, wtsT zs ps j p = sumTo j (fun o => if (ps.getD o 0).toNat = p then zs.getD o 0 else 0)
  | 0 => rfl
  | j + 1 => by
    rw [sumTo, ← wts_sum zs ps p j]
    show upd (wtsT zs ps j) (ps.getD j 0).toNat _ p = _
    unfold upd
    by_cases e : p = (ps.getD j 0).toNat
    · rw [if_pos e, if_pos e.symm, ← e]
    · rw [if_neg e, if_neg (Ne.symm e)]; omega
theorem wts_lift {m : Nat} (ws ps is os : List Int) (p : Nat) : ∀ j, (∀ i, i < j → ∃ o : Nat, is.getD i 0 = (o : Int) ∧ o < m) → (∀ i, i < j → os.getD i 0 = ps.getD (is.getD i 0).toNat 0) →
    sumTo m (fun o => if (ps.getD o 0).toNat = p then wtsT ws is j o else 0) = wtsT ws os j p
  | 0, _, _ => by
    have z : ∀ k, sumTo k (fun _ : Nat => (0 : Int)) = 0 := fun k => by induction k with | zero => rfl | succ k ih => rw [sumTo, ih]; rfl
    have : (fun o => if (ps.getD o 0).toNat = p then wtsT ws is 0 o else 0) = fun _ => (0 : Int) := by funext o; split <;> rfl
    rw [this, z]; rfl
  | j + 1, h1, h2 => by
    obtain ⟨q, hq, hm⟩ := h1 j (Nat.lt_succ_self _)
    have ih := wts_lift (m := m) ws ps is os p j (fun i hi => h1 i (by omega)) (fun i hi => h2 i (by omega))
    have e : (fun o => if (ps.getD o 0).toNat = p then wtsT ws is (j + 1) o else 0) = upd (fun o => if (ps.getD o 0).toNat = p then wtsT ws is j o else 0) q ((if (ps.getD q 0).toNat = p then wtsT ws is j q else 0) + if (ps.getD q 0).toNat = p then ws.getD j 0 else 0) := by
      funext o
      show (if (ps.getD o 0).toNat = p then upd (wtsT ws is j) (is.getD j 0).toNat (wtsT ws is j (is.getD j 0).toNat + ws.getD j 0) o else 0) = _
      rw [hq, Int.toNat_natCast]
      unfold upd
      by_cases e : o = q
      · subst e
        rw [if_pos rfl, if_pos rfl]
        split <;> omega
      · rw [if_neg e, if_neg e]
    rw [e, sumTo_upd, if_pos hm, ih]
    show _ = upd (wtsT ws os j) (os.getD j 0).toNat (wtsT ws os j (os.getD j 0).toNat + ws.getD j 0) p
    rw [h2 j (Nat.lt_succ_self _), hq, Int.toNat_natCast]
    unfold upd
    by_cases hp : p = (ps.getD q 0).toNat
    · rw [if_pos hp, if_pos hp.symm, if_pos hp.symm, ← hp]; omega
    · rw [if_neg hp, if_neg (Ne.symm hp), if_neg (Ne.symm hp)]; omega
theorem liftL_at (ps is : List Int) {i : Nat} (h : i < is.length) : (liftL ps is).getD i 0 = ps.getD (is.getD i 0).toNat 0 := matesL_getD _ h
theorem liftL_length (ps is : List Int) : (liftL ps is).length = is.length := matesL_length _ _
/-- The cut, the parts' weights, and the parts themselves, of a shrunk graph and lifted. -/
theorem cut_lift {ws : List Int} {F : Nat → Nat → Int} (ht : Tab ws.length F) {ms : List Int} (hE : shrE ws F ms = 0) (ps : List Int) (k : Int) (hr : rightP (onesN ms) ps k = true) :
    liftR ps (inL ms) = true ∧ rightP ws.length (liftL ps (inL ms)) k = true ∧ cutF ws.length F (liftL ps (inL ms)) k = cutF (onesN ms) (shrF ws F ms) ps k ∧ ∀ p, wtsT ws (liftL ps (inL ms)) ws.length p = wtsT (wsS ws ms) ps (onesN ms) p := by
  obtain ⟨hl, hrt, _, hJ⟩ := shr_parts hE
  obtain ⟨hpl, hk, hp⟩ := rightP_t hr
  have hil : (inL ms).length = ws.length := by rw [inL_length, hl]
  have hin : ∀ i, i < ws.length → ∃ o : Nat, (inL ms).getD i 0 = (o : Int) ∧ o < onesN ms := fun i hi => in_bd hrt (by omega)
  have hos : ∀ i, i < ws.length → (liftL ps (inL ms)).getD i 0 = ps.getD ((inL ms).getD i 0).toNat 0 := fun i hi => liftL_at _ _ (by omega)
  have hR : rightP ws.length (liftL ps (inL ms)) k = true := by
    unfold rightP
    rw [Bool.and_eq_true, Bool.and_eq_true]
    refine ⟨⟨decide_eq_true (by rw [liftL_length, hil]), ?_⟩, List.all_eq_true.2 (fun x hx => ?_)⟩
    · unfold withinF; exact decide_eq_true ⟨hk.1, hk.2⟩
    · obtain ⟨i, hi, rfl⟩ := List.mem_map.1 hx
      have hi := List.mem_range.1 hi
      obtain ⟨o, h1, h2⟩ := hin i (by omega)
      have h3 : liftF ps (inL ms) i ∈ ps := by
        unfold liftF
        rw [h1, Int.toNat_natCast, List.getD_eq_getElem?_getD, List.getElem?_eq_getElem (by omega)]
        exact List.getElem_mem _
      have := hp _ h3
      unfold belowB
      exact decide_eq_true this
  refine ⟨liftR_iff.2 (fun i hi => ?_), hR, ?_, fun p => ?_⟩
  · obtain ⟨o, h1, h2⟩ := hin i (by omega)
    rw [h1, hpl]; omega
  · unfold cutF
    rw [if_pos hR, if_pos hr, cuS_edges (shJ_tab _ _ _ _ _ (Tab.none _) hJ), c2F_shJ ps (inL ms) hin _ hos _ _ _ (Tab.none _) (fun x hx => ?_) hJ, c2F_none]
    · omega
    · obtain ⟨a, b, h1, h2, rfl, _⟩ := edges_mem hx
      exact ⟨a, b, by omega, h2, rfl, rfl⟩
  · rw [← wts_lift (m := onesN ms) ws ps (inL ms) _ p ws.length hin hos, wts_sum]
    refine sumTo_congr (fun o ho => ?_)
    show (if _ then wtsT ws (inL ms) ws.length o else 0) = if _ then (matesL _ _).getD o 0 else 0
    rw [matesL_getD _ ho]
end Go.Proofs.Ytbjgfkiaoffhlaa

namespace Go.Proofs.Ytbjgfkiaoffhlaa.L11
open Go.RowKit Go.Shelf Rk

/-- The graph that was built. -/
structure AlG (w : World) (g nb : Nat) (zs : List Int) (F : Nat → Nat → Int) (W : World) : Prop where
  one : IsG W g nb zs F
  below : Below w.heap.size w W
theorem AlG.on {w : World} {g nb : Nat} {zs : List Int} {F : Nat → Nat → Int} {W W' : World} (h : AlG w g nb zs F W) (hb : Below W.heap.size W W') : AlG w g nb zs F W' := ⟨h.one.below hb, h.below.trans (hb.mono h.below.size)⟩
/-- The graph, and the graph of its pairs. -/
structure CuR (w : World) (g nb : Nat) (zs : List Int) (F : Nat → Nat → Int) (g2 nb2 : Nat) (zs2 : List Int) (F2 : Nat → Nat → Int) (ib : Nat) (is : List Int) (W : World) : Prop where
  one : IsG W g nb zs F
  two : IsG W g2 nb2 zs2 F2
  ins : IntsAt .i64 W.heap.size W (some ⟨ib, 0, none⟩) ib 0 zs.length is
  below : Below w.heap.size w W
theorem CuR.on {w : World} {g nb : Nat} {zs : List Int} {F : Nat → Nat → Int} {g2 nb2 : Nat} {zs2 : List Int} {F2 : Nat → Nat → Int} {ib : Nat} {is : List Int} {W W' : World} (h : CuR w g nb zs F g2 nb2 zs2 F2 ib is W) (hb : Below W.heap.size W W') : CuR w g nb zs F g2 nb2 zs2 F2 ib is W' :=
  ⟨h.one.below hb, h.two.below hb, (h.ins.kept hb (Nat.le_refl _)).mono hb.size, h.below.trans (hb.mono h.below.size)⟩
set_option maxRecDepth 100000 in
set_option maxHeartbeats 8000000 in
theorem walk_CoarseCuts (a0 : Option Addr) (len0 cap0 : Nat) (z0 : List Int) (a1 : Option Addr) (len1 cap1 : Nat) (z1 : List RopV) (a2 : Option Addr) (len2 cap2 : Nat) (z2 : List Int) (a3 : Int) (w : World) (w0 : IsRow .i64 w a0 len0 cap0 z0) (w1 : IsRops w a1 len1 cap1 z1) (w2 : IsRow .i64 w a2 len2 cap2 z2) (w3 : (Lit.int .i64 a3).wf = true) :
    Calls Try.prog 9 #[.slice a0 len0 cap0, .slice a1 len1 cap1, .slice a2 len2 cap2, .int .i64 a3] w fun e w' => e = .returned (.bool true) ∧ Below w.heap.size w w' := by
  obtain ⟨b0, off0, zs, hi0, hn0⟩ := w0.zz
  obtain ⟨b2, off2, ps0, hi2, hn2⟩ := w2.zz
  obtain ⟨_, b1, off1, hi1⟩ := w1
  have hcp : len2 ≤ cap2 := by
    rcases w2 with ⟨_, h1, h2, _⟩ | ⟨_, _, h, _⟩
    · omega
    · exact h
  have H0 := Lib.hid hi0
  have HN := Lib.hid hn0
  have H1 := Lib.hid hi1
  have H2 := Lib.hid hi2
  have HL2 := Lib.hid hi2.length
  have hsm2 := hi2.small
  unfold maxLen at hsm2
  obtain rfl := hi0.length
  clear w0 w2 w3 hi0 hn0 hi1 hi2 hn2
  go_enter Try.func9, Try.ntmps9
  go_wp2_with fail
  refine (alive_any _).mono ?_
  rintro e x1 ⟨rfl, hB1⟩
  have HB1 := Lib.hid hB1
  have HBd := Lib.hid (build_any (cap0 := cap0) (cap1 := cap1) ((H0.out.kept hB1 (Nat.le_refl _)).mono hB1.size) HN.out ((H1.out.kept hB1 (Nat.le_refl _)).mono hB1.size))
  have z1s := hB1.size
  clear hB1
  go_wp2_with fail
  refine HBd.out.mono ?_
  rintro e x3 ⟨hB, hc⟩
  have HB2 := Lib.hid (HB1.out.trans (hB.mono z1s))
  clear hB HBd
  rcases hc with ⟨_, rfl⟩ | ⟨⟨hl30, _⟩, g, nb, lo, Bx, X, rfl, hR, _, _⟩
  · have HB3 := Lib.hid (HB2.out.alloc HB2.out.size (.cells #[.slice none 0 0, .slice none 0 0] 29))
    go_wp2
    go_ret
    exact ⟨rfl, HB3.out⟩
  have hR' := hR.base HB1.out
  have hal := (Below.refl x3.heap.size x3).alloc (Nat.le_refl _) (.cells #[.slice X.wa zs.length X.wc, .slice X.ra zs.length X.rc] 29)
  have HR : Hid (AlG w g nb zs (joins zs.length noTab z1) (x3.alloc (.cells #[.slice X.wa zs.length X.wc, .slice X.ra zs.length X.rc] 29))) := Lib.hid ⟨hR'.one.below hal, hR'.below.trans (hal.mono hR'.below.size)⟩
  clear hR hR' hal HB2 HB1 z1s H0 HN H1
  unfold XD.val
  obtain ⟨F, hF⟩ : ∃ F, joins zs.length noTab z1 = F := ⟨_, rfl⟩
  rw [hF] at HR
  clear hF
  go_upto_region 4 with fail
  obtain ⟨x4, hx4⟩ : ∃ x4, (x3.alloc (.cells #[.slice X.wa zs.length X.wc, .slice X.ra zs.length X.rc] 29)) = x4 := ⟨_, rfl⟩
  obtain ⟨bx, hbx⟩ : ∃ bx, x3.heap.size = bx := ⟨_, rfl⟩
  rw [hx4] at HR
  rw [hx4, hbx]
  clear hx4 hbx x3
  by_cases hout : 60 < len2 ∨ a3 < 1 ∨ 60 < a3
  · by_cases h1 : 60 < len2
    · have d1 : decide (60 < (len2 : Int)) = true := by simp; omega
      clear hout h1
      go_wp2
      go_ret
      exact ⟨rfl, HR.out.below⟩
    · have d1 : decide (60 < (len2 : Int)) = false := by simp; omega
      by_cases h2 : a3 < 1
      · have d2 : decide (a3 < 1) = true := by simpa using h2
        clear hout h1 h2
        go_wp2
        go_ret
        exact ⟨rfl, HR.out.below⟩
      · have d2 : decide (a3 < 1) = false := by simpa using h2
        have d3 : decide (60 < a3) = true := by simp; omega
        clear hout h1 h2
        go_wp2
        go_ret
        exact ⟨rfl, HR.out.below⟩
  have d1 : decide (60 < (len2 : Int)) = false := by simp; omega
  have d2 : decide (a3 < 1) = false := by simp; omega
  have d3 : decide (60 < a3) = false := by simp; omega
  obtain ⟨kk, rfl⟩ : ∃ kk : Nat, a3 = (kk : Int) := ⟨a3.toNat, by omega⟩
  have hk1 : 1 ≤ kk := by omega
  have hk2 : kk ≤ 60 := by omega
  have hl2 : len2 ≤ 60 := by omega
  clear hout hsm2
  have HHv := Lib.hid (heavy_any HR.out.one)
  go_wp2_with fail
  refine HHv.out.mono ?_
  rintro e x5 ⟨pb, rfl, hI, _, hb⟩
  have HR5 := Lib.hid (HR.out.on hb)
  have HSh := Lib.hid (shrink_any (cap := zs.length) HR5.out.one hI (fun e => by cases e))
  have HTab := Lib.hid HR.out.one.tab
  clear hI hb HHv HR d1 d2 d3
  go_wp2_with fail
  refine HSh.out.mono ?_
  rintro e x6 ⟨hb, ⟨hE, rfl⟩ | ⟨hE, g2, nb2, ib, rfl, hG2, hI2, _⟩⟩
  · have HB6 := Lib.hid (HR5.out.on hb).below
    have e1 : (shrE zs F (heavyF zs.length F) != 0) = true := by simpa using hE
    have e2 : (shrE zs F (heavyF zs.length F) == 0) = false := by simpa using hE
    generalize shrE zs F (heavyF zs.length F) = sE at *
    clear hE hb HSh
    go_wp2
    go_ret
    exact ⟨rfl, HB6.out⟩
  have HC : Hid (CuR w g nb zs F g2 nb2 (wsS zs (heavyF zs.length F)) (shrF zs F (heavyF zs.length F)) ib (inL (heavyF zs.length F)) x6) := Lib.hid ⟨HR5.out.one.below hb, hG2, hI2, (HR5.out.on hb).below⟩
  have HE := Lib.hid hE
  have hms : (wsS zs (heavyF zs.length F)).sum = zs.sum := shr_sum (heavy_length _ _) (heavy_right HTab.out)
  have hml : (wsS zs (heavyF zs.length F)).length = leftN (heavyF zs.length F) := by rw [wsS_length, ones_left (heavy_right HTab.out)]
  have HCL := Lib.hid (fun (ps : List Int) (k : Int) => cut_lift HTab.out hE ps k)
  rw [ones_left (heavy_right HTab.out)] at HCL
  have hlf : leftN (heavyF zs.length F) ≤ zs.length := (left_heavy HTab.out).2.2.1
  clear hG2 hI2 hb HSh HR5 hE HE
  obtain ⟨hv, hhv⟩ : ∃ hv, heavyF zs.length F = hv := ⟨_, rfl⟩
  rw [hhv] at HC hms hml HCL hlf
  have HHv7 := Lib.hid (heavy_any HC.out.one)
  rw [hhv] at HHv7
  have HMs := Lib.hid hms
  have CT1 := Lib.hid (total_any HC.out.one)
  have CT2 := Lib.hid (total_any HC.out.two)
  have CLn := Lib.hid (glen_any HC.out.two)
  rw [hms] at CT2
  rw [hml] at CLn
  have HML := Lib.hid hml
  clear hms hml hhv
  generalize wsS zs hv = zs2 at *
  generalize shrF zs F hv = F2 at *
  generalize inL hv = is at *
  have HCn : Hid (∀ (W : World) (pb : Nat), IntsAt .i64 W.heap.size W (some ⟨pb, 0, none⟩) pb 0 zs.length hv → Calls Try.prog 20 #[.slice (some ⟨pb, 0, none⟩) zs.length zs.length] W fun e w' => e = .returned (.int .i64 ((leftN hv : Nat) : Int)) ∧ Below W.heap.size W w') := Lib.hid (fun W pb h => mcount_any (cap := zs.length) h (fun e => by cases e) (by omega))
  generalize leftN hv = m at *
  obtain ⟨n, hn⟩ : ∃ n, zs.length = n := ⟨_, rfl⟩
  have HNz := Lib.hid hn
  rw [hn] at HHv7 HCn HCL hlf hl30 ⊢
  clear hn
  have j1 : (zs.sum != zs.sum) = false := by simp
  have j2 : ((m : Int) != (m : Int)) = false := by simp
  have j3 : (zs.sum == zs.sum) = true := by simp
  by_cases hlt : len2 < m
  · have d5 : decide ((len2 : Int) < (m : Int)) = true := by simp; omega
    go_wp2_with (first
    | (go_at_call 30; refine CT2.out.mono ?_; clear CT2; rintro e w' ⟨rfl, rfl⟩)
    | (go_at_call 30; refine CT1.out.mono ?_; clear CT1; rintro e w' ⟨rfl, rfl⟩)
    | (go_at_call 31; refine CLn.out.mono ?_; clear CLn; rintro e w' ⟨rfl, rfl⟩)
    | (go_at_call 14; refine HHv7.out.mono ?_; clear HHv7; rintro e x7 ⟨pb7, rfl, hI7, _, hb⟩; have HC7 := Lib.hid (HC.out.on hb); have HCn7 := Lib.hid (HCn.out _ _ hI7); clear hb hI7 HC HCn)
    | (go_at_call 20; refine HCn7.out.mono ?_; clear HCn7; rintro e x8 ⟨rfl, hb⟩; have HC8 := Lib.hid (HC7.out.on hb); have CT1b := Lib.hid (total_any HC8.out.one); have CT2b := Lib.hid (total_any HC8.out.two); have CLb := Lib.hid (glen_any HC8.out.two); rw [HMs.out] at CT2b; rw [HML.out] at CLb; clear hb HC7)
    | (go_at_call 31; refine CLb.out.mono ?_; rintro e w' ⟨rfl, rfl⟩)
    | (go_at_call 30; refine CT2b.out.mono ?_; clear CT2b; rintro e w' ⟨rfl, rfl⟩)
    | (go_at_call 30; refine CT1b.out.mono ?_; clear CT1b; rintro e w' ⟨rfl, rfl⟩))
    go_ret
    exact ⟨rfl, HC8.out.below⟩
  · have d5 : decide ((len2 : Int) < (m : Int)) = false := by simp; omega
    have hml2 : m ≤ len2 := by omega
    have j4 : (m : Int) ≤ (cap2 : Int) := by omega
    have j5 : (0 : Int) ≤ (m : Int) := by omega
    have j6 : (m : Int) ≤ (len2 : Int) := by omega
    clear hlt
    go_upto_region 12 with (first
    | (go_at_call 30; refine CT2.out.mono ?_; clear CT2; rintro e w' ⟨rfl, rfl⟩)
    | (go_at_call 30; refine CT1.out.mono ?_; clear CT1; rintro e w' ⟨rfl, rfl⟩)
    | (go_at_call 31; refine CLn.out.mono ?_; clear CLn; rintro e w' ⟨rfl, rfl⟩)
    | (go_at_call 14; refine HHv7.out.mono ?_; clear HHv7; rintro e x7 ⟨pb7, rfl, hI7, _, hb⟩; have HC7 := Lib.hid (HC.out.on hb); have HCn7 := Lib.hid (HCn.out _ _ hI7); clear hb hI7 HC HCn)
    | (go_at_call 20; refine HCn7.out.mono ?_; clear HCn7; rintro e x8 ⟨rfl, hb⟩; have HC8 := Lib.hid (HC7.out.on hb); have CT1b := Lib.hid (total_any HC8.out.one); have CT2b := Lib.hid (total_any HC8.out.two); have CLb := Lib.hid (glen_any HC8.out.two); rw [HMs.out] at CT2b; rw [HML.out] at CLb; clear hb HC7)
    | (go_at_call 31; refine CLb.out.mono ?_; rintro e w' ⟨rfl, rfl⟩)
    )
    clear CLb CT1b CT2b j1 j2 j3 d5
    obtain ⟨ps, hps⟩ : ∃ ps, ps0.take m = ps := ⟨_, rfl⟩
    have HP : Hid (∀ W, Below w.heap.size w W → IntsAt .i64 W.heap.size W a2 b2 off2 m ps) := Lib.hid (fun W hW => by
      have := ((H2.out.kept hW (Nat.le_refl _)).mono hW.size).take m hml2
      rw [hps] at this
      exact this)
    have HIl : Hid (is.length = n) := Lib.hid (by have := HC8.out.ins.length; rw [HNz.out] at this; exact this)
    have CR := Lib.hid (cright_any (cap := cap2) HC8.out.two (HP.out _ HC8.out.below) (Nat.le_refl _) (kk : Int))
    rw [HML.out] at CR
    clear hps
    cases hrp : rightP m ps (kk : Int) with
    | false =>
      rw [hrp] at CR
      clear hrp HCL
      go_wp2_with (go_at_call 32; refine CR.out.mono ?_; clear CR; rintro e x9 ⟨rfl, hb⟩; have HC9 := Lib.hid (HC8.out.on hb); clear hb)
      go_ret
      exact ⟨rfl, HC9.out.below⟩
    | true =>
      obtain ⟨q1, q2, q3, q4⟩ := HCL.out ps (kk : Int) hrp
      have HQ3 := Lib.hid q3
      have HQ4 := Lib.hid q4
      have HQ1 := Lib.hid q1
      have HRP := Lib.hid hrp
      rw [hrp] at CR
      clear HCL hrp q1 q3 q4
      go_wp2_with fail
      refine CR.out.mono ?_
      rintro e x9 ⟨rfl, hb⟩
      have HC9 := Lib.hid (HC8.out.on hb)
      clear hb CR HC8
      have hin9 := HC9.out.ins
      rw [HNz.out] at hin9
      have CLf := Lib.hid (lift_any (cap1 := cap2) (cap2 := n) (HP.out _ HC9.out.below) hin9 (by omega))
      clear hin9
      go_wp2_with fail
      refine CLf.out.mono ?_
      rintro e x10 ⟨hb, ⟨h1, _⟩ | ⟨_, ob, rfl, hO, _⟩⟩
      · rw [HQ1.out] at h1; cases h1
      rw [HIl.out] at hO ⊢
      have HC10 := Lib.hid (HC9.out.on hb)
      have HO10 := Lib.hid hO
      clear hb hO CLf HC9 HQ1
      generalize liftL ps is = os at *
      have CR2 := Lib.hid (cright_any (cap := n) HC10.out.one HO10.out (Nat.le_refl _) (kk : Int))
      rw [HNz.out, q2] at CR2
      go_wp2_with fail
      refine CR2.out.mono ?_
      rintro e x11 ⟨rfl, hb⟩
      have HC11 := Lib.hid (HC10.out.on hb)
      have HO11 := Lib.hid ((HO10.out.kept hb (Nat.le_refl _)).mono hb.size)
      clear hb CR2 HC10 HO10
      have CC1 := Lib.hid (cut_any (cap := n) HC11.out.one (by rw [HNz.out]; omega) HO11.out (kk : Int))
      rw [HNz.out, HQ3.out] at CC1
      go_wp2_with fail
      refine CC1.out.mono ?_
      rintro e x12 ⟨rfl, hb⟩
      have HC12 := Lib.hid (HC11.out.on hb)
      have HO12 := Lib.hid ((HO11.out.kept hb (Nat.le_refl _)).mono hb.size)
      clear hb CC1 HC11 HO11 HQ3
      have CC2 := Lib.hid (cut_any (cap := cap2) HC12.out.two (by rw [HML.out]; omega) (HP.out _ HC12.out.below) (kk : Int))
      rw [HML.out] at CC2
      go_wp2_with fail
      refine CC2.out.mono ?_
      rintro e x13 ⟨rfl, hb⟩
      have HC13 := Lib.hid (HC12.out.on hb)
      have HO13 := Lib.hid ((HO12.out.kept hb (Nat.le_refl _)).mono hb.size)
      clear hb CC2 HC12 HO12
      generalize cutF m F2 ps (kk : Int) = cv at *
      have k1 : (cv != cv) = false := by simp
      have CW1 := Lib.hid (weights_any (cap := n) HC13.out.one HO13.out (kk : Int))
      go_wp2_with fail
      refine CW1.out.mono ?_
      rintro e x14 (⟨h1, _⟩ | ⟨_, wa, rfl, hW1⟩)
      · rw [HNz.out, q2] at h1; cases h1
      have HC14 := Lib.hid (HC13.out.on hW1.below)
      rw [Int.toNat_natCast] at hW1 ⊢
      have HW1 := Lib.hid hW1
      clear hW1 CW1 HC13 HO13 k1
      have CW2 := Lib.hid (weights_any (cap := cap2) HC14.out.two (HP.out _ HC14.out.below) (kk : Int))
      go_wp2_with fail
      refine CW2.out.mono ?_
      rintro e x15 (⟨h1, _⟩ | ⟨_, wb, rfl, hW2⟩)
      · rw [HML.out, HRP.out] at h1; cases h1
      rw [Int.toNat_natCast] at hW2 ⊢
      have HB15 := Lib.hid (HC14.out.on hW2.below).below
      have HW1b := Lib.hid (HW1.out.on hW2.below)
      have HW2 := Lib.hid hW2
      rw [HNz.out] at HW1b
      rw [HML.out] at HW2
      clear hW2 CW2 HC14 HW1
      go_wp2
      go_loopw [138] (fun i wr => ∃ p : Nat, i = .int .i64 p ∧ p ≤ kk ∧ Hid (Below x15.heap.size x15 wr)) (fun i _ => kk - (intOf i).toNat)
      case atStart => exact ⟨0, rfl, Nat.zero_le _, Lib.hid (Below.refl _ _)⟩
      case round =>
        obtain ⟨p, rfl, hp, HB⟩ := hrel
        by_cases hlp : p < kk
        · have c1 := heap_cell (HW1b.out.on HB.out).row (rowC_at (wtsT zs os n) hlp)
          have c2 := heap_cell (HW2.out.on HB.out).row (rowC_at (wtsT zs2 ps m) hlp)
          rw [HQ4.out p] at c1
          generalize wtsT zs2 ps m p = y at *
          have hny : (y != y) = false := by simp
          have hpi : (p : Int) < (kk : Int) := by omega
          have hp0 : (0 : Int) ≤ (p : Int) := by omega
          have HBd : Hid (∀ nq : Nat, Below x15.heap.size x15 (wr.drewN nq)) := Lib.hid (fun nq => HB.out.trans ⟨rfl, rfl, rfl, Nat.le_refl _, fun _ _ => rfl⟩)
          go_wp2
          go_quiet (fail)
          go_wp2
          go_roundw
          case rel => exact ⟨p + 1, by go_num, by omega, Lib.hid (HBd.out _)⟩
          case measure => simp [intOf]; omega
        · obtain rfl : p = kk := by omega
          have hee : ((p : Int) == (p : Int)) = true := by simp
          go_wp2
          go_ret
          exact ⟨rfl, HB15.out.trans (HB.out.mono HB15.out.size)⟩
end Go.Proofs.Ytbjgfkiaoffhlaa.L11
