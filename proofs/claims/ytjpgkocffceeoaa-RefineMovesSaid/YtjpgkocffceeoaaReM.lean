/- The reference's layer 13 (Gain, Moves, Pass), and the walks of RefineEnds and RefineMoves. -/
import Derived.Test.YtjpgkocffceeoaaRfD
import Derived.Test.YtjpgkocffceeoaaReZ
set_option linter.unusedVariables false
set_option linter.unusedSectionVars false
set_option linter.unusedSimpArgs false
namespace Go.Proofs.Ytjpgkocffceeoaa
open Go.RowKit Rk

theorem two_of {ms : List Int} (h2 : ∀ p ∈ ms, p = 0 ∨ p = 1) {i : Nat} (hi : i < ms.length) : ms.getD i 0 = 0 ∨ ms.getD i 0 = 1 := by
  rw [List.getD_eq_getElem?_getD, List.getElem?_eq_getElem hi]
  exact h2 _ (List.getElem_mem hi)
theorem two_nat {x : Int} (h : x = 0 ∨ x = 1) : ∃ v : Nat, v ≤ 1 ∧ 1 - x = (v : Int) := by
  rcases h with rfl | rfl
  · exact ⟨1, by omega, by decide⟩
  · exact ⟨0, by omega, by decide⟩
section
variable {W : World} {X : XD} {lo : Nat} {ws : List Int} {F : Nat → Nat → Int}
set_option maxRecDepth 100000 in
set_option maxHeartbeats 2000000 in
theorem xgain_any (h : IsX W X lo ws F) (hn30 : ws.length ≤ 30) {b off cap : Nat} {ms : List Int} (hm : IntsAt .i64 W.heap.size W (some ⟨b, off, none⟩) b off ws.length ms) (h2 : ∀ p ∈ ms, p = 0 ∨ p = 1) {i : Nat} (hi : i < ws.length) :
    Calls Try.prog 53 #[X.val ws.length, .slice (some ⟨b, off, none⟩) ws.length cap, .int .i64 (i : Int)] W fun e w' => e = .returned (.int .i64 (tG ws.length F (mOf ms) i)) ∧ Below W.heap.size W w' := by
  have hl := hm.length
  have hm2 := two_of h2 (i := i) (by omega)
  obtain ⟨mi, hmi⟩ : ∃ x, ms.getD i 0 = x := ⟨_, rfl⟩
  rw [hmi] at hm2
  obtain ⟨v, hv1, hv⟩ := two_nat hm2
  have hfl : flipL ms i = ms.set i (v : Int) := by unfold flipL; rw [hmi, hv]
  have hct := cut_move h.tab hl (fun c hc => two_of h2 (by omega)) hi
  rw [hfl] at hct
  have hgb := tG_bd h.tab (mOf ms) i
  have HW1 : Hid (IntKind.i64.wrap (1 - mi) = (v : Int)) := Lib.hid (by rw [hv]; exact IntWalk.i64_in _ (by omega))
  have hal : Below W.heap.size W (W.alloc (.cells #[.slice X.wa ws.length X.wc, .slice X.ra ws.length X.rc] 29)) := (Below.refl _ _).alloc (Nat.le_refl _) _
  have HX1 := Lib.hid (h.below hal)
  have HM1 := Lib.hid ((hm.kept hal (Nat.le_refl _)).mono hal.size)
  have HBX : Hid ((W.alloc (.cells #[.slice X.wa ws.length X.wc, .slice X.ra ws.length X.rc] 29)).heap[W.heap.size]? = some (.cells #[.slice X.wa ws.length X.wc, .slice X.ra ws.length X.rc] 29 (0, 0))) := Lib.hid (heap_new (w := W) _ rfl)
  have HA := Lib.hid hal
  have HN30 := Lib.hid hn30
  have HMi := Lib.hid hmi
  have HHi := Lib.hid hi
  have z0 : W.heap.size < (W.alloc (.cells #[.slice X.wa ws.length X.wc, .slice X.ra ws.length X.rc] 29)).heap.size := by simp
  unfold XD.val
  clear h hm hmi hal hfl hv hm2 h2
  go_enter Try.func53, Try.ntmps53
  go_upto_region 1 with fail
  generalize W.alloc (.cells #[.slice X.wa ws.length X.wc, .slice X.ra ws.length X.rc] 29) = W1 at *
  obtain ⟨c1, hc1⟩ : ∃ x, cuS ms (edgesD ws.length F) = x := ⟨_, rfl⟩
  obtain ⟨c2, hc2⟩ : ∃ x, cuS (ms.set i (v : Int)) (edgesD ws.length F) = x := ⟨_, rfl⟩
  rw [hc1, hc2] at hct
  have HW2 : Hid (IntKind.i64.wrap (c1 - c2) = tG ws.length F (mOf ms) i) := Lib.hid (by rw [hct]; exact IntWalk.i64_in _ (by omega))
  have CU : Hid (∀ W', Below W1.heap.size W1 W' → Calls Try.prog 22 #[.agg #[.slice X.wa ws.length X.wc, .slice X.ra ws.length X.rc], .slice (some ⟨b, off, none⟩) ws.length cap] W' (fun e w' => e = .returned (.int .i64 c1) ∧ Below W1.heap.size W1 w')) := Lib.hid (fun W' hW => by
    have h := xcut_any (cap := cap) (HX1.out.below hW) HN30.out ((HM1.out.kept hW (Nat.le_refl _)).mono hW.size) (Nat.le_refl _) rfl
    rw [hc1] at h
    exact h.mono (fun e w' ⟨he, hb⟩ => ⟨he, hW.trans (hb.mono hW.size)⟩))
  have CM : Hid (∀ W', Below W1.heap.size W1 W' → Calls Try.prog 23 #[.slice (some ⟨b, off, none⟩) ws.length cap, .int .i64 (i : Int), .int .i64 (v : Int)] W' (fun e w' => ∃ g c, e = .returned (.slice (some ⟨g, 0, none⟩) ws.length c) ∧ Hid (IntsAt .i64 w'.heap.size w' (some ⟨g, 0, none⟩) g 0 ws.length (ms.set i (v : Int))) ∧ Hid (Below W1.heap.size W1 w'))) := Lib.hid (fun W' hW => by
    refine (xmove_any (cap := cap) ((HM1.out.kept hW (Nat.le_refl _)).mono hW.size) (by have := HN30.out; omega) HHi.out (v := v) (by omega)).mono ?_
    rintro e w' ⟨g, c, he, hI, hb⟩
    exact ⟨g, c, he, Lib.hid hI, Lib.hid (hW.trans (hb.mono hW.size))⟩)
  have CV : Hid (∀ W' g c, Below W1.heap.size W1 W' → IntsAt .i64 W'.heap.size W' (some ⟨g, 0, none⟩) g 0 ws.length (ms.set i (v : Int)) → Calls Try.prog 22 #[.agg #[.slice X.wa ws.length X.wc, .slice X.ra ws.length X.rc], .slice (some ⟨g, 0, none⟩) ws.length c] W' (fun e w' => e = .returned (.int .i64 c2) ∧ Below W1.heap.size W1 w')) := Lib.hid (fun W' g c hW hI => by
    have h := xcut_any (cap := c) (HX1.out.below hW) HN30.out hI (Nat.le_refl _) rfl
    rw [hc2] at h
    exact h.mono (fun e w' ⟨he, hb⟩ => ⟨he, hW.trans (hb.mono hW.size)⟩))
  have HK : Hid (∀ W', Below W1.heap.size W1 W' → W'.cell? ⟨W.heap.size, 0, none⟩ = some (.slice X.wa ws.length X.wc) ∧ W'.cell? ⟨W.heap.size, 1, none⟩ = some (.slice X.ra ws.length X.rc) ∧ W'.cell? ⟨b, off + i, none⟩ = some (.int .i64 mi) ∧ Hid (Below W1.heap.size W1 W')) := Lib.hid (fun W' hW => by
    have k := heap_below HBX.out hW z0
    have k2 := (HM1.out.kept hW (Nat.le_refl _)).cell i HHi.out
    rw [HMi.out] at k2
    exact ⟨heap_cell k (i := 0) rfl, heap_cell k (i := 1) rfl, k2, Lib.hid hW⟩)
  have hin : (i : Int) < (ws.length : Int) := by omega
  have hii : (0 : Int) ≤ (i : Int) := by omega
  have hd0 : decide ((i : Int) < 0) = false := by simp
  have hd1 : decide ((ws.length : Int) ≤ (i : Int)) = false := by simp; omega
  have hw1 := HW1.out
  have hw2 := HW2.out
  clear hct hgb hc1 hc2 hi hn30 hl
  obtain ⟨tg, htg⟩ : ∃ x, tG ws.length F (mOf ms) i = x := ⟨_, rfl⟩
  rw [htg] at hw2
  have HTg := Lib.hid htg
  clear htg HW2
  go_region_held3 (fun W' => W'.cell? ⟨W.heap.size, 0, none⟩ = some (.slice X.wa ws.length X.wc) ∧ W'.cell? ⟨W.heap.size, 1, none⟩ = some (.slice X.ra ws.length X.rc) ∧ W'.cell? ⟨b, off + i, none⟩ = some (.int .i64 mi) ∧ Hid (Below W1.heap.size W1 W')) (first | exact HK.out _ (Below.refl _ _) | exact HK.out _ (Below.refl _ _).drew | exact HK.out _ hB3.out | exact HK.out _ hB3.out.drew | exact HK.out _ hB2.out | exact HK.out _ hB2.out.drew | exact HK.out _ hB1.out | exact HK.out _ hB1.out.drew) (first
    | (go_at_call 22; refine (CU.out _ (by first | exact Below.refl _ _ | exact (Below.refl _ _).drew)).mono ?_; clear CU; rintro e u1 ⟨rfl, hb⟩; have hB1 := Lib.hid hb; clear hb)
    | (go_at_call 23; refine (CM.out _ (by first | exact hB1.out | exact hB1.out.drew)).mono ?_; clear CM; rintro e u2 ⟨gg, gc, rfl, hI, hB2⟩)
    | (go_at_call 22; refine (CV.out _ _ _ (by first | exact hB2.out | exact hB2.out.drew) (by first | exact hI.out | exact hI.out.kept (Below.refl _ _).drew (Nat.le_refl _))).mono ?_; clear CV; rintro e u3 ⟨rfl, hb⟩; have hB3 := Lib.hid hb; clear hb))
  all_goals
    go_wp2_with fail
    go_ret
    exact ⟨by rw [HTg.out]; rfl, HA.out.trans (hB3.out.mono HA.out.size)⟩
end
set_option maxHeartbeats 1000000 in
theorem xmovn_any {w : World} {b off len cap : Nat} {ms : List Int} (hm : IntsAt .i64 w.heap.size w (some ⟨b, off, none⟩) b off len ms) (hl : len ≤ 60) {i : Nat} (hi : i < len) {v : Nat} (hv : v ≤ 4096) :
    Calls Try.prog 23 #[.slice (some ⟨b, off, none⟩) len cap, .int .i64 (i : Int), .int .i64 (v : Int)] w fun e w' => ∃ g c, e = .returned (.slice (some ⟨g, 0, none⟩) len c) ∧ IntsAt .i64 w'.heap.size w' (some ⟨g, 0, none⟩) g 0 len (ms.set i (v : Int)) ∧ w.heap.size ≤ g ∧ Below w.heap.size w w' := by
  obtain ⟨n0, hi0, hz0, hz1, hz2⟩ := info_parts L09.Try.infoInt
  have HI := Lib.hid hi0
  have HZ0 := Lib.hid hz0
  have HZ1 := Lib.hid hz1
  have HZ2 := Lib.hid hz2
  have HM0 := Lib.hid hm
  have HL2 := Lib.hid hm.length
  have hlt : b < w.heap.size := hm.below.resolve_left (by omega)
  have hcells : ∀ o : Obj, ∀ j u, (ivals .i64 ms)[j]? = some u → (w.alloc o).cell? ((⟨b, off, none⟩ : Addr).add j) = some u := by
    intro o j u hj
    unfold ivals at hj
    rw [List.getElem?_map] at hj
    obtain ⟨n, hn, rfl⟩ := Option.map_eq_some_iff.1 hj
    obtain ⟨hjl, hjn⟩ := List.getElem?_eq_some_iff.1 hn
    have hc := HM0.out.cell j (by rw [← HL2.out]; exact hjl)
    rw [addr_add, World.cell?_alloc_lt w o (a := ⟨b, off + j, none⟩) hlt, hc]
    simp [List.getD, hn]
  have HCe := Lib.hid hcells
  have hwv := wf_small v (by omega)
  have HWV := Lib.hid hwv
  clear hi0 hz0 hz1 hz2 hcells hm hwv
  go_enter Try.func23, Try.ntmps23
  go_wp2_with (at_builtin; refine wpList_append_own _ rfl _ _ 24 rfl w.heap.size 3 n0 (.int .i64 0) 1 8 Try.underlying24 HI.out HZ0.out HZ1.out HZ2.out rfl (by decide) (.slice (some ⟨w.heap.size, 0, none⟩) 0 0) 0 [] rfl (World.ownsRow_made w #[] 0 (Nat.le_refl _) (Nat.zero_le _) rfl) ⟨b, off, none⟩ len cap (ivals .i64 ms) rfl (by unfold ivals; rw [List.length_map, HL2.out, Nat.mul_one]) (HCe.out _) (by unfold ivals; intro u hu; obtain ⟨n, _, rfl⟩ := List.mem_map.1 hu; rfl) (by unfold maxLen; omega) (by omega) (by simp) ?_; intro v' y1 hown hgrow hnil; rw [List.nil_append, Nat.zero_add] at hown; obtain ⟨g1, cap5, cur, rfl, hg1, hcur, HS⟩ := own_ints hown HL2.out HM0.out.fits (by omega); have q1 := heap_frozen hcur i; have k1 := own_cell HS hcur hi; have HSS := Lib.hid HS; have HCur := Lib.hid hcur; have HGr := Lib.hid hgrow; clear hown HS hcur hgrow)
  go_ret
  have hby : Below w.heap.size w y1 := ((Below.refl _ w).alloc (Nat.le_refl _) _).grown HGr.out (by simp) (fun k hk => by simp [Value.ownBlock] at hk; omega)
  exact ⟨g1, cap5, rfl, IntsAt.set HSS.out HCur.out hi HWV.out, hg1, hby.setCell (p := ⟨g1, i, none⟩) hg1 _⟩
end Go.Proofs.Ytjpgkocffceeoaa

namespace Go.Proofs.Ytjpgkocffceeoaa
open Go.RowKit Rk

/-- The document's choice among the first k things. -/
def atB (may : Nat → Bool) (G : Nat → Int) : Nat → Int
  | 0 => -1
  | k + 1 => if may k = true ∧ (atB may G k < 0 ∨ G (atB may G k).toNat < G k) then (k : Int) else atB may G k
theorem atB_best (may : Nat → Bool) (G : Nat → Int) : ∀ k, atB may G k = match bestM may G k with | none => -1 | some f => (f : Int)
  | 0 => rfl
  | k + 1 => by
    have ih := atB_best may G k
    unfold atB
    rw [bestM_step, ih]
    by_cases hm : may k = true
    · cases hb : bestM may G k with
      | none => simp [hm]
      | some f =>
        have hf : ¬ ((f : Int) < 0) := by omega
        by_cases hg : G f < G k
        · simp [hm, hg]
        · simp [hm, hg, hf]
    · simp [hm]
theorem atB_lt (may : Nat → Bool) (G : Nat → Int) (k : Nat) : -1 ≤ atB may G k ∧ atB may G k < (k : Int) := by
  rw [atB_best]
  cases hb : bestM may G k with
  | none => simp; omega
  | some f => have := (bestM_lt may G k f hb).1; simp; omega
/-- Those that are moved. -/
def mvOf (done : List (Nat × Int)) (c : Nat) : Bool := decide (c ∈ done.map (·.1))
theorem mvOf_nil : mvOf [] = fun _ => false := by funext c; simp [mvOf]
theorem mvOf_snoc (done : List (Nat × Int)) (i : Nat) (g : Int) : mvOf (done ++ [(i, g)]) = fun c => if c = i then true else mvOf done c := by
  funext c
  unfold mvOf
  by_cases e : c = i
  · subst e; simp
  · simp [e]
def fstI (L : List (Nat × Int)) : List Int := L.map (fun x => (x.1 : Int))
def sndI (L : List (Nat × Int)) : List Int := L.map (·.2)
theorem in_done (done : List (Nat × Int)) (q : Nat) : decide ((q : Int) ∈ fstI done) = mvOf done q := by
  unfold mvOf fstI
  congr 1
  simp only [List.mem_map, eq_iff_iff]
  constructor
  · rintro ⟨x, h, e⟩; exact ⟨x, h, by omega⟩
  · rintro ⟨x, h, e⟩; exact ⟨x, h, by omega⟩
theorem left_none {n : Nat} {F : Nat → Nat → Int} {ws : Nat → Int} {b : Int → Int} {m : Nat → Int} {mv : Nat → Bool} (h : bestM (mayM ws m mv (hvM n ws m) b) (tG n F m) n = none) (k : Nat) : movesM n F ws b k m mv = [] := by
  cases k with
  | zero => rfl
  | succ k => simp only [movesM, h]
theorem left_some {n : Nat} {F : Nat → Nat → Int} {ws : Nat → Int} {b : Int → Int} {m : Nat → Int} {mv : Nat → Bool} {i : Nat} (h : bestM (mayM ws m mv (hvM n ws m) b) (tG n F m) n = some i) (k : Nat) : movesM n F ws b (k + 1) m mv = (i, tG n F m i) :: movesM n F ws b k (flipM m i) (fun c => if c = i then true else mv c) := by
  simp only [movesM, h]
theorem heavy_of {ws ms : List Int} (hl : ms.length = ws.length) (h2 : twoM ws.length (mOf ms)) {t : Nat} (ht : t < 2) : wtsT ws ms ws.length t = hvM ws.length (wsF ws) (mOf ms) (t : Int) := by
  have key : ∀ j, j ≤ ws.length → wtsT ws ms j t = sumTo j (fun b => if mOf ms b = (t : Int) then wsF ws b else 0) := fun j => by
    induction j with
    | zero => intro _; simp [wtsT, sumTo]
    | succ j ih =>
      intro hj
      have e : sumTo (j + 1) (fun b => if mOf ms b = (t : Int) then wsF ws b else 0) = sumTo j (fun b => if mOf ms b = (t : Int) then wsF ws b else 0) + (if mOf ms j = (t : Int) then wsF ws j else 0) := rfl
      rw [e, ← ih (by omega)]
      have hm := h2 j (by omega)
      unfold mOf at hm ⊢
      simp only [wtsT, upd]
      by_cases q : ms.getD j 0 = (t : Int)
      · rw [if_pos (by omega), if_pos q, show (ms.getD j 0).toNat = t by omega]
        rfl
      · rw [if_neg (by omega), if_neg q]
        omega
  exact key ws.length (Nat.le_refl _)
theorem sumTo_nn {f : Nat → Int} : ∀ n, (∀ b, b < n → 0 ≤ f b) → 0 ≤ sumTo n f
  | 0, _ => by simp [sumTo]
  | n + 1, h => by
    have h1 := sumTo_nn n (fun b hb => h b (by omega))
    have h2 := h n (by omega)
    show 0 ≤ sumTo n f + f n
    omega
/-- With no room nothing is moved. -/
theorem movesD_right {ws : List Int} (hw : ∀ x ∈ ws, 1 ≤ x ∧ x ≤ 1099511627776) {F : Nat → Nat → Int} {b0 b1 : Int} {ms : List Int} (h : rightP ws.length ms 2 = true) : movesD ws F b0 b1 ms = movD ws F (bF b0 b1) ms := by
  unfold movesD
  by_cases h0 : b0 = 0 ∧ b1 = 0
  · rw [if_pos (.inl h0)]
    obtain ⟨rfl, rfl⟩ := h0
    symm
    unfold movD
    refine left_none ?_ _
    have hwp : ∀ b, b < ws.length → 1 ≤ wsF ws b := fun b hb => by
      unfold wsF
      rw [List.getD_eq_getElem?_getD, List.getElem?_eq_getElem hb]
      exact (hw _ (List.getElem_mem hb)).1
    have hmay : ∀ i, i < ws.length → mayM (wsF ws) (mOf ms) (fun _ => false) (hvM ws.length (wsF ws) (mOf ms)) (bF 0 0) i = false := fun i hi => by
      unfold mayM
      have h1 : 0 ≤ hvM ws.length (wsF ws) (mOf ms) (1 - mOf ms i) := sumTo_nn _ (fun b hb => by
        have := hwp b hb
        split <;> omega)
      have h2 := hwp i hi
      have h3 : bF 0 0 (1 - mOf ms i) = 0 := by unfold bF; split <;> rfl
      rw [h3]
      simp
      omega
    have key : ∀ k, k ≤ ws.length → bestM (mayM (wsF ws) (mOf ms) (fun _ => false) (hvM ws.length (wsF ws) (mOf ms)) (bF 0 0)) (tG ws.length F (mOf ms)) k = none := fun k => by
      induction k with
      | zero => intro _; rfl
      | succ k ih =>
        intro hk
        rw [bestM_step, ih (by omega), hmay k (by omega)]
        simp
    exact key _ (Nat.le_refl _)
  · rw [if_neg (by rw [h]; simp; exact fun e => fun e' => h0 ⟨e, e'⟩)]
theorem two_rt {n : Nat} {qs : List Int} (h : rightP n qs 2 = true) : qs.length = n ∧ twoM n (mOf qs) := by
  obtain ⟨r1, _, r3⟩ := rightP_t h
  refine ⟨r1, fun i hi => ?_⟩
  have := r3 (qs.getD i 0) (by rw [List.getD_eq_getElem?_getD, List.getElem?_eq_getElem (show i < qs.length by omega)]; exact List.getElem_mem _)
  show qs.getD i 0 = 0 ∨ qs.getD i 0 = 1
  omega
theorem rt_of {n : Nat} {ms : List Int} (hl : ms.length = n) (h2 : ∀ p ∈ ms, p = 0 ∨ p = 1) : rightP n ms ((2 : Nat) : Int) = true := by
  unfold rightP
  simp [hl]
  refine ⟨by decide, fun x hx => ?_⟩
  rcases h2 x hx with rfl | rfl <;> decide
end Go.Proofs.Ytjpgkocffceeoaa

namespace Go.Proofs.Ytjpgkocffceeoaa
open Go.RowKit Go.Shelf Rk

/-- Two rows of numbers that a loop gathers. -/
structure TwI (w0 : World) (B0 : Nat) (lt lo : List Int) (v u : Value) (bt bo : Option Nat) (W : World) : Prop where
  t : GB W B0 3 1 v lt.length (L09.ints lt) bt
  o : GB W B0 2 1 u lo.length (L09.ints lo) bo
  ne : ∀ g, bt = some g → bo ≠ some g
  below : Below B0 w0 W
section
variable {w0 W W' w5 : World} {B0 : Nat} {lt lo : List Int} {v u : Value} {bt bo : Option Nat}
theorem TwI.on (h : TwI w0 B0 lt lo v u bt bo W) (hb : Below W.heap.size W W') (hB : B0 ≤ W.heap.size) : TwI w0 B0 lt lo v u bt bo W' := ⟨h.t.below hb, h.o.below hb, h.ne, h.below.trans (hb.mono hB)⟩
theorem TwI.first (h : TwI w0 B0 lt lo v u bt bo W) (hB : B0 ≤ W.heap.size) {x : Int} {g cap : Nat} {row : Option Nat} (h5 : GB w5 B0 3 1 (.slice (some ⟨g, 0, none⟩) (lt.length + 1) cap) (lt.length + 1) (L09.ints lt ++ [.int .i64 x]) (some g)) (hg : W.grownBy w5 row) (hr : row = none ∨ row = bt) (hw : bt = some g ∨ W.heap.size ≤ g) :
    TwI w0 B0 (lt ++ [x]) lo (.slice (some ⟨g, 0, none⟩) (lt.length + 1) cap) u (some g) bo w5 := by
  refine ⟨by rw [List.length_append, L09.ints_snoc]; exact h5, h.o.kept hg (fun g' e er => ?_), fun g' e er => ?_, h.below.grown hg hB (fun k e => ?_)⟩
  · rcases hr with hr | hr
    · rw [hr] at er; cases er
    · rw [hr] at er; exact h.ne g' er e
  · cases e
    rcases hw with hw | hw
    · exact h.ne g hw er
    · have := (h.o.lt g er).2.1; omega
  · rcases hr with hr | hr
    · rw [hr] at e; cases e
    · rw [hr] at e; exact (h.t.lt k e).1
theorem TwI.second (h : TwI w0 B0 lt lo v u bt bo W) (hB : B0 ≤ W.heap.size) {x : Int} {g cap : Nat} {row : Option Nat} (h5 : GB w5 B0 2 1 (.slice (some ⟨g, 0, none⟩) (lo.length + 1) cap) (lo.length + 1) (L09.ints lo ++ [.int .i64 x]) (some g)) (hg : W.grownBy w5 row) (hr : row = none ∨ row = bo) (hw : bo = some g ∨ W.heap.size ≤ g) :
    TwI w0 B0 lt (lo ++ [x]) v (.slice (some ⟨g, 0, none⟩) (lo.length + 1) cap) bt (some g) w5 := by
  refine ⟨h.t.kept hg (fun g' e er => ?_), by rw [List.length_append, L09.ints_snoc]; exact h5, fun g' e er => ?_, h.below.grown hg hB (fun k e => ?_)⟩
  · rcases hr with hr | hr
    · rw [hr] at er; cases er
    · rw [hr] at er; exact h.ne g' e er
  · cases er
    rcases hw with hw | hw
    · exact h.ne g e hw
    · have := (h.t.lt g e).2.1; omega
  · rcases hr with hr | hr
    · rw [hr] at e; cases e
    · rw [hr] at e; exact (h.o.lt k e).1
theorem TwI.ints (h : TwI w0 B0 lt lo v u bt bo W) (h1 : ∀ x ∈ lt, (Lit.int .i64 x).wf = true) (h2 : ∀ x ∈ lo, (Lit.int .i64 x).wf = true) :
    ∃ ma mb mc ga gb gc, v = .slice ma lt.length mc ∧ u = .slice ga lo.length gc ∧ lt.length ≤ mc ∧ IntsAt .i64 W.heap.size W ma mb 0 lt.length lt ∧ IntsAt .i64 W.heap.size W ga gb 0 lo.length lo := by
  obtain ⟨ma, mc, mb, e1, k1, _, _, i1⟩ := Gath.ints (k := .i64) h.t.gath rfl h1
  obtain ⟨ga, gc, gb, e2, _, _, _, i2⟩ := Gath.ints (k := .i64) h.o.gath rfl h2
  exact ⟨ma, mb, mc, ga, gb, gc, e1, e2, k1, i1, i2⟩
end
theorem no_right {ws : List Int} {F : Nat → Nat → Int} {b0 b1 : Int} {ms : List Int} (h : rightP ws.length ms 2 = false) : movesD ws F b0 b1 ms = [] := by
  unfold movesD
  rw [if_pos (.inr h)]
theorem wf_mid (x : Int) (h : - 1099511627776000 ≤ x ∧ x ≤ 1099511627776000) : (Lit.int .i64 x).wf = true := by
  have h1 : IntKind.i64.min = -9223372036854775808 := by decide
  have h2 : IntKind.i64.max = 9223372036854775807 := by decide
  show (decide (IntKind.i64.min ≤ x) && decide (x ≤ IntKind.i64.max)) = true
  rw [h1, h2, Bool.and_eq_true, decide_eq_true_eq, decide_eq_true_eq]
  omega
theorem ints_grown {k : IntKind} {B : Nat} {w w' : World} {row : Option Nat} {a : Option Addr} {b off len : Nat} {zs : List Int} (h : IntsAt k B w a b off len zs) (hB : B ≤ w.heap.size) (hg : w.grownBy w' row) (hne : some b ≠ row) : IntsAt k w'.heap.size w' a b off len zs :=
  ⟨h.addr, h.length, h.small, h.below.imp id (fun g => by have := hg.size; omega), fun i hi => by rw [World.cell?_of_block (hg.block b (by have := h.below; show b < _; omega) hne)]; exact h.cell i hi, h.fits⟩
theorem below_dr (w : World) (nq : Nat) : Below w.heap.size w (w.drewN nq) := ⟨rfl, rfl, rfl, Nat.le_refl _, fun _ _ => rfl⟩
/-- Between two rounds of the document's pass. -/
structure RefM (w1 : World) (D : List (Nat × Int)) (ws : List Int) (F : Nat → Nat → Int) (b : Int → Int) (pa : Option Addr) (pb po : Nat) (ms : List Int) (done : List (Nat × Int)) (v u : Value) (bt bo : Option Nat) (j : Nat) (W : World) : Prop where
  two : TwI w1 w1.heap.size (fstI done) (sndI done) v u bt bo W
  ints : IntsAt .i64 W.heap.size W pa pb po ws.length ms
  bin : ∀ p ∈ ms, p = 0 ∨ p = 1
  eq : D = done ++ movesM ws.length F (wsF ws) b (ws.length - j) (mOf ms) (mvOf done)
  nt : ∀ g, bt = some g → pb ≠ g
  no : ∀ g, bo = some g → pb ≠ g
theorem RefM.stay {w1 : World} {D : List (Nat × Int)} {ws : List Int} {F : Nat → Nat → Int} {b : Int → Int} {pa : Option Addr} {pb po : Nat} {ms : List Int} {done : List (Nat × Int)} {v u : Value} {bt bo : Option Nat} {j : Nat} {W W' : World} (h : RefM w1 D ws F b pa pb po ms done v u bt bo j W) (hb : Below W.heap.size W W')
    (hn : bestM (mayM (wsF ws) (mOf ms) (mvOf done) (hvM ws.length (wsF ws) (mOf ms)) b) (tG ws.length F (mOf ms)) ws.length = none) : RefM w1 D ws F b pa pb po ms done v u bt bo (j + 1) W' :=
  ⟨h.two.on hb h.two.below.size, (h.ints.kept hb (Nat.le_refl _)).mono hb.size, h.bin, by rw [h.eq, left_none hn, left_none hn], h.nt, h.no⟩
theorem eq_next {D : List (Nat × Int)} {ws : List Int} {F : Nat → Nat → Int} {b : Int → Int} {ms : List Int} {done : List (Nat × Int)} {j i : Nat} (h : D = done ++ movesM ws.length F (wsF ws) b (ws.length - j) (mOf ms) (mvOf done)) (hj : j < ws.length) (hml : ms.length = ws.length)
    (hs : bestM (mayM (wsF ws) (mOf ms) (mvOf done) (hvM ws.length (wsF ws) (mOf ms)) b) (tG ws.length F (mOf ms)) ws.length = some i) : D = (done ++ [(i, tG ws.length F (mOf ms) i)]) ++ movesM ws.length F (wsF ws) b (ws.length - (j + 1)) (mOf (flipL ms i)) (mvOf (done ++ [(i, tG ws.length F (mOf ms) i)])) := by
  have hi := (bestM_lt _ _ _ _ hs).1
  rw [h, show ws.length - j = (ws.length - (j + 1)) + 1 by omega, left_some hs, mvOf_snoc, flipL_of (by omega), List.append_assoc]
  rfl
theorem fstI_snoc (L : List (Nat × Int)) (i : Nat) (g : Int) : fstI (L ++ [(i, g)]) = fstI L ++ [(i : Int)] := by simp [fstI]
theorem sndI_snoc (L : List (Nat × Int)) (i : Nat) (g : Int) : sndI (L ++ [(i, g)]) = sndI L ++ [g] := by simp [sndI]
def MvsPost (w : World) (D : List (Nat × Int)) (e : Ending) (w' : World) : Prop :=
  ∃ (ma : Option Addr) (mb mc : Nat) (ga : Option Addr) (gb gc : Nat), e = .returned (.tuple #[.slice ma D.length mc, .slice ga D.length gc]) ∧ D.length ≤ mc ∧ IntsAt .i64 w'.heap.size w' ma mb 0 D.length (fstI D) ∧ IntsAt .i64 w'.heap.size w' ga gb 0 D.length (sndI D) ∧ Below w.heap.size w w'
set_option maxRecDepth 100000 in
set_option maxHeartbeats 8000000 in
theorem xmoves_any {w : World} {X : XD} {lo : Nat} {ws : List Int} {F : Nat → Nat → Int} (h : IsX w X lo ws F) (hw : ∀ x ∈ ws, 1 ≤ x ∧ x ≤ 1099511627776) (hn30 : ws.length ≤ 30) {a : Option Addr} {b off len cap : Nat} {ms : List Int} (hm : IntsAt .i64 w.heap.size w a b off len ms) (b0 b1 : Int) :
    Calls Try.prog 28 #[X.val ws.length, .slice a len cap, .agg #[.int .i64 b0, .int .i64 b1]] w (MvsPost w (movesD ws F b0 b1 ms)) := by
  have hal : Below w.heap.size w (w.alloc (.cells #[.slice X.wa ws.length X.wc, .slice X.ra ws.length X.rc] 29)) := (Below.refl _ _).alloc (Nat.le_refl _) _
  have hxd : (w.alloc (.cells #[.slice X.wa ws.length X.wc, .slice X.ra ws.length X.rc] 29)).heap[w.heap.size]? = some (.cells #[.slice X.wa ws.length X.wc, .slice X.ra ws.length X.rc] 29 (0, 0)) := heap_new (w := w) _ rfl
  have zx : (w.alloc (.cells #[.slice X.wa ws.length X.wc, .slice X.ra ws.length X.rc] 29)).heap.size = w.heap.size + 1 := by simp
  have HD := movesD_in h.tab (by omega) b0 b1 ms
  unfold XD.val
  go_enter Try.func28, Try.ntmps28
  have h1 := h.below hal
  have hm1 := (hm.kept hal (Nat.le_refl _)).mono hal.size
  go_upto_region 1 with fail
  obtain ⟨w1, hw1⟩ : ∃ x, (w.alloc (.cells #[.slice X.wa ws.length X.wc, .slice X.ra ws.length X.rc] 29)).alloc (.cells #[.int .i64 b0, .int .i64 b1] 46) = x := ⟨_, rfl⟩
  have hal2 : Below (w.alloc (.cells #[.slice X.wa ws.length X.wc, .slice X.ra ws.length X.rc] 29)).heap.size (w.alloc (.cells #[.slice X.wa ws.length X.wc, .slice X.ra ws.length X.rc] 29)) w1 := by
    rw [← hw1]; exact (Below.refl _ _).alloc (Nat.le_refl _) _
  have hbb : w1.heap[w.heap.size + 1]? = some (.cells #[.int .i64 b0, .int .i64 b1] 46 (0, 0)) := by
    rw [← hw1, ← zx]; exact heap_new _ rfl
  have hbg := heap_below hxd hal2 (by omega)
  have HX1 := Lib.hid (h1.below hal2)
  have HM1 := Lib.hid ((hm1.kept hal2 (Nat.le_refl _)).mono hal2.size)
  have HA := Lib.hid (hal.trans (hal2.mono hal.size))
  have z1 : w1.heap.size = w.heap.size + 1 + 1 := by rw [← hw1]; simp
  have HBG := Lib.hid hbg
  have HBB := Lib.hid hbb
  have HW := Lib.hid hw
  rw [hw1]
  clear hbg hbb hal hal2 hxd zx h1 hm1 h hm hw hw1
  have HC : Hid (∀ W, Below w1.heap.size w1 W → W.cell? ⟨w.heap.size, 0, none⟩ = some (.slice X.wa ws.length X.wc) ∧ W.cell? ⟨w.heap.size, 1, none⟩ = some (.slice X.ra ws.length X.rc) ∧ W.cell? ⟨w.heap.size + 1, 0, none⟩ = some (.int .i64 b0) ∧ W.cell? ⟨w.heap.size + 1, 1, none⟩ = some (.int .i64 b1)) := Lib.hid (fun W hW => by
    have k := heap_below HBG.out hW (by omega)
    have k2 := heap_below HBB.out hW (by omega)
    exact ⟨heap_cell k (i := 0) rfl, heap_cell k (i := 1) rfl, heap_cell k2 (i := 0) rfl, heap_cell k2 (i := 1) rfl⟩)
  have HDL := Lib.hid HD.1
  have HDI := Lib.hid HD.2.1
  have HD3 := Lib.hid HD.2.2.1
  clear HD
  obtain ⟨D, hD⟩ : ∃ x, movesD ws F b0 b1 ms = x := ⟨_, rfl⟩
  rw [hD] at HDL HDI HD3 ⊢
  have HDe := Lib.hid hD
  clear hD
  obtain ⟨i0, hi, hz0, hz1, hz2⟩ := info_parts L09.Try.infoInt
  have HI := Lib.hid hi
  have HZ0 := Lib.hid hz0
  have HZ1 := Lib.hid hz1
  have HZ2 := Lib.hid hz2
  clear hi hz0 hz1 hz2
  obtain ⟨i6, hi, hz0, hz1, hz2⟩ := info_parts Try.infoI64
  have HI6 := Lib.hid hi
  have HY0 := Lib.hid hz0
  have HY1 := Lib.hid hz1
  have HY2 := Lib.hid hz2
  clear hi hz0 hz1 hz2
  go_upto_region 2 with fail
  have hb2 : Below w1.heap.size w1 ((w1.alloc (.cells #[] 3)).alloc (.cells #[] 2)) := ((Below.refl _ _).alloc (Nat.le_refl _) _).alloc (by simp) _
  have HB2 := Lib.hid hb2
  clear hb2
  generalize (w1.alloc (.cells #[] 3)).alloc (.cells #[] 2) = w2 at *
  obtain ⟨c0, c1, _, _⟩ := HC.out _ HB2.out
  have zw := HB2.out.size
  have CR := Lib.hid (xright_any (cap := cap) (HX1.out.below HB2.out) ((HM1.out.kept HB2.out (Nat.le_refl _)).mono zw) (Nat.le_refl _) 2)
  unfold XD.val at CR
  cases hr : rightP ws.length ms 2 with
  | false =>
    rw [hr] at CR
    have HD0 : Hid (movesD ws F b0 b1 ms = []) := Lib.hid (no_right hr)
    go_wp2_with fail
    refine CR.out.mono ?_
    rintro e w3 ⟨rfl, hb⟩
    have HB3 := Lib.hid (HA.out.trans ((HB2.out.trans (hb.mono zw)).mono HA.out.size))
    clear hb CR
    go_wp2
    go_ret2
    rw [HD0.out]
    exact ⟨_, 0, _, _, 0, _, rfl, Nat.zero_le _, ⟨.inl rfl, rfl, by unfold maxLen; decide, .inl rfl, fun i hi => absurd hi (Nat.not_lt_zero _), fun n hn => by cases hn⟩, ⟨.inl rfl, rfl, by unfold maxLen; decide, .inl rfl, fun i hi => absurd hi (Nat.not_lt_zero _), fun n hn => by cases hn⟩, HB3.out⟩
  | true =>
    rw [hr] at CR
    have hD0 : D = movD ws F (bF b0 b1) ms := by rw [← HDe.out]; exact movesD_right HW.out hr
    obtain ⟨hpl, hpt⟩ := two_rt hr
    have hbin : ∀ p ∈ ms, p = 0 ∨ p = 1 := fun p hp => by
      obtain ⟨i, hi, rfl⟩ := List.getElem_of_mem hp
      have := hpt i (by omega)
      unfold mOf at this
      rwa [List.getD_eq_getElem?_getD, List.getElem?_eq_getElem hi] at this
    have hml := HM1.out.length
    obtain rfl : len = ws.length := by omega
    go_wp2_with fail
    refine CR.out.mono ?_
    rintro e w3 ⟨rfl, hb⟩
    have HR3 : Hid (RefM w1 D ws F (bF b0 b1) a b off ms [] (.slice (some ⟨w.heap.size + 1 + 1, 0, none⟩) 0 0) (.slice (some ⟨w.heap.size + 1 + 1 + 1, 0, none⟩) 0 0) none none 0 w3) := Lib.hid ⟨⟨gb_nil _ _ _ _ _, gb_nil _ _ _ _ _, fun g e => (by cases e), HB2.out.trans (hb.mono zw)⟩, (HM1.out.kept (HB2.out.trans (hb.mono zw)) (Nat.le_refl _)).mono (by have := hb.size; omega), hbin, (by rw [hD0]; unfold movD; rw [mvOf_nil]; rfl), fun g e => (by cases e), fun g e => (by cases e)⟩
    clear hb CR hD0 hpl hpt hbin hml hr c0 c1
    go_upto_region 4 with fail
    go_wp2
    go_loopw [1, 8, 9, 10] (fun pv mv gv i wr => ∃ (j : Nat) (pa : Option Addr) (pb po pc : Nat) (ms : List Int) (bt bo : Option Nat) (done : List (Nat × Int)), j ≤ ws.length ∧ i = .int .i64 j ∧ pv = .slice pa ws.length pc ∧ Hid (RefM w1 D ws F (bF b0 b1) pa pb po ms done mv gv bt bo j wr)) (fun _ _ _ i _ => ws.length - (intOf i).toNat)
    case atStart => exact ⟨0, a, b, off, cap, ms, none, none, [], Nat.zero_le _, rfl, rfl, HR3⟩
    case round =>
      clear HR3 HM1
      obtain ⟨j, pa, pb, po, pc, ms', bt, bo, done, hj, rfl, rfl, HR⟩ := hrel
      rename World => wo
      by_cases hlt : j < ws.length
      · have hjn : (j : Int) < (ws.length : Int) := by omega
        have hml := HR.out.ints.length
        have h2 := HR.out.bin
        have htw : twoM ws.length (mOf ms') := fun c hc => two_of h2 (by omega)
        have hin0 := HR.out.ints.addr.resolve_left (by omega)
        subst hin0
        have hro := HR.out.two.below
        obtain ⟨c0, c1, _, _⟩ := HC.out _ hro
        have zo := hro.size
        have hXo := HX1.out.below hro
        have ea := hXo.ints.addr.resolve_left (by omega)
        have hrt : rightP ws.length ms' ((2 : Nat) : Int) = true := rt_of hml h2
        have CW := Lib.hid (xweights_any (cap := pc) hXo HW.out HR.out.ints (Nat.le_refl _) (kk := 2) hrt)
        unfold XD.val at CW
        simp only [show ((2 : Nat) : Int) = 2 from rfl] at CW
        have HHW : Hid (∀ t : Nat, t < 2 → wtsT ws ms' ws.length t = hvM ws.length (wsF ws) (mOf ms') (t : Int)) := Lib.hid (fun t ht => heavy_of hml htw ht)
        have HTw := Lib.hid htw
        have H2 := Lib.hid h2
        have HMl := Lib.hid hml
        have HEa := Lib.hid ea
        have HRo := Lib.hid hro
        have hdn : ∀ x ∈ done, x ∈ D := fun x hx => by rw [HR.out.eq]; exact List.mem_append_left _ hx
        obtain ⟨ma, mb, mc, ga, gb, gc, rfl, rfl, hmc, i1, i2⟩ := HR.out.two.ints (fun x hx => by
          obtain ⟨y, hy, rfl⟩ := List.mem_map.1 hx
          have := HDI.out y (hdn y hy)
          exact wf_mid _ (by omega)) (fun x hx => by
          obtain ⟨y, hy, rfl⟩ := List.mem_map.1 hx
          have := HDI.out y (hdn y hy)
          exact wf_mid _ (by omega))
        have HIn := Lib.hid i1
        clear hro hrt htw h2 hml hXo ea hdn i1 i2 hmc
        go_wp2_with fail
        refine CW.out.mono ?_
        rintro e w4 ⟨wb, rfl, hWt⟩
        have HWt := Lib.hid hWt
        have HB4 := Lib.hid hWt.below
        have z4 := hWt.below.size
        clear CW hWt c0 c1
        go_wp2
        go_loopw [11, 13] (fun av i wr => ∃ q : Nat, q ≤ ws.length ∧ i = .int .i64 q ∧ av = .int .i64 (atB (mayM (wsF ws) (mOf ms') (mvOf done) (hvM ws.length (wsF ws) (mOf ms')) (bF b0 b1)) (tG ws.length F (mOf ms')) q) ∧ Hid (Below w4.heap.size w4 wr)) (fun _ i _ => ws.length - (intOf i).toNat)
        case atStart => exact ⟨0, Nat.zero_le _, rfl, rfl, Lib.hid (Below.refl _ _)⟩
        case round =>
          obtain ⟨q, hq, rfl, rfl, HQ⟩ := hrel
          rename World => wi
          by_cases hltq : q < ws.length
          · have hqn : (q : Int) < (ws.length : Int) := by omega
            have hq0 : (0 : Int) ≤ (q : Int) := by omega
            have hwi : Below wo.heap.size wo wi := HB4.out.trans (HQ.out.mono z4)
            have hpi := (HR.out.ints.kept hwi (Nat.le_refl _)).mono hwi.size
            have hXi := HX1.out.below (HRo.out.trans (hwi.mono zo))
            have hIi := (HIn.out.kept hwi (Nat.le_refl _)).mono hwi.size
            obtain ⟨mi, hmi⟩ : ∃ x, ms'.getD q 0 = x := ⟨_, rfl⟩
            obtain ⟨v, hv1, hv⟩ := two_nat (two_of H2.out (i := q) (by rw [HMl.out]; exact hltq))
            rw [hmi] at hv
            have hwv : IntKind.i64.wrap (1 - mi) = (v : Int) := by rw [hv]; exact IntWalk.i64_in _ (by omega)
            have cq := hpi.cell q hltq
            rw [hmi] at cq
            have hv2 : (v : Int) < 2 := by omega
            have hv0 : (0 : Int) ≤ (v : Int) := by omega
            have HK : Hid (∀ W, Below wi.heap.size wi W → W.cell? ⟨w.heap.size, 0, none⟩ = some (.slice (some ⟨X.wb, 0, none⟩) ws.length X.wc) ∧ W.cell? ⟨w.heap.size, 1, none⟩ = some (.slice X.ra ws.length X.rc) ∧ W.cell? ⟨w.heap.size + 1, v, none⟩ = some (.int .i64 (bF b0 b1 (v : Int))) ∧ W.cell? ⟨wb, v, none⟩ = some (.int .i64 (wtsT ws ms' ws.length v)) ∧ W.cell? ⟨X.wb, q, none⟩ = some (.int .i64 (ws.getD q 0)) ∧ Hid (Below wi.heap.size wi W)) := Lib.hid (fun W hW => by
              obtain ⟨k0, k1, k2, k3⟩ := HC.out _ (HRo.out.trans ((hwi.trans (hW.mono hwi.size)).mono zo))
              rw [HEa.out] at k0
              have k4 := heap_cell (HWt.out.on (HQ.out.trans (hW.mono HQ.out.size))).row (rowC_at (wtsT ws ms' ws.length) (show v < 2 by omega))
              have k5 := (hXi.ints.kept hW (Nat.le_refl _)).cell q hltq
              rw [Nat.zero_add] at k5
              refine ⟨k0, k1, ?_, k4, k5, Lib.hid hW⟩
              rcases (by omega : v = 0 ∨ v = 1) with rfl | rfl
              · exact k2
              · exact k3)
            have CI : Hid (∀ W, Below wi.heap.size wi W → Calls Try.prog 46 #[.slice ma (fstI done).length mc, .int .i64 (q : Int)] W (fun e w' => e = .returned (.bool (mvOf done q)) ∧ W = w')) := Lib.hid (fun W hW => by
              have h := xin_any (cap := mc) (hIi.kept hW (Nat.le_refl _)) (q : Int)
              rw [in_done] at h
              exact h)
            have CIq : Hid (∀ nd, Calls Try.prog 46 #[.slice ma (fstI done).length mc, .int .i64 (q : Int)] (wi.drewN nd) (fun e w' => e = .returned (.bool (mvOf done q)) ∧ w' = wi.drewN nd)) := Lib.hid (fun nd => (CI.out (wi.drewN nd) ⟨rfl, rfl, rfl, Nat.le_refl _, fun _ _ => rfl⟩).mono (fun e w' h => ⟨h.1, h.2.symm⟩))
            have CG : Hid (∀ i : Nat, i < ws.length → ∀ W, Below wi.heap.size wi W → Calls Try.prog 53 #[.agg #[.slice (some ⟨X.wb, 0, none⟩) ws.length X.wc, .slice X.ra ws.length X.rc], .slice (some ⟨pb, po, none⟩) ws.length pc, .int .i64 (i : Int)] W (fun e w' => e = .returned (.int .i64 (tG ws.length F (mOf ms') i)) ∧ Below wi.heap.size wi w')) := Lib.hid (fun i hi W hW => by
              have h := xgain_any (cap := pc) (hXi.below hW) hn30 ((hpi.kept hW (Nat.le_refl _)).mono hW.size) H2.out hi
              unfold XD.val at h
              rw [HEa.out] at h
              exact h.mono (fun e w' ⟨he, hb⟩ => ⟨he, hW.trans (hb.mono hW.size)⟩))
            have hmay : mayM (wsF ws) (mOf ms') (mvOf done) (hvM ws.length (wsF ws) (mOf ms')) (bF b0 b1) q = (!mvOf done q && decide (wtsT ws ms' ws.length v + ws.getD q 0 ≤ bF b0 b1 (v : Int))) := by
              have e1 : (1 : Int) - mOf ms' q = (v : Int) := by unfold mOf; rw [hmi]; exact hv
              unfold mayM
              rw [e1, HHW.out v (by omega)]
              rfl
            have hA := atB_lt (mayM (wsF ws) (mOf ms') (mvOf done) (hvM ws.length (wsF ws) (mOf ms')) (bF b0 b1)) (tG ws.length F (mOf ms')) q
            have HS : Hid (atB (mayM (wsF ws) (mOf ms') (mvOf done) (hvM ws.length (wsF ws) (mOf ms')) (bF b0 b1)) (tG ws.length F (mOf ms')) (q + 1) = if mayM (wsF ws) (mOf ms') (mvOf done) (hvM ws.length (wsF ws) (mOf ms')) (bF b0 b1) q = true ∧ (atB (mayM (wsF ws) (mOf ms') (mvOf done) (hvM ws.length (wsF ws) (mOf ms')) (bF b0 b1)) (tG ws.length F (mOf ms')) q < 0 ∨ tG ws.length F (mOf ms') (atB (mayM (wsF ws) (mOf ms') (mvOf done) (hvM ws.length (wsF ws) (mOf ms')) (bF b0 b1)) (tG ws.length F (mOf ms')) q).toNat < tG ws.length F (mOf ms') q) then (q : Int) else atB (mayM (wsF ws) (mOf ms') (mvOf done) (hvM ws.length (wsF ws) (mOf ms')) (bF b0 b1)) (tG ws.length F (mOf ms')) q) := Lib.hid rfl
            rw [hmay] at HS
            have CGq := Lib.hid (CG.out q hltq)
            have hwb := wtsT_bd ms' HW.out ws.length (Nat.le_refl _) v
            have hx := getD_wts HW.out hltq
            have HAt : Hid (∀ i : Nat, atB (mayM (wsF ws) (mOf ms') (mvOf done) (hvM ws.length (wsF ws) (mOf ms')) (bF b0 b1)) (tG ws.length F (mOf ms')) q = (i : Int) → ∀ W, Below wi.heap.size wi W → Calls Try.prog 53 #[.agg #[.slice (some ⟨X.wb, 0, none⟩) ws.length X.wc, .slice X.ra ws.length X.rc], .slice (some ⟨pb, po, none⟩) ws.length pc, .int .i64 (i : Int)] W (fun e w' => e = .returned (.int .i64 (tG ws.length F (mOf ms') (atB (mayM (wsF ws) (mOf ms') (mvOf done) (hvM ws.length (wsF ws) (mOf ms')) (bF b0 b1)) (tG ws.length F (mOf ms')) q).toNat)) ∧ Below wi.heap.size wi w')) := Lib.hid (fun i hi W hW => by
              rw [hi, Int.toNat_natCast]
              exact CG.out i (by omega) W hW)
            clear hmay CG hXi hpi hIi hwi hmi hv
            generalize atB (mayM (wsF ws) (mOf ms') (mvOf done) (hvM ws.length (wsF ws) (mOf ms')) (bF b0 b1)) (tG ws.length F (mOf ms')) q = A at *
            generalize tG ws.length F (mOf ms') A.toNat = pa at *
            generalize tG ws.length F (mOf ms') q = pq at *
            generalize wtsT ws ms' ws.length v = W0 at *
            generalize ws.getD q 0 = x at *
            generalize bF b0 b1 (v : Int) = bv at *
            generalize mvOf done q = mv at *
            obtain ⟨res, hres⟩ : ∃ r, decide ((!mv && decide (W0 + x ≤ bv)) = true ∧ (A < 0 ∨ pa < pq)) = r := ⟨_, rfl⟩
            have hwr : IntKind.i64.wrap (W0 + x) = W0 + x := IntWalk.i64_in _ (by omega)
            have HHres := Lib.hid hres
            clear hres hx hwb
            go_upto_region 13 with fail
            go_cut [77] from 43 to 77 (fun s77 wx => s77 = .bool res ∧ Hid (Below wi.heap.size wi wx))
            case first =>
              obtain ⟨k0, k1, k2, k3, k4, _⟩ := HK.out _ (Below.refl _ _)
              cases mv with
              | true =>
                have hres : res = false := by rw [← HHres.out]; simp
                clear HS HAt CGq HK CI HHres hA
                go_quiet ((go_at_call 46; with_reducible exact Calls.quiet_of_same (CIq.out _)))
                all_goals
                  go_wp2_with fail
                  go_meet
                  exact ⟨by rw [hres], Lib.hid (below_dr _ _)⟩
              | false =>
                by_cases hle : W0 + x ≤ bv
                · have d1 : decide (W0 + x ≤ bv) = true := by simpa using hle
                  by_cases hA0 : A < 0
                  · have d2 : decide (A < 0) = true := by simpa using hA0
                    have hres : res = true := by rw [← HHres.out, d1]; simp [hA0]
                    clear HS HAt CGq HK CI HHres hA hle hA0
                    go_quiet ((go_at_call 46; with_reducible exact Calls.quiet_of_same (CIq.out _)))
                    all_goals
                      go_wp2_with fail
                      go_meet
                      exact ⟨by rw [hres], Lib.hid (below_dr _ _)⟩
                  · have d2 : decide (A < 0) = false := by simpa using hA0
                    obtain ⟨i, rfl⟩ : ∃ i : Nat, A = (i : Int) := ⟨A.toNat, by omega⟩
                    have CGa := Lib.hid (HAt.out i rfl)
                    have hres : res = decide (pa < pq) := by rw [← HHres.out, d1]; simp; omega
                    clear HS HAt CIq HHres hA hle hA0
                    go_region_held3 (fun w' => w'.cell? ⟨w.heap.size, 0, none⟩ = some (.slice (some ⟨X.wb, 0, none⟩) ws.length X.wc) ∧ w'.cell? ⟨w.heap.size, 1, none⟩ = some (.slice X.ra ws.length X.rc) ∧ w'.cell? ⟨w.heap.size + 1, v, none⟩ = some (.int .i64 bv) ∧ w'.cell? ⟨wb, v, none⟩ = some (.int .i64 W0) ∧ w'.cell? ⟨X.wb, q, none⟩ = some (.int .i64 x) ∧ Hid (Below wi.heap.size wi w')) (first | exact HK.out _ (Below.refl _ _) | exact HK.out _ (Below.refl _ _).drew | exact HK.out _ hB2.out | exact HK.out _ hB2.out.drew | exact HK.out _ hB1.out | exact HK.out _ hB1.out.drew) (first
                      | (go_at_call 46; refine (CI.out _ (by first | exact Below.refl _ _ | exact (Below.refl _ _).drew)).mono ?_; clear CI; rintro e u0 ⟨rfl, rfl⟩)
                      | (go_at_call 53; refine (CGq.out _ (by first | exact Below.refl _ _ | exact (Below.refl _ _).drew)).mono ?_; clear CGq; rintro e u1 ⟨rfl, hb⟩; have hB1 := Lib.hid hb; clear hb)
                      | (go_at_call 53; refine (CGa.out _ (by first | exact hB1.out | exact hB1.out.drew)).mono ?_; clear CGa; rintro e u2 ⟨rfl, hb⟩; have hB2 := Lib.hid hb; clear hb))
                    all_goals
                      go_wp2_with fail
                      go_meet
                      exact ⟨by rw [hres], by first | exact hB2 | exact Lib.hid hB2.out.drew⟩
                · have d1 : decide (W0 + x ≤ bv) = false := by simpa using hle
                  have hres : res = false := by rw [← HHres.out, d1]; simp
                  clear HS HAt CGq HK CI HHres hA hle
                  go_quiet ((go_at_call 46; with_reducible exact Calls.quiet_of_same (CIq.out _)))
                  all_goals
                    go_wp2_with fail
                    go_meet
                    exact ⟨by rw [hres], Lib.hid (below_dr _ _)⟩
            case rest =>
              obtain ⟨rfl, HB8⟩ := hcut
              have HQ8 := Lib.hid (HQ.out.trans (HB8.out.mono HQ.out.size))
              clear HB8 CI CIq CGq HAt HK hwr cq hA
              cases hr : res with
              | true =>
                rw [hr] at HHres
                have HS2 := Lib.hid (HS.out.trans (if_pos (of_decide_eq_true HHres.out)))
                clear HS HHres
                go_wp2
                go_roundw
                case rel => exact ⟨q + 1, by omega, by go_num, by rw [HS2.out], HQ8⟩
                case measure => simp [intOf]; omega
              | false =>
                rw [hr] at HHres
                have HS2 := Lib.hid (HS.out.trans (if_neg (of_decide_eq_false HHres.out)))
                clear HS HHres
                go_wp2
                go_roundw
                case rel => exact ⟨q + 1, by omega, by go_num, by rw [HS2.out], HQ8⟩
                case measure => simp [intOf]; omega
          · obtain rfl : q = ws.length := by omega
            have hwi : Below wo.heap.size wo wi := HB4.out.trans (HQ.out.mono z4)
            have hab := atB_best (mayM (wsF ws) (mOf ms') (mvOf done) (hvM ws.length (wsF ws) (mOf ms')) (bF b0 b1)) (tG ws.length F (mOf ms')) ws.length
            cases hbm : bestM (mayM (wsF ws) (mOf ms') (mvOf done) (hvM ws.length (wsF ws) (mOf ms')) (bF b0 b1)) (tG ws.length F (mOf ms')) ws.length with
            | none =>
              rw [hbm] at hab
              dsimp only at hab
              rw [hab]
              have HRn := Lib.hid (HR.out.stay hwi hbm)
              clear hwi hab hbm HR HIn HWt HB4 HQ
              go_wp2
              go_roundw
              case rel => exact ⟨j + 1, _, pb, po, pc, ms', bt, bo, done, by omega, by go_num, rfl, HRn⟩
              case measure => simp [intOf]; omega
            | some i =>
              rw [hbm] at hab
              dsimp only at hab
              rw [hab]
              have hi := (bestM_lt _ _ _ _ hbm).1
              have hEq := eq_next HR.out.eq hlt HMl.out hbm
              have hT := HR.out.two.on hwi HR.out.two.below.size
              have hP := (HR.out.ints.kept hwi (Nat.le_refl _)).mono hwi.size
              have hl0 : done.length + (D.length - done.length) = D.length := by
                have := congrArg List.length HR.out.eq
                rw [List.length_append] at this
                omega
              have hl1 : (fstI done).length + 1 ≤ 100 := by have := HDL.out; simp only [fstI, List.length_map]; omega
              have hl2 : (sndI done).length + 1 ≤ 100 := by have := HDL.out; simp only [sndI, List.length_map]; omega
              have hii : (0 : Int) ≤ (i : Int) := Int.natCast_nonneg i
              have d5 : decide ((0 : Int) ≤ (i : Int)) = true := by simp
              have hin : (i : Int) < (ws.length : Int) := by omega
              obtain ⟨mi, hmi⟩ : ∃ x, ms'.getD i 0 = x := ⟨_, rfl⟩
              obtain ⟨v, hv1, hv⟩ := two_nat (two_of H2.out (i := i) (by rw [HMl.out]; exact hi))
              rw [hmi] at hv
              have hwv : IntKind.i64.wrap (1 - mi) = (v : Int) := by rw [hv]; exact IntWalk.i64_in _ (by omega)
              have HFl : Hid (flipL ms' i = ms'.set i (v : Int)) := Lib.hid (by unfold flipL; rw [hmi, hv])
              have HMi := Lib.hid hmi
              have HEq := Lib.hid hEq
              have HT2 := Lib.hid hT
              have HP := Lib.hid hP
              have HHi := Lib.hid hi
              have HNt := Lib.hid HR.out.nt
              have HNo := Lib.hid HR.out.no
              have zr := hT.below.size
              clear hwi hab hbm HR HIn HWt HB4 HQ hT hP hmi hv hEq hl0
              obtain ⟨tg, htg⟩ : ∃ x, tG ws.length F (mOf ms') i = x := ⟨_, rfl⟩
              have HTg := Lib.hid htg
              clear htg
              go_upto_region 17 with (at_builtin; refine wpList_append_GB _ rfl _ _ 24 rfl w1.heap.size 3 i0 (.int .i64 0) 1 8 Try.underlying24 HI.out HZ0.out HZ1.out HZ2.out rfl (by decide) _ _ _ bt rfl (HT2.out.t.alloc _) ⟨wi.heap.size, 0, none⟩ 1 1 [.int .i64 (i : Int)] rfl rfl (cell_one _ _ _) (one_val rfl) (by decide) (by unfold maxLen; omega) (by omega) (by simp; omega) ?_; intro g5 cap5 w5 row5 hG5 hg5 hr5 hw5; have HT5 := Lib.hid (TwI.first (HT2.out.on ((Below.refl _ _).alloc (Nat.le_refl _) _) zr) (by simp; omega) hG5 hg5 hr5 hw5); have HP5 := Lib.hid (ints_grown (HP.out.kept ((Below.refl _ _).alloc (Nat.le_refl _) (.cells #[.int .i64 (i : Int)] 3)) (Nat.le_refl _)) (by simp) hg5 (fun e => by rcases hr5 with h | h; (rw [h] at e; cases e); exact HNt.out pb (e.trans h).symm rfl)); have HN5 : Hid (pb ≠ g5) := Lib.hid (by have hlt := HP.out.below.resolve_left (by omega); rcases hw5 with h | h; exact HNt.out _ h; (have : (wi.alloc (.cells #[.int .i64 (i : Int)] 3)).heap.size = wi.heap.size + 1 := by simp); omega); clear hG5 hg5 hr5 hw5 HT2 HP)
              have z5 := HT5.out.below.size
              obtain ⟨c0, c1, _, _⟩ := HC.out _ HT5.out.below
              rw [HEa.out] at c0
              have CG := Lib.hid (xgain_any (cap := pc) (HX1.out.below HT5.out.below) hn30 HP5.out H2.out HHi.out)
              unfold XD.val at CG
              rw [HTg.out, HEa.out] at CG
              go_upto_region 18 with (first
                | (go_at_call 53; refine CG.out.mono ?_; clear CG; rintro e w6 ⟨rfl, hb⟩; have HT6 := Lib.hid (HT5.out.on hb z5); have z6 := HT6.out.below.size; have HP6 := Lib.hid ((HP5.out.kept hb (Nat.le_refl _)).mono hb.size); clear hb HT5 HP5)
                | (at_builtin; refine wpList_append_GB _ rfl _ _ 22 rfl w1.heap.size 2 i6 (.int .i64 0) 1 8 Try.underlying22 HI6.out HY0.out HY1.out HY2.out rfl (by decide) _ _ _ bo rfl (HT6.out.o.alloc _) ⟨w6.heap.size, 0, none⟩ 1 1 [.int .i64 tg] rfl rfl (cell_one _ _ _) (one_val rfl) (by decide) (by unfold maxLen; omega) (by omega) (by simp; omega) ?_; intro g7 cap7 w7 row7 hG7 hg7 hr7 hw7; have HT7 := Lib.hid (TwI.second (HT6.out.on ((Below.refl _ _).alloc (Nat.le_refl _) _) z6) (by simp; omega) hG7 hg7 hr7 hw7); have HP7 := Lib.hid (ints_grown (HP6.out.kept ((Below.refl _ _).alloc (Nat.le_refl _) (.cells #[.int .i64 tg] 2)) (Nat.le_refl _)) (by simp) hg7 (fun e => by rcases hr7 with h | h; (rw [h] at e; cases e); exact HNo.out pb (e.trans h).symm rfl)); clear hG7 hg7 hr7 hw7 HT6 HP6))
              have z7 := HT7.out.below.size
              have cq := HP7.out.cell i HHi.out
              rw [HMi.out] at cq
              have CM := Lib.hid (xmovn_any (cap := pc) HP7.out (by omega) HHi.out (v := v) (by omega))
              go_wp2_with (go_at_call 23; refine CM.out.mono ?_; clear CM; rintro e w8 ⟨gm, gc8, rfl, hI, hgm, hb⟩; have HRn : Hid (RefM w1 D ws F (bF b0 b1) (some ⟨gm, 0, none⟩) gm 0 (ms'.set i (v : Int)) (done ++ [(i, tg)]) (.slice (some ⟨g5, 0, none⟩) ((fstI done).length + 1) cap5) (.slice (some ⟨g7, 0, none⟩) ((sndI done).length + 1) cap7) (some g5) (some g7) (j + 1) w8) := Lib.hid ⟨by rw [fstI_snoc, sndI_snoc]; exact HT7.out.on hb z7, hI, fun p hp => by (rcases List.mem_or_eq_of_mem_set hp with h | h; exact H2.out p h; omega), by (have := HEq.out; rw [HTg.out, HFl.out] at this; exact this), fun g e => by (cases e; have := (HT7.out.t.lt _ rfl).2.1; omega), fun g e => by (cases e; have := (HT7.out.o.lt _ rfl).2.1; omega)⟩; clear hI hgm hb HT7 HP7)
              go_roundw
              case rel => exact ⟨j + 1, _, gm, 0, gc8, ms'.set i (v : Int), some g5, some g7, done ++ [(i, tg)], by omega, by go_num, rfl, HRn⟩
              case measure => simp [intOf]; omega
      · obtain rfl : j = ws.length := by omega
        have hde : D = done := by
          have := HR.out.eq
          rw [Nat.sub_self] at this
          rw [this]
          show done ++ [] = _
          rw [List.append_nil]
        have hin := HR.out.two.ints (fun x hx => by
          rw [← hde] at hx
          obtain ⟨y, hy, rfl⟩ := List.mem_map.1 hx
          have := HDI.out y hy
          exact wf_mid _ (by omega)) (fun x hx => by
          rw [← hde] at hx
          obtain ⟨y, hy, rfl⟩ := List.mem_map.1 hx
          have := HDI.out y hy
          exact wf_mid _ (by omega))
        obtain ⟨ma, mb, mc, ga, gb, gc, rfl, rfl, hmc, i1, i2⟩ := hin
        have hl1 : (fstI done).length = D.length := by rw [hde]; simp [fstI]
        have hl2 : (sndI done).length = D.length := by rw [hde]; simp [sndI]
        rw [hl1] at hmc i1 ⊢
        rw [hl2] at i2 ⊢
        have HI1 := Lib.hid i1
        have HI2 := Lib.hid i2
        have HBe := Lib.hid (HA.out.trans (HR.out.two.below.mono HA.out.size))
        have HDd := Lib.hid hde
        clear i1 i2 hde hl1 hl2 HR
        go_wp2
        go_ret2
        rw [HDe.out]
        exact ⟨ma, mb, mc, ga, gb, gc, rfl, hmc, by have := HI1.out; rw [← HDd.out] at this; exact this, by have := HI2.out; rw [← HDd.out] at this; exact this, HBe.out⟩
end Go.Proofs.Ytjpgkocffceeoaa

namespace Go.Proofs.Ytjpgkocffceeoaa
open Go.RowKit Go.Shelf Rk

theorem behind_snoc (ms : List Int) (L : List (Nat × Int)) (x : Nat × Int) : behindL ms (L ++ [x]) = flipL (behindL ms L) x.1 := by simp [behindL]
theorem sum_small : ∀ L : List (Nat × Int), (∀ x ∈ L, - 1099511627776000 ≤ x.2 ∧ x.2 ≤ 1099511627776000) → - (1099511627776000 * (L.length : Int)) ≤ (L.map (·.2)).sum ∧ (L.map (·.2)).sum ≤ 1099511627776000 * (L.length : Int)
  | [], _ => by simp
  | x :: r, h => by
    have ih := sum_small r (fun y hy => h y (List.mem_cons_of_mem _ hy))
    have h1 := h x (List.mem_cons_self ..)
    rw [List.map_cons, List.sum_cons, List.length_cons]
    constructor <;> push_cast <;> omega
theorem IntsAt.on' {k : IntKind} {W W' : World} {a : Option Addr} {b off len : Nat} {zs : List Int} (h : IntsAt k W.heap.size W a b off len zs) (hb : Below W.heap.size W W') : IntsAt k W'.heap.size W' a b off len zs := (h.kept hb (Nat.le_refl _)).mono hb.size
/-- Between two moves of the document's pass. -/
structure PsI (w1 : World) (ms : List Int) (D : List (Nat × Int)) (len : Nat) (pa : Option Addr) (pb po : Nat) (ba : Option Addr) (bb bo : Nat) (j : Nat) (W : World) : Prop where
  part : IntsAt .i64 W.heap.size W pa pb po len (behindL ms (D.take j))
  best : IntsAt .i64 W.heap.size W ba bb bo len (behindL ms (D.take (passS (D.take j)).few))
  below : Below w1.heap.size w1 W
def XpPost (w : World) (ms : List Int) (len : Nat) (D : List (Nat × Int)) (e : Ending) (w' : World) : Prop :=
  ∃ (pa : Option Addr) (pb po pc : Nat), e = .returned (.tuple #[.slice pa len pc, .int .i64 (passS D).most]) ∧ IntsAt .i64 w'.heap.size w' pa pb po len (passP ms D) ∧ Below w.heap.size w w'
set_option maxRecDepth 100000 in
set_option maxHeartbeats 8000000 in
theorem xpass_any {w : World} {X : XD} {lo : Nat} {ws : List Int} {F : Nat → Nat → Int} (h : IsX w X lo ws F) (hw : ∀ x ∈ ws, 1 ≤ x ∧ x ≤ 1099511627776) (hn30 : ws.length ≤ 30) {a : Option Addr} {b off len cap : Nat} {ms : List Int} (hm : IntsAt .i64 w.heap.size w a b off len ms) (b0 b1 : Int) :
    Calls Try.prog 30 #[X.val ws.length, .slice a len cap, .agg #[.int .i64 b0, .int .i64 b1]] w (XpPost w ms len (movesD ws F b0 b1 ms)) := by
  have hal : Below w.heap.size w (w.alloc (.cells #[.slice X.wa ws.length X.wc, .slice X.ra ws.length X.rc] 29)) := (Below.refl _ _).alloc (Nat.le_refl _) _
  have hxd : (w.alloc (.cells #[.slice X.wa ws.length X.wc, .slice X.ra ws.length X.rc] 29)).heap[w.heap.size]? = some (.cells #[.slice X.wa ws.length X.wc, .slice X.ra ws.length X.rc] 29 (0, 0)) := heap_new (w := w) _ rfl
  have zx : (w.alloc (.cells #[.slice X.wa ws.length X.wc, .slice X.ra ws.length X.rc] 29)).heap.size = w.heap.size + 1 := by simp
  have HD := movesD_in h.tab (by omega) b0 b1 ms
  have hw0 : ∃ x, (w.alloc (.cells #[.slice X.wa ws.length X.wc, .slice X.ra ws.length X.rc] 29)).alloc (.cells #[.int .i64 b0, .int .i64 b1] 46) = x := ⟨_, rfl⟩
  have h1 := h.below hal
  have hm1 := (hm.kept hal (Nat.le_refl _)).mono hal.size
  unfold XD.val
  go_enter Try.func30, Try.ntmps30
  go_upto_region 1 with fail
  obtain ⟨w1, hw1⟩ := hw0
  have hal2 : Below (w.alloc (.cells #[.slice X.wa ws.length X.wc, .slice X.ra ws.length X.rc] 29)).heap.size (w.alloc (.cells #[.slice X.wa ws.length X.wc, .slice X.ra ws.length X.rc] 29)) w1 := by
    rw [← hw1]; exact (Below.refl _ _).alloc (Nat.le_refl _) _
  have hbb : w1.heap[w.heap.size + 1]? = some (.cells #[.int .i64 b0, .int .i64 b1] 46 (0, 0)) := by
    rw [← hw1, ← zx]; exact heap_new _ rfl
  have hbg := heap_below hxd hal2 (by omega)
  have HX1 := Lib.hid (h1.below hal2)
  have HM1 := Lib.hid ((hm1.kept hal2 (Nat.le_refl _)).mono hal2.size)
  have HA := Lib.hid (hal.trans (hal2.mono hal.size))
  have c0 := heap_cell hbg (i := 0) rfl
  have c1 := heap_cell hbg (i := 1) rfl
  have c2 := heap_cell hbb (i := 0) rfl
  have c3 := heap_cell hbb (i := 1) rfl
  simp only [List.getElem_toArray, List.getElem_cons_zero, List.getElem_cons_succ] at c0 c1 c2 c3
  have HW := Lib.hid hw
  rw [hw1]
  clear hbg hbb hal hal2 hxd zx h1 hm1 h hm hw hw1
  have CM := Lib.hid (xmoves_any (cap := cap) HX1.out HW.out hn30 HM1.out b0 b1)
  unfold XD.val MvsPost at CM
  have HDL := Lib.hid HD.1
  have HDI := Lib.hid HD.2.1
  have HD3 := Lib.hid HD.2.2.1
  clear HD
  obtain ⟨D, hD⟩ : ∃ x, movesD ws F b0 b1 ms = x := ⟨_, rfl⟩
  rw [hD] at HDL HDI HD3 CM
  have HDe := Lib.hid hD
  clear hD
  go_wp2_with fail
  refine CM.out.mono ?_
  rintro e w2 ⟨ma, mb, mc, ga, gb, gc, rfl, _, i1, i2, hb2⟩
  have hp2 := HM1.out.on' hb2
  have HP : Hid (PsI w1 ms D len a b off a b off 0 w2) := Lib.hid ⟨by rw [List.take_zero]; exact hp2, by rw [List.take_zero]; exact hp2, hb2⟩
  have HI1 := Lib.hid i1
  have HI2 := Lib.hid i2
  have HLm := Lib.hid HM1.out.length
  clear CM c0 c1 c2 c3 hp2 i1 i2 hb2 HM1
  go_wp2
  go_loopw [1, 10, 11, 12, 13] (fun pv bv av mv i wr => ∃ (j : Nat) (pa : Option Addr) (pb po pc : Nat) (ba : Option Addr) (bb bo bc : Nat), j ≤ D.length ∧ i = .int .i64 j ∧ pv = .slice pa len pc ∧ bv = .slice ba len bc ∧ av = .int .i64 (passS (D.take j)).fell ∧ mv = .int .i64 (passS (D.take j)).most ∧ Hid (PsI w2 ms D len pa pb po ba bb bo j wr)) (fun _ _ _ _ i _ => D.length - (intOf i).toNat)
  case atStart => exact ⟨0, a, b, off, cap, a, b, off, cap, Nat.zero_le _, rfl, rfl, rfl, rfl, rfl, Lib.hid ⟨HP.out.part, HP.out.best, Below.refl _ _⟩⟩
  case round =>
    obtain ⟨j, pa, pb, po, pc, ba, bb, bo, bc, hj, rfl, rfl, rfl, rfl, rfl, HQ⟩ := hrel
    rename World => wr
    by_cases hlt : j < D.length
    · have hjn : (j : Int) < (D.length : Int) := by omega
      have hj0 : (0 : Int) ≤ (j : Int) := Int.natCast_nonneg j
      obtain ⟨hml, h2⟩ : ms.length = ws.length ∧ twoM ws.length (mOf ms) := by
        rcases HD3.out with e | e
        · rw [e] at hlt; exact absurd hlt (Nat.not_lt_zero _)
        · exact e
      have hlen : len = ws.length := by rw [← HLm.out, hml]
      have htk : D.take (j + 1) = D.take j ++ [D[j]] := by rw [List.take_succ_eq_append_getElem hlt]
      have hst : passS (D.take (j + 1)) = stepS (passS (D.take j)) D[j] := by rw [htk, passS_snoc]
      have hbh : behindL ms (D.take (j + 1)) = flipL (behindL ms (D.take j)) D[j].1 := by rw [htk, behind_snoc]
      have hps := passS_take D j hj
      have htw := behindL_two (n := ws.length) (D.take j) ms hml h2 (fun x hx => (HDI.out x (List.mem_of_mem_take hx)).2.1)
      have hdx := HDI.out D[j] (List.getElem_mem hlt)
      have hbl : (behindL ms (D.take j)).length = len := by rw [behindL_length, HLm.out]
      have hsm := sum_small (D.take j) (fun x hx => (HDI.out x (List.mem_of_mem_take hx)).2.2)
      have hsl : ((D.take j).length : Int) ≤ 30 := by rw [List.length_take]; have := HDL.out; omega
      rw [← hps.2.1] at hsm
      have cm := HI1.out.cell j hlt
      have cg := HI2.out.cell j hlt
      rw [show (fstI D).getD j 0 = (D[j].1 : Int) by simp [fstI, List.getD_eq_getElem?_getD, hlt], Nat.zero_add] at cm
      rw [show (sndI D).getD j 0 = D[j].2 by simp [sndI, List.getD_eq_getElem?_getD, hlt], Nat.zero_add] at cg
      obtain ⟨i, hi⟩ : ∃ i, D[j].1 = i := ⟨_, rfl⟩
      obtain ⟨gn, hgn⟩ : ∃ g, D[j].2 = g := ⟨_, rfl⟩
      have hDj : D[j] = (i, gn) := by rw [← hi, ← hgn]
      rw [hi] at cm hbh hdx
      rw [hgn] at cg hdx
      rw [hDj] at hst
      obtain ⟨s, hs⟩ : ∃ s, passS (D.take j) = s := ⟨_, rfl⟩
      rw [hs] at hst hps hsm ⊢
      have HHs := Lib.hid hs
      have HSt := Lib.hid hst
      have HBh := Lib.hid hbh
      have hslen : s.len = j := hps.1
      have hil : i < len := by omega
      have hiN : (i : Int) < (len : Int) := by omega
      have hi0 : (0 : Int) ≤ (i : Int) := Int.natCast_nonneg i
      have hxa := HI1.out.addr.resolve_left (by omega)
      have hga := HI2.out.addr.resolve_left (by omega)
      have hpa := HQ.out.part.addr.resolve_left (by omega)
      subst hxa hga hpa
      have cp := HQ.out.part.cell i hil
      have htwi := htw i (by omega)
      unfold mOf at htwi
      obtain ⟨mi, hmi⟩ : ∃ x, (behindL ms (D.take j)).getD i 0 = x := ⟨_, rfl⟩
      rw [hmi] at cp htwi
      obtain ⟨v, hv1, hv⟩ := two_nat htwi
      have hwv : IntKind.i64.wrap (1 - mi) = (v : Int) := by rw [hv]; exact IntWalk.i64_in _ (by omega)
      have HFl : Hid (behindL ms (D.take (j + 1)) = (behindL ms (D.take j)).set i (v : Int)) := Lib.hid (by rw [hbh]; unfold flipL; rw [hmi, hv])
      have hws : IntKind.i64.wrap (s.fell + gn) = s.fell + gn := IntWalk.i64_in _ (by omega)
      have hlen60 : len ≤ 60 := by omega
      have hD60 : D.length ≤ 60 := by have := HDL.out; omega
      have HK : Hid (∀ W, Below wr.heap.size wr W → W.cell? ⟨mb, j, none⟩ = some (.int .i64 (i : Int)) ∧ W.cell? ⟨pb, po + i, none⟩ = some (.int .i64 mi) ∧ Hid (Below wr.heap.size wr W)) := Lib.hid (fun W hW => by
        have k1 := (HI1.out.on' (HQ.out.below.trans (hW.mono HQ.out.below.size))).cell j hlt
        rw [show (fstI D).getD j 0 = (D[j].1 : Int) by simp [fstI, List.getD_eq_getElem?_getD, hlt], Nat.zero_add, hi] at k1
        have k2 := (HQ.out.part.on' hW).cell i hil
        rw [hmi] at k2
        exact ⟨k1, k2, Lib.hid hW⟩)
      have CMv : Hid (∀ W, Below wr.heap.size wr W → Calls Try.prog 23 #[.slice (some ⟨pb, po, none⟩) len pc, .int .i64 (i : Int), .int .i64 (v : Int)] W (fun e w' => ∃ g c, e = .returned (.slice (some ⟨g, 0, none⟩) len c) ∧ Hid (IntsAt .i64 w'.heap.size w' (some ⟨g, 0, none⟩) g 0 len (behindL ms (D.take (j + 1)))) ∧ Hid (Below wr.heap.size wr w'))) := Lib.hid (fun W hW => by
        refine (xmovn_any (cap := pc) (HQ.out.part.on' hW) hlen60 hil (v := v) (by omega)).mono ?_
        rintro e w' ⟨g, c, he, hI, _, hb⟩
        exact ⟨g, c, he, Lib.hid (by rw [HFl.out]; exact hI), Lib.hid (hW.trans (hb.mono hW.size))⟩)
      have HCg : Hid (∀ W, Below wr.heap.size wr W → W.cell? ⟨gb, j, none⟩ = some (.int .i64 gn)) := Lib.hid (fun W hW => by
        have k1 := (HI2.out.on' (HQ.out.below.trans (hW.mono HQ.out.below.size))).cell j hlt
        rw [show (sndI D).getD j 0 = D[j].2 by simp [sndI, List.getD_eq_getElem?_getD, hlt], Nat.zero_add, hgn] at k1
        exact k1)
      have HSl := Lib.hid hslen
      clear hlen hslen htk hst hbh hps htw hdx hbl hsm hsl cm cg hi hgn hDj cp htwi hmi hv h2 hml hs
      go_upto_region 7 with fail
      go_region_held3 (fun w' => w'.cell? ⟨mb, j, none⟩ = some (.int .i64 (i : Int)) ∧ w'.cell? ⟨pb, po + i, none⟩ = some (.int .i64 mi) ∧ Hid (Below wr.heap.size wr w')) (first | exact HK.out _ (Below.refl _ _) | exact HK.out _ (Below.refl _ _).drew | exact HK.out _ hB1.out | exact HK.out _ hB1.out.drew) (first
        | (go_at_call 23; refine (CMv.out _ (by first | exact Below.refl _ _ | exact (Below.refl _ _).drew)).mono ?_; clear CMv; rintro e u1 ⟨gm, gc8, rfl, hI, hB1⟩))
      all_goals
        have cg := HCg.out _ hB1.out
        have HBst := Lib.hid ((HHs.out ▸ HQ.out.best).on' hB1.out)
        have HBel := Lib.hid (HQ.out.below.trans (hB1.out.mono HQ.out.below.size))
        clear HCg HK
        by_cases hmo : s.most < s.fell + gn
        · have d1 : decide (s.most < s.fell + gn) = true := by simpa using hmo
          have HSt2 : Hid (passS (D.take (j + 1)) = ⟨s.fell + gn, s.fell + gn, j + 1, j + 1⟩) := Lib.hid (by rw [HSt.out]; unfold stepS; rw [if_pos hmo, HSl.out])
          clear hmo
          go_wp2
          go_roundw
          case rel => exact ⟨j + 1, _, gm, 0, gc8, _, gm, 0, gc8, by omega, by go_num, rfl, rfl, by rw [HSt2.out], by rw [HSt2.out], Lib.hid ⟨hI.out, by rw [HSt2.out]; exact hI.out, HBel.out⟩⟩
          case measure => simp [intOf]; omega
        · have d1 : decide (s.most < s.fell + gn) = false := by simpa using hmo
          have HSt2 : Hid (passS (D.take (j + 1)) = ⟨s.fell + gn, s.most, s.few, j + 1⟩) := Lib.hid (by rw [HSt.out]; unfold stepS; rw [if_neg hmo, HSl.out])
          clear hmo
          go_wp2
          go_roundw
          case rel => exact ⟨j + 1, _, gm, 0, gc8, ba, bb, bo, bc, by omega, by go_num, rfl, rfl, by rw [HSt2.out], by rw [HSt2.out], Lib.hid ⟨hI.out, by rw [HSt2.out]; exact HBst.out, HBel.out⟩⟩
          case measure => simp [intOf]; omega
    · obtain rfl : j = D.length := by omega
      have hq := HQ.out.best
      rw [List.take_length] at hq ⊢
      have HQb := Lib.hid hq
      have HBe := Lib.hid (HA.out.trans ((HP.out.below.trans (HQ.out.below.mono HP.out.below.size)).mono HA.out.size))
      clear hq HQ HP
      go_wp2
      go_ret2
      rw [HDe.out]
      exact ⟨ba, bb, bo, bc, rfl, HQb.out, HBe.out⟩
end Go.Proofs.Ytjpgkocffceeoaa

namespace Go.Proofs.Ytjpgkocffceeoaa.L13
open Go.RowKit Go.Shelf Rk

/-- What lies while it is looked at. -/
structure EnR (w : World) (c0 c1 : Int) (g nb lo xb : Nat) (X : XD) (ws : List Int) (F : Nat → Nat → Int) (n : Nat) (a2 : Option Addr) (b2 off2 : Nat) (ms : List Int) (W : World) : Prop where
  box : W.heap[w.heap.size]? = some (.cells #[.int .i64 c0, .int .i64 c1] 46 (0, 0))
  one : IsG W g nb ws F
  two : IsX W X lo ws F
  xbox : W.heap[xb]? = some (.cells #[.slice X.wa ws.length X.wc, .slice X.ra ws.length X.rc] 29 (0, 0))
  part : IntsAt .i64 W.heap.size W a2 b2 off2 n ms
  below : Below w.heap.size w W
theorem EnR.on {w W W' : World} {c0 c1 : Int} {g nb lo xb : Nat} {X : XD} {ws : List Int} {F : Nat → Nat → Int} {n : Nat} {a2 : Option Addr} {b2 off2 : Nat} {ms : List Int} (h : EnR w c0 c1 g nb lo xb X ws F n a2 b2 off2 ms W) (hb : Below W.heap.size W W') : EnR w c0 c1 g nb lo xb X ws F n a2 b2 off2 ms W' :=
  ⟨heap_below h.box hb (heap_lt h.box), h.one.below hb, h.two.below hb, heap_below h.xbox hb (heap_lt h.xbox), h.part.on' hb, h.below.trans (hb.mono h.below.size)⟩
set_option maxRecDepth 100000 in
set_option maxHeartbeats 8000000 in
theorem walk_RefineEnds (a0 : Option Addr) (len0 cap0 : Nat) (z0 : List Int) (a1 : Option Addr) (len1 cap1 : Nat) (z1 : List RopV) (a2 : Option Addr) (len2 cap2 : Nat) (z2 : List Int) (c0 c1 : Int) (w : World) (w0 : IsRow .i64 w a0 len0 cap0 z0) (w1 : IsRops w a1 len1 cap1 z1) (w2 : IsRow .i64 w a2 len2 cap2 z2) (w3 : (Lit.int .i64 c0).wf = true) (w3' : (Lit.int .i64 c1).wf = true) :
    Calls Try.prog 5 #[.slice a0 len0 cap0, .slice a1 len1 cap1, .slice a2 len2 cap2, .agg #[.int .i64 c0, .int .i64 c1]] w fun e w' => e = .returned (.bool true) ∧ Below w.heap.size w w' := by
  obtain ⟨b0, off0, zs, hi0, hn0⟩ := IsRow.zz w0
  obtain ⟨_, b1, off1, hi1⟩ := w1
  obtain ⟨b2, off2, ms, hi2, hn2⟩ := IsRow.zz w2
  have hb1 : Below w.heap.size w (w.alloc (.cells #[.int .i64 c0, .int .i64 c1] 46)) := (Below.refl _ w).alloc (Nat.le_refl _) _
  have hbx : (w.alloc (.cells #[.int .i64 c0, .int .i64 c1] 46)).heap[w.heap.size]? = some (.cells #[.int .i64 c0, .int .i64 c1] 46 (0, 0)) := heap_new (w := w) _ rfl
  have H0 := Lib.hid (hi0.kept hb1 (Nat.le_refl _))
  have HN0 := Lib.hid hn0
  have H1 := Lib.hid (hi1.kept hb1 (Nat.le_refl _))
  have H2 := Lib.hid (hi2.kept hb1 (Nat.le_refl _))
  have HN2 := Lib.hid hn2
  have HBX := Lib.hid hbx
  have HBw := Lib.hid hb1
  obtain rfl := hi0.length
  obtain rfl := hi2.length
  clear w0 w2 hi0 hn0 hi1 hi2 hn2 hb1 hbx
  go_enter Try.func5, Try.ntmps5
  go_upto_region 1 with fail
  generalize (w.alloc (.cells #[.int .i64 c0, .int .i64 c1] 46)) = x0 at *
  go_wp2_with fail
  refine (alive_any _).mono ?_
  rintro e x1 ⟨rfl, hB1⟩
  have zb := HBw.out.size
  have HB1 := Lib.hid hB1
  have HBd := Lib.hid (build_any (cap0 := cap0) (cap1 := cap1) ((H0.out.kept hB1 (by omega)).mono (by have := hB1.size; omega)) HN0.out ((H1.out.kept hB1 (by omega)).mono (by have := hB1.size; omega)))
  have z1s := hB1.size
  clear hB1
  go_wp2_with fail
  refine HBd.out.mono ?_
  rintro e x2 ⟨hB, hc⟩
  have HB2 := Lib.hid (HBw.out.trans ((HB1.out.trans (hB.mono z1s)).mono zb))
  clear HBd
  rcases hc with ⟨_, rfl⟩ | ⟨⟨hl30, _⟩, g, nb, lo, Bx, X, rfl, hR, _, _⟩
  · have HB3 := Lib.hid (HB2.out.alloc HB2.out.size (.cells #[.slice none 0 0, .slice none 0 0] 29))
    clear hB
    go_wp2
    go_ret
    exact ⟨by simp, HB3.out⟩
  have hR' := both_base hR HB1.out
  have hal := (Below.refl x2.heap.size x2).alloc (Nat.le_refl _) (.cells #[.slice X.wa zs.length X.wc, .slice X.ra zs.length X.rc] 29)
  have hG := (hR'.on hal).one
  have hX := (hR'.on hal).two
  have hxb : (x2.alloc (.cells #[.slice X.wa zs.length X.wc, .slice X.ra zs.length X.rc] 29)).heap[x2.heap.size]? = some (.cells #[.slice X.wa zs.length X.wc, .slice X.ra zs.length X.rc] 29 (0, 0)) := heap_new (w := x2) _ rfl
  have hbt := HB2.out.trans (hal.mono HB2.out.size)
  have hbx0 : Below x0.heap.size x0 (x2.alloc (.cells #[.slice X.wa zs.length X.wc, .slice X.ra zs.length X.rc] 29)) := (HB1.out.trans (hB.mono z1s)).trans (hal.mono (by have := hB.size; omega))
  have HK3 : Hid (EnR w c0 c1 g nb lo x2.heap.size X zs (joins zs.length noTab z1) ms.length a2 b2 off2 ms (x2.alloc (.cells #[.slice X.wa zs.length X.wc, .slice X.ra zs.length X.rc] 29))) := Lib.hid ⟨heap_below HBX.out hbx0 (heap_lt HBX.out), hG, hX, hxb, (H2.out.kept hbx0 zb).mono hbt.size, hbt⟩
  clear hR hR' hal hG hX hxb hbt hbx0 hB HB2 HB1 HBX H0 H1 HN0
  unfold XD.val
  go_upto_region 4 with fail
  revert HK3
  generalize x2.alloc (.cells #[.slice X.wa zs.length X.wc, .slice X.ra zs.length X.rc] 29) = x3
  intro HK3
  obtain ⟨F, hF⟩ : ∃ F, joins zs.length noTab z1 = F := ⟨_, rfl⟩
  rw [hF] at HK3
  clear hF
  by_cases hz14 : 14 < zs.length
  · have hd : decide (14 < (zs.length : Int)) = true := by simp; omega
    have HB3 := Lib.hid HK3.out.below
    clear hz14
    go_wp2
    go_ret
    exact ⟨rfl, HB3.out⟩
  have hd14 : decide (14 < (zs.length : Int)) = false := by simp; omega
  by_cases hms : 60 < ms.length
  · have hd : decide (60 < (ms.length : Int)) = true := by simp; omega
    have HB3 := Lib.hid HK3.out.below
    clear hms
    go_wp2
    go_ret
    exact ⟨rfl, HB3.out⟩
  have hd : decide (60 < (ms.length : Int)) = false := by simp; omega
  have HHw := Lib.hid HK3.out.one.wts
  clear HBw
  go_wp2
  go_loopw [12, 37] (fun wv i wr => ∃ (k : Nat) (ca : Option Addr) (cb co cc : Nat) (cs : List Int), k ≤ 1000 ∧ i = .int .i64 k ∧ wv = .slice ca ms.length cc ∧ Hid (EnR w c0 c1 g nb lo x2.heap.size X zs F ms.length a2 b2 off2 ms wr) ∧ Hid (IntsAt .i64 wr.heap.size wr ca cb co ms.length cs) ∧ Hid (∀ q, Ends zs F c0 c1 cs q → Ends zs F c0 c1 ms q)) (fun _ i _ => 1000 - (intOf i).toNat)
  case atStart => exact ⟨0, a2, b2, off2, cap2, ms, by omega, rfl, rfl, HK3, Lib.hid HK3.out.part, Lib.hid (fun q h => h)⟩
  case round =>
    clear HK3
    obtain ⟨k, ca, cb, co, cc, cs, hk, rfl, rfl, HR, HC, HE⟩ := hrel
    rename World => wr
    by_cases hlt : k < 1000
    · have hkn : (k : Int) < 1000 := by omega
      have k0 := heap_cell HR.out.box (i := 0) rfl
      have k1 := heap_cell HR.out.box (i := 1) rfl
      have k2 := heap_cell HR.out.xbox (i := 0) rfl
      have k3 := heap_cell HR.out.xbox (i := 1) rfl
      simp only [List.getElem_toArray, List.getElem_cons_zero, List.getElem_cons_succ] at k0 k1 k2 k3
      have CP := Lib.hid (xpass_any (cap := cc) HR.out.two HHw.out hl30 HC.out c0 c1)
      unfold XD.val XpPost at CP
      obtain ⟨D, hD⟩ : ∃ x, movesD zs F c0 c1 cs = x := ⟨_, rfl⟩
      rw [hD] at CP
      have HSt := Lib.hid (Ends.stop (ws := zs) (F := F) (b0 := c0) (b1 := c1) (ms := cs))
      have HGo := Lib.hid (fun q => Ends.go (ws := zs) (F := F) (b0 := c0) (b1 := c1) (ms := cs) (q := q))
      rw [hD] at HSt HGo
      clear hD
      generalize (passS D).most = mo at *
      generalize passP cs D = ps at *
      go_wp2_with fail
      refine CP.out.mono ?_
      rintro e x5 ⟨pa, pb, po, pc, rfl, hp, hb⟩
      have HR5 := Lib.hid (HR.out.on hb)
      have HC5 := Lib.hid (HC.out.on' hb)
      have HP5 := Lib.hid hp
      clear hp hb CP HR HC k0 k1 k2 k3
      by_cases hm : mo = 0
      · have d1 : (mo == 0) = true := by simpa using hm
        have HEq := Lib.hid (HE.out cs (HSt.out hm))
        have k0 := heap_cell HR5.out.box (i := 0) rfl
        have k1 := heap_cell HR5.out.box (i := 1) rfl
        simp only [List.getElem_toArray, List.getElem_cons_zero, List.getElem_cons_succ] at k0 k1
        have C2 := Lib.hid (refine_any (cap := cap2) HR5.out.one (by omega) HR5.out.part HN2.out (by omega) c0 c1)
        unfold RefPost at C2
        clear hm HSt HGo HE
        go_wp2_with fail
        refine C2.out.mono ?_
        rintro e x6 ⟨qa, qb, qc, q, rfl, hE, hq, _, _, hb⟩
        obtain rfl := Ends.one hE HEq.out
        have HB6 := Lib.hid (HR5.out.on hb).below
        have HS := Lib.hid (sameints_any (cap := qc) (cap' := cc) hq (HC5.out.on' hb))
        rw [decide_eq_true rfl] at HS
        have HR6 := Lib.hid (HR5.out.on hb)
        clear hE hq hb C2 k0 k1 HR5
        go_wp2_with fail
        refine HS.out.mono ?_
        rintro e x7 ⟨rfl, hb⟩
        have HB7 := Lib.hid (HR6.out.on hb).below
        clear hb HS
        go_wp2
        go_ret
        exact ⟨rfl, HB7.out⟩
      · have d1 : (mo == 0) = false := by simpa using hm
        have HE2 := Lib.hid (fun q h => HE.out q (HGo.out q hm h))
        clear hm HSt HGo HE
        go_wp2
        go_roundw
        case rel => exact ⟨k + 1, pa, pb, po, pc, ps, by omega, by go_num, rfl, HR5, HP5, HE2⟩
        case measure => simp [intOf]; omega
    · obtain rfl : k = 1000 := by omega
      have HB3 := Lib.hid HR.out.below
      go_wp2
      go_ret
      exact ⟨rfl, HB3.out⟩
end Go.Proofs.Ytjpgkocffceeoaa.L13

namespace Go.Proofs.Ytjpgkocffceeoaa.L13
open Go.RowKit Go.Shelf Rk

theorem and_f (a : Int) : 0 ≤ bits .and .i64 a 15 ∧ bits .and .i64 a 15 ≤ 15 := by
  have h511 : (BitVec.ofInt 64 15).toNat = 2 ^ 4 - 1 := by decide
  have key : (BitVec.ofInt 64 a &&& BitVec.ofInt 64 15).toNat = (a % ((2 ^ 64 : Nat) : Int)).toNat % 2 ^ 4 := by
    rw [BitVec.toNat_and, BitVec.toNat_ofInt, h511, Nat.and_two_pow_sub_one_eq_mod]
  have e : bits .and .i64 a 15 = IntKind.i64.wrap ((BitVec.ofInt 64 a &&& BitVec.ofInt 64 15).toNat : Nat) := rfl
  rw [e, key, IntKind.wrap_i64]
  omega
theorem ints_take {k : IntKind} {B : Nat} {w : World} {a : Option Addr} {b off len n : Nat} {zs : List Int} (h : IntsAt k B w a b off len zs) (hn : n ≤ len) : IntsAt k B w a b off n (zs.take n) :=
  ⟨h.addr.imp (fun e => by omega) id, by rw [List.length_take, h.length]; omega, by have := h.small; omega, h.below.imp (fun e => by omega) id, fun i hi => by
    rw [h.cell i (by omega)]
    simp [List.getD_eq_getElem?_getD, List.getElem?_take, hi], fun x hx => h.fits x (List.mem_of_mem_take hx)⟩
theorem enc_fst (D : List (Nat × Int)) : (encI D).map (·.1) = fstI D := by simp [encI, fstI]
theorem enc_snd (D : List (Nat × Int)) : (encI D).map (·.2) = sndI D := by simp [encI, sndI]
theorem enc_take (D : List (Nat × Int)) {m n : Nat} (hn : n = min m D.length) : ((encI D).take m).length = n ∧ ((encI D).take m).map (·.1) = (fstI D).take n := by
  have hl : (encI D).length = D.length := by simp [encI]
  refine ⟨by rw [List.length_take, hl, hn], ?_⟩
  rw [← enc_fst, ← List.map_take]
  congr 1
  rw [hn]
  by_cases h : m ≤ D.length
  · rw [Nat.min_eq_left h]
  · rw [Nat.min_eq_right (by omega), List.take_of_length_le (by omega), List.take_of_length_le (by omega)]
set_option maxRecDepth 100000 in
set_option maxHeartbeats 8000000 in
theorem walk_RefineMoves (a0 : Option Addr) (len0 cap0 : Nat) (z0 : List Int) (a1 : Option Addr) (len1 cap1 : Nat) (z1 : List RopV) (a2 : Option Addr) (len2 cap2 : Nat) (z2 : List Int) (c0 c1 : Int) (a4 : Int) (w : World) (w0 : IsRow .i64 w a0 len0 cap0 z0) (w1 : IsRops w a1 len1 cap1 z1) (w2 : IsRow .i64 w a2 len2 cap2 z2) (w3 : (Lit.int .i64 c0).wf = true) (w3' : (Lit.int .i64 c1).wf = true) (w4 : (Lit.int .i64 a4).wf = true) :
    Calls Try.prog 4 #[.slice a0 len0 cap0, .slice a1 len1 cap1, .slice a2 len2 cap2, .agg #[.int .i64 c0, .int .i64 c1], .int .i64 a4] w fun e w' => e = .returned (.bool true) ∧ Below w.heap.size w w' := by
  obtain ⟨b0, off0, zs, hi0, hn0⟩ := IsRow.zz w0
  obtain ⟨_, b1, off1, hi1⟩ := w1
  obtain ⟨b2, off2, ms, hi2, hn2⟩ := IsRow.zz w2
  have hb1 : Below w.heap.size w (w.alloc (.cells #[.int .i64 c0, .int .i64 c1] 46)) := (Below.refl _ w).alloc (Nat.le_refl _) _
  have hbx : (w.alloc (.cells #[.int .i64 c0, .int .i64 c1] 46)).heap[w.heap.size]? = some (.cells #[.int .i64 c0, .int .i64 c1] 46 (0, 0)) := heap_new (w := w) _ rfl
  have H0 := Lib.hid (hi0.kept hb1 (Nat.le_refl _))
  have HN0 := Lib.hid hn0
  have H1 := Lib.hid (hi1.kept hb1 (Nat.le_refl _))
  have H2 := Lib.hid (hi2.kept hb1 (Nat.le_refl _))
  have HN2 := Lib.hid hn2
  have HBX := Lib.hid hbx
  have HBw := Lib.hid hb1
  obtain rfl := hi0.length
  obtain rfl := hi2.length
  clear w0 w2 hi0 hn0 hi1 hi2 hn2 hb1 hbx
  go_enter Try.func4, Try.ntmps4
  go_upto_region 1 with fail
  generalize (w.alloc (.cells #[.int .i64 c0, .int .i64 c1] 46)) = x0 at *
  go_wp2_with fail
  refine (alive_any _).mono ?_
  rintro e x1 ⟨rfl, hB1⟩
  have zb := HBw.out.size
  have HB1 := Lib.hid hB1
  have HBd := Lib.hid (build_any (cap0 := cap0) (cap1 := cap1) ((H0.out.kept hB1 (by omega)).mono (by have := hB1.size; omega)) HN0.out ((H1.out.kept hB1 (by omega)).mono (by have := hB1.size; omega)))
  have z1s := hB1.size
  clear hB1
  go_wp2_with fail
  refine HBd.out.mono ?_
  rintro e x2 ⟨hB, hc⟩
  have HB2 := Lib.hid (HBw.out.trans ((HB1.out.trans (hB.mono z1s)).mono zb))
  clear HBd
  rcases hc with ⟨_, rfl⟩ | ⟨⟨hl30, _⟩, g, nb, lo, Bx, X, rfl, hR, _, _⟩
  · have HB3 := Lib.hid (HB2.out.alloc HB2.out.size (.cells #[.slice none 0 0, .slice none 0 0] 29))
    clear hB
    go_wp2
    go_ret
    exact ⟨by simp, HB3.out⟩
  have hR' := both_base hR HB1.out
  have hal := (Below.refl x2.heap.size x2).alloc (Nat.le_refl _) (.cells #[.slice X.wa zs.length X.wc, .slice X.ra zs.length X.rc] 29)
  have hG := (hR'.on hal).one
  have hX := (hR'.on hal).two
  have hxb : (x2.alloc (.cells #[.slice X.wa zs.length X.wc, .slice X.ra zs.length X.rc] 29)).heap[x2.heap.size]? = some (.cells #[.slice X.wa zs.length X.wc, .slice X.ra zs.length X.rc] 29 (0, 0)) := heap_new (w := x2) _ rfl
  have hbt := HB2.out.trans (hal.mono HB2.out.size)
  have hbx0 : Below x0.heap.size x0 (x2.alloc (.cells #[.slice X.wa zs.length X.wc, .slice X.ra zs.length X.rc] 29)) := (HB1.out.trans (hB.mono z1s)).trans (hal.mono (by have := hB.size; omega))
  have HK3 : Hid (EnR w c0 c1 g nb lo x2.heap.size X zs (joins zs.length noTab z1) ms.length a2 b2 off2 ms (x2.alloc (.cells #[.slice X.wa zs.length X.wc, .slice X.ra zs.length X.rc] 29))) := Lib.hid ⟨heap_below HBX.out hbx0 (heap_lt HBX.out), hG, hX, hxb, (H2.out.kept hbx0 zb).mono hbt.size, hbt⟩
  clear hR hR' hal hG hX hxb hbt hbx0 hB HB2 HB1 HBX H0 H1 HN0
  unfold XD.val
  go_upto_region 4 with fail
  revert HK3
  generalize x2.alloc (.cells #[.slice X.wa zs.length X.wc, .slice X.ra zs.length X.rc] 29) = x3
  intro HK3
  obtain ⟨F, hF⟩ : ∃ F, joins zs.length noTab z1 = F := ⟨_, rfl⟩
  rw [hF] at HK3
  clear hF
  by_cases hz14 : 14 < zs.length
  · have hd : decide (14 < (zs.length : Int)) = true := by simp; omega
    have HB3 := Lib.hid HK3.out.below
    clear hz14
    go_wp2
    go_ret
    exact ⟨rfl, HB3.out⟩
  have hd14 : decide (14 < (zs.length : Int)) = false := by simp; omega
  by_cases hms : 60 < ms.length
  · have hd : decide (60 < (ms.length : Int)) = true := by simp; omega
    have HB3 := Lib.hid HK3.out.below
    clear hms
    go_wp2
    go_ret
    exact ⟨rfl, HB3.out⟩
  have hd : decide (60 < (ms.length : Int)) = false := by simp; omega
  have HHw := Lib.hid HK3.out.one.wts
  clear HBw
  obtain ⟨hD1, hD2, _, _⟩ := movesD_in HK3.out.one.tab (by omega) c0 c1 ms
  obtain ⟨D, hD⟩ : ∃ x, movesD zs F c0 c1 ms = x := ⟨_, rfl⟩
  rw [hD] at hD1 hD2
  have HD := Lib.hid hD
  have HD2 := Lib.hid hD2
  have hD60 : D.length ≤ 14 := by omega
  clear hD hD2 hD1
  have k0 := heap_cell HK3.out.box (i := 0) rfl
  have k1 := heap_cell HK3.out.box (i := 1) rfl
  simp only [List.getElem_toArray, List.getElem_cons_zero, List.getElem_cons_succ] at k0 k1
  have C1 := Lib.hid (lmoves_any (cap := cap2) HK3.out.one (by omega) HK3.out.part HN2.out c0 c1 100 (by decide))
  rw [HD.out, List.take_of_length_le (by simp [encI]; omega)] at C1
  unfold TwoPost at C1
  rw [enc_fst, enc_snd, show (encI D).length = D.length by simp [encI]] at C1
  go_wp2_with fail
  refine C1.out.mono ?_
  rintro e x4 ⟨v1, v2, rfl, g1, g2, hb⟩
  have hf1 : ∀ x ∈ fstI D, (Lit.int .i64 x).wf = true := fun x hx => by
    obtain ⟨y, hy, rfl⟩ := List.mem_map.1 hx
    have := HD2.out y hy
    exact wf_mid _ (by omega)
  have hf2 : ∀ x ∈ sndI D, (Lit.int .i64 x).wf = true := fun x hx => by
    obtain ⟨y, hy, rfl⟩ := List.mem_map.1 hx
    have := HD2.out y hy
    exact wf_mid _ (by omega)
  obtain ⟨la, lc, lb, rfl, _, _, _, hLI⟩ := g1.ints (by simp [fstI]) hf1
  obtain ⟨ga, gc, gb, rfl, _, _, _, hGI⟩ := g2.ints (by simp [sndI]) hf2
  have HF1 := Lib.hid hf1
  have HK4 := Lib.hid (HK3.out.on hb)
  have HA4 := Lib.hid hLI
  have HB4 := Lib.hid hGI
  clear g1 g2 hLI hGI hb C1 k0 k1 HK3 hf1 hf2
  have k0 := heap_cell HK4.out.box (i := 0) rfl
  have k1 := heap_cell HK4.out.box (i := 1) rfl
  have k2 := heap_cell HK4.out.xbox (i := 0) rfl
  have k3 := heap_cell HK4.out.xbox (i := 1) rfl
  simp only [List.getElem_toArray, List.getElem_cons_zero, List.getElem_cons_succ] at k0 k1 k2 k3
  have C2 := Lib.hid (xmoves_any (cap := cap2) HK4.out.two HHw.out hl30 HK4.out.part c0 c1)
  unfold XD.val MvsPost at C2
  rw [HD.out] at C2
  go_wp2_with fail
  refine C2.out.mono ?_
  rintro e x5 ⟨ma, mb, mc, na, nb', nc, rfl, hmc, i1, i2, hb⟩
  have HK5 := Lib.hid (HK4.out.on hb)
  have HA5 := Lib.hid (HA4.out.on' hb)
  have HB5 := Lib.hid (HB4.out.on' hb)
  have HU5 := Lib.hid i1
  have HV5 := Lib.hid i2
  clear i1 i2 hb C2 k0 k1 k2 k3 HK4 HA4 HB4
  have HS := Lib.hid (sameints_any (cap := lc) (cap' := mc) HA5.out HU5.out)
  rw [decide_eq_true rfl] at HS
  go_wp2_with fail
  refine HS.out.mono ?_
  rintro e x6 ⟨rfl, hb⟩
  have HK6 := Lib.hid (HK5.out.on hb)
  have HB6 := Lib.hid (HB5.out.on' hb)
  have HU6 := Lib.hid (HU5.out.on' hb)
  have HV6 := Lib.hid (HV5.out.on' hb)
  clear hb HS HK5 HA5 HB5 HU5 HV5
  go_wp2
  go_loopw [74] (fun i wr => ∃ j : Nat, j ≤ D.length ∧ i = .int .i64 j ∧ Hid (∃ n, wr = x6.drewN n)) (fun i _ => D.length - (intOf i).toNat)
  case atStart => exact ⟨0, Nat.zero_le _, rfl, Lib.hid ⟨0, rfl⟩⟩
  case round =>
    obtain ⟨j, hj, rfl, HX⟩ := hrel
    obtain ⟨nd, rfl⟩ := HX.out
    by_cases hlt : j < D.length
    · have hlt2 : (j : Int) < (D.length : Int) := by omega
      have hii : (0 : Int) ≤ (j : Int) := Int.natCast_nonneg j
      have e1 := HB6.out.cell j hlt
      have e2 := HV6.out.cell j hlt
      rw [Nat.zero_add] at e1 e2
      have ha1 := HB6.out.addr.resolve_left (by omega)
      have ha2 := HV6.out.addr.resolve_left (by omega)
      subst ha1 ha2
      generalize (sndI D).getD j 0 = gv at *
      have d1 : (gv != gv) = false := by simp
      go_wp2
      go_quiet (fail)
      go_wp2
      go_roundw
      case rel => exact ⟨j + 1, by omega, by go_num, Lib.hid ⟨_, rfl⟩⟩
      case measure => simp [intOf]; omega
    · obtain rfl : j = D.length := by omega
      have HK7 := Lib.hid (HK6.out.on (below_dr x6 nd))
      have HU7 := Lib.hid (HU6.out.on' (below_dr x6 nd))
      clear HK6 HB6 HU6 HV6 HX
      generalize x6.drewN nd = x7 at *
      obtain ⟨hm0, hm1⟩ := and_f a4
      obtain ⟨m, hm⟩ : ∃ m : Nat, bits .and .i64 a4 15 = (m : Int) := ⟨(bits .and .i64 a4 15).toNat, by omega⟩
      rw [hm] at hm0 hm1
      obtain ⟨n, hn⟩ : ∃ n, min m D.length = n := ⟨_, rfl⟩
      have hnv : (if D.length < m then (D.length : Int) else (m : Int)) = (n : Int) := by rw [← hn]; split <;> omega
      have hnD : n ≤ D.length := by omega
      have HN := Lib.hid hn
      have HNV := Lib.hid hnv
      clear hn hnv
      go_upto_region 17 with fail
      rw [HNV.out]
      have k0 := heap_cell HK7.out.box (i := 0) rfl
      have k1 := heap_cell HK7.out.box (i := 1) rfl
      simp only [List.getElem_toArray, List.getElem_cons_zero, List.getElem_cons_succ] at k0 k1
      have C3 := Lib.hid (lmoves_any (cap := cap2) HK7.out.one (by omega) HK7.out.part HN2.out c0 c1 (m : Int) (by omega))
      rw [HD.out, Int.toNat_natCast] at C3
      unfold TwoPost at C3
      rw [(enc_take D HN.out.symm).1, (enc_take D HN.out.symm).2] at C3
      go_wp2_with fail
      refine C3.out.mono ?_
      rintro e x8 ⟨v1, v2, rfl, g1, _, hb⟩
      obtain ⟨ra, rc, rb, rfl, _, _, _, hLI⟩ := g1.ints (by rw [List.length_take]; simp [fstI]; omega) (fun x hx => HF1.out x (List.mem_of_mem_take hx))
      have HK8 := Lib.hid (HK7.out.on hb)
      have HU8 := Lib.hid (HU7.out.on' hb)
      have HR8 := Lib.hid hLI
      clear g1 hLI hb C3 k0 k1 HK7 HU7
      have k0 := heap_cell HK8.out.box (i := 0) rfl
      have k1 := heap_cell HK8.out.box (i := 1) rfl
      simp only [List.getElem_toArray, List.getElem_cons_zero, List.getElem_cons_succ] at k0 k1
      have C4 := Lib.hid (pass_any (cap := cap2) HK8.out.one (by omega) HK8.out.part HN2.out (by omega) c0 c1)
      unfold PassPost at C4
      rw [HD.out] at C4
      go_upto_region 19 with (go_at_call 29; refine C4.out.mono ?_; clear C4; rintro e x9 ⟨pa, pb, pc, rfl, hp, _, _, hb⟩; have HK9 := Lib.hid (HK8.out.on hb); have HU9 := Lib.hid (HU8.out.on' hb); have HR9 := Lib.hid (HR8.out.on' hb); have HP9 := Lib.hid hp; clear hp hb HK8 HU8 HR8 k0 k1)
      have k0 := heap_cell HK9.out.box (i := 0) rfl
      have k1 := heap_cell HK9.out.box (i := 1) rfl
      have k2 := heap_cell HK9.out.xbox (i := 0) rfl
      have k3 := heap_cell HK9.out.xbox (i := 1) rfl
      simp only [List.getElem_toArray, List.getElem_cons_zero, List.getElem_cons_succ] at k0 k1 k2 k3
      have C5 := Lib.hid (xpass_any (cap := cap2) HK9.out.two HHw.out hl30 HK9.out.part c0 c1)
      unfold XD.val XpPost at C5
      rw [HD.out] at C5
      go_upto_region 20 with (go_at_call 30; refine C5.out.mono ?_; clear C5; rintro e y ⟨qa, qb, qo, qc, rfl, hq, hb⟩; have HB := Lib.hid (HK9.out.on hb).below; have HU := Lib.hid (HU9.out.on' hb); have HR := Lib.hid (HR9.out.on' hb); have HP := Lib.hid (HP9.out.on' hb); have HQ := Lib.hid hq; clear hq hb HK9 HU9 HR9 HP9 k0 k1 k2 k3)
      generalize (passS D).most = mo at *
      generalize passP ms D = ps at *
      have HTk := Lib.hid (ints_take HU.out hnD)
      have C6 := Lib.hid (sameints_any (cap := rc) (cap' := mc) HR.out HTk.out)
      rw [decide_eq_true rfl] at C6
      have hnc : (n : Int) ≤ (mc : Int) := by omega
      have hn0 : (0 : Int) ≤ (n : Int) := Int.natCast_nonneg n
      have d1 : (mo == mo) = true := by simp
      go_wp2_with (first
        | (go_at_call 16; refine C6.out.mono ?_; rintro e y2 ⟨rfl, hb⟩; have HB2 := Lib.hid (HB.out.trans (hb.mono HB.out.size)); have C7 := Lib.hid (sameints_any (cap := pc) (cap' := qc) (HP.out.on' hb) (HQ.out.on' hb)); rw [decide_eq_true rfl] at C7; clear hb C6)
        | (go_at_call 16; refine C7.out.mono ?_; rintro e y3 ⟨rfl, hb⟩; have HB3 := Lib.hid (HB2.out.trans (hb.mono HB2.out.size)); clear hb C7))
      go_ret
      exact ⟨rfl, HB3.out⟩
end Go.Proofs.Ytjpgkocffceeoaa.L13
