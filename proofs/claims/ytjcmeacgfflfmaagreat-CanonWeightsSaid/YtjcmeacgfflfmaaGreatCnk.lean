/- canon: walk of CanonWeights. Plain: what a model's graph has between two, and all together. -/
import Derived.Test.YtjcmeacgfflfmaaGreatCni
import Derived.Test.YtjcmeacgfflfmaaGreatCnh
import Derived.Test.YtjcmeacgfflfmaaGreatGq
import Derived.Deep.RegionHeld3
set_option linter.unusedVariables false
set_option linter.unusedSectionVars false
set_option linter.unusedSimpArgs false
namespace Go.Proofs.YtjcmeacgfflfmaaGreat.Hk
open Go.RowKit Go.Shelf Go.Proofs.YtjcmeacgfflfmaaGreat.Md

theorem nms_len (m : ModelM) : (nmsP m).length = m.procs.length := by unfold nmsP; rw [List.length_map]
theorem pl_at {m : ModelM} {y : ByteArray} (hy : (fstP (nmsP m) y).isSome = true) : plM m y < m.procs.length ∧ (nmsP m)[plM m y]? = some y := by
  obtain ⟨i, hi⟩ := Option.isSome_iff_exists.1 hy
  unfold plM
  rw [hi]
  have h1 := fstP_at hi
  have h2 := (List.getElem?_eq_some_iff.1 h1).1
  rw [nms_len] at h2
  exact ⟨h2, h1⟩
theorem ln_bd {m : ModelM} (h : Right m) {j : Nat} {l : LinkM} (hl : m.links[j]? = some l) : 1 ≤ max1 l.weight ∧ max1 l.weight ≤ 1048576 ∧ (fstP (nmsP m) l.frm).isSome = true ∧ (fstP (nmsP m) l.to_).isSome = true := by
  obtain ⟨_, h2, _, h4⟩ := ln_parts.1 (h.links j l hl)
  unfold wgtB at h4
  simp at h4 h2
  unfold max1
  refine ⟨by split <;> omega, by split <;> omega, h2.1, h2.2⟩
/-- A link's step, in a right model. -/
theorem tab_next {m : ModelM} (h : Right m) {j : Nat} {l : LinkM} (hl : m.links[j]? = some l) (hb : ∀ x y, 0 ≤ tabM m j x y ∧ tabM m j x y ≤ 1048576 * (j : Int)) : tabM m (j + 1) = if l.frm = l.to_ then tabM m j else joinT (tabM m j) (plM m l.frm) (plM m l.to_) (tabM m j (plM m l.frm) (plM m l.to_) + max1 l.weight) := by
  rw [tabM_succ hl]
  unfold tabS
  by_cases hft : l.frm = l.to_
  · rw [if_pos hft, if_pos hft]
  rw [if_neg hft, if_neg hft]
  obtain ⟨b1, b2, b3, b4⟩ := ln_bd h hl
  obtain ⟨p1, p2⟩ := pl_at b3
  obtain ⟨q1, q2⟩ := pl_at b4
  have hne : plM m l.frm ≠ plM m l.to_ := fun e => by
    rw [e] at p2
    rw [p2] at q2
    exact hft (Option.some.inj q2)
  have hj : j < m.links.length := (List.getElem?_eq_some_iff.1 hl).1
  have hj2 := h.few.2.1
  have hb' := hb (plM m l.frm) (plM m l.to_)
  have hE : joinE m.procs.length (tabM m j) (plM m l.frm : Nat) (plM m l.to_ : Nat) (max1 l.weight) = 0 := by
    unfold joinE
    rw [btw_nat _ _ p1 q1, hasN_nat p1, hasN_nat q1, may_mk b1 (by omega), may_mk (by omega) (by omega)]
    rw [if_neg (by simp; omega), if_neg (by simp)]
  unfold joinF
  rw [if_pos hE, btw_nat _ _ p1 q1, Int.toNat_natCast, Int.toNat_natCast]
theorem tab_bd {m : ModelM} (h : Right m) : ∀ j, j ≤ m.links.length → (∀ x y, 0 ≤ tabM m j x y ∧ tabM m j x y ≤ 1048576 * (j : Int)) ∧ ∀ x y, tabM m j x y = tabM m j y x
  | 0, _ => ⟨fun x y => by simp [tabM, noTab], fun x y => by simp [tabM, noTab]⟩
  | j + 1, hj => by
    have ih := tab_bd h j (by omega)
    obtain ⟨l, hl⟩ : ∃ l, m.links[j]? = some l := ⟨_, List.getElem?_eq_getElem (by omega)⟩
    rw [tab_next h hl ih.1]
    obtain ⟨b1, b2, _⟩ := ln_bd h hl
    by_cases hft : l.frm = l.to_
    · rw [if_pos hft]
      exact ⟨fun x y => by have := ih.1 x y; omega, ih.2⟩
    · rw [if_neg hft]
      refine ⟨fun x y => ?_, fun x y => ?_⟩
      · unfold joinT
        have h1 := ih.1 x y
        have h2 := ih.1 (plM m l.frm) (plM m l.to_)
        split <;> omega
      · unfold joinT
        have h1 := ih.2 x y
        by_cases e : (x = plM m l.frm ∧ y = plM m l.to_) ∨ (x = plM m l.to_ ∧ y = plM m l.frm)
        · rw [if_pos e, if_pos (by rcases e with ⟨e1, e2⟩ | ⟨e1, e2⟩ <;> simp [e1, e2])]
        · rw [if_neg e, if_neg (by intro e'; apply e; rcases e' with ⟨e1, e2⟩ | ⟨e1, e2⟩ <;> simp [e1, e2]), h1]
theorem sumTo_upd {n : Nat} {f : Nat → Int} {b : Nat} (v : Int) (hb : b < n) : sumTo n (upd f b v) = sumTo n f + (v - f b) := by
  induction n with
  | zero => omega
  | succ n ih =>
    unfold sumTo
    by_cases e : b = n
    · subst e
      rw [sumTo_congr (g := f) (fun c hc => by unfold upd; rw [if_neg (by omega)])]
      show _ + (if b = b then v else f b) = _
      rw [if_pos rfl]; omega
    · rw [ih (by omega)]
      show _ + (if n = b then v else f n) = _
      rw [if_neg (by omega)]; omega
/-- All that is between two, counted from either side. -/
def deg2 (n i : Nat) (F : Nat → Nat → Int) : Int := sumTo i (fun a => sumTo n (F a))
theorem deg2_join {n a b : Nat} {F : Nat → Nat → Int} (v : Int) (ha : a < n) (hb : b < n) (hab : a ≠ b) : deg2 n n (joinT F a b v) = deg2 n n F + (v - F a b) + (v - F b a) := by
  have e : (fun c => sumTo n (joinT F a b v c)) = upd (upd (fun c => sumTo n (F c)) a (sumTo n (F a) + (v - F a b))) b (sumTo n (F b) + (v - F b a)) := by
    funext c
    rw [join_row F a b v hab c]
    show _ = (if c = b then sumTo n (F b) + (v - F b a) else (if c = a then sumTo n (F a) + (v - F a b) else sumTo n (F c)))
    by_cases h1 : c = b
    · subst h1
      rw [if_neg (fun e => hab e.symm), if_pos rfl, if_pos rfl]
      exact sumTo_upd v ha
    · simp only [if_neg h1]
      by_cases h2 : c = a
      · subst h2
        rw [if_pos rfl, if_pos rfl]
        exact sumTo_upd v hb
      · rw [if_neg h2, if_neg h2]
  have e2 : upd (fun c => sumTo n (F c)) a (sumTo n (F a) + (v - F a b)) b = sumTo n (F b) := by
    unfold upd
    rw [if_neg (fun e => hab e.symm)]
  unfold deg2
  rw [e, sumTo_upd _ hb, sumTo_upd _ ha, e2]
  omega
/-- What a link weighs between unlike ones. -/
def lnk (l : LinkM) : Int := if l.frm = l.to_ then 0 else max1 l.weight
def lsum (L : List LinkM) (j : Nat) : Int := ((L.take j).map lnk).sum
theorem lsum_succ {L : List LinkM} {j : Nat} {l : LinkM} (h : L[j]? = some l) : lsum L (j + 1) = lsum L j + lnk l := by
  unfold lsum
  rw [List.take_add_one, h]
  simp
theorem deg_links {m : ModelM} (h : Right m) : ∀ j, j ≤ m.links.length → deg2 m.procs.length m.procs.length (tabM m j) = 2 * lsum m.links j
  | 0, _ => by
    have : ∀ k i, deg2 k i (tabM m 0) = 0 := fun k i => by
      unfold deg2
      have e : (fun a => sumTo k (tabM m 0 a)) = fun _ => 0 := by
        funext a
        have : ∀ k, sumTo k (tabM m 0 a) = 0 := fun k => by
          induction k with
          | zero => rfl
          | succ k ih => unfold sumTo; rw [ih]; simp [tabM, noTab]
        exact this k
      rw [e]
      induction i with
      | zero => rfl
      | succ i ih => unfold sumTo; rw [ih]; rfl
    rw [this]
    simp [lsum]
  | j + 1, hj => by
    have ih := deg_links h j (by omega)
    have hb := tab_bd h j (by omega)
    obtain ⟨l, hl⟩ : ∃ l, m.links[j]? = some l := ⟨_, List.getElem?_eq_getElem (by omega)⟩
    rw [tab_next h hl hb.1, lsum_succ hl]
    obtain ⟨b1, b2, b3, b4⟩ := ln_bd h hl
    obtain ⟨p1, p2⟩ := pl_at b3
    obtain ⟨q1, q2⟩ := pl_at b4
    unfold lnk
    by_cases hft : l.frm = l.to_
    · rw [if_pos hft, if_pos hft, ih]; omega
    · have hne : plM m l.frm ≠ plM m l.to_ := fun e => by
        rw [e] at p2
        rw [p2] at q2
        exact hft (Option.some.inj q2)
      rw [if_neg hft, if_neg hft, deg2_join _ p1 q1 hne, ih, hb.2 (plM m l.to_) (plM m l.frm)]
      omega
theorem sumTo_bd {n : Nat} {f : Nat → Int} {B : Int} (h : ∀ i, i < n → 0 ≤ f i ∧ f i ≤ B) : 0 ≤ sumTo n f ∧ sumTo n f ≤ B * (n : Int) := by
  induction n with
  | zero => simp [sumTo]
  | succ n ih =>
    have h1 := ih (fun i hi => h i (by omega))
    have h2 := h n (by omega)
    unfold sumTo
    have e : B * ((n + 1 : Nat) : Int) = B * (n : Int) + B := by rw [Int.natCast_add, Int.mul_add]; simp
    rw [e]
    omega
theorem lsum_bd {m : ModelM} (h : Right m) : ∀ j, j ≤ m.links.length → 0 ≤ lsum m.links j ∧ lsum m.links j ≤ 1048576 * (j : Int)
  | 0, _ => by simp [lsum]
  | j + 1, hj => by
    have ih := lsum_bd h j (by omega)
    obtain ⟨l, hl⟩ : ∃ l, m.links[j]? = some l := ⟨_, List.getElem?_eq_getElem (by omega)⟩
    obtain ⟨b1, b2, _⟩ := ln_bd h hl
    rw [lsum_succ hl]
    unfold lnk
    split <;> omega
def wsm (m : ModelM) (j : Nat) : Int := ((wtsM m).take j).sum
theorem wsm_succ {m : ModelM} {j : Nat} {p : ProcM} (h : m.procs[j]? = some p) : wsm m (j + 1) = wsm m j + max1 p.weight := by
  unfold wsm
  rw [List.take_add_one, show (wtsM m)[j]? = some (max1 p.weight) by unfold wtsM; rw [List.getElem?_map, h]; rfl]
  simp
theorem pw_bd {m : ModelM} (h : Right m) {j : Nat} {p : ProcM} (hp : m.procs[j]? = some p) : 1 ≤ max1 p.weight ∧ max1 p.weight ≤ 1048576 := by
  obtain ⟨_, h2, _⟩ := nm_zero (h.procs j p hp)
  unfold wgtB at h2
  simp at h2
  unfold max1
  split <;> omega
theorem wsm_bd {m : ModelM} (h : Right m) : ∀ j, j ≤ m.procs.length → 0 ≤ wsm m j ∧ wsm m j ≤ 1048576 * (j : Int)
  | 0, _ => by simp [wsm]
  | j + 1, hj => by
    have ih := wsm_bd h j (by omega)
    obtain ⟨p, hp⟩ : ∃ p, m.procs[j]? = some p := ⟨_, List.getElem?_eq_getElem (by omega)⟩
    have := pw_bd h hp
    rw [wsm_succ hp]
    omega
theorem few_len2 {m : ModelM} (h : fewB m = true) : m.procs.length ≤ 12 ∧ m.links.length ≤ 24 := by
  unfold fewB at h
  simp only [Bool.and_eq_true, decide_eq_true_eq] at h
  exact ⟨h.1.1.1.1, h.1.1.1.2⟩

theorem deg_at {w : World} {g nb : Nat} {ws : List Int} {F : Nat → Nat → Int} (h : IsG w g nb ws F) {i : Nat} (hi : i < ws.length) : Calls Tryz.prog 26 #[.pointer (some ⟨g, 0, none⟩), .int .i64 (i : Int)] w fun e w' => e = .returned (.int .i64 (sumTo ws.length (F i))) ∧ Below w.heap.size w w' := by
  have := degree_any h (i : Int)
  rw [nearD_nat F hi, vals_rowOf _ _ (fun b _ => h.tab.lo i b)] at this
  exact this
set_option maxRecDepth 100000 in
set_option maxHeartbeats 16000000 in
theorem walk_CanonWeights (x : ModelV) (w : World) (h : ModelAt w.heap.size w x) (hw : (Lit.int .i64 x.ver).wf = true) : Calls Tryz.prog 8 #[.agg #[.int .i64 x.ver, .slice x.pa x.procs.length x.pc, .slice x.la x.links.length x.lc, .slice x.ea x.events.length x.ec]] w fun e w' => e = .returned (.bool true) ∧ Below w.heap.size w w' := by
  have HS := Lib.hid (S1.mk' h)
  clear h hw
  go_enter Tryz.func8, Tryz.ntmps8
  go_wp2_with fail
  generalize w.alloc (.cells #[.int .i64 x.ver, .slice x.pa x.procs.length x.pc, .slice x.la x.links.length x.lc, .slice x.ea x.events.length x.ec] 26) = w1 at *
  refine (alive_any w1).mono ?_
  rintro e w2 ⟨rfl, hb⟩
  have HB := Lib.hid hb
  clear hb
  have a0 : w2.cell? ⟨w.heap.size, 0, none⟩ = some (.int .i64 x.ver) := heap_cell (HS.out.xb HB.out) rfl
  have a1 : w2.cell? ⟨w.heap.size, 1, none⟩ = some (.slice x.pa x.procs.length x.pc) := heap_cell (HS.out.xb HB.out) rfl
  have a2 : w2.cell? ⟨w.heap.size, 2, none⟩ = some (.slice x.la x.links.length x.lc) := heap_cell (HS.out.xb HB.out) rfl
  have a3 : w2.cell? ⟨w.heap.size, 3, none⟩ = some (.slice x.ea x.events.length x.ec) := heap_cell (HS.out.xb HB.out) rfl
  go_wp2_with fail
  refine (few_any (HS.out.xa HB.out)).mono ?_
  rintro e w3 ⟨rfl, hb⟩
  replace HB := Lib.hid (further HB.out hb)
  clear hb a0 a1 a2 a3
  cases hf : fewB x.m with
  | false =>
    clear hf
    go_wp2
    go_ret
    exact ⟨rfl, HS.out.fin HB.out⟩
  | true =>
  have HFw := Lib.hid (few_len2 hf)
  clear hf
  have a0 : w3.cell? ⟨w.heap.size, 0, none⟩ = some (.int .i64 x.ver) := heap_cell (HS.out.xb HB.out) rfl
  have a1 : w3.cell? ⟨w.heap.size, 1, none⟩ = some (.slice x.pa x.procs.length x.pc) := heap_cell (HS.out.xb HB.out) rfl
  have a2 : w3.cell? ⟨w.heap.size, 2, none⟩ = some (.slice x.la x.links.length x.lc) := heap_cell (HS.out.xb HB.out) rfl
  have a3 : w3.cell? ⟨w.heap.size, 3, none⟩ = some (.slice x.ea x.events.length x.ec) := heap_cell (HS.out.xb HB.out) rfl
  have HC := Lib.hid (graph_any (HS.out.xa HB.out))
  go_wp2_with fail
  refine HC.out.mono ?_
  clear HC a0 a1 a2 a3
  rintro e w4 ⟨hb, hcs⟩
  replace HB := Lib.hid (further HB.out hb)
  clear hb
  have a0 : w4.cell? ⟨w.heap.size, 0, none⟩ = some (.int .i64 x.ver) := heap_cell (HS.out.xb HB.out) rfl
  have a1 : w4.cell? ⟨w.heap.size, 1, none⟩ = some (.slice x.pa x.procs.length x.pc) := heap_cell (HS.out.xb HB.out) rfl
  have a2 : w4.cell? ⟨w.heap.size, 2, none⟩ = some (.slice x.la x.links.length x.lc) := heap_cell (HS.out.xb HB.out) rfl
  have a3 : w4.cell? ⟨w.heap.size, 3, none⟩ = some (.slice x.ea x.events.length x.ec) := heap_cell (HS.out.xb HB.out) rfl
  rcases hcs with ⟨h1, rfl⟩ | ⟨h1, g, nb, rfl, hg, hl1, hl2⟩
  · have HC := Lib.hid (check_any (HS.out.xa HB.out))
    obtain ⟨E, hE⟩ : ∃ E, (mdE x.m).1 = E := ⟨_, rfl⟩
    obtain ⟨E2, hE2⟩ : ∃ E, (mdE x.m).2 = E := ⟨_, rfl⟩
    rw [hE] at h1 HC ⊢
    rw [hE2] at HC
    have hq : (E != 0) = true := by simpa using h1
    clear hE hE2 h1
    go_wp2_with fail
    refine HC.out.mono ?_
    rintro e w5 ⟨rfl, hb⟩
    have hq2 : (E == E) = true := by simp
    have hfd := field0 E E2
    go_wp2
    go_ret
    exact ⟨by simp, HS.out.fin (further HB.out hb)⟩
  have HR := Lib.hid (right_of h1)
  have HG := Lib.hid hg
  clear h1 hg hl1 hl2
  have hn12 : x.procs.length ≤ 12 := by have := HFw.out.1; unfold ModelV.m at this; simpa using this
  have hl24 : x.links.length ≤ 24 := by have := HFw.out.2; unfold ModelV.m at this; exact this
  have hnx : x.m.procs.length = x.procs.length := by unfold ModelV.m; simp
  have hwl : (wtsM x.m).length = x.procs.length := by unfold wtsM ModelV.m; simp
  have HWl := Lib.hid hwl
  have HNx := Lib.hid hnx
  clear hwl hnx HFw
  obtain ⟨F, hF⟩ : ∃ F, tabM x.m x.m.links.length = F := ⟨_, rfl⟩
  rw [hF] at HG
  have HF := Lib.hid hF
  clear hF
  have HGB : Hid (∀ k, k ≤ x.procs.length → 0 ≤ deg2 x.procs.length k F ∧ deg2 x.procs.length k F ≤ 13194139533312 * (k : Int)) := Lib.hid (fun k hk => by
    refine sumTo_bd fun i hi => ?_
    have h1 := sumTo_bd (n := x.procs.length) (f := F i) (B := 1099511627776) (fun b _ => ⟨HG.out.tab.lo i b, HG.out.tab.hi i b⟩)
    have h2 : (x.procs.length : Int) ≤ 12 := by omega
    omega)
  go_wp2_with fail
  clear a0 a1 a2 a3
  obtain ⟨pa, hpa⟩ : ∃ pa, x.pa = pa := ⟨_, rfl⟩
  have HAd : x.procs.length = 0 ∨ pa = some ⟨x.pb, x.po, none⟩ := by rw [← hpa]; exact HS.out.xat.procs.addr
  rw [hpa]
  clear hpa
  have HB4 : Hid (Below w4.heap.size w4 w4) := Lib.hid (Below.refl _ _)
  go_loopw [5, 7, 36] (fun a d i wr => ∃ j : Nat, i = .int .i64 (j : Int) ∧ a = .int .i64 (wsm x.m j) ∧ d = .int .i64 (deg2 x.procs.length j F) ∧ j ≤ x.procs.length ∧ Hid (Below w4.heap.size w4 wr)) (fun _ _ i _ => x.procs.length - (intOf i).toNat)
  case atStart => exact ⟨0, rfl, rfl, rfl, Nat.zero_le _, HB4⟩
  case round =>
    obtain ⟨j, rfl, rfl, rfl, hj, HBr⟩ := hrel
    have hj0 : (0 : Int) ≤ (j : Int) := Int.natCast_nonneg j
    by_cases hlt : j < x.procs.length
    · have hji : (j : Int) < (x.procs.length : Int) := by omega
      have HBx := Lib.hid (further HB.out HBr.out)
      have hI := (HS.out.xa HBx.out).procs
      obtain rfl := HAd.resolve_left (by omega)
      obtain ⟨p, hp⟩ : ∃ p, x.procs[j]? = some p := ⟨_, List.getElem?_eq_getElem hlt⟩
      have r0 : wr.cell? ⟨x.pb, x.po + j * 4, none⟩ = some (.string p.p.name) := hI.cell j p hp 0 _ rfl
      have r1 : wr.cell? ⟨x.pb, x.po + j * 4 + 1, none⟩ = some (.int .i64 p.p.weight) := hI.cell j p hp 1 _ rfl
      have r2 : wr.cell? ⟨x.pb, x.po + j * 4 + 2, none⟩ = some (.slice p.va p.p.vars.length p.vc) := hI.cell j p hp 2 _ rfl
      have r3 : wr.cell? ⟨x.pb, x.po + j * 4 + 3, none⟩ = some (.slice p.sa p.p.steps.length p.sc) := hI.cell j p hp 3 _ rfl
      have hpm : x.m.procs[j]? = some p.p := by unfold ModelV.m; simp [hp]
      have HSt := Lib.hid (wsm_succ hpm)
      have hm0 := pw_bd HR.out hpm
      obtain ⟨r, hr⟩ : ∃ r, max1 p.p.weight = r := ⟨_, rfl⟩
      have hr2 : max p.p.weight 1 = r := by rw [← hr]; unfold max1; split <;> omega
      rw [hr] at HSt hm0
      have hs0 := wsm_bd HR.out j (by have := HNx.out; omega)
      have hd0 := HGB.out j hj
      have hd1 := HGB.out (j + 1) hlt
      have HDs : Hid (deg2 x.procs.length (j + 1) F = deg2 x.procs.length j F + sumTo x.procs.length (F j)) := Lib.hid rfl
      rw [HDs.out] at hd1
      clear hI hp hpm hr
      go_upto_region 12 with fail
      have HO := Lib.hid (heap_new (w := wr) (.cells #[.string p.p.name, .int .i64 p.p.weight, .slice p.va p.p.vars.length p.vc, .slice p.sa p.p.steps.length p.sc] 34) rfl)
      have HBs := Lib.hid (HBr.out.alloc HBr.out.size (.cells #[.string p.p.name, .int .i64 p.p.weight, .slice p.va p.p.vars.length p.vc, .slice p.sa p.p.steps.length p.sc] 34))
      clear r0 r1 r2 r3
      generalize wr.alloc (.cells #[.string p.p.name, .int .i64 p.p.weight, .slice p.va p.p.vars.length p.vc, .slice p.sa p.p.steps.length p.sc] 34) = w6 at *
      have c1 : w6.cell? ⟨wr.heap.size, 1, none⟩ = some (.int .i64 p.p.weight) := heap_cell HO.out rfl
      have HK : Hid (Calls Tryz.prog 26 #[.pointer (some ⟨g, 0, none⟩), .int .i64 (j : Int)] w6 fun e w' => e = .returned (.int .i64 (sumTo x.procs.length (F j))) ∧ Below w6.heap.size w6 w') := Lib.hid (by
        have := deg_at (HG.out.below HBs.out) (i := j) (by rw [HWl.out]; exact hlt)
        rw [HWl.out] at this
        exact this)
      obtain ⟨dj, hdj⟩ : ∃ dj, sumTo x.procs.length (F j) = dj := ⟨_, rfl⟩
      rw [hdj] at HK HDs hd1
      obtain ⟨ds, hds⟩ : ∃ ds, deg2 x.procs.length j F = ds := ⟨_, rfl⟩
      rw [hds] at HDs hd1 hd0 ⊢
      obtain ⟨sw, hsw⟩ : ∃ sw, wsm x.m j = sw := ⟨_, rfl⟩
      rw [hsw] at HSt hs0 ⊢
      clear hdj hds hsw
      go_wp2_with (go_at_call 26; refine HK.out.mono ?_; rintro e w7 ⟨rfl, hb⟩)
      go_roundw
      case rel => exact ⟨j + 1, by go_num, by rw [HSt.out], by rw [HDs.out], by omega, Lib.hid (HBs.out.trans (hb.mono HBs.out.size))⟩
      case measure => simp [intOf]; omega
    · obtain rfl : j = x.procs.length := by omega
      have HBx := Lib.hid (further HB.out HBr.out)
      generalize wr = w8 at *
      have hT : wsm x.m x.procs.length = (wtsM x.m).sum := by
        unfold wsm
        rw [← HWl.out, List.take_length]
      have hD : deg2 x.procs.length x.procs.length F = 2 * lsum x.links x.links.length := by
        have := deg_links HR.out x.m.links.length (Nat.le_refl _)
        rw [HF.out, HNx.out] at this
        exact this
      rw [hT]
      obtain ⟨T, hTe⟩ : ∃ T, (wtsM x.m).sum = T := ⟨_, rfl⟩
      obtain ⟨dd, hde⟩ : ∃ dd, deg2 x.procs.length x.procs.length F = dd := ⟨_, rfl⟩
      rw [hTe, hde]
      rw [hde] at hD
      have HT := Lib.hid hTe
      have HD := Lib.hid hD
      clear hT hD hTe hde HGB
      have a0 : w8.cell? ⟨w.heap.size, 0, none⟩ = some (.int .i64 x.ver) := heap_cell (HS.out.xb HBx.out) rfl
      have a1 : w8.cell? ⟨w.heap.size, 1, none⟩ = some (.slice x.pa x.procs.length x.pc) := heap_cell (HS.out.xb HBx.out) rfl
      have a2 : w8.cell? ⟨w.heap.size, 2, none⟩ = some (.slice x.la x.links.length x.lc) := heap_cell (HS.out.xb HBx.out) rfl
      have a3 : w8.cell? ⟨w.heap.size, 3, none⟩ = some (.slice x.ea x.events.length x.ec) := heap_cell (HS.out.xb HBx.out) rfl
      go_wp2_with fail
      clear a0 a1 a2 a3
      obtain ⟨la, hla⟩ : ∃ la, x.la = la := ⟨_, rfl⟩
      have HLd : x.links.length = 0 ∨ la = some ⟨x.lb, x.lo, none⟩ := by rw [← hla]; exact HS.out.xat.links.addr
      rw [hla]
      clear hla hj hlt hj0 HBx
      go_loopw [6, 55] (fun s i wr => ∃ j : Nat, i = .int .i64 (j : Int) ∧ s = .int .i64 (lsum x.links j) ∧ j ≤ x.links.length ∧ Hid (Below w4.heap.size w4 wr)) (fun _ i _ => x.links.length - (intOf i).toNat)
      case atStart => exact ⟨0, rfl, rfl, Nat.zero_le _, HBr⟩
      case round =>
        clear HBr
        obtain ⟨j, rfl, rfl, hj, HBr⟩ := hrel
        have hj0 : (0 : Int) ≤ (j : Int) := Int.natCast_nonneg j
        have hs0 : 0 ≤ lsum x.links j ∧ lsum x.links j ≤ 1048576 * (j : Int) := lsum_bd HR.out j hj
        by_cases hlt : j < x.links.length
        · have hji : (j : Int) < (x.links.length : Int) := by omega
          have HBx := Lib.hid (further HB.out HBr.out)
          have hI := (HS.out.xa HBx.out).links
          obtain rfl := HLd.resolve_left (by omega)
          obtain ⟨l, hl⟩ : ∃ l, x.links[j]? = some l := ⟨_, List.getElem?_eq_getElem hlt⟩
          have s0 : wr.cell? ⟨x.lb, x.lo + j * 5, none⟩ = some (.string l.name) := hI.cell j l hl 0 _ rfl
          have s1 : wr.cell? ⟨x.lb, x.lo + j * 5 + 1, none⟩ = some (.string l.frm) := hI.cell j l hl 1 _ rfl
          have s2 : wr.cell? ⟨x.lb, x.lo + j * 5 + 2, none⟩ = some (.string l.to_) := hI.cell j l hl 2 _ rfl
          have s3 : wr.cell? ⟨x.lb, x.lo + j * 5 + 3, none⟩ = some (.int .i64 l.delay) := hI.cell j l hl 3 _ rfl
          have s4 : wr.cell? ⟨x.lb, x.lo + j * 5 + 4, none⟩ = some (.int .i64 l.weight) := hI.cell j l hl 4 _ rfl
          have HSt := Lib.hid (lsum_succ hl)
          have hbd := ln_bd HR.out (m := x.m) (j := j) (l := l) (by unfold ModelV.m; exact hl)
          obtain ⟨r, hr⟩ : ∃ r, max1 l.weight = r := ⟨_, rfl⟩
          have hr2 : max l.weight 1 = r := by rw [← hr]; unfold max1; split <;> omega
          have hm0 : 1 ≤ r ∧ r ≤ 1048576 := by rw [← hr]; exact ⟨hbd.1, hbd.2.1⟩
          have HLk : Hid (lnk l = if l.frm = l.to_ then 0 else r) := Lib.hid (by unfold lnk; rw [hr])
          obtain ⟨ls, hls⟩ : ∃ ls, lsum x.links j = ls := ⟨_, rfl⟩
          rw [hls] at HSt hs0 ⊢
          clear hI hl hbd hr hls
          go_upto_region 18 with fail
          have HO := Lib.hid (heap_new (w := wr) (.cells #[.string l.name, .string l.frm, .string l.to_, .int .i64 l.delay, .int .i64 l.weight] 42) rfl)
          have HBs := Lib.hid (HBr.out.alloc HBr.out.size (.cells #[.string l.name, .string l.frm, .string l.to_, .int .i64 l.delay, .int .i64 l.weight] 42))
          clear s0 s1 s2 s3 s4
          generalize wr.alloc (.cells #[.string l.name, .string l.frm, .string l.to_, .int .i64 l.delay, .int .i64 l.weight] 42) = w10 at *
          have c1 : w10.cell? ⟨wr.heap.size, 1, none⟩ = some (.string l.frm) := heap_cell HO.out rfl
          have c2 : w10.cell? ⟨wr.heap.size, 2, none⟩ = some (.string l.to_) := heap_cell HO.out rfl
          have c4 : w10.cell? ⟨wr.heap.size, 4, none⟩ = some (.int .i64 l.weight) := heap_cell HO.out rfl
          by_cases hft : l.frm = l.to_
          · have hb1 : (l.frm.toList != l.to_.toList) = false := by rw [bne, bytes_eq, decide_eq_true hft]; rfl
            have hb2 : (l.frm.toList == l.to_.toList) = true := by rw [bytes_eq, decide_eq_true hft]
            have HE : Hid (lsum x.links (j + 1) = ls) := Lib.hid (by rw [HSt.out, HLk.out, if_pos hft]; omega)
            clear hft
            go_wp2
            go_roundw
            case rel => exact ⟨j + 1, by go_num, by rw [HE.out], by omega, HBs⟩
            case measure => simp [intOf]; omega
          · have hb1 : (l.frm.toList != l.to_.toList) = true := by rw [bne, bytes_eq, decide_eq_false hft]; rfl
            have hb2 : (l.frm.toList == l.to_.toList) = false := by rw [bytes_eq, decide_eq_false hft]
            have HE : Hid (lsum x.links (j + 1) = ls + r) := Lib.hid (by rw [HSt.out, HLk.out, if_neg hft])
            clear hft
            go_wp2
            go_roundw
            case rel => exact ⟨j + 1, by go_num, by rw [HE.out], by omega, HBs⟩
            case measure => simp [intOf]; omega
        · obtain rfl : j = x.links.length := by omega
          obtain ⟨ls, hls⟩ : ∃ ls, lsum x.links x.links.length = ls := ⟨_, rfl⟩
          rw [hls] at hs0 ⊢
          obtain rfl : dd = 2 * ls := by rw [← hls]; exact HD.out
          clear hls HD
          have KT : Hid (∀ W, Below w4.heap.size w4 W → Calls Tryz.prog 27 #[.pointer (some ⟨g, 0, none⟩)] W fun e w' => e = .returned (.int .i64 T) ∧ W = w') := Lib.hid (fun W hW => by
            have := total_any (HG.out.below hW)
            rw [HT.out] at this
            exact this)
          have KL : Hid (∀ W, Below w4.heap.size w4 W → Calls Tryz.prog 19 #[.pointer (some ⟨g, 0, none⟩)] W fun e w' => e = .returned (.int .i64 (x.procs.length : Int)) ∧ W = w') := Lib.hid (fun W hW => by
            have := glen_any (HG.out.below hW)
            rw [HWl.out] at this
            exact this)
          have da1 : ∀ W, Below w4.heap.size w4 W → W.cell? ⟨w.heap.size, 1, none⟩ = some (.slice x.pa x.procs.length x.pc) := fun W hW => heap_cell (HS.out.xb (further HB.out hW)) rfl
          have hq1 : (T == T) = true := by simp
          have hw2 : IntKind.i64.wrap (2 * ls) = 2 * ls := IntWalk.i64_in _ (by omega)
          have hq2 : ((2 : Int) * ls == 2 * ls) = true := by simp
          have hq3 : ((x.procs.length : Int) == (x.procs.length : Int)) = true := by simp
          have hS8 := HBr.out
          clear HAd HLd
          go_upto_region 21 with fail
          go_region_held3 (fun W => Below w4.heap.size w4 W) (first | assumption | exact Below.drew (by assumption)) (first
            | (go_at_call 27; with_reducible refine (KT.out _ (by assumption)).mono ?_; rintro e w11 ⟨rfl, rfl⟩)
            | (go_at_call 19; with_reducible refine (KL.out _ (by assumption)).mono ?_; rintro e w12 ⟨rfl, rfl⟩))
          all_goals go_wp2
          all_goals go_ret
          all_goals exact ⟨rfl, HS.out.fin (further HB.out (by assumption))⟩

end Go.Proofs.YtjcmeacgfflfmaaGreat.Hk
