/- canon: walk of CanonGraphs. Plain: what a model's graph has between two. -/
import Derived.Test.YtjcmeacgfflfmaaGreatCni
import Derived.Test.YtjcmeacgfflfmaaGreatCnh
import Derived.Test.YtjcmeacgfflfmaaGreatMeX
import Derived.Deep.RegionHeld3
set_option linter.unusedVariables false
set_option linter.unusedSectionVars false
set_option linter.unusedSimpArgs false
namespace Go.Proofs.YtjcmeacgfflfmaaGreat.Hk
open Go.RowKit Go.Shelf Go.Proofs.YtjcmeacgfflfmaaGreat.Md

theorem nms_len (m : ModelM) : (nmsP m).length = m.procs.length := by unfold nmsP; rw [List.length_map]
theorem pl_at {m : ModelM} {y : ByteArray} (hy : (fstP (nmsP m) y).isSome = true) : plM m y < m.procs.length ∧ (nmsP m)[plM m y]? = some y := by
  obtain ⟨i, hi⟩ := Option.isSome_iff_exists.1 hy
  unfold plM
  rw [hi]
  have h1 := fstP_at hi
  have h2 := (List.getElem?_eq_some_iff.1 h1).1
  rw [nms_len] at h2
  exact ⟨h2, h1⟩
theorem ln_bd {m : ModelM} (h : Right m) {j : Nat} {l : LinkM} (hl : m.links[j]? = some l) : 1 ≤ max1 l.weight ∧ max1 l.weight ≤ 1048576 ∧ (fstP (nmsP m) l.frm).isSome = true ∧ (fstP (nmsP m) l.to_).isSome = true := by
  obtain ⟨_, h2, _, h4⟩ := ln_parts.1 (h.links j l hl)
  unfold wgtB at h4
  simp at h4 h2
  unfold max1
  refine ⟨by split <;> omega, by split <;> omega, h2.1, h2.2⟩
/-- A link's step, in a right model. -/
theorem tab_next {m : ModelM} (h : Right m) {j : Nat} {l : LinkM} (hl : m.links[j]? = some l) (hb : ∀ x y, 0 ≤ tabM m j x y ∧ tabM m j x y ≤ 1048576 * (j : Int)) : tabM m (j + 1) = if l.frm = l.to_ then tabM m j else joinT (tabM m j) (plM m l.frm) (plM m l.to_) (tabM m j (plM m l.frm) (plM m l.to_) + max1 l.weight) := by
  rw [tabM_succ hl]
  unfold tabS
  by_cases hft : l.frm = l.to_
  · rw [if_pos hft, if_pos hft]
  rw [if_neg hft, if_neg hft]
  obtain ⟨b1, b2, b3, b4⟩ := ln_bd h hl
  obtain ⟨p1, p2⟩ := pl_at b3
  obtain ⟨q1, q2⟩ := pl_at b4
  have hne : plM m l.frm ≠ plM m l.to_ := fun e => by
    rw [e] at p2
    rw [p2] at q2
    exact hft (Option.some.inj q2)
  have hj : j < m.links.length := (List.getElem?_eq_some_iff.1 hl).1
  have hj2 := h.few.2.1
  have hb' := hb (plM m l.frm) (plM m l.to_)
  have hE : joinE m.procs.length (tabM m j) (plM m l.frm : Nat) (plM m l.to_ : Nat) (max1 l.weight) = 0 := by
    unfold joinE
    rw [btw_nat _ _ p1 q1, hasN_nat p1, hasN_nat q1, may_mk b1 (by omega), may_mk (by omega) (by omega)]
    rw [if_neg (by simp; omega), if_neg (by simp)]
  unfold joinF
  rw [if_pos hE, btw_nat _ _ p1 q1, Int.toNat_natCast, Int.toNat_natCast]
theorem tab_bd {m : ModelM} (h : Right m) : ∀ j, j ≤ m.links.length → (∀ x y, 0 ≤ tabM m j x y ∧ tabM m j x y ≤ 1048576 * (j : Int)) ∧ ∀ x y, tabM m j x y = tabM m j y x
  | 0, _ => ⟨fun x y => by simp [tabM, noTab], fun x y => by simp [tabM, noTab]⟩
  | j + 1, hj => by
    have ih := tab_bd h j (by omega)
    obtain ⟨l, hl⟩ : ∃ l, m.links[j]? = some l := ⟨_, List.getElem?_eq_getElem (by omega)⟩
    rw [tab_next h hl ih.1]
    obtain ⟨b1, b2, _⟩ := ln_bd h hl
    by_cases hft : l.frm = l.to_
    · rw [if_pos hft]
      exact ⟨fun x y => by have := ih.1 x y; omega, ih.2⟩
    · rw [if_neg hft]
      refine ⟨fun x y => ?_, fun x y => ?_⟩
      · unfold joinT
        have h1 := ih.1 x y
        have h2 := ih.1 (plM m l.frm) (plM m l.to_)
        split <;> omega
      · unfold joinT
        have h1 := ih.2 x y
        by_cases e : (x = plM m l.frm ∧ y = plM m l.to_) ∨ (x = plM m l.to_ ∧ y = plM m l.frm)
        · rw [if_pos e, if_pos (by rcases e with ⟨e1, e2⟩ | ⟨e1, e2⟩ <;> simp [e1, e2])]
        · rw [if_neg e, if_neg (by intro e'; apply e; rcases e' with ⟨e1, e2⟩ | ⟨e1, e2⟩ <;> simp [e1, e2]), h1]
theorem sumTo_upd {n : Nat} {f : Nat → Int} {b : Nat} (v : Int) (hb : b < n) : sumTo n (upd f b v) = sumTo n f + (v - f b) := by
  induction n with
  | zero => omega
  | succ n ih =>
    unfold sumTo
    by_cases e : b = n
    · subst e
      rw [sumTo_congr (g := f) (fun c hc => by unfold upd; rw [if_neg (by omega)])]
      show _ + (if b = b then v else f b) = _
      rw [if_pos rfl]; omega
    · rw [ih (by omega)]
      show _ + (if n = b then v else f n) = _
      rw [if_neg (by omega)]; omega
/-- All that is between two, counted from either side. -/
def deg2 (n i : Nat) (F : Nat → Nat → Int) : Int := sumTo i (fun a => sumTo n (F a))
theorem deg2_join {n a b : Nat} {F : Nat → Nat → Int} (v : Int) (ha : a < n) (hb : b < n) (hab : a ≠ b) : deg2 n n (joinT F a b v) = deg2 n n F + (v - F a b) + (v - F b a) := by
  have e : (fun c => sumTo n (joinT F a b v c)) = upd (upd (fun c => sumTo n (F c)) a (sumTo n (F a) + (v - F a b))) b (sumTo n (F b) + (v - F b a)) := by
    funext c
    rw [join_row F a b v hab c]
    show _ = (if c = b then sumTo n (F b) + (v - F b a) else (if c = a then sumTo n (F a) + (v - F a b) else sumTo n (F c)))
    by_cases h1 : c = b
    · subst h1
      rw [if_neg (fun e => hab e.symm), if_pos rfl, if_pos rfl]
      exact sumTo_upd v ha
    · simp only [if_neg h1]
      by_cases h2 : c = a
      · subst h2
        rw [if_pos rfl, if_pos rfl]
        exact sumTo_upd v hb
      · rw [if_neg h2, if_neg h2]
  have e2 : upd (fun c => sumTo n (F c)) a (sumTo n (F a) + (v - F a b)) b = sumTo n (F b) := by
    unfold upd
    rw [if_neg (fun e => hab e.symm)]
  unfold deg2
  rw [e, sumTo_upd _ hb, sumTo_upd _ ha, e2]
  omega
/-- What a link weighs between unlike ones. -/
def lnk (l : LinkM) : Int := if l.frm = l.to_ then 0 else max1 l.weight
def lsum (L : List LinkM) (j : Nat) : Int := ((L.take j).map lnk).sum
theorem lsum_succ {L : List LinkM} {j : Nat} {l : LinkM} (h : L[j]? = some l) : lsum L (j + 1) = lsum L j + lnk l := by
  unfold lsum
  rw [List.take_add_one, h]
  simp
theorem deg_links {m : ModelM} (h : Right m) : ∀ j, j ≤ m.links.length → deg2 m.procs.length m.procs.length (tabM m j) = 2 * lsum m.links j
  | 0, _ => by
    have : ∀ k i, deg2 k i (tabM m 0) = 0 := fun k i => by
      unfold deg2
      have e : (fun a => sumTo k (tabM m 0 a)) = fun _ => 0 := by
        funext a
        have : ∀ k, sumTo k (tabM m 0 a) = 0 := fun k => by
          induction k with
          | zero => rfl
          | succ k ih => unfold sumTo; rw [ih]; simp [tabM, noTab]
        exact this k
      rw [e]
      induction i with
      | zero => rfl
      | succ i ih => unfold sumTo; rw [ih]; rfl
    rw [this]
    simp [lsum]
  | j + 1, hj => by
    have ih := deg_links h j (by omega)
    have hb := tab_bd h j (by omega)
    obtain ⟨l, hl⟩ : ∃ l, m.links[j]? = some l := ⟨_, List.getElem?_eq_getElem (by omega)⟩
    rw [tab_next h hl hb.1, lsum_succ hl]
    obtain ⟨b1, b2, b3, b4⟩ := ln_bd h hl
    obtain ⟨p1, p2⟩ := pl_at b3
    obtain ⟨q1, q2⟩ := pl_at b4
    unfold lnk
    by_cases hft : l.frm = l.to_
    · rw [if_pos hft, if_pos hft, ih]; omega
    · have hne : plM m l.frm ≠ plM m l.to_ := fun e => by
        rw [e] at p2
        rw [p2] at q2
        exact hft (Option.some.inj q2)
      rw [if_neg hft, if_neg hft, deg2_join _ p1 q1 hne, ih, hb.2 (plM m l.to_) (plM m l.frm)]
      omega
theorem sumTo_bd {n : Nat} {f : Nat → Int} {B : Int} (h : ∀ i, i < n → 0 ≤ f i ∧ f i ≤ B) : 0 ≤ sumTo n f ∧ sumTo n f ≤ B * (n : Int) := by
  induction n with
  | zero => simp [sumTo]
  | succ n ih =>
    have h1 := ih (fun i hi => h i (by omega))
    have h2 := h n (by omega)
    unfold sumTo
    have e : B * ((n + 1 : Nat) : Int) = B * (n : Int) + B := by rw [Int.natCast_add, Int.mul_add]; simp
    rw [e]
    omega
theorem lsum_bd {m : ModelM} (h : Right m) : ∀ j, j ≤ m.links.length → 0 ≤ lsum m.links j ∧ lsum m.links j ≤ 1048576 * (j : Int)
  | 0, _ => by simp [lsum]
  | j + 1, hj => by
    have ih := lsum_bd h j (by omega)
    obtain ⟨l, hl⟩ : ∃ l, m.links[j]? = some l := ⟨_, List.getElem?_eq_getElem (by omega)⟩
    obtain ⟨b1, b2, _⟩ := ln_bd h hl
    rw [lsum_succ hl]
    unfold lnk
    split <;> omega
def wsm (m : ModelM) (j : Nat) : Int := ((wtsM m).take j).sum
theorem wsm_succ {m : ModelM} {j : Nat} {p : ProcM} (h : m.procs[j]? = some p) : wsm m (j + 1) = wsm m j + max1 p.weight := by
  unfold wsm
  rw [List.take_add_one, show (wtsM m)[j]? = some (max1 p.weight) by unfold wtsM; rw [List.getElem?_map, h]; rfl]
  simp
theorem pw_bd {m : ModelM} (h : Right m) {j : Nat} {p : ProcM} (hp : m.procs[j]? = some p) : 1 ≤ max1 p.weight ∧ max1 p.weight ≤ 1048576 := by
  obtain ⟨_, h2, _⟩ := nm_zero (h.procs j p hp)
  unfold wgtB at h2
  simp at h2
  unfold max1
  split <;> omega
theorem wsm_bd {m : ModelM} (h : Right m) : ∀ j, j ≤ m.procs.length → 0 ≤ wsm m j ∧ wsm m j ≤ 1048576 * (j : Int)
  | 0, _ => by simp [wsm]
  | j + 1, hj => by
    have ih := wsm_bd h j (by omega)
    obtain ⟨p, hp⟩ : ∃ p, m.procs[j]? = some p := ⟨_, List.getElem?_eq_getElem (by omega)⟩
    have := pw_bd h hp
    rw [wsm_succ hp]
    omega
theorem few_len2 {m : ModelM} (h : fewB m = true) : m.procs.length ≤ 12 ∧ m.links.length ≤ 24 := by
  unfold fewB at h
  simp only [Bool.and_eq_true, decide_eq_true_eq] at h
  exact ⟨h.1.1.1.1, h.1.1.1.2⟩

/-- What is between two, link by link. -/
def isB (m : ModelM) (a b : Nat) (l : LinkM) : Bool := (a != b) && ((plM m l.frm == a && plM m l.to_ == b) || (plM m l.frm == b && plM m l.to_ == a))
def rsum (m : ModelM) (a b j : Nat) : Int := ((m.links.take j).map (fun l => if isB m a b l then max1 l.weight else 0)).sum
theorem rsum_succ {m : ModelM} {a b j : Nat} {l : LinkM} (h : m.links[j]? = some l) : rsum m a b (j + 1) = rsum m a b j + (if isB m a b l then max1 l.weight else 0) := by
  unfold rsum
  rw [List.take_add_one, h]
  simp
theorem rsum_bd {m : ModelM} (h : Right m) (a b : Nat) : ∀ j, j ≤ m.links.length → 0 ≤ rsum m a b j ∧ rsum m a b j ≤ 1048576 * (j : Int)
  | 0, _ => by simp [rsum]
  | j + 1, hj => by
    have ih := rsum_bd h a b j (by omega)
    obtain ⟨l, hl⟩ : ∃ l, m.links[j]? = some l := ⟨_, List.getElem?_eq_getElem (by omega)⟩
    obtain ⟨b1, b2, _⟩ := ln_bd h hl
    rw [rsum_succ hl]
    split <;> omega
theorem btw_sum {m : ModelM} (h : Right m) (a b : Nat) : ∀ j, j ≤ m.links.length → tabM m j a b = rsum m a b j
  | 0, _ => by simp [rsum, tabM, noTab]
  | j + 1, hj => by
    have ih := btw_sum h a b j (by omega)
    have hb := tab_bd h j (by omega)
    obtain ⟨l, hl⟩ : ∃ l, m.links[j]? = some l := ⟨_, List.getElem?_eq_getElem (by omega)⟩
    rw [tab_next h hl hb.1, rsum_succ hl, ← ih]
    obtain ⟨b1, b2, b3, b4⟩ := ln_bd h hl
    obtain ⟨p1, p2⟩ := pl_at b3
    obtain ⟨q1, q2⟩ := pl_at b4
    by_cases hft : l.frm = l.to_
    · rw [if_pos hft]
      have : isB m a b l = false := by
        unfold isB
        rw [hft]
        by_cases e : a = b
        · subst e; simp
        · simp; omega
      rw [this]; simp
    · have hne : plM m l.frm ≠ plM m l.to_ := fun e => by
        rw [e] at p2
        rw [p2] at q2
        exact hft (Option.some.inj q2)
      rw [if_neg hft]
      unfold joinT isB
      by_cases c : (a = plM m l.frm ∧ b = plM m l.to_) ∨ (a = plM m l.to_ ∧ b = plM m l.frm)
      · rw [if_pos c, if_pos (by simp; omega)]
        rcases c with ⟨rfl, rfl⟩ | ⟨rfl, rfl⟩
        · rfl
        · rw [hb.2 (plM m l.frm) (plM m l.to_)]
      · rw [if_neg c, if_neg (by simp; omega)]
        omega
set_option maxRecDepth 100000 in
set_option maxHeartbeats 40000000 in
theorem walk_CanonGraphs (x : ModelV) (w : World) (h : ModelAt w.heap.size w x) (hw : (Lit.int .i64 x.ver).wf = true) : Calls Tryz.prog 4 #[.agg #[.int .i64 x.ver, .slice x.pa x.procs.length x.pc, .slice x.la x.links.length x.lc, .slice x.ea x.events.length x.ec]] w fun e w' => e = .returned (.bool true) ∧ Below w.heap.size w w' := by
  have HS := Lib.hid (S1.mk' h)
  clear h hw
  go_enter Tryz.func4, Tryz.ntmps4
  go_wp2_with fail
  generalize w.alloc (.cells #[.int .i64 x.ver, .slice x.pa x.procs.length x.pc, .slice x.la x.links.length x.lc, .slice x.ea x.events.length x.ec] 26) = w1 at *
  refine (alive_any w1).mono ?_
  rintro e w2 ⟨rfl, hb⟩
  have HB := Lib.hid hb
  clear hb
  have a0 : w2.cell? ⟨w.heap.size, 0, none⟩ = some (.int .i64 x.ver) := heap_cell (HS.out.xb HB.out) rfl
  have a1 : w2.cell? ⟨w.heap.size, 1, none⟩ = some (.slice x.pa x.procs.length x.pc) := heap_cell (HS.out.xb HB.out) rfl
  have a2 : w2.cell? ⟨w.heap.size, 2, none⟩ = some (.slice x.la x.links.length x.lc) := heap_cell (HS.out.xb HB.out) rfl
  have a3 : w2.cell? ⟨w.heap.size, 3, none⟩ = some (.slice x.ea x.events.length x.ec) := heap_cell (HS.out.xb HB.out) rfl
  go_wp2_with fail
  refine (few_any (HS.out.xa HB.out)).mono ?_
  rintro e w3 ⟨rfl, hb⟩
  replace HB := Lib.hid (further HB.out hb)
  clear hb a0 a1 a2 a3
  cases hf : fewB x.m with
  | false =>
    clear hf
    go_wp2
    go_ret
    exact ⟨rfl, HS.out.fin HB.out⟩
  | true =>
  have HFw := Lib.hid (few_len2 hf)
  clear hf
  have a0 : w3.cell? ⟨w.heap.size, 0, none⟩ = some (.int .i64 x.ver) := heap_cell (HS.out.xb HB.out) rfl
  have a1 : w3.cell? ⟨w.heap.size, 1, none⟩ = some (.slice x.pa x.procs.length x.pc) := heap_cell (HS.out.xb HB.out) rfl
  have a2 : w3.cell? ⟨w.heap.size, 2, none⟩ = some (.slice x.la x.links.length x.lc) := heap_cell (HS.out.xb HB.out) rfl
  have a3 : w3.cell? ⟨w.heap.size, 3, none⟩ = some (.slice x.ea x.events.length x.ec) := heap_cell (HS.out.xb HB.out) rfl
  have HC := Lib.hid (graph_any (HS.out.xa HB.out))
  go_wp2_with fail
  refine HC.out.mono ?_
  clear HC a0 a1 a2 a3
  rintro e w4 ⟨hb, hcs⟩
  replace HB := Lib.hid (further HB.out hb)
  clear hb
  have HC := Lib.hid (rcheck_any (HS.out.xa HB.out))
  obtain ⟨E, hE⟩ : ∃ E, (mdE x.m).1 = E := ⟨_, rfl⟩
  obtain ⟨E2, hE2⟩ : ∃ E, (mdE x.m).2 = E := ⟨_, rfl⟩
  rw [hE] at hcs HC
  rw [hE2] at HC
  have HE := Lib.hid hE
  clear hE hE2
  have a0 : w4.cell? ⟨w.heap.size, 0, none⟩ = some (.int .i64 x.ver) := heap_cell (HS.out.xb HB.out) rfl
  have a1 : w4.cell? ⟨w.heap.size, 1, none⟩ = some (.slice x.pa x.procs.length x.pc) := heap_cell (HS.out.xb HB.out) rfl
  have a2 : w4.cell? ⟨w.heap.size, 2, none⟩ = some (.slice x.la x.links.length x.lc) := heap_cell (HS.out.xb HB.out) rfl
  have a3 : w4.cell? ⟨w.heap.size, 3, none⟩ = some (.slice x.ea x.events.length x.ec) := heap_cell (HS.out.xb HB.out) rfl
  rcases hcs with ⟨h1, rfl⟩ | ⟨h1, g, nb, rfl, hg, hl1, hl2⟩
  · have hq : (E != 0) = true := by simpa using h1
    have hq2 : (E == E) = true := by simp
    clear h1
    go_wp2_with fail
    refine HC.out.mono ?_
    rintro e w5 ⟨rfl, hb⟩
    go_wp2
    go_ret
    exact ⟨by first | rfl | simp, HS.out.fin (further HB.out hb)⟩
  subst h1
  have HR := Lib.hid (right_of HE.out)
  go_wp2_with fail
  refine HC.out.mono ?_
  clear HC a0 a1 a2 a3
  rintro e w5 ⟨rfl, hb⟩
  have HG := Lib.hid (hg.below hb)
  replace HB := Lib.hid (further HB.out hb)
  clear hb hg hl1 hl2 HE
  have hn12 : x.procs.length ≤ 12 := by have := HFw.out.1; unfold ModelV.m at this; simpa using this
  have hl24 : x.links.length ≤ 24 := by have := HFw.out.2; unfold ModelV.m at this; exact this
  have hnx : x.m.procs.length = x.procs.length := by unfold ModelV.m; simp
  have hwl : (wtsM x.m).length = x.procs.length := by unfold wtsM ModelV.m; simp
  have HWl := Lib.hid hwl
  have HNx := Lib.hid hnx
  clear hwl hnx HFw
  have da0 : ∀ W, Below w5.heap.size w5 W → W.cell? ⟨w.heap.size, 0, none⟩ = some (.int .i64 x.ver) := fun W hW => heap_cell (HS.out.xb (further HB.out hW)) rfl
  have da1 : ∀ W, Below w5.heap.size w5 W → W.cell? ⟨w.heap.size, 1, none⟩ = some (.slice x.pa x.procs.length x.pc) := fun W hW => heap_cell (HS.out.xb (further HB.out hW)) rfl
  have da2 : ∀ W, Below w5.heap.size w5 W → W.cell? ⟨w.heap.size, 2, none⟩ = some (.slice x.la x.links.length x.lc) := fun W hW => heap_cell (HS.out.xb (further HB.out hW)) rfl
  have da3 : ∀ W, Below w5.heap.size w5 W → W.cell? ⟨w.heap.size, 3, none⟩ = some (.slice x.ea x.events.length x.ec) := fun W hW => heap_cell (HS.out.xb (further HB.out hW)) rfl
  have KL : Hid (∀ W, Below w5.heap.size w5 W → Calls Tryz.prog 19 #[.pointer (some ⟨g, 0, none⟩)] W fun e w' => e = .returned (.int .i64 (x.procs.length : Int)) ∧ W = w') := Lib.hid (fun W hW => by
    have := glen_any (HG.out.below hW)
    rw [HWl.out] at this
    exact this)
  have hnl : ((x.procs.length : Int) != (x.procs.length : Int)) = false := by simp
  have hS5 := Below.refl w5.heap.size w5
  go_upto_region 9 with fail
  go_region_held3 (fun W => Below w5.heap.size w5 W) (first | assumption | exact Below.drew (by assumption)) (first
    | (go_at_call 19; with_reducible refine (KL.out _ (by assumption)).mono ?_; rintro e w6 ⟨rfl, hw6⟩; have hS6 : Below w5.heap.size w5 w6 := (by rw [← hw6]; assumption); clear hw6))
  have HB6 := Lib.hid hS6
  clear hS6 hS5 KL hnl
  have d1 := da1 w6 HB6.out
  have d2 := da2 w6 HB6.out
  go_wp2_with fail
  clear d1 d2
  obtain ⟨la, hla⟩ : ∃ la, x.la = la := ⟨_, rfl⟩
  have HLd : x.links.length = 0 ∨ la = some ⟨x.lb, x.lo, none⟩ := by rw [← hla]; exact HS.out.xat.links.addr
  have HLa := Lib.hid hla
  rw [hla]
  rw [hla] at da2
  clear hla
  go_loopw [59] (fun i wr => ∃ j : Nat, i = .int .i64 (j : Int) ∧ j ≤ x.procs.length ∧ Hid (Below w5.heap.size w5 wr)) (fun i _ => x.procs.length - (intOf i).toNat)
  case atStart => exact ⟨0, rfl, Nat.zero_le _, HB6⟩
  case round =>
    clear HB6
    obtain ⟨a, rfl, hj, HBa⟩ := hrel
    by_cases hlt : a < x.procs.length
    · obtain ⟨A, hA⟩ : ∃ A : Int, (a : Int) = A := ⟨_, rfl⟩
      have hA0 : (0 : Int) ≤ A := by omega
      have hAl : A < (x.procs.length : Int) := by omega
      have HAa := Lib.hid hA
      rw [hA]
      clear hA
      obtain ⟨p, hp⟩ : ∃ p, x.procs[a]? = some p := ⟨_, List.getElem?_eq_getElem hlt⟩
      have hpm : x.m.procs[a]? = some p.p := by unfold ModelV.m; simp [hp]
      obtain ⟨r, hr⟩ : ∃ r, max1 p.p.weight = r := ⟨_, rfl⟩
      have hr2 : max p.p.weight 1 = r := by rw [← hr]; unfold max1; split <;> omega
      have hxa : x.pa = some ⟨x.pb, x.po, none⟩ := HS.out.xat.procs.addr.resolve_left (by omega)
      have KW : Hid (∀ W, Below w5.heap.size w5 W → Calls Tryz.prog 20 #[.pointer (some ⟨g, 0, none⟩), .int .i64 A] W fun e w' => e = .returned (.int .i64 r) ∧ W = w') := Lib.hid (fun W hW => by
        have := weightAt_any (HG.out.below hW) A
        unfold wtOf at this
        rw [HWl.out, if_pos ⟨hA0, hAl⟩, List.getD_eq_getElem?_getD, show (wtsM x.m)[A.toNat]? = some r by rw [show A.toNat = a by have := HAa.out; omega]; unfold wtsM; rw [List.getElem?_map, hpm]; simp [hr]] at this
        exact this)
      have HAn : Hid (A.toNat = a) := Lib.hid (by have := HAa.out; omega)
      have dxw : ∀ W, Below w5.heap.size w5 W → W.cell? ⟨x.pb, x.po + A.toNat * 4 + 1, none⟩ = some (.int .i64 p.p.weight) := fun W hW => by
        rw [HAn.out]
        exact (HS.out.xa (further HB.out hW)).procs.cell a p hp 1 _ rfl
      have db1 : ∀ W, Below w5.heap.size w5 W → W.cell? ⟨w.heap.size, 1, none⟩ = some (.slice (some ⟨x.pb, x.po, none⟩) x.procs.length x.pc) := fun W hW => by rw [← hxa]; exact da1 W hW
      have hnr : (r != r) = false := by simp
      have hSa := HBa.out
      have HXa := Lib.hid hxa
      have HDa := Lib.hid da1
      clear da1 hpm hp hr hxa
      go_upto_region 14 with fail
      go_cut [72] from 62 to 72 (fun c wx => c = .bool false ∧ Hid (Below w5.heap.size w5 wx))
      case first =>
        go_region_held3 (fun W => Below w5.heap.size w5 W) (first | assumption | exact Below.drew (by assumption)) (first
          | (go_at_call 20; with_reducible refine (KW.out _ (by assumption)).mono ?_; rintro e w7 ⟨rfl, hw7⟩; have hS7 : Below w5.heap.size w5 w7 := (by rw [← hw7]; assumption); clear hw7))
        all_goals
          go_wp2_with fail
          go_meet
          exact ⟨rfl, Lib.hid hS7⟩
      case rest =>
      obtain ⟨rfl, HB7⟩ := hcut
      generalize wc = w7 at *
      clear hSa KW hnr dxw hr2
      have d1 := db1 w7 HB7.out
      go_wp2_with fail
      clear d1
      go_loopw [76] (fun i wr => ∃ j : Nat, i = .int .i64 (j : Int) ∧ j ≤ x.procs.length ∧ Hid (Below w5.heap.size w5 wr)) (fun i _ => x.procs.length - (intOf i).toNat)
      case atStart => exact ⟨0, rfl, Nat.zero_le _, HB7⟩
      case round =>
        clear HB7
        obtain ⟨b, rfl, hk, HBb⟩ := hrel
        by_cases hkt : b < x.procs.length
        · obtain ⟨B, hB⟩ : ∃ B : Int, (b : Int) = B := ⟨_, rfl⟩
          have hB0 : (0 : Int) ≤ B := by omega
          have hBl : B < (x.procs.length : Int) := by omega
          have HBb2 := Lib.hid hB
          rw [hB]
          clear hB
          have d2 := da2 wr HBb.out
          go_wp2_with fail
          clear d2
          go_loopw [9, 82] (fun s i wr => ∃ j : Nat, i = .int .i64 (j : Int) ∧ s = .int .i64 (rsum x.m a b j) ∧ j ≤ x.links.length ∧ Hid (Below w5.heap.size w5 wr)) (fun _ i _ => x.links.length - (intOf i).toNat)
          case atStart => exact ⟨0, rfl, rfl, Nat.zero_le _, HBb⟩
          case round =>
            clear HBb
            obtain ⟨j, rfl, rfl, hj2, HBj⟩ := hrel
            have hj0 : (0 : Int) ≤ (j : Int) := Int.natCast_nonneg j
            by_cases hjt : j < x.links.length
            · have hji : (j : Int) < (x.links.length : Int) := by omega
              have hI := (HS.out.xa (further HB.out HBj.out)).links
              obtain rfl := HLd.resolve_left (by omega)
              obtain ⟨l, hl⟩ : ∃ l, x.links[j]? = some l := ⟨_, List.getElem?_eq_getElem hjt⟩
              have s0 : wr.cell? ⟨x.lb, x.lo + j * 5, none⟩ = some (.string l.name) := hI.cell j l hl 0 _ rfl
              have s1 : wr.cell? ⟨x.lb, x.lo + j * 5 + 1, none⟩ = some (.string l.frm) := hI.cell j l hl 1 _ rfl
              have s2 : wr.cell? ⟨x.lb, x.lo + j * 5 + 2, none⟩ = some (.string l.to_) := hI.cell j l hl 2 _ rfl
              have s3 : wr.cell? ⟨x.lb, x.lo + j * 5 + 3, none⟩ = some (.int .i64 l.delay) := hI.cell j l hl 3 _ rfl
              have s4 : wr.cell? ⟨x.lb, x.lo + j * 5 + 4, none⟩ = some (.int .i64 l.weight) := hI.cell j l hl 4 _ rfl
              have hlm : x.m.links[j]? = some l := hl
              have HSt := Lib.hid (rsum_succ (a := a) (b := b) hlm)
              have hs0 := rsum_bd HR.out a b j hj2
              have hbd := ln_bd HR.out hlm
              obtain ⟨r2, hr⟩ : ∃ r, max1 l.weight = r := ⟨_, rfl⟩
              have hr2 : max l.weight 1 = r2 := by rw [← hr]; unfold max1; split <;> omega
              have hm0 : 1 ≤ r2 ∧ r2 ≤ 1048576 := by rw [← hr]; exact ⟨hbd.1, hbd.2.1⟩
              rw [hr] at HSt
              obtain ⟨sv, hsv⟩ : ∃ s, rsum x.m a b j = s := ⟨_, rfl⟩
              rw [hsv] at HSt hs0 ⊢
              obtain ⟨PF, hPF⟩ : ∃ P : Int, ((plM x.m l.frm : Nat) : Int) = P := ⟨_, rfl⟩
              obtain ⟨PT, hPT⟩ : ∃ P : Int, ((plM x.m l.to_ : Nat) : Int) = P := ⟨_, rfl⟩
              have KF : Hid (∀ W, Below w5.heap.size w5 W → Calls Tryz.prog 21 #[.agg #[.int .i64 x.ver, .slice (some ⟨x.pb, x.po, none⟩) x.procs.length x.pc, .slice (some ⟨x.lb, x.lo, none⟩) x.links.length x.lc, .slice x.ea x.events.length x.ec], .string l.frm] W fun e w' => e = .returned (.int .i64 PF) ∧ Below W.heap.size W w') := Lib.hid (fun W hW => by
                have := rproc_any (HS.out.xa (further HB.out hW)) l.frm
                obtain ⟨i, hi⟩ := Option.isSome_iff_exists.1 hbd.2.2.1
                rw [plc_pos hi, HXa.out, HLa.out] at this
                unfold plM at hPF
                rw [hi] at hPF
                rw [← hPF]
                exact this)
              have KT : Hid (∀ W, Below w5.heap.size w5 W → Calls Tryz.prog 21 #[.agg #[.int .i64 x.ver, .slice (some ⟨x.pb, x.po, none⟩) x.procs.length x.pc, .slice (some ⟨x.lb, x.lo, none⟩) x.links.length x.lc, .slice x.ea x.events.length x.ec], .string l.to_] W fun e w' => e = .returned (.int .i64 PT) ∧ Below W.heap.size W w') := Lib.hid (fun W hW => by
                have := rproc_any (HS.out.xa (further HB.out hW)) l.to_
                obtain ⟨i, hi⟩ := Option.isSome_iff_exists.1 hbd.2.2.2
                rw [plc_pos hi, HXa.out, HLa.out] at this
                unfold plM at hPT
                rw [hi] at hPT
                rw [← hPT]
                exact this)
              have HIs : Hid (isB x.m a b l = ((A != B) && ((PF == A && PT == B) || (PF == B && PT == A)))) := Lib.hid (by
                have h1 := HAa.out
                have h2 := HBb2.out
                rw [← h1, ← h2, ← hPF, ← hPT, Bool.eq_iff_iff]
                unfold isB
                simp only [Bool.and_eq_true, Bool.or_eq_true, bne_iff_ne, beq_iff_eq, ne_eq]
                omega)
              clear hI hl hlm hbd hr hsv hPF hPT
              go_upto_region 23 with fail
              clear s0 s1 s2 s3 s4
              have HO := Lib.hid (heap_new (w := wr) (.cells #[.string l.name, .string l.frm, .string l.to_, .int .i64 l.delay, .int .i64 l.weight] 42) rfl)
              have HBs := Lib.hid (HBj.out.alloc HBj.out.size (.cells #[.string l.name, .string l.frm, .string l.to_, .int .i64 l.delay, .int .i64 l.weight] 42))
              generalize wr.alloc (.cells #[.string l.name, .string l.frm, .string l.to_, .int .i64 l.delay, .int .i64 l.weight] 42) = w10 at *
              generalize hBx : wr.heap.size = Bx at *
              clear hBx
              have lift : ∀ W, Below w10.heap.size w10 W → Below w5.heap.size w5 W := fun W hW => HBs.out.trans (hW.mono HBs.out.size)
              have HLf := Lib.hid lift
              have e0 : ∀ W, Below w10.heap.size w10 W → W.cell? ⟨w.heap.size, 0, none⟩ = some (.int .i64 x.ver) := fun W hW => da0 W (HLf.out W hW)
              have e1 : ∀ W, Below w10.heap.size w10 W → W.cell? ⟨w.heap.size, 1, none⟩ = some (.slice (some ⟨x.pb, x.po, none⟩) x.procs.length x.pc) := fun W hW => db1 W (HLf.out W hW)
              have e2 : ∀ W, Below w10.heap.size w10 W → W.cell? ⟨w.heap.size, 2, none⟩ = some (.slice (some ⟨x.lb, x.lo, none⟩) x.links.length x.lc) := fun W hW => da2 W (HLf.out W hW)
              have e3 : ∀ W, Below w10.heap.size w10 W → W.cell? ⟨w.heap.size, 3, none⟩ = some (.slice x.ea x.events.length x.ec) := fun W hW => da3 W (HLf.out W hW)
              have l1 : ∀ W, Below w10.heap.size w10 W → W.cell? ⟨Bx, 1, none⟩ = some (.string l.frm) := fun W hW => heap_cell (heap_below HO.out hW (heap_lt HO.out)) rfl
              have l2 : ∀ W, Below w10.heap.size w10 W → W.cell? ⟨Bx, 2, none⟩ = some (.string l.to_) := fun W hW => heap_cell (heap_below HO.out hW (heap_lt HO.out)) rfl
              have HDs := Lib.hid (And.intro da0 (And.intro db1 (And.intro da2 da3)))
              have KF2 : Hid (∀ W, Below w10.heap.size w10 W → Calls Tryz.prog 21 #[.agg #[.int .i64 x.ver, .slice (some ⟨x.pb, x.po, none⟩) x.procs.length x.pc, .slice (some ⟨x.lb, x.lo, none⟩) x.links.length x.lc, .slice x.ea x.events.length x.ec], .string l.frm] W fun e w' => e = .returned (.int .i64 PF) ∧ Below W.heap.size W w') := Lib.hid (fun W hW => KF.out W (HLf.out W hW))
              have KT2 : Hid (∀ W, Below w10.heap.size w10 W → Calls Tryz.prog 21 #[.agg #[.int .i64 x.ver, .slice (some ⟨x.pb, x.po, none⟩) x.procs.length x.pc, .slice (some ⟨x.lb, x.lo, none⟩) x.links.length x.lc, .slice x.ea x.events.length x.ec], .string l.to_] W fun e w' => e = .returned (.int .i64 PT) ∧ Below W.heap.size W w') := Lib.hid (fun W hW => KT.out W (HLf.out W hW))
              have hSa := Below.refl w10.heap.size w10
              clear da0 db1 da2 da3 lift KF KT
              go_cut [12, 13] from 86 to 93 (fun c d wx => c = .int .i64 PF ∧ d = .int .i64 PT ∧ Hid (Below w10.heap.size w10 wx))
              case first =>
                go_region_held3 (fun W => Below w10.heap.size w10 W) (first | assumption | exact Below.drew (by assumption)) (first
                  | (go_at_call 21; with_reducible refine (KF2.out _ (by assumption)).mono ?_; rintro e w11 ⟨rfl, hb⟩; have hS11 : Below w10.heap.size w10 w11 := further (show Below w10.heap.size w10 _ by assumption) hb; clear hb)
                  | (go_at_call 21; with_reducible refine (KT2.out _ (by assumption)).mono ?_; rintro e w12 ⟨rfl, hb⟩; have hS12 : Below w10.heap.size w10 w12 := further (show Below w10.heap.size w10 _ by assumption) hb; clear hb))
                all_goals
                  go_wp2_with fail
                  go_meet
                  exact ⟨rfl, rfl, Lib.hid hS12⟩
              case rest =>
              obtain ⟨rfl, rfl, HBc⟩ := hcut
              generalize wc = w12 at *
              clear e0 e1 e2 e3 l1 l2 hSa KF2 KT2
              have c4 : w12.cell? ⟨Bx, 4, none⟩ = some (.int .i64 l.weight) := heap_cell (heap_below HO.out HBc.out (heap_lt HO.out)) rfl
              have HB12 := Lib.hid (HLf.out _ HBc.out)
              cases g1 : (A != B) with
              | true =>
                cases g2 : (PF == A) with
                | true =>
                  cases g3 : (PT == B) with
                  | true =>
                    have HE : Hid (rsum x.m a b (j + 1) = sv + r2) := Lib.hid (by rw [HSt.out, HIs.out, g1, g2, g3]; simp)
                    go_wp2
                    go_roundw
                    case rel => exact ⟨j + 1, by go_num, by rw [HE.out], by omega, HB12⟩
                    case measure => simp [intOf]; omega
                  | false =>
                    cases g4 : (PF == B) with
                    | true =>
                      cases g5 : (PT == A) with
                      | true =>
                        have HE : Hid (rsum x.m a b (j + 1) = sv + r2) := Lib.hid (by rw [HSt.out, HIs.out, g1, g2, g3, g4, g5]; simp)
                        go_wp2
                        go_roundw
                        case rel => exact ⟨j + 1, by go_num, by rw [HE.out], by omega, HB12⟩
                        case measure => simp [intOf]; omega
                      | false =>
                        have HE : Hid (rsum x.m a b (j + 1) = sv) := Lib.hid (by rw [HSt.out, HIs.out, g1, g2, g3, g4, g5]; simp)
                        go_wp2
                        go_roundw
                        case rel => exact ⟨j + 1, by go_num, by rw [HE.out], by omega, HB12⟩
                        case measure => simp [intOf]; omega
                    | false =>
                      have HE : Hid (rsum x.m a b (j + 1) = sv) := Lib.hid (by rw [HSt.out, HIs.out, g1, g2, g3, g4]; simp)
                      go_wp2
                      go_roundw
                      case rel => exact ⟨j + 1, by go_num, by rw [HE.out], by omega, HB12⟩
                      case measure => simp [intOf]; omega
                | false =>
                  cases g4 : (PF == B) with
                  | true =>
                    cases g5 : (PT == A) with
                    | true =>
                      have HE : Hid (rsum x.m a b (j + 1) = sv + r2) := Lib.hid (by rw [HSt.out, HIs.out, g1, g2, g4, g5]; simp)
                      go_wp2
                      go_roundw
                      case rel => exact ⟨j + 1, by go_num, by rw [HE.out], by omega, HB12⟩
                      case measure => simp [intOf]; omega
                    | false =>
                      have HE : Hid (rsum x.m a b (j + 1) = sv) := Lib.hid (by rw [HSt.out, HIs.out, g1, g2, g4, g5]; simp)
                      go_wp2
                      go_roundw
                      case rel => exact ⟨j + 1, by go_num, by rw [HE.out], by omega, HB12⟩
                      case measure => simp [intOf]; omega
                  | false =>
                    have HE : Hid (rsum x.m a b (j + 1) = sv) := Lib.hid (by rw [HSt.out, HIs.out, g1, g2, g4]; simp)
                    go_wp2
                    go_roundw
                    case rel => exact ⟨j + 1, by go_num, by rw [HE.out], by omega, HB12⟩
                    case measure => simp [intOf]; omega
              | false =>
                have HE : Hid (rsum x.m a b (j + 1) = sv) := Lib.hid (by rw [HSt.out, HIs.out, g1]; simp)
                go_wp2
                go_roundw
                case rel => exact ⟨j + 1, by go_num, by rw [HE.out], by omega, HB12⟩
                case measure => simp [intOf]; omega
            · obtain rfl : j = x.links.length := by omega
              have hji : ¬ ((x.links.length : Int) < (x.links.length : Int)) := by omega
              have KB : Hid (Calls Tryz.prog 22 #[.pointer (some ⟨g, 0, none⟩), .int .i64 A, .int .i64 B] wr fun e w' => e = .returned (.int .i64 (rsum x.m a b x.links.length)) ∧ Below wr.heap.size wr w') := Lib.hid (by
                refine (between_any (HG.out.below HBj.out) A B).mono ?_
                rintro e w' ⟨rfl, ht⟩
                refine ⟨?_, below_of_turned ht⟩
                rw [HWl.out, ← HAa.out, ← HBb2.out, btw_nat _ _ hlt hkt, btw_sum HR.out a b _ (Nat.le_refl _)]
                rfl)
              obtain ⟨sv, hsv⟩ : ∃ s, rsum x.m a b x.links.length = s := ⟨_, rfl⟩
              rw [hsv] at KB ⊢
              have hss : (sv != sv) = false := by simp
              clear hsv
              go_wp2_with fail
              refine KB.out.mono ?_
              rintro e w13 ⟨rfl, hb⟩
              have HBn := Lib.hid (further HBj.out hb)
              clear hb KB
              go_wp2
              go_roundw
              case rel => exact ⟨b + 1, by rw [← HBb2.out]; go_num, by omega, HBn⟩
              case measure => have := HBb2.out; simp [intOf]; omega
        · have hkn : ¬ ((b : Int) < (x.procs.length : Int)) := by omega
          go_wp2
          go_roundw
          case rel => exact ⟨a + 1, by rw [← HAa.out]; go_num, by omega, HBb⟩
          case measure => have := HAa.out; simp [intOf]; omega
    · have hjn : ¬ ((a : Int) < (x.procs.length : Int)) := by omega
      go_wp2
      go_ret
      exact ⟨rfl, HS.out.fin (further HB.out HBa.out)⟩

end Go.Proofs.YtjcmeacgfflfmaaGreat.Hk
