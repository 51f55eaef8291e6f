/- canon: walk of CanonNames. -/
import Derived.Test.YtjcmeacgfflfmaaGreatCni
import Derived.Test.YtjcmeacgfflfmaaGreatCnh
import Derived.Test.YtjcmeacgfflfmaaGreatMkp
import Derived.Deep.RegionHeld3
import Derived.Deep.QuietTactic
set_option linter.unusedVariables false
set_option linter.unusedSectionVars false
set_option linter.unusedSimpArgs false
namespace Go.Proofs.YtjcmeacgfflfmaaGreat.Hk
open Go.RowKit Go.Shelf Go.Proofs.YtjcmeacgfflfmaaGreat.Md

def Ups (xs : List ByteArray) : Prop := xs.Pairwise (fun x y => Op.bytesLess x.toList y.toList = true)
theorem Ups.step {xs : List ByteArray} (h : Ups xs) {k : Nat} {x y : ByteArray} (hx : xs[k]? = some x) (hy : xs[k + 1]? = some y) : (Op.bytesLess y.toList x.toList || y.toList == x.toList) = false := by
  obtain ⟨a1, rfl⟩ := List.getElem?_eq_some_iff.1 hx
  obtain ⟨b1, rfl⟩ := List.getElem?_eq_some_iff.1 hy
  have h1 := List.pairwise_iff_getElem.1 h k (k + 1) a1 b1 (by omega)
  rw [bl_asymm h1, Bool.false_or]
  cases h2 : (xs[k + 1].toList == xs[k].toList) with
  | false => rfl
  | true =>
    rw [beq_iff_eq] at h2
    rw [h2, bl_irr] at h1
    cases h1
set_option maxRecDepth 100000 in
set_option maxHeartbeats 2000000 in
/-- Names that rise are sorted. -/
theorem sorted_up {w : World} {v : Value} {base : Nat} {xs : List ByteArray} (h : Gath w base 9 1 v xs.length (sv xs)) (hl : xs.length ≤ 1000000) (hp : Ups xs) : Calls Tryz.prog 24 #[v] w fun e w' => e = .returned (.bool true) ∧ Below w.heap.size w w' := by
  obtain ⟨a, c, g, rfl, ha, _, hc⟩ := names_row h
  have HC := Lib.hid hc
  have HP := Lib.hid hp
  clear h hc hp
  obtain ⟨n, hn⟩ : ∃ n, xs.length = n := ⟨_, rfl⟩
  have HN := Lib.hid hn
  rw [hn] at ha hl ⊢
  clear hn
  go_enter Tryz.func24, Tryz.ntmps24
  go_wp2
  go_loopw [3] (fun i wr => ∃ j : Nat, 1 ≤ j ∧ i = .int .i64 j ∧ Hid (∃ n, wr = w.drewN n)) (fun i _ => n - (intOf i).toNat)
  case atStart => exact ⟨1, Nat.le_refl _, rfl, Lib.hid ⟨0, rfl⟩⟩
  case round =>
    obtain ⟨j, hj1, rfl, HW⟩ := hrel
    by_cases hlt : j < n
    · obtain ⟨k, hk⟩ : ∃ k, j = k + 1 := ⟨j - 1, by omega⟩
      obtain ⟨x, hx⟩ : ∃ x, xs[k]? = some x := ⟨_, List.getElem?_eq_getElem (by have := HN.out; omega)⟩
      obtain ⟨y, hy⟩ : ∃ y, xs[k + 1]? = some y := ⟨_, List.getElem?_eq_getElem (by have := HN.out; omega)⟩
      have c1 : wr.cell? ⟨g, j, none⟩ = some (.string y) := by obtain ⟨m, rfl⟩ := HW.out; rw [hk]; exact HC.out (k + 1) y hy
      have c2 : wr.cell? ⟨g, k, none⟩ = some (.string x) := by obtain ⟨m, rfl⟩ := HW.out; exact HC.out k x hx
      obtain rfl : a = some ⟨g, 0, none⟩ := ha.resolve_left (by omega)
      have hji : (j : Int) < (n : Int) := by omega
      have hw : IntKind.i64.wrap ((j : Int) - 1) = (k : Int) := by rw [show (j : Int) - 1 = (k : Int) by omega]; exact IntWalk.i64_in _ (by omega)
      have hki : (k : Int) < (n : Int) := by omega
      have hk0 : (0 : Int) ≤ (k : Int) := by omega
      have g1 := HP.out.step hx hy
      clear hx hy hk
      go_wp2
      go_quiet (fail)
      go_wp2
      go_roundw
      case rel => exact ⟨j + 1, by omega, by go_num, Lib.hid (by obtain ⟨m, h⟩ := HW.out; exact ⟨_, by rw [h]; simp [World.drewN, Nat.add_assoc]; rfl⟩)⟩
      case measure => simp [intOf]; omega
    · have hji : ¬ (j : Int) < (n : Int) := by omega
      go_wp2
      go_ret
      exact ⟨rfl, by obtain ⟨m, rfl⟩ := HW.out; exact ⟨rfl, rfl, rfl, Nat.le_refl _, fun _ _ => rfl⟩⟩
/-- Names that are gathered in memory of their own. -/
structure NmW (w0 : World) (xs : List ByteArray) (v : Value) (W : World) : Prop where
  row : Gath W w0.heap.size 9 1 v xs.length (sv xs)
  low : Below w0.heap.size w0 W
  lt : ∀ g, v.ownBlock = some g → g < W.heap.size
theorem gath_on {W W' : World} {base : Nat} {e : TypeId} {size : Nat} {v : Value} {n : Nat} {xs : List Value} (h : Gath W base e size v n xs) (hb : Below W.heap.size W W') : Gath W' base e size v n xs :=
  h.imp id (fun h => h.kept (grown_below hb none) (by rcases h.2 with ⟨h1, _⟩ | ⟨g, cap, cur, h1, _⟩; exact .inl (by rw [h1]; rfl); exact .inr (by rw [h1]; simp [Value.ownBlock])))
theorem NmW.on {w0 : World} {xs : List ByteArray} {v : Value} {W W' : World} (h : NmW w0 xs v W) (hb : Below W.heap.size W W') : NmW w0 xs v W' :=
  ⟨gath_on h.row hb, h.low.trans (hb.mono h.low.size), fun g hg => Nat.lt_of_lt_of_le (h.lt g hg) hb.size⟩
theorem NmW.app {w0 W w3 : World} {xs : List ByteArray} {y : ByteArray} {v v' : Value} {row : Option Nat} {o : Obj} (h : NmW w0 xs v W) (hown : w3.ownsRow w0.heap.size 9 1 v' (xs.length + 1) (sv xs ++ [.string y])) (hg : (W.alloc o).grownBy w3 row) (hrow : ∀ g, row = some g → w0.heap.size ≤ g) :
    NmW w0 (xs ++ [y]) v' w3 :=
  ⟨.inr (by rw [List.length_append, sv_snoc]; exact hown), (h.low.alloc h.low.size o).grown hg (by rw [World.size_alloc]; have := h.low.size; omega) hrow, fun g hg => (hown.lt g hg).2⟩
theorem can_name {m : ModelM} {j : Nat} {q : ProcM} (h : Right m) (hq : (canM m).procs[j]? = some q) : ∃ k p, m.procs[k]? = some p ∧ q.steps = p.steps ∧ fstP (nmsP m) q.name = some k ∧ Ups (vNames q) := by
  obtain ⟨p, hp, rfl⟩ := List.mem_map.1 (List.mem_of_getElem? hq)
  obtain ⟨k, hk⟩ := List.mem_iff_getElem?.1 (Hg.srt_mem hp)
  refine ⟨k, p, hk, rfl, nodup_first (procs_nodup h) (by unfold nmsP; rw [List.getElem?_map, hk]; rfl), ?_⟩
  obtain ⟨_, _, _, _, e⟩ := nm_zero (h.procs k p hk)
  have hd : (p.vars.map (fun v => v.name)).Nodup := vars_nodup (in_parts.1 e).1
  exact asc_names (kf := HeV.ord) (f := fun v => v.name) (fun _ _ => rfl) (((Hg.srt_perm (kf := HeV.ord) p.vars).map _).nodup_iff.2 hd) (Hg.srt_asc _ _ rfl)
theorem can_ups {m : ModelM} (h : Right m) : Ups (nmsP (canM m)) ∧ Ups (nmsL (canM m)) := by
  refine ⟨?_, ?_⟩
  · have e : nmsP (canM m) = (Hg.srt ordPM m.procs).map (fun y => y.name) := by unfold nmsP canM; rw [List.map_map]; rfl
    rw [e]
    exact asc_names (kf := ordPM) (fun _ _ => rfl) (((Hg.srt_perm (kf := ordPM) m.procs).map _).nodup_iff.2 (procs_nodup h)) (Hg.srt_asc _ _ rfl)
  · exact asc_names (kf := HeL.ord) (fun _ _ => rfl) (((Hg.srt_perm (kf := HeL.ord) m.links).map _).nodup_iff.2 (links_nodup h)) (Hg.srt_asc _ _ rfl)
theorem can_ev {m : ModelM} {k : Nat} {a b : EventM} (ha : (canM m).events[k]? = some a) (hb : (canM m).events[k + 1]? = some b) : ¬ b.at_ < a.at_ := by
  have h1 : Hg.Asc HeE.ord (canM m).events := Hg.srt_asc _ _ rfl
  obtain ⟨a1, rfl⟩ := List.getElem?_eq_some_iff.1 ha
  obtain ⟨b1, rfl⟩ := List.getElem?_eq_some_iff.1 hb
  have h2 : evLt _ _ = false := List.pairwise_iff_getElem.1 h1 k (k + 1) a1 b1 (by omega)
  unfold evLt at h2
  intro c
  rw [if_neg (by omega)] at h2
  simp at h2
  omega
theorem nms_len' (m : ModelM) : (nmsP m).length = m.procs.length := by unfold nmsP; rw [List.length_map]
theorem nml_len' (m : ModelM) : (nmsL m).length = m.links.length := by unfold nmsL; rw [List.length_map]
theorem few_len3 {m : ModelM} (h : fewB m = true) : m.procs.length ≤ 12 ∧ m.links.length ≤ 24 ∧ m.events.length ≤ 24 ∧ ∀ p ∈ m.procs, p.vars.length ≤ 70 := by
  unfold fewB at h
  simp only [Bool.and_eq_true, decide_eq_true_eq, List.all_eq_true] at h
  exact ⟨h.1.1.1.1, h.1.1.1.2, h.1.1.2, fun p hp => by
    have := h.1.2 p hp
    unfold fewP at this
    simp only [Bool.and_eq_true, decide_eq_true_eq] at this
    exact this.1⟩
theorem can_lens (m : ModelM) : (canM m).procs.length = m.procs.length ∧ (canM m).links.length = m.links.length ∧ (canM m).events.length = m.events.length := by
  refine ⟨?_, Hg.srt_length _, Hg.srt_length _⟩
  unfold canM
  rw [List.length_map, Hg.srt_length]

set_option maxRecDepth 100000 in
set_option maxHeartbeats 40000000 in
theorem walk_CanonNames (x : ModelV) (w : World) (h : ModelAt w.heap.size w x) (hw : (Lit.int .i64 x.ver).wf = true) : Calls Tryz.prog 6 #[.agg #[.int .i64 x.ver, .slice x.pa x.procs.length x.pc, .slice x.la x.links.length x.lc, .slice x.ea x.events.length x.ec]] w fun e w' => e = .returned (.bool true) ∧ Below w.heap.size w w' := by
  obtain ⟨i0, hi0, hz0, hz1, hz2⟩ := info_parts Tryz.infoStr
  have HI := Lib.hid hi0
  have HZ0 := Lib.hid hz0
  have HZ1 := Lib.hid hz1
  have HZ2 := Lib.hid hz2
  have HS := Lib.hid (S1.mk' h)
  clear h hw hi0 hz0 hz1 hz2
  go_enter Tryz.func6, Tryz.ntmps6
  go_wp2_with fail
  generalize w.alloc (.cells #[.int .i64 x.ver, .slice x.pa x.procs.length x.pc, .slice x.la x.links.length x.lc, .slice x.ea x.events.length x.ec] 26) = w1 at *
  refine (alive_any w1).mono ?_
  rintro e w2 ⟨rfl, hb⟩
  have HB := Lib.hid hb
  clear hb
  have a0 : w2.cell? ⟨w.heap.size, 0, none⟩ = some (.int .i64 x.ver) := heap_cell (HS.out.xb HB.out) rfl
  have a1 : w2.cell? ⟨w.heap.size, 1, none⟩ = some (.slice x.pa x.procs.length x.pc) := heap_cell (HS.out.xb HB.out) rfl
  have a2 : w2.cell? ⟨w.heap.size, 2, none⟩ = some (.slice x.la x.links.length x.lc) := heap_cell (HS.out.xb HB.out) rfl
  have a3 : w2.cell? ⟨w.heap.size, 3, none⟩ = some (.slice x.ea x.events.length x.ec) := heap_cell (HS.out.xb HB.out) rfl
  go_wp2_with fail
  refine (few_any (HS.out.xa HB.out)).mono ?_
  rintro e w3 ⟨rfl, hb⟩
  replace HB := Lib.hid (further HB.out hb)
  clear hb a0 a1 a2 a3
  cases hf : fewB x.m with
  | false =>
    clear hf
    go_wp2
    go_ret
    exact ⟨rfl, HS.out.fin HB.out⟩
  | true =>
  have HSz := Lib.hid (few_sized hf)
  have HFw := Lib.hid (few_len3 hf)
  clear hf
  have a0 : w3.cell? ⟨w.heap.size, 0, none⟩ = some (.int .i64 x.ver) := heap_cell (HS.out.xb HB.out) rfl
  have a1 : w3.cell? ⟨w.heap.size, 1, none⟩ = some (.slice x.pa x.procs.length x.pc) := heap_cell (HS.out.xb HB.out) rfl
  have a2 : w3.cell? ⟨w.heap.size, 2, none⟩ = some (.slice x.la x.links.length x.lc) := heap_cell (HS.out.xb HB.out) rfl
  have a3 : w3.cell? ⟨w.heap.size, 3, none⟩ = some (.slice x.ea x.events.length x.ec) := heap_cell (HS.out.xb HB.out) rfl
  have HC := Lib.hid (check_any (HS.out.xa HB.out))
  obtain ⟨E, hE⟩ : ∃ E, (mdE x.m).1 = E := ⟨_, rfl⟩
  obtain ⟨E2, hE2⟩ : ∃ E, (mdE x.m).2 = E := ⟨_, rfl⟩
  rw [hE, hE2] at HC
  clear hE2
  go_wp2_with fail
  refine HC.out.mono ?_
  clear HC a0 a1 a2 a3
  rintro e w4 ⟨rfl, hb⟩
  replace HB := Lib.hid (further HB.out hb)
  clear hb
  have hfd := field0 E E2
  by_cases hz : ¬ E = 0
  · have hq : (E != 0) = true := by simpa using hz
    clear hE hz
    go_wp2
    go_ret
    exact ⟨rfl, HS.out.fin HB.out⟩
  obtain rfl : E = 0 := by omega
  clear hz
  have HRt := Lib.hid (right_of hE)
  clear hE
  have a0 : w4.cell? ⟨w.heap.size, 0, none⟩ = some (.int .i64 x.ver) := heap_cell (HS.out.xb HB.out) rfl
  have a1 : w4.cell? ⟨w.heap.size, 1, none⟩ = some (.slice x.pa x.procs.length x.pc) := heap_cell (HS.out.xb HB.out) rfl
  have a2 : w4.cell? ⟨w.heap.size, 2, none⟩ = some (.slice x.la x.links.length x.lc) := heap_cell (HS.out.xb HB.out) rfl
  have a3 : w4.cell? ⟨w.heap.size, 3, none⟩ = some (.slice x.ea x.events.length x.ec) := heap_cell (HS.out.xb HB.out) rfl
  have HC := Lib.hid (canon_any (HS.out.xa HB.out) HSz.out)
  go_wp2_with fail
  clear hfd a0 a1 a2 a3
  refine HC.out.mono ?_
  clear HC
  rintro e wq ⟨y, rfl, hym, hyo, hb⟩
  have hpl : y.procs.length = x.procs.length := by
    have h1 := (can_lens x.m).1
    rw [← hym] at h1
    simpa [ModelV.m] using h1
  have hll : y.links.length = x.links.length := by
    have h1 := (can_lens x.m).2.1
    rw [← hym] at h1
    exact h1
  have hel : y.events.length = x.events.length := by
    have h1 := (can_lens x.m).2.2
    rw [← hym] at h1
    exact h1
  rw [hpl, hll, hel]
  have HB4 := Lib.hid (further HB.out hb)
  have HYL := Lib.hid (And.intro hpl (And.intro hll hel))
  have HYM := Lib.hid hym
  have HYO := Lib.hid hyo
  clear hb hpl hll hel hym hyo HB
  go_upto_region 7 with fail
  have HV : Hid (Below w1.heap.size w1 (((wq.alloc (.cells #[.int .i64 y.ver, .slice y.pa x.procs.length y.pc, .slice y.la x.links.length y.lc, .slice y.ea x.events.length y.ec] 26)).alloc (.cells #[] 9)).alloc (.cells #[] 9)) ∧ ModelAt (((wq.alloc (.cells #[.int .i64 y.ver, .slice y.pa x.procs.length y.pc, .slice y.la x.links.length y.lc, .slice y.ea x.events.length y.ec] 26)).alloc (.cells #[] 9)).alloc (.cells #[] 9)).heap.size (((wq.alloc (.cells #[.int .i64 y.ver, .slice y.pa x.procs.length y.pc, .slice y.la x.links.length y.lc, .slice y.ea x.events.length y.ec] 26)).alloc (.cells #[] 9)).alloc (.cells #[] 9)) y ∧ (((wq.alloc (.cells #[.int .i64 y.ver, .slice y.pa x.procs.length y.pc, .slice y.la x.links.length y.lc, .slice y.ea x.events.length y.ec] 26)).alloc (.cells #[] 9)).alloc (.cells #[] 9)).heap[wq.heap.size]? = some (.cells #[.int .i64 y.ver, .slice y.pa x.procs.length y.pc, .slice y.la x.links.length y.lc, .slice y.ea x.events.length y.ec] 26 (0, 0))) := Lib.hid (by
    have hbx : Below wq.heap.size wq (((wq.alloc (.cells #[.int .i64 y.ver, .slice y.pa x.procs.length y.pc, .slice y.la x.links.length y.lc, .slice y.ea x.events.length y.ec] 26)).alloc (.cells #[] 9)).alloc (.cells #[] 9)) := (((Below.refl _ wq).alloc (Nat.le_refl _) _).alloc (by simp) _).alloc (by simp; omega) _
    exact ⟨further HB4.out hbx, HYO.out.at_.on hbx, heap_alloc (heap_alloc (heap_new _ rfl) _) _⟩)
  have HCl : Hid (wq.heap.size + 1 + 1 < (((wq.alloc (.cells #[.int .i64 y.ver, .slice y.pa x.procs.length y.pc, .slice y.la x.links.length y.lc, .slice y.ea x.events.length y.ec] 26)).alloc (.cells #[] 9)).alloc (.cells #[] 9)).heap.size) := Lib.hid (by simp)
  clear HB4 HYO
  generalize (((wq.alloc (.cells #[.int .i64 y.ver, .slice y.pa x.procs.length y.pc, .slice y.la x.links.length y.lc, .slice y.ea x.events.length y.ec] 26)).alloc (.cells #[] 9)).alloc (.cells #[] 9)) = w5 at *
  generalize wq.heap.size = C at *
  obtain ⟨hB, hYa, hYb⟩ := HV.out
  have HB := Lib.hid hB
  have HYa := Lib.hid hYa
  have HYb := Lib.hid hYb
  clear HV hB hYa hYb
  have H0 : Hid (NmW w5 ((nmsP (canM x.m)).take 0) (.slice (some ⟨C + 1, 0, none⟩) 0 0) w5) := Lib.hid ⟨.inl ⟨rfl, rfl, _, rfl⟩, Below.refl _ _, fun g hg => by
    have h1 : C + 1 = g := by simpa [Value.ownBlock] using hg
    have h2 := HCl.out
    omega⟩
  have HNl : Hid ((nmsP (canM x.m)).length = x.procs.length ∧ (nmsL (canM x.m)).length = x.links.length) := Lib.hid ⟨by rw [nms_len', (can_lens x.m).1]; unfold ModelV.m; simp, by rw [nml_len', (can_lens x.m).2.1]; rfl⟩
  have hn12 : x.procs.length ≤ 12 := by have := HFw.out.1; unfold ModelV.m at this; simpa using this
  have hl24 : x.links.length ≤ 24 := by have := HFw.out.2.1; unfold ModelV.m at this; exact this
  have he24 : x.events.length ≤ 24 := by have := HFw.out.2.2.1; unfold ModelV.m at this; exact this
  have c1 : w5.cell? ⟨C, 1, none⟩ = some (.slice y.pa x.procs.length y.pc) := heap_cell HYb.out rfl
  go_wp2_with fail
  clear c1
  obtain ⟨pa, hpa⟩ : ∃ pa, y.pa = pa := ⟨_, rfl⟩
  have HAd : x.procs.length = 0 ∨ pa = some ⟨y.pb, y.po, none⟩ := by rw [← hpa, ← HYL.out.1]; exact HYa.out.procs.addr
  rw [hpa]
  clear hpa
  go_loopw [4, 32] (fun v i wr => ∃ j : Nat, i = .int .i64 (j : Int) ∧ j ≤ x.procs.length ∧ Hid (NmW w5 ((nmsP (canM x.m)).take j) v wr)) (fun _ i _ => x.procs.length - (intOf i).toNat)
  case atStart => exact ⟨0, rfl, Nat.zero_le _, H0⟩
  case round =>
    clear H0
    obtain ⟨j, rfl, hj, HRw⟩ := hrel
    have hj0 : (0 : Int) ≤ (j : Int) := Int.natCast_nonneg j
    by_cases hlt : j < x.procs.length
    · have hji : (j : Int) < (x.procs.length : Int) := by omega
      have hI := (HYa.out.kept HRw.out.low (Nat.le_refl _)).procs
      obtain ⟨q, hq⟩ : ∃ q, y.procs[j]? = some q := ⟨_, List.getElem?_eq_getElem (by rw [HYL.out.1]; exact hlt)⟩
      obtain rfl := HAd.resolve_left (by omega)
      have r0 : wr.cell? ⟨y.pb, y.po + j * 4, none⟩ = some (.string q.p.name) := hI.cell j q hq 0 _ rfl
      have r1 : wr.cell? ⟨y.pb, y.po + j * 4 + 1, none⟩ = some (.int .i64 q.p.weight) := hI.cell j q hq 1 _ rfl
      have r2 : wr.cell? ⟨y.pb, y.po + j * 4 + 2, none⟩ = some (.slice q.va q.p.vars.length q.vc) := hI.cell j q hq 2 _ rfl
      have r3 : wr.cell? ⟨y.pb, y.po + j * 4 + 3, none⟩ = some (.slice q.sa q.p.steps.length q.sc) := hI.cell j q hq 3 _ rfl
      have hqm : (canM x.m).procs[j]? = some q.p := by rw [← HYM.out]; unfold ModelV.m; simp [hq]
      have HCn := Lib.hid (can_name HRt.out hqm)
      have HQi := Lib.hid (HYa.out.inner q (List.mem_of_getElem? hq))
      have hv70 : q.p.vars.length ≤ 70 := by
        obtain ⟨p', hp', e⟩ := List.mem_map.1 (List.mem_of_getElem? hqm)
        have h1 := HFw.out.2.2.2 p' (Hg.srt_mem hp')
        rw [← e]
        show (Hg.srt HeV.ord p'.vars).length ≤ 70
        rw [Hg.srt_length]
        exact h1
      obtain ⟨ns, hns⟩ : ∃ ns, (nmsP (canM x.m)).take j = ns := ⟨_, rfl⟩
      have HNext : Hid ((nmsP (canM x.m)).take (j + 1) = ns ++ [q.p.name]) := Lib.hid (by
        rw [List.take_add_one, hns, show (nmsP (canM x.m))[j]? = some q.p.name by unfold nmsP; rw [List.getElem?_map, hqm]; rfl]
        rfl)
      have hnl : ns.length ≤ 12 := by rw [← hns, List.length_take]; omega
      rw [hns] at HRw
      clear hI hq hqm hns
      go_upto_region 10 with fail
      clear r0 r1 r2 r3
      have HO := Lib.hid (heap_new (w := wr) (.cells #[.string q.p.name, .int .i64 q.p.weight, .slice q.va q.p.vars.length q.vc, .slice q.sa q.p.steps.length q.sc] 34) rfl)
      have HR := Lib.hid (HRw.out.on (below_one wr (.cells #[.string q.p.name, .int .i64 q.p.weight, .slice q.va q.p.vars.length q.vc, .slice q.sa q.p.steps.length q.sc] 34)))
      generalize wr.alloc (.cells #[.string q.p.name, .int .i64 q.p.weight, .slice q.va q.p.vars.length q.vc, .slice q.sa q.p.steps.length q.sc] 34) = w6 at *
      have c0 : w6.cell? ⟨wr.heap.size, 0, none⟩ = some (.string q.p.name) := heap_cell HO.out rfl
      have HNw : Hid (∀ j u, [Value.string q.p.name][j]? = some u → (w6.alloc (.cells #[.string q.p.name] 9)).cell? ((⟨w6.heap.size, 0, none⟩ : Addr).add j) = some u) := Lib.hid (cell_one w6 (.string q.p.name) 9)
      go_upto_region 11 with (at_builtin; refine wpList_append_gathP _ rfl _ _ 58 rfl w5.heap.size 9 i0 (.string ⟨#[]⟩) 1 16 Tryz.underlying58 HI.out HZ0.out HZ1.out HZ2.out rfl (by decide) _ _ _ rfl (HR.out.row.alloc _) ⟨_, 0, none⟩ 1 1 [.string q.p.name] rfl rfl HNw.out (one_val rfl) (by decide) (by unfold maxLen; omega) (by omega) (by rw [World.size_alloc]; have := HR.out.low.size; omega) ?_; intro v' w9 row hown hg hrow; have HR9 := Lib.hid (HR.out.app hown hg (fun g e => (hrow g e).2)); have HO9 := Lib.hid (heap_kept (heap_alloc HO.out _) hg (fun e => absurd (HRw.out.lt _ (hrow _ e.symm).1) (Nat.lt_irrefl _))); clear hown hg hrow)
      clear c0 HNw HR HO HRw
      go_upto_region 12 with fail
      have HRo := Lib.hid (HR9.out.on (below_one w9 (.cells #[] 9)))
      have HO8 := Lib.hid (heap_alloc HO9.out (.cells #[] 9))
      have HV0 : Hid (NmW (w9.alloc (.cells #[] 9)) ((vNames q.p).take 0) (.slice (some ⟨w9.heap.size, 0, none⟩) 0 0) (w9.alloc (.cells #[] 9))) := Lib.hid ⟨.inl ⟨rfl, rfl, _, rfl⟩, Below.refl _ _, fun g hg => by
        have h1 : w9.heap.size = g := by simpa [Value.ownBlock] using hg
        rw [← h1]
        simp⟩
      clear HR9 HO9
      generalize w9.alloc (.cells #[] 9) = w8 at *
      generalize w9.heap.size = V at *
      generalize wr.heap.size = B at *
      have c2 : w8.cell? ⟨B, 2, none⟩ = some (.slice q.va q.p.vars.length q.vc) := heap_cell HO8.out rfl
      go_wp2_with fail
      clear c2
      obtain ⟨va, hva⟩ : ∃ va, q.va = va := ⟨_, rfl⟩
      have HVd : q.p.vars.length = 0 ∨ va = some ⟨q.vb, q.vo, none⟩ := by rw [← hva]; exact HQi.out.vars.addr
      rw [hva]
      have HVa := Lib.hid hva
      clear hva
      go_loopw [8, 45] (fun u i wr => ∃ k : Nat, i = .int .i64 (k : Int) ∧ k ≤ q.p.vars.length ∧ Hid (NmW w8 ((vNames q.p).take k) u wr)) (fun _ i _ => q.p.vars.length - (intOf i).toNat)
      case atStart => exact ⟨0, rfl, Nat.zero_le _, HV0⟩
      case round =>
        clear HV0
        obtain ⟨k, rfl, hk, HRv0⟩ := hrel
        have hk0 : (0 : Int) ≤ (k : Int) := Int.natCast_nonneg k
        by_cases hkt : k < q.p.vars.length
        · have hki : (k : Int) < (q.p.vars.length : Int) := by omega
          have hI := (HQi.out.kept (HRo.out.low.trans (HRv0.out.low.mono HRo.out.low.size)) (Nat.le_refl _)).vars
          obtain ⟨u, hu⟩ : ∃ u, q.p.vars[k]? = some u := ⟨_, List.getElem?_eq_getElem hkt⟩
          obtain rfl := HVd.resolve_left (by omega)
          have s0 : wr.cell? ⟨q.vb, q.vo + k * 2, none⟩ = some (.string u.name) := hI.cell k u hu 0 _ rfl
          have s1 : wr.cell? ⟨q.vb, q.vo + k * 2 + 1, none⟩ = some (.int .i64 u.init) := hI.cell k u hu 1 _ rfl
          obtain ⟨zs, hzs⟩ : ∃ zs, (vNames q.p).take k = zs := ⟨_, rfl⟩
          have HNext2 : Hid ((vNames q.p).take (k + 1) = zs ++ [u.name]) := Lib.hid (by
            rw [List.take_add_one, hzs, show (vNames q.p)[k]? = some u.name by unfold vNames; rw [List.getElem?_map, hu]; rfl]
            rfl)
          have hzl : zs.length ≤ 70 := by rw [← hzs, List.length_take]; omega
          rw [hzs] at HRv0
          clear hI hu hzs
          go_upto_region 15 with fail
          clear s0 s1
          have HO10 := Lib.hid (heap_new (w := wr) (.cells #[.string u.name, .int .i64 u.init] 40) rfl)
          have HRv := Lib.hid (HRv0.out.on (below_one wr (.cells #[.string u.name, .int .i64 u.init] 40)))
          generalize wr.alloc (.cells #[.string u.name, .int .i64 u.init] 40) = w10 at *
          have c0 : w10.cell? ⟨wr.heap.size, 0, none⟩ = some (.string u.name) := heap_cell HO10.out rfl
          have HNw : Hid (∀ j v, [Value.string u.name][j]? = some v → (w10.alloc (.cells #[.string u.name] 9)).cell? ((⟨w10.heap.size, 0, none⟩ : Addr).add j) = some v) := Lib.hid (cell_one w10 (.string u.name) 9)
          go_wp2_with (at_builtin; refine wpList_append_gathP _ rfl _ _ 58 rfl w8.heap.size 9 i0 (.string ⟨#[]⟩) 1 16 Tryz.underlying58 HI.out HZ0.out HZ1.out HZ2.out rfl (by decide) _ _ _ rfl (HRv.out.row.alloc _) ⟨_, 0, none⟩ 1 1 [.string u.name] rfl rfl HNw.out (one_val rfl) (by decide) (by unfold maxLen; omega) (by omega) (by rw [World.size_alloc]; have := HRv.out.low.size; omega) ?_; intro v' w9 row hown hg hrow; have HR9 := Lib.hid (HRv.out.app hown hg (fun g e => (hrow g e).2)); clear hown hg hrow)
          go_roundw
          case rel => exact ⟨k + 1, by go_num, by omega, by rw [HNext2.out]; exact HR9⟩
          case measure => simp [intOf]; omega
        · obtain rfl : k = q.p.vars.length := by omega
          have HBp := Lib.hid (HRo.out.low.trans (HRv0.out.low.mono HRo.out.low.size))
          have HO11 := Lib.hid (heap_below HO8.out HRv0.out.low (heap_lt HO8.out))
          have hve : (vNames q.p).take q.p.vars.length = vNames q.p := List.take_of_length_le (by unfold vNames; simp)
          rw [hve] at HRv0
          obtain ⟨kk, pp, hk1, hk2, hk3, hk4⟩ := HCn.out
          have KS : Hid (∀ W, Below wr.heap.size wr W → Calls Tryz.prog 24 #[_] W fun e w' => e = .returned (.bool true) ∧ Below W.heap.size W w') := Lib.hid (fun W hW => sorted_up (gath_on HRv0.out.row hW) (by unfold vNames; simp; omega) hk4)
          obtain ⟨pv, hpv⟩ : ∃ pv, x.procs[kk]? = some pv ∧ pv.p = pp := by
            have h1 : (x.procs.map (fun p => p.p))[kk]? = some pp := hk1
            rw [List.getElem?_map] at h1
            cases h2 : x.procs[kk]? with
            | none => rw [h2] at h1; cases h1
            | some pv => rw [h2] at h1; exact ⟨pv, rfl, by simpa using h1⟩
          have hkl : kk < x.procs.length := (List.getElem?_eq_some_iff.1 hpv.1).1
          have hxa : x.pa = some ⟨x.pb, x.po, none⟩ := HS.out.xat.procs.addr.resolve_left (by omega)
          have HXs : Hid (∀ W, Below wr.heap.size wr W → Below w1.heap.size w1 W) := Lib.hid (fun W hW => further (HB.out.trans (HBp.out.mono HB.out.size)) hW)
          have KP : Hid (∀ W, Below wr.heap.size wr W → Calls Tryz.prog 25 #[.agg #[.int .i64 x.ver, .slice (some ⟨x.pb, x.po, none⟩) x.procs.length x.pc, .slice x.la x.links.length x.lc, .slice x.ea x.events.length x.ec], .string q.p.name] W fun e w' => e = .returned (.int .i64 (kk : Int)) ∧ Below W.heap.size W w') := Lib.hid (fun W hW => by
            have h1 := proc_at (HS.out.xa (HXs.out W hW)) q.p.name
            unfold plcI at h1
            rw [hk3, hxa] at h1
            exact h1)
          have da0 : ∀ W, Below wr.heap.size wr W → W.cell? ⟨w.heap.size, 0, none⟩ = some (.int .i64 x.ver) := fun W hW => heap_cell (HS.out.xb (HXs.out W hW)) rfl
          have da1 : ∀ W, Below wr.heap.size wr W → W.cell? ⟨w.heap.size, 1, none⟩ = some (.slice (some ⟨x.pb, x.po, none⟩) x.procs.length x.pc) := fun W hW => by rw [← hxa]; exact heap_cell (HS.out.xb (HXs.out W hW)) rfl
          have da2 : ∀ W, Below wr.heap.size wr W → W.cell? ⟨w.heap.size, 2, none⟩ = some (.slice x.la x.links.length x.lc) := fun W hW => heap_cell (HS.out.xb (HXs.out W hW)) rfl
          have da3 : ∀ W, Below wr.heap.size wr W → W.cell? ⟨w.heap.size, 3, none⟩ = some (.slice x.ea x.events.length x.ec) := fun W hW => heap_cell (HS.out.xb (HXs.out W hW)) rfl
          have dp0 : ∀ W, Below wr.heap.size wr W → W.cell? ⟨B, 0, none⟩ = some (.string q.p.name) := fun W hW => heap_cell (heap_below HO11.out hW (heap_lt HO11.out)) rfl
          have dp3 : ∀ W, Below wr.heap.size wr W → W.cell? ⟨B, 3, none⟩ = some (.slice q.sa q.p.steps.length q.sc) := fun W hW => heap_cell (heap_below HO11.out hW (heap_lt HO11.out)) rfl
          have dx3 : ∀ W, Below wr.heap.size wr W → W.cell? ⟨x.pb, x.po + kk * 4 + 3, none⟩ = some (.slice pv.sa q.p.steps.length pv.sc) := fun W hW => by
            have h1 := (HS.out.xa (HXs.out W hW)).procs.cell kk pv hpv.1 3 _ rfl
            rw [hk2, ← hpv.2]
            exact h1
          have hkki : (kk : Int) < (x.procs.length : Int) := by omega
          have hkk0 : (0 : Int) ≤ (kk : Int) := Int.natCast_nonneg kk
          have hnes : ((q.p.steps.length : Int) != (q.p.steps.length : Int)) = false := by simp
          have hS11 := Below.refl wr.heap.size wr
          have HRp := Lib.hid HRo.out
          clear hk1 hk2 hk3 hk4 hpv hxa hve hkt hk hk0
          go_upto_region 17 with fail
          go_region_held3 (fun W => Below wr.heap.size wr W) (first | assumption | exact Below.drew (by assumption)) (first
            | (go_at_call 24; with_reducible refine (KS.out _ (by assumption)).mono ?_; rintro e w13 ⟨rfl, hb⟩; have hS13 : Below wr.heap.size wr w13 := further (show Below wr.heap.size wr _ by assumption) hb; clear hb)
            | (go_at_call 25; with_reducible refine (KP.out _ (by assumption)).mono ?_; rintro e w14 ⟨rfl, hb⟩; have hS14 : Below wr.heap.size wr w14 := further (show Below wr.heap.size wr _ by assumption) hb; clear hb))
          all_goals clear da0 da1 da2 da3 dp0 dp3 dx3 KS KP hnes hkki hkk0
          all_goals go_wp2
          all_goals go_roundw
          case rel => exact ⟨j + 1, by go_num, by omega, by rw [HNext.out]; exact Lib.hid (HRo.out.on (HRv0.out.low.trans (hS14.mono HRv0.out.low.size)))⟩
          case measure => simp [intOf]; omega
    · obtain rfl : j = x.procs.length := by omega
      have HP1 : Hid (NmW w5 (nmsP (canM x.m)) _ wr) := Lib.hid (by have := HRw.out; rwa [← HNl.out.1, List.take_length] at this)
      clear HRw hlt hj hj0
      generalize wr = w12 at *
      have HBq := Lib.hid HP1.out.low
      have H0 : Hid (NmW w12 ((nmsL (canM x.m)).take 0) (.slice (some ⟨C + 1 + 1, 0, none⟩) 0 0) w12) := Lib.hid ⟨.inl ⟨rfl, rfl, _, rfl⟩, Below.refl _ _, fun g hg => by
        have h1 : C + 1 + 1 = g := by simpa [Value.ownBlock] using hg
        have h2 := HCl.out
        have h3 := HBq.out.size
        omega⟩
      have c2 : w12.cell? ⟨C, 2, none⟩ = some (.slice y.la x.links.length y.lc) := heap_cell (heap_below HYb.out HBq.out (heap_lt HYb.out)) rfl
      go_wp2_with fail
      clear c2
      obtain ⟨la, hla⟩ : ∃ la, y.la = la := ⟨_, rfl⟩
      have HLd : x.links.length = 0 ∨ la = some ⟨y.lb, y.lo, none⟩ := by rw [← hla, ← HYL.out.2.1]; exact HYa.out.links.addr
      rw [hla]
      clear hla
      go_loopw [5, 78] (fun v i wr => ∃ j : Nat, i = .int .i64 (j : Int) ∧ j ≤ x.links.length ∧ Hid (NmW w12 ((nmsL (canM x.m)).take j) v wr)) (fun _ i _ => x.links.length - (intOf i).toNat)
      case atStart => exact ⟨0, rfl, Nat.zero_le _, H0⟩
      case round =>
        clear H0
        obtain ⟨j, rfl, hj, HRw⟩ := hrel
        have hj0 : (0 : Int) ≤ (j : Int) := Int.natCast_nonneg j
        by_cases hlt : j < x.links.length
        · have hji : (j : Int) < (x.links.length : Int) := by omega
          have hI := (HYa.out.kept (HBq.out.trans (HRw.out.low.mono HBq.out.size)) (Nat.le_refl _)).links
          obtain ⟨l, hl⟩ : ∃ l, y.links[j]? = some l := ⟨_, List.getElem?_eq_getElem (by rw [HYL.out.2.1]; exact hlt)⟩
          obtain rfl := HLd.resolve_left (by omega)
          have s0 : wr.cell? ⟨y.lb, y.lo + j * 5, none⟩ = some (.string l.name) := hI.cell j l hl 0 _ rfl
          have s1 : wr.cell? ⟨y.lb, y.lo + j * 5 + 1, none⟩ = some (.string l.frm) := hI.cell j l hl 1 _ rfl
          have s2 : wr.cell? ⟨y.lb, y.lo + j * 5 + 2, none⟩ = some (.string l.to_) := hI.cell j l hl 2 _ rfl
          have s3 : wr.cell? ⟨y.lb, y.lo + j * 5 + 3, none⟩ = some (.int .i64 l.delay) := hI.cell j l hl 3 _ rfl
          have s4 : wr.cell? ⟨y.lb, y.lo + j * 5 + 4, none⟩ = some (.int .i64 l.weight) := hI.cell j l hl 4 _ rfl
          have hlm : (canM x.m).links[j]? = some l := by rw [← HYM.out]; exact hl
          obtain ⟨ns, hns⟩ : ∃ ns, (nmsL (canM x.m)).take j = ns := ⟨_, rfl⟩
          have HNext : Hid ((nmsL (canM x.m)).take (j + 1) = ns ++ [l.name]) := Lib.hid (by
            rw [List.take_add_one, hns, show (nmsL (canM x.m))[j]? = some l.name by unfold nmsL; rw [List.getElem?_map, hlm]; rfl]
            rfl)
          have hnl : ns.length ≤ 24 := by rw [← hns, List.length_take]; omega
          rw [hns] at HRw
          clear hI hl hlm hns
          go_upto_region 23 with fail
          clear s0 s1 s2 s3 s4
          have HO := Lib.hid (heap_new (w := wr) (.cells #[.string l.name, .string l.frm, .string l.to_, .int .i64 l.delay, .int .i64 l.weight] 42) rfl)
          have HR := Lib.hid (HRw.out.on (below_one wr (.cells #[.string l.name, .string l.frm, .string l.to_, .int .i64 l.delay, .int .i64 l.weight] 42)))
          generalize wr.alloc (.cells #[.string l.name, .string l.frm, .string l.to_, .int .i64 l.delay, .int .i64 l.weight] 42) = w6 at *
          have c0 : w6.cell? ⟨wr.heap.size, 0, none⟩ = some (.string l.name) := heap_cell HO.out rfl
          have HNw : Hid (∀ j u, [Value.string l.name][j]? = some u → (w6.alloc (.cells #[.string l.name] 9)).cell? ((⟨w6.heap.size, 0, none⟩ : Addr).add j) = some u) := Lib.hid (cell_one w6 (.string l.name) 9)
          go_wp2_with (at_builtin; refine wpList_append_gathP _ rfl _ _ 58 rfl w12.heap.size 9 i0 (.string ⟨#[]⟩) 1 16 Tryz.underlying58 HI.out HZ0.out HZ1.out HZ2.out rfl (by decide) _ _ _ rfl (HR.out.row.alloc _) ⟨_, 0, none⟩ 1 1 [.string l.name] rfl rfl HNw.out (one_val rfl) (by decide) (by unfold maxLen; omega) (by omega) (by rw [World.size_alloc]; have := HR.out.low.size; omega) ?_; intro v' w9 row hown hg hrow; have HR9 := Lib.hid (HR.out.app hown hg (fun g e => (hrow g e).2)); clear hown hg hrow)
          go_roundw
          case rel => exact ⟨j + 1, by go_num, by omega, by rw [HNext.out]; exact HR9⟩
          case measure => simp [intOf]; omega
        · obtain rfl : j = x.links.length := by omega
          have HP2 : Hid (NmW w12 (nmsL (canM x.m)) _ wr) := Lib.hid (by have := HRw.out; rwa [← HNl.out.2, List.take_length] at this)
          clear HRw hlt hj hj0
          generalize wr = w20 at *
          have HBr := Lib.hid (HBq.out.trans (HP2.out.low.mono HBq.out.size))
          have HX3 := Lib.hid (heap_below HYb.out HBr.out (heap_lt HYb.out))
          have c3 : w20.cell? ⟨C, 3, none⟩ = some (.slice y.ea x.events.length y.ec) := heap_cell HX3.out rfl
          have HE3 := Lib.hid (HYa.out.kept HBr.out (Nat.le_refl _)).events
          obtain ⟨ea, hea⟩ : ∃ ea, y.ea = ea := ⟨_, rfl⟩
          have HEd : x.events.length = 0 ∨ ea = some ⟨y.eb, y.eo, none⟩ := by rw [← hea, ← HYL.out.2.2]; exact HYa.out.events.addr
          rw [hea] at c3 HX3
          rw [hea]
          clear hea
          go_wp2_with fail
          go_loopw [13] (fun i wr => ∃ j : Nat, 1 ≤ j ∧ i = .int .i64 (j : Int) ∧ Hid (∃ n, wr = w20.drewN n)) (fun i _ => x.events.length - (intOf i).toNat)
          case atStart => exact ⟨1, Nat.le_refl _, rfl, Lib.hid ⟨0, rfl⟩⟩
          case round =>
            obtain ⟨j, hj1, rfl, HW⟩ := hrel
            have c3r : wr.cell? ⟨C, 3, none⟩ = some (.slice ea x.events.length y.ec) := by obtain ⟨m, rfl⟩ := HW.out; exact c3
            by_cases hlt : j < x.events.length
            · obtain ⟨k, hk⟩ : ∃ k, j = k + 1 := ⟨j - 1, by omega⟩
              obtain ⟨e1, he1⟩ : ∃ e, y.events[k]? = some e := ⟨_, List.getElem?_eq_getElem (by have := HYL.out.2.2; omega)⟩
              obtain ⟨e2, he2⟩ : ∃ e, y.events[k + 1]? = some e := ⟨_, List.getElem?_eq_getElem (by have := HYL.out.2.2; omega)⟩
              have d1 : wr.cell? ⟨y.eb, y.eo + k * 3 + 1, none⟩ = some (.int .i64 e1.at_) := by obtain ⟨m, rfl⟩ := HW.out; exact HE3.out.cell k e1 he1 1 _ rfl
              have d2 : wr.cell? ⟨y.eb, y.eo + j * 3 + 1, none⟩ = some (.int .i64 e2.at_) := by obtain ⟨m, rfl⟩ := HW.out; rw [hk]; exact HE3.out.cell (k + 1) e2 he2 1 _ rfl
              have hle : ¬ e2.at_ < e1.at_ := can_ev (m := x.m) (k := k) (by rw [← HYM.out]; exact he1) (by rw [← HYM.out]; exact he2)
              have hle2 : decide (e2.at_ < e1.at_) = false := decide_eq_false hle
              obtain rfl := HEd.resolve_left (by omega)
              have hji : (j : Int) < (x.events.length : Int) := by omega
              have hw : IntKind.i64.wrap ((j : Int) - 1) = (k : Int) := by rw [show (j : Int) - 1 = (k : Int) by omega]; exact IntWalk.i64_in _ (by omega)
              have hki : (k : Int) < (x.events.length : Int) := by omega
              have hk0 : (0 : Int) ≤ (k : Int) := by omega
              clear he1 he2 hk hle
              go_wp2
              go_quiet (fail)
              go_wp2
              go_roundw
              case rel => exact ⟨j + 1, by omega, by go_num, Lib.hid (by obtain ⟨m, h⟩ := HW.out; exact ⟨_, by rw [h]; simp [World.drewN, Nat.add_assoc]; rfl⟩)⟩
              case measure => simp [intOf]; omega
            · have hji : ¬ (j : Int) < (x.events.length : Int) := by omega
              have HBw : Hid (Below w20.heap.size w20 wr) := Lib.hid (by obtain ⟨m, rfl⟩ := HW.out; exact ⟨rfl, rfl, rfl, Nat.le_refl _, fun _ _ => rfl⟩)
              have K1 : Hid (∀ W, Below w20.heap.size w20 W → Calls Tryz.prog 24 #[_] W fun e w' => e = .returned (.bool true) ∧ Below W.heap.size W w') := Lib.hid (fun W hW => sorted_up (gath_on HP1.out.row (HP2.out.low.trans (hW.mono HP2.out.low.size))) (by rw [HNl.out.1]; omega) (can_ups HRt.out).1)
              have K2 : Hid (∀ W, Below w20.heap.size w20 W → Calls Tryz.prog 24 #[_] W fun e w' => e = .returned (.bool true) ∧ Below W.heap.size W w') := Lib.hid (fun W hW => sorted_up (gath_on HP2.out.row hW) (by rw [HNl.out.2]; omega) (can_ups HRt.out).2)
              clear c3
              go_wp2_with fail
              clear c3r
              refine (K1.out _ HBw.out).mono ?_
              rintro e w15 ⟨rfl, hb⟩
              replace HBw := Lib.hid (further HBw.out hb)
              clear hb
              go_wp2_with fail
              refine (K2.out _ HBw.out).mono ?_
              rintro e w16 ⟨rfl, hb⟩
              replace HBw := Lib.hid (further HBw.out hb)
              clear hb
              have HXy := Lib.hid (heap_below HX3.out HBw.out (heap_lt HX3.out))
              have HXx := Lib.hid (HB.out.trans ((HBr.out.trans (HBw.out.mono HBr.out.size)).mono HB.out.size))
              have c1 : w16.cell? ⟨C, 1, none⟩ = some (.slice y.pa x.procs.length y.pc) := heap_cell HXy.out rfl
              have c2 : w16.cell? ⟨C, 2, none⟩ = some (.slice y.la x.links.length y.lc) := heap_cell HXy.out rfl
              have c3 : w16.cell? ⟨C, 3, none⟩ = some (.slice ea x.events.length y.ec) := heap_cell HXy.out rfl
              have a1 : w16.cell? ⟨w.heap.size, 1, none⟩ = some (.slice x.pa x.procs.length x.pc) := heap_cell (HS.out.xb HXx.out) rfl
              have a2 : w16.cell? ⟨w.heap.size, 2, none⟩ = some (.slice x.la x.links.length x.lc) := heap_cell (HS.out.xb HXx.out) rfl
              have a3 : w16.cell? ⟨w.heap.size, 3, none⟩ = some (.slice x.ea x.events.length x.ec) := heap_cell (HS.out.xb HXx.out) rfl
              have q1 : ((x.procs.length : Int) == (x.procs.length : Int)) = true := by simp
              have q2 : ((x.links.length : Int) == (x.links.length : Int)) = true := by simp
              have q3 : ((x.events.length : Int) == (x.events.length : Int)) = true := by simp
              go_wp2
              go_ret
              exact ⟨rfl, HS.out.fin HXx.out⟩

end Go.Proofs.YtjcmeacgfflfmaaGreat.Hk
