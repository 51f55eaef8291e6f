/- Contract: canon.Graph. -/
import Derived.Test.YtjcmeacgfflfmaaGreatMdW
import Derived.Test.YtjcmeacgfflfmaaGreatMow
import Derived.Test.YtjcmeacgfflfmaaGreatGr
import Derived.Test.YtjcmeacgfflfmaaGreatGo
import Derived.Test.YtjcmeacgfflfmaaGreatMdK
import Derived.Deep.RegionHeld3
set_option linter.unusedVariables false
set_option linter.unusedSectionVars false
set_option linter.unusedSimpArgs false
namespace Go.Proofs.YtjcmeacgfflfmaaGreat.Hk
open Go.RowKit Go.Shelf Go.Proofs.YtjcmeacgfflfmaaGreat.Md

def max1 (n : Int) : Int := if n < 1 then 1 else n
theorem cwgt_any (n : Int) (w : World) : Calls Tryz.prog 48 #[.int .i64 n] w fun e w' => e = .returned (.int .i64 (max1 n)) ∧ w = w' := by
  obtain ⟨r, hr⟩ : ∃ r, (if n < 1 then (1 : Int) else n) = r := ⟨_, rfl⟩
  have HR : Hid (max1 n = r) := Lib.hid hr
  have hr2 : max n 1 = r := by rw [← hr]; split <;> omega
  rw [HR.out]
  clear HR
  go_enter Tryz.func48, Tryz.ntmps48
  go_wp2
  go_ret
  exact ⟨rfl, rfl⟩
/-- A new row of numbers. -/
theorem madeI (w : World) (n : Nat) (hn : n ≤ 4096) :
    (Instr.makeSlice 82 (.int .i64 (n : Int)) (.int .i64 (n : Int))).run Tryz.prog w = .ok (.slice (some ⟨w.heap.size, 0, none⟩) n n) (w.alloc (.cells (Array.replicate n (Value.int .i64 0)) 2)) := by
  obtain ⟨i0, hi, hz0, hz1, hz2⟩ := info_parts Tryz.infoI64
  have h := run_make (P := Tryz.prog) w 82 2 i0 _ Tryz.underlying82 hi hz0 .i64 .i64 n n (by omega) (Int.le_refl _) (by rw [hz2]; omega) (by omega)
  rw [hz1, show (Value.int IntKind.i64 0).cells = #[Value.int IntKind.i64 0] from rfl] at h
  have e : madeCells #[Value.int IntKind.i64 0] n = Array.replicate n (Value.int .i64 0) := by
    apply Array.ext
    · simp [size_madeCells]
    · intro i h1 h2
      simp [madeCells, Nat.mod_one]
  simp only [Int.toNat_natCast, Nat.mul_one] at h
  rw [h, e]
def Row (W : World) (b : Nat) (zs : List Int) : Prop := W.heap[b]? = some (.cells (zs.map (Value.int .i64)).toArray 2 (0, 0))
theorem Row.set {W : World} {b : Nat} {zs : List Int} (h : Row W b zs) (i : Nat) (v : Int) : Row (W.setCell ⟨b, i, none⟩ (.int .i64 v)) b (zs.set i v) := by
  have := heap_set h i (.int .i64 v)
  unfold Row
  rw [this]
  simp [List.map_set]
theorem Row.cell {W : World} {b : Nat} {zs : List Int} (h : Row W b zs) {i : Nat} {v : Int} (hi : zs[i]? = some v) : W.cell? ⟨b, i, none⟩ = some (.int .i64 v) := heap_cell h (by simp [hi])
theorem set_part (ws : List Int) {j : Nat} (hj : j < ws.length) : (ws.take j ++ List.replicate (ws.length - j) 0).set j (ws[j]'hj) = ws.take (j + 1) ++ List.replicate (ws.length - (j + 1)) 0 := by
  rw [List.set_append_right _ _ (by rw [List.length_take]; omega), List.length_take, show j - min j ws.length = 0 by omega, show ws.length - j = (ws.length - (j + 1)) + 1 by omega, List.replicate_succ, List.set_cons_zero, List.take_succ_eq_append_getElem hj, List.append_assoc]
  rfl
def wtsM (m : ModelM) : List Int := m.procs.map (fun p => max1 p.weight)
def plM (m : ModelM) (y : ByteArray) : Nat := (fstP (nmsP m) y).getD 0
def tabS (m : ModelM) (F : Nat → Nat → Int) (l : LinkM) : Nat → Nat → Int := if l.frm = l.to_ then F else joinF m.procs.length F (plM m l.frm : Nat) (plM m l.to_ : Nat) (max1 l.weight)
def tabM (m : ModelM) (j : Nat) : Nat → Nat → Int := (m.links.take j).foldl (tabS m) noTab
theorem tabM_succ {m : ModelM} {j : Nat} {l : LinkM} (h : m.links[j]? = some l) : tabM m (j + 1) = tabS m (tabM m j) l := by
  unfold tabM
  rw [List.take_add_one, h]
  simp
/-- What Graph answers. -/
def GrPost (x : ModelV) (w : World) (e : Ending) (w' : World) : Prop :=
  Below w.heap.size w w' ∧ (((mdE x.m).1 ≠ 0 ∧ e = .returned (.tuple #[.pointer none, .int .i64 (mdE x.m).1])) ∨
    ((mdE x.m).1 = 0 ∧ ∃ g nb, e = .returned (.tuple #[.pointer (some ⟨g, 0, none⟩), .int .i64 0]) ∧ IsG w' g nb (wtsM x.m) (tabM x.m x.m.links.length) ∧ w.heap.size ≤ g ∧ w.heap.size ≤ nb))
/-- While names and weights are laid down. -/
structure GrI (x : ModelV) (w : World) (mb wb j : Nat) (W : World) : Prop where
  low : Below w.heap.size w W
  box : W.heap[w.heap.size]? = some (.cells #[.int .i64 x.ver, .slice x.pa x.procs.length x.pc, .slice x.la x.links.length x.lc, .slice x.ea x.events.length x.ec] 26 (0, 0))
  map : PlMap W mb j (fstP ((nmsP x.m).take j))
  row : Row W wb ((wtsM x.m).take j ++ List.replicate ((wtsM x.m).length - j) 0)
  lmb : w.heap.size ≤ mb
  lwb : w.heap.size ≤ wb
theorem GrI.on {x : ModelV} {w : World} {mb wb j : Nat} {W W' : World} (h : GrI x w mb wb j W) (hb : Below W.heap.size W W') : GrI x w mb wb j W' :=
  ⟨h.low.trans (hb.mono h.low.size), heap_below h.box hb (heap_lt h.box), h.map.below hb h.map.lt, heap_below h.row hb (heap_lt h.row), h.lmb, h.lwb⟩

theorem fstP_pre {x : ByteArray} (r : List ByteArray) : ∀ {l : List ByteArray} {i : Nat}, fstP l x = some i → fstP (l ++ r) x = some i
  | [], i, h => by cases h
  | y :: l, i, h => by
    unfold fstP at h
    rw [List.cons_append]
    unfold fstP
    by_cases e : y = x
    · rw [if_pos e] at h ⊢
      exact h
    · rw [if_neg e] at h ⊢
      cases hr : fstP l x with
      | none => rw [hr] at h; cases h
      | some j =>
        rw [hr] at h
        rw [fstP_pre r hr]
        exact h
theorem first_none {m : ModelM} (h : Right m) {j : Nat} {p : ProcM} (hp : m.procs[j]? = some p) : fstP ((nmsP m).take j) p.name = none := by
  cases hf : fstP ((nmsP m).take j) p.name with
  | none => rfl
  | some i =>
    exfalso
    have h1 := fstP_lt hf
    rw [List.length_take] at h1
    have h2 := fstP_pre ((nmsP m).drop j) hf
    rw [List.take_append_drop] at h2
    obtain ⟨h3, _⟩ := nm_zero (h.procs j p hp)
    unfold nmE at h3
    split at h3
    · rename_i hc
      exact hc h3
    · rw [h2, if_pos (by simp; omega)] at h3
      cases h3
theorem wts_ok {m : ModelM} (h : Right m) : ∀ z ∈ wtsM m, 1 ≤ z ∧ z ≤ 1099511627776 := by
  intro z hz
  unfold wtsM at hz
  obtain ⟨p, hp, rfl⟩ := List.mem_map.1 hz
  obtain ⟨i, hi⟩ := List.getElem?_of_mem hp
  obtain ⟨_, h2, _⟩ := nm_zero (h.procs i p hi)
  unfold wgtB at h2
  simp at h2
  unfold max1
  split <;> omega
theorem newE_zero {zs : List Int} (hl : zs.length ≤ 4096) (h : ∀ z ∈ zs, 1 ≤ z ∧ z ≤ 1099511627776) : newE zs = 0 := by
  unfold newE
  rw [if_neg (by omega), if_pos]
  rw [List.all_eq_true]
  exact fun z hz => may_mk (h z hz).1 (h z hz).2
theorem wf_int {n : Int} (h1 : 1 ≤ n) (h2 : n ≤ 1099511627776) : (Lit.int .i64 n).wf = true := by
  have e1 : IntKind.i64.min = -9223372036854775808 := by decide
  have e2 : IntKind.i64.max = 9223372036854775807 := by decide
  show (decide (IntKind.i64.min ≤ n) && decide (n ≤ IntKind.i64.max)) = true
  rw [e1, e2, Bool.and_eq_true, decide_eq_true_eq, decide_eq_true_eq]
  omega
theorem Row.ints {W : World} {b : Nat} {zs : List Int} (h : Row W b zs) (hl : zs.length ≤ 4096) (hz : ∀ z ∈ zs, 1 ≤ z ∧ z ≤ 1099511627776) : IntsAt .i64 W.heap.size W (some ⟨b, 0, none⟩) b 0 zs.length zs :=
  ⟨.inr rfl, rfl, by unfold maxLen; omega, .inr (heap_lt h), fun i hi => by rw [Nat.zero_add]; exact h.cell (by rw [List.getD_eq_getElem?_getD, List.getElem?_eq_getElem hi]; rfl), fun n hn => wf_int (hz n hn).1 (hz n hn).2⟩
/-- While links are joined. -/
structure GrJ (x : ModelV) (w : World) (mb g nb j : Nat) (W : World) : Prop where
  low : Below w.heap.size w W
  map : PlMap W mb x.procs.length (fstP (nmsP x.m))
  gr : IsG W g nb (wtsM x.m) (tabM x.m j)
theorem GrJ.on {x : ModelV} {w : World} {mb g nb j : Nat} {W W' : World} (h : GrJ x w mb g nb j W) (hb : Below W.heap.size W W') : GrJ x w mb g nb j W' :=
  ⟨h.low.trans (hb.mono h.low.size), h.map.below hb h.map.lt, h.gr.below hb⟩

set_option maxRecDepth 100000 in
set_option maxHeartbeats 4000000 in
theorem graph_any {w : World} {x : ModelV} (h : ModelAt w.heap.size w x) : Calls Tryz.prog 17 #[.agg #[.int .i64 x.ver, .slice x.pa x.procs.length x.pc, .slice x.la x.links.length x.lc, .slice x.ea x.events.length x.ec]] w (GrPost x w) := by
  have hb0 : Below w.heap.size w (w.alloc (.cells #[.int .i64 x.ver, .slice x.pa x.procs.length x.pc, .slice x.la x.links.length x.lc, .slice x.ea x.events.length x.ec] 26)) := below_one w _
  have HA : Hid ((w.alloc (.cells #[.int .i64 x.ver, .slice x.pa x.procs.length x.pc, .slice x.la x.links.length x.lc, .slice x.ea x.events.length x.ec] 26)).heap[w.heap.size]? = some (.cells #[.int .i64 x.ver, .slice x.pa x.procs.length x.pc, .slice x.la x.links.length x.lc, .slice x.ea x.events.length x.ec] 26 (0, 0))) := Lib.hid (heap_new _ rfl)
  have HB0 := Lib.hid hb0
  have HM := Lib.hid (h.on hb0)
  have HM0 := Lib.hid h
  clear hb0 h
  go_enter Tryz.func17, Tryz.ntmps17
  go_upto_region 1 with fail
  generalize w.alloc (.cells #[.int .i64 x.ver, .slice x.pa x.procs.length x.pc, .slice x.la x.links.length x.lc, .slice x.ea x.events.length x.ec] 26) = w1 at *
  have d0 : w1.cell? ⟨w.heap.size, 0, none⟩ = some (.int .i64 x.ver) := heap_cell HA.out rfl
  have d1 : w1.cell? ⟨w.heap.size, 1, none⟩ = some (.slice x.pa x.procs.length x.pc) := heap_cell HA.out rfl
  have d2 : w1.cell? ⟨w.heap.size, 2, none⟩ = some (.slice x.la x.links.length x.lc) := heap_cell HA.out rfl
  have d3 : w1.cell? ⟨w.heap.size, 3, none⟩ = some (.slice x.ea x.events.length x.ec) := heap_cell HA.out rfl
  have HC := Lib.hid (check_any HM.out)
  obtain ⟨E, hE⟩ : ∃ E, (mdE x.m).1 = E := ⟨_, rfl⟩
  obtain ⟨A, hA⟩ : ∃ A, (mdE x.m).2 = A := ⟨_, rfl⟩
  rw [hE, hA] at HC
  have HE := Lib.hid hE
  clear hE hA
  by_cases hz : E = 0
  · subst hz
    have hR : Right x.m := right_of HE.out
    have hn : x.procs.length ≤ 4096 := by have := hR.few.1; unfold ModelV.m at this; simpa using this
    have hwl : (wtsM x.m).length = x.procs.length := by unfold wtsM ModelV.m; simp
    have HR := Lib.hid hR
    have hmm := fun W : World => run_makeMap_hint Tryz.underlying81 (x.procs.length : Int) W
    have hmi := fun W : World => madeI W x.procs.length hn
    clear hR
    go_upto_region 4 with (go_at_call 23; refine HC.out.mono ?_; rintro e w2 ⟨rfl, hb⟩; have HB2 := Lib.hid hb; clear hb)
    have hb3 : Below w1.heap.size w1 (w2.alloc (.cells #[.int .i64 0, .int .i64 A] 54)) := HB2.out.alloc HB2.out.size _
    generalize w2.alloc (.cells #[.int .i64 0, .int .i64 A] 54) = w3 at *
    have HB3 := Lib.hid (HB0.out.trans (hb3.mono HB0.out.size))
    have hx3 := heap_below HA.out hb3 (heap_lt HA.out)
    have HX3 := Lib.hid hx3
    have hlt3 : w.heap.size < w3.heap.size := heap_lt hx3
    have d1 : w3.cell? ⟨w.heap.size, 1, none⟩ = some (.slice x.pa x.procs.length x.pc) := heap_cell hx3 rfl
    clear d0 d2 d3 hb3 hx3 HC HB2 HM HA
    go_upto_region 5 with fail
    have d1 : (w3.alloc (.map #[] 0)).cell? ⟨w.heap.size, 1, none⟩ = some (.slice x.pa x.procs.length x.pc) := heap_cell (heap_alloc HX3.out _) rfl
    have hmi := hmi (w3.alloc (.map #[] 0))
    go_upto_region 6 with fail
    have HG : Hid (GrI x w w3.heap.size (w3.heap.size + 1) 0 ((w3.alloc (.map #[] 0)).alloc (.cells (Array.replicate x.procs.length (Value.int .i64 0)) 2))) := Lib.hid
      ⟨HB3.out.trans (((below_one w3 _).alloc (by simp) _).mono HB3.out.size), heap_alloc (heap_alloc HX3.out _) _,
       ((MapS.made w3 Tryz.prog 9 3).congr (fun y => by rw [List.take_zero]; rfl)).below (below_one _ _) (by simp),
       by unfold Row; rw [List.take_zero, hwl, List.nil_append, Nat.sub_zero, show ((List.replicate x.procs.length (0 : Int)).map (Value.int .i64)).toArray = Array.replicate x.procs.length (Value.int .i64 0) by simp]; exact heap_new _ (by simp), by omega, by omega⟩
    generalize (w3.alloc (.map #[] 0)).alloc (.cells (Array.replicate x.procs.length (Value.int .i64 0)) 2) = w5 at *
    have d1 : w5.cell? ⟨w.heap.size, 1, none⟩ = some (.slice x.pa x.procs.length x.pc) := heap_cell HG.out.box rfl
    clear hmm hmi
    obtain ⟨mb, hmb⟩ : ∃ mb, w3.heap.size = mb := ⟨_, rfl⟩
    obtain ⟨wb, hwb⟩ : ∃ wb, w3.heap.size + 1 = wb := ⟨_, rfl⟩
    have hne : mb ≠ wb := by omega
    have hlm : w.heap.size < mb := by omega
    have hlw : w.heap.size < wb := by omega
    simp only [hwb] at HG
    simp only [hmb] at HG
    simp only [World.size_alloc, hwb]
    simp only [hmb]
    clear hmb hwb HB3 HX3 hlt3 HB0
    go_wp2_with fail
    clear d1
    obtain ⟨pa, hpa⟩ : ∃ pa, x.pa = pa := ⟨_, rfl⟩
    have HAd : x.procs.length = 0 ∨ pa = some ⟨x.pb, x.po, none⟩ := by rw [← hpa]; exact HM0.out.procs.addr
    rw [hpa]
    clear hpa hmi
    go_loopw [31] (fun i wr => ∃ j : Nat, i = .int .i64 (j : Int) ∧ j ≤ x.procs.length ∧ Hid (GrI x w mb wb j wr)) (fun i _ => x.procs.length - (intOf i).toNat)
    case atStart => exact ⟨0, rfl, Nat.zero_le _, HG⟩
    case round =>
      clear HG
      obtain ⟨j, rfl, hj, HG⟩ := hrel
      have hj0 : (0 : Int) ≤ (j : Int) := Int.natCast_nonneg j
      by_cases hlt : j < x.procs.length
      · have hji : (j : Int) < (x.procs.length : Int) := by omega
        have hI := HM0.out.procs.kept HG.out.low (Nat.le_refl _)
        obtain rfl := HAd.resolve_left (by omega)
        obtain ⟨p, hp⟩ : ∃ p, x.procs[j]? = some p := ⟨_, List.getElem?_eq_getElem hlt⟩
        have r0 : wr.cell? ⟨x.pb, x.po + j * 4, none⟩ = some (.string p.p.name) := hI.cell j p hp 0 _ rfl
        have r1 : wr.cell? ⟨x.pb, x.po + j * 4 + 1, none⟩ = some (.int .i64 p.p.weight) := hI.cell j p hp 1 _ rfl
        have r2 : wr.cell? ⟨x.pb, x.po + j * 4 + 2, none⟩ = some (.slice p.va p.p.vars.length p.vc) := hI.cell j p hp 2 _ rfl
        have r3 : wr.cell? ⟨x.pb, x.po + j * 4 + 3, none⟩ = some (.slice p.sa p.p.steps.length p.sc) := hI.cell j p hp 3 _ rfl
        have hfit : fitP p := hI.fits p (List.mem_of_getElem? hp)
        have HFit := Lib.hid hfit
        have HNx : Hid ((nmsP x.m)[j]? = some p.p.name) := Lib.hid (by unfold nmsP ModelV.m; simp [hp])
        have hjw : j < (wtsM x.m).length := by omega
        have HWx : Hid ((wtsM x.m)[j]'hjw = max1 p.p.weight) := Lib.hid (by
          have h1 : (wtsM x.m)[j]? = some (max1 p.p.weight) := by unfold wtsM ModelV.m; simp [hp]
          rw [List.getElem?_eq_getElem hjw] at h1
          exact Option.some.inj h1)
        have HU : Hid (fstP ((nmsP x.m).take j) p.p.name = none) := Lib.hid (first_none HR.out (by unfold ModelV.m; simp [hp]))
        clear hI hp hfit
        go_upto_region 9 with fail
        have HG6 : Hid (GrI x w mb wb j (wr.alloc (.cells #[.string p.p.name, .int .i64 p.p.weight, .slice p.va p.p.vars.length p.vc, .slice p.sa p.p.steps.length p.sc] 34))) := Lib.hid (HG.out.on (below_one _ _))
        have HO6 := Lib.hid (heap_new (w := wr) (.cells #[.string p.p.name, .int .i64 p.p.weight, .slice p.va p.p.vars.length p.vc, .slice p.sa p.p.steps.length p.sc] 34) rfl)
        have hmr : mb < wr.heap.size := HG.out.map.lt
        have hwr : wb < wr.heap.size := heap_lt HG.out.row
        clear r0 r1 r2 r3 HG
        generalize wr.alloc (.cells #[.string p.p.name, .int .i64 p.p.weight, .slice p.va p.p.vars.length p.vc, .slice p.sa p.p.steps.length p.sc] 34) = w6 at *
        have c0 : w6.cell? ⟨wr.heap.size, 0, none⟩ = some (.string p.p.name) := heap_cell HO6.out rfl
        go_upto_region 10 with (at_mapUpdate; refine wpList_mapUpdate_S rfl _ _ _ 81 rfl 9 3 Tryz.underlying81 Tryz.underlying9 Tryz.underlying3 mb j _ rfl HG6.out.map (by unfold maxLen; omega) p.p.name j rfl rfl HFit.out (wf_nat j (by unfold maxLen; omega)) ?_; intro w8 hm8 hg8; have HM8 := Lib.hid hm8; have HG8 := Lib.hid hg8; clear hm8 hg8)
        have HNew : Hid (∀ y, (if y = p.p.name then some j else fstP ((nmsP x.m).take j) y) = fstP ((nmsP x.m).take (j + 1)) y) := Lib.hid (pl_new HNx.out (by rw [HU.out]; rfl))
        have ho8 : w8.heap[wr.heap.size]? = some (.cells #[.string p.p.name, .int .i64 p.p.weight, .slice p.va p.p.vars.length p.vc, .slice p.sa p.p.steps.length p.sc] 34 (0, 0)) := heap_kept HO6.out HG8.out (by simp; omega)
        have hr8 : Row w8 wb _ := heap_kept HG6.out.row HG8.out (by simp; omega)
        have hx8 := heap_kept HG6.out.box HG8.out (by simp; omega)
        have hl8 : Below w.heap.size w w8 := HG6.out.low.grown HG8.out HG6.out.low.size (fun r e => by cases e; omega)
        have HR8 := Lib.hid hr8
        have HX8 := Lib.hid hx8
        have HL8 := Lib.hid hl8
        have c1 : w8.cell? ⟨wr.heap.size, 1, none⟩ = some (.int .i64 p.p.weight) := heap_cell ho8 rfl
        have e1 : w8.cell? ⟨wb, j, none⟩ = some (.int .i64 0) := hr8.cell (by rw [List.getElem?_append_right (by rw [List.length_take]; omega), List.length_take, Nat.min_eq_left (by omega), Nat.sub_self, List.getElem?_replicate]; rw [if_pos (by omega)])
        have e2 := heap_frozen hr8 j
        clear c0 ho8 hr8 hx8 hl8
        go_wp2_with (go_at_call 48; refine (cwgt_any _ _).mono ?_; rintro e w9 ⟨rfl, rfl⟩)
        have HG9 : Hid (GrI x w mb wb (j + 1) (w8.setCell ⟨wb, j, none⟩ (.int .i64 (max1 p.p.weight)))) := Lib.hid (by
          have h1 := HR8.out.set j (max1 p.p.weight)
          rw [← HWx.out, set_part _ hjw] at h1
          refine ⟨HL8.out.setCell (p := ⟨wb, j, none⟩) (by show w.heap.size ≤ wb; omega) _, heap_other HX8.out (by omega) _ _, ?_, by rw [← HWx.out]; exact h1, by omega, by omega⟩
          exact (MapS.kept HM8.out (grown_set w8 wb j _) (by simp; omega)).congr HNew.out)
        clear e1 e2 c1
        go_roundw
        case rel => exact ⟨j + 1, by go_num, by omega, HG9⟩
        case measure => simp [intOf]; omega
      · obtain rfl : j = x.procs.length := by omega
        have hrow : Row wr wb (wtsM x.m) := by
          have := HG.out.row
          rwa [← hwl, List.take_length, Nat.sub_self, List.replicate_zero, List.append_nil] at this
        have hints := hrow.ints (by omega) (wts_ok HR.out)
        rw [hwl] at hints
        have HN := Lib.hid (new_any (cap := x.procs.length) hints (fun e => by cases e))
        have hne0 : newE (wtsM x.m) = 0 := newE_zero (by omega) (wts_ok HR.out)
        have HNE := Lib.hid hne0
        have HMp : Hid (PlMap wr mb x.procs.length (fstP (nmsP x.m))) := Lib.hid (by
          have := HG.out.map
          rwa [List.take_of_length_le (by unfold nmsP ModelV.m; simp)] at this)
        clear hrow hints hne0
        go_upto_region 13 with (go_at_call 49; refine HN.out.mono ?_; rintro e w6 ⟨hb6, hcs⟩; have hcs2 := hcs.resolve_left (fun h => h.1 HNE.out); obtain ⟨_, g, nb, rfl, hg6, hg1, hg2⟩ := hcs2; have HB6 := Lib.hid hb6; have HG6 := Lib.hid hg6; clear hb6 hcs hg6)
        have HJ : Hid (GrJ x w mb g nb 0 w6) := Lib.hid ⟨HG.out.low.trans (HB6.out.mono HG.out.low.size), HMp.out.below HB6.out HMp.out.lt, HG6.out⟩
        have hmn : mb ≠ nb := by have := HMp.out.lt; omega
        have hgw : w.heap.size ≤ g ∧ w.heap.size ≤ nb := by have := HG.out.low.size; omega
        have hx6 := heap_below HG.out.box HB6.out (heap_lt HG.out.box)
        have d2 : w6.cell? ⟨w.heap.size, 2, none⟩ = some (.slice x.la x.links.length x.lc) := heap_cell hx6 rfl
        clear HG HN HNE HMp HB6 HG6 hg1 hg2 hx6
        have hnl : x.links.length ≤ 16384 := by have := HR.out.few.2.1; unfold ModelV.m at this; simpa using this
        go_wp2_with fail
        clear d2
        obtain ⟨la, hla⟩ : ∃ la, x.la = la := ⟨_, rfl⟩
        have HLd : x.links.length = 0 ∨ la = some ⟨x.lb, x.lo, none⟩ := by rw [← hla]; exact HM0.out.links.addr
        rw [hla]
        clear hla
        go_loopw [55] (fun i wr => ∃ j : Nat, i = .int .i64 (j : Int) ∧ j ≤ x.links.length ∧ Hid (GrJ x w mb g nb j wr)) (fun i _ => x.links.length - (intOf i).toNat)
        case atStart => exact ⟨0, rfl, Nat.zero_le _, HJ⟩
        case round =>
          clear HJ
          obtain ⟨j, rfl, hj, HJ⟩ := hrel
          have hj0 : (0 : Int) ≤ (j : Int) := Int.natCast_nonneg j
          by_cases hlt : j < x.links.length
          · have hji : (j : Int) < (x.links.length : Int) := by omega
            have hI := HM0.out.links.kept HJ.out.low (Nat.le_refl _)
            obtain rfl := HLd.resolve_left (by omega)
            obtain ⟨l, hl⟩ : ∃ l, x.links[j]? = some l := ⟨_, List.getElem?_eq_getElem hlt⟩
            have s0 : wr.cell? ⟨x.lb, x.lo + j * 5, none⟩ = some (.string l.name) := hI.cell j l hl 0 _ rfl
            have s1 : wr.cell? ⟨x.lb, x.lo + j * 5 + 1, none⟩ = some (.string l.frm) := hI.cell j l hl 1 _ rfl
            have s2 : wr.cell? ⟨x.lb, x.lo + j * 5 + 2, none⟩ = some (.string l.to_) := hI.cell j l hl 2 _ rfl
            have s3 : wr.cell? ⟨x.lb, x.lo + j * 5 + 3, none⟩ = some (.int .i64 l.delay) := hI.cell j l hl 3 _ rfl
            have s4 : wr.cell? ⟨x.lb, x.lo + j * 5 + 4, none⟩ = some (.int .i64 l.weight) := hI.cell j l hl 4 _ rfl
            have hfit : fitL l := hI.fits l (List.mem_of_getElem? hl)
            have HFit := Lib.hid hfit
            have HT : Hid (tabM x.m (j + 1) = tabS x.m (tabM x.m j) l) := Lib.hid (tabM_succ (by unfold ModelV.m; exact hl))
            clear hI hl hfit
            go_upto_region 16 with fail
            have HJ7 : Hid (GrJ x w mb g nb j (wr.alloc (.cells #[.string l.name, .string l.frm, .string l.to_, .int .i64 l.delay, .int .i64 l.weight] 42))) := Lib.hid (HJ.out.on (below_one _ _))
            have HO7 := Lib.hid (heap_new (w := wr) (.cells #[.string l.name, .string l.frm, .string l.to_, .int .i64 l.delay, .int .i64 l.weight] 42) rfl)
            clear s0 s1 s2 s3 s4
            generalize wr.alloc (.cells #[.string l.name, .string l.frm, .string l.to_, .int .i64 l.delay, .int .i64 l.weight] 42) = w7 at *
            have hnr : ¬ wr.heap.size = nb := by have := HJ.out.gr.lt.2; omega
            have hmap : ∀ W, Turned (fun c => c = nb) w7 W → PlMap W mb x.procs.length (fstP (nmsP x.m)) := fun W h3 => HJ7.out.map.kept (row := some nb) ⟨h3.os, h3.tape, h3.output, h3.size, fun k hk hn => h3.block k hk (fun e => hn (by rw [e]))⟩ (by simp; omega)
            have d1 : ∀ W, Turned (fun c => c = nb) w7 W → W.cell? ⟨wr.heap.size, 1, none⟩ = some (.string l.frm) := fun W hW => heap_cell (hW.old HO7.out hnr) rfl
            have d2 : ∀ W, Turned (fun c => c = nb) w7 W → W.cell? ⟨wr.heap.size, 2, none⟩ = some (.string l.to_) := fun W hW => heap_cell (hW.old HO7.out hnr) rfl
            have d4 : ∀ W, Turned (fun c => c = nb) w7 W → W.cell? ⟨wr.heap.size, 4, none⟩ = some (.int .i64 l.weight) := fun W hW => heap_cell (hW.old HO7.out hnr) rfl
            have c1 := d1 w7 (Turned.refl' _ _)
            have c2 := d2 w7 (Turned.refl' _ _)
            by_cases hft : l.frm = l.to_
            · have hb1 : (l.frm.toList != l.to_.toList) = false := by rw [bne, bytes_eq, decide_eq_true hft]; rfl
              have hb2 : (l.frm.toList == l.to_.toList) = true := by rw [bytes_eq, decide_eq_true hft]
              have HJ8 : Hid (GrJ x w mb g nb (j + 1) w7) := Lib.hid ⟨HJ7.out.low, HJ7.out.map, by rw [HT.out]; unfold tabS; rw [if_pos hft]; exact HJ7.out.gr⟩
              clear hft
              go_wp2
              go_roundw
              case rel => exact ⟨j + 1, by go_num, by omega, HJ8⟩
              case measure => simp [intOf]; omega
            · have hb1 : (l.frm.toList != l.to_.toList) = true := by rw [bne, bytes_eq, decide_eq_false hft]; rfl
              have hb2 : (l.frm.toList == l.to_.toList) = false := by rw [bytes_eq, decide_eq_false hft]
              have HF := Lib.hid hft
              clear hft
              go_upto_region 17 with fail
              have k1 : ∀ W, Turned (fun c => c = nb) w7 W → (Instr.lookup 81 (.map (some mb)) (.string l.frm) false).run Tryz.prog W = .ok (.int .i64 ((plM x.m l.frm : Nat) : Int)) W := fun W hW => (hmap W hW).look Tryz.underlying81 Tryz.underlying9 Tryz.underlying3 (zeroI _) HFit.out.2.1
              have k2 : ∀ W, Turned (fun c => c = nb) w7 W → (Instr.lookup 81 (.map (some mb)) (.string l.to_) false).run Tryz.prog W = .ok (.int .i64 ((plM x.m l.to_ : Nat) : Int)) W := fun W hW => (hmap W hW).look Tryz.underlying81 Tryz.underlying9 Tryz.underlying3 (zeroI _) HFit.out.2.2
              have KJ : Hid (∀ W, Below w7.heap.size w7 W → Calls Tryz.prog 50 #[.pointer (some ⟨g, 0, none⟩), .int .i64 ((plM x.m l.frm : Nat) : Int), .int .i64 ((plM x.m l.to_ : Nat) : Int), .int .i64 (max1 l.weight)] W fun e w' => ∃ v : Int, e = .returned (.int .i64 v) ∧ Hid (GrJ x w mb g nb (j + 1) w') ∧ Turned (fun c => c = nb) w7 w') := Lib.hid (fun W hW => (join_any (HJ7.out.on hW).gr _ _ _).mono (fun e w' ⟨h1, h2, h3⟩ => ⟨_, h1, Lib.hid ⟨(HJ7.out.on hW).low.trans ⟨h3.os, h3.tape, h3.output, h3.size, fun k hk => h3.block k (by have := (HJ7.out.on hW).low.size; omega) (by omega)⟩, (HJ7.out.on hW).map.kept (row := some nb) ⟨h3.os, h3.tape, h3.output, h3.size, fun k hk hn => h3.block k hk (fun e => hn (by rw [e]))⟩ (by simp; omega), by rw [HT.out]; unfold tabS; rw [if_neg HF.out, show x.m.procs.length = (wtsM x.m).length by unfold wtsM; simp]; exact h2⟩, Turned.trans' (Turned.of_b hW) h3⟩))
              clear c1 c2
              go_region_held3 (fun W => Turned (fun c => c = nb) w7 W) (first | assumption | exact Turned.refl' _ _ | exact Turned.drew' (Turned.refl' _ _) | exact Turned.drew' (by assumption)) (first
                | (go_at_call 48; with_reducible refine (cwgt_any _ _).mono ?_; rintro e w8 ⟨rfl, rfl⟩)
                | (go_at_call 50; with_reducible refine (KJ.out _ (by first | exact Below.refl _ _ | exact (Below.refl _ _).drew)).mono ?_; rintro e w9 ⟨v, rfl, HJ9, hT9⟩))
              all_goals
                go_wp2
                go_roundw
                case rel => exact ⟨j + 1, by go_num, by omega, HJ9⟩
                case measure => simp [intOf]; omega
          · obtain rfl : j = x.links.length := by omega
            go_wp2
            refine bodyPost_ret (v := .tuple #[.pointer (some ⟨g, 0, none⟩), .int .i64 0]) (by simp [results, Tryz.f17, go_sem]) rfl ?_
            exact ⟨HJ.out.low, .inr ⟨HE.out, g, nb, rfl, HJ.out.gr, hgw.1, hgw.2⟩⟩
  · have hzb : (E != 0) = true := by simpa using hz
    have HZ := Lib.hid hz
    clear hz
    go_wp2_with (go_at_call 23; refine HC.out.mono ?_; rintro e w2 ⟨rfl, hb⟩; have HB2 := Lib.hid (HB0.out.trans (hb.mono HB0.out.size)); clear hb)
    go_quiet (fail)
    go_wp2
    refine bodyPost_ret (v := .tuple #[.pointer none, .int .i64 E]) (by simp [results, Tryz.f17, go_sem]) rfl ?_
    refine ⟨?_, .inl ⟨by rw [HE.out]; exact HZ.out, by rw [HE.out]⟩⟩
    refine HB2.out.trans (Below.mono ?_ HB2.out.size)
    have hq := below_one w2 (.cells #[.int .i64 E, .int .i64 A] 54)
    exact ⟨hq.os, hq.tape, hq.output, hq.size, hq.block⟩
end Go.Proofs.YtjcmeacgfflfmaaGreat.Hk
