/- Contracts: Proc, Link, Var; all names, gathered. -/
import Derived.Test.YtgnlehenbdcgmaaMdK
import Derived.Test.YtgnlehenbdcgmaaSq
import Derived.Test.YtgnlehenbdcgmaaBg
set_option linter.unusedVariables false
set_option linter.unusedSectionVars false
set_option linter.unusedSimpArgs false
namespace Go.Proofs.Ytgnlehenbdcgmaa.Md
open Go.RowKit Go.Shelf

theorem proc_at {w : World} {x : ModelV} (h : ModelAt w.heap.size w x) (y : ByteArray) : Calls Try.prog 17 #[.agg #[.int .i64 x.ver, .slice x.pa x.procs.length x.pc, .slice x.la x.links.length x.lc, .slice x.ea x.events.length x.ec], .string y] w fun e w' => e = .returned (.int .i64 (plcI (nmsP x.m) y)) ∧ Below w.heap.size w w' := by
  have HB := Lib.hid (below_one w (.cells #[.int .i64 x.ver, .slice x.pa x.procs.length x.pc, .slice x.la x.links.length x.lc, .slice x.ea x.events.length x.ec] 26))
  have HX := Lib.hid (place_P (cap := x.pc) (h.on HB.out).procs y)
  rw [nms_v] at HX
  clear h
  generalize plcI (nmsP x.m) y = r at *
  go_enter Try.func17, Try.ntmps17
  go_wp2_with fail
  refine HX.out.mono ?_
  rintro e w2 ⟨rfl, hb2⟩
  have HB2 := Lib.hid (HB.out.trans (hb2.mono HB.out.size))
  clear hb2 HX
  go_wp2
  go_ret
  exact ⟨rfl, HB2.out⟩
theorem link_at {w : World} {x : ModelV} (h : ModelAt w.heap.size w x) (y : ByteArray) : Calls Try.prog 19 #[.agg #[.int .i64 x.ver, .slice x.pa x.procs.length x.pc, .slice x.la x.links.length x.lc, .slice x.ea x.events.length x.ec], .string y] w fun e w' => e = .returned (.int .i64 (plcI (nmsL x.m) y)) ∧ Below w.heap.size w w' := by
  have HB := Lib.hid (below_one w (.cells #[.int .i64 x.ver, .slice x.pa x.procs.length x.pc, .slice x.la x.links.length x.lc, .slice x.ea x.events.length x.ec] 26))
  have HX : Hid (Calls Try.prog 50 #[.slice x.la x.links.length x.lc, .func (.func 36) #[] #[], .string y] _ fun e w' => e = .returned (.int .i64 (plcI (nmsL x.m) y)) ∧ _) := Lib.hid (place_L (cap := x.lc) (h.on HB.out).links y)
  clear h
  generalize plcI (nmsL x.m) y = r at *
  go_enter Try.func19, Try.ntmps19
  go_wp2_with fail
  refine HX.out.mono ?_
  rintro e w2 ⟨rfl, hb2⟩
  have HB2 := Lib.hid (HB.out.trans (hb2.mono HB.out.size))
  clear hb2 HX
  go_wp2
  go_ret
  exact ⟨rfl, HB2.out⟩
theorem var_at {w : World} {p : ProcV} (h : ProcIn w.heap.size w p) (y : ByteArray) : Calls Try.prog 13 #[.agg #[.string p.p.name, .int .i64 p.p.weight, .slice p.va p.p.vars.length p.vc, .slice p.sa p.p.steps.length p.sc], .string y] w fun e w' => e = .returned (.int .i64 (plcI (vNames p.p) y)) ∧ Below w.heap.size w w' := by
  have HB := Lib.hid (below_one w (.cells #[.string p.p.name, .int .i64 p.p.weight, .slice p.va p.p.vars.length p.vc, .slice p.sa p.p.steps.length p.sc] 36))
  have HX : Hid (Calls Try.prog 47 #[.slice p.va p.p.vars.length p.vc, .func (.func 48) #[] #[], .string y] _ fun e w' => e = .returned (.int .i64 (plcI (vNames p.p) y)) ∧ _) := Lib.hid (place_V (cap := p.vc) (h.on HB.out).vars y)
  clear h
  generalize plcI (vNames p.p) y = r at *
  go_enter Try.func13, Try.ntmps13
  go_wp2_with fail
  refine HX.out.mono ?_
  rintro e w2 ⟨rfl, hb2⟩
  have HB2 := Lib.hid (HB.out.trans (hb2.mono HB.out.size))
  clear hb2 HX
  go_wp2
  go_ret
  exact ⟨rfl, HB2.out⟩
/-- All names of a process. -/
def prN (p : ProcM) : List ByteArray := p.name :: vNames p
/-- All names of a model. -/
def mdN (m : ModelM) : List ByteArray := m.procs.flatMap prN ++ nmsL m
def sv (xs : List ByteArray) : List Value := xs.map .string
theorem sv_snoc (xs : List ByteArray) (y : ByteArray) : sv (xs ++ [y]) = sv xs ++ [.string y] := by simp [sv]
theorem Try.infoStr : (Try.prog.info? 9).map (fun i => (i.zero, i.size, i.bytes)) = some (some (.string ⟨#[]⟩), 1, 16) := by kernel_rfl
/-- As 'wpList_append_gath'; what is turned is its own row. -/
theorem wpList_append_gathP {P : Program} (w : World) {ops : Array Oper} {rest : List Oper} {o : Oper} {a : Act} {Q : Exit → Act → World → Prop} (hgd : o.guard = none) (s x : Operand) (t : TypeId)
    (ho : o.op = .call { callee := .builtin .append, args := #[s, x], argTypes := #[t, t] })
    (base : Nat) (e : TypeId) (i : TypeInfo) (z : Value) (size bytes : Nat) (ht : P.underlying t = some (.slice e)) (hi : P.info? e = some i) (hz : i.zero = some z)
    (hsize : i.size = size) (hby : i.bytes = bytes) (hzs : z.cells.size = size) (hsz : 0 < size)
    (v : Value) (n : Nat) (xs : List Value) (hs : a.eval s = v) (hown : Gath w base e size v n xs)
    (ad : Addr) (m c : Nat) (news : List Value) (hx : a.eval x = .slice (some ad) m c) (hl : news.length = m * size) (hnews : ∀ j u, news[j]? = some u → w.cell? (ad.add j) = some u) (h1 : ∀ u ∈ news, u.oneCell' = true)
    (hm : 0 < m) (h63 : n + m ≤ maxLen) (hbytes : (n + m) * bytes ≤ 140737488355328) (hbase : base ≤ w.heap.size)
    (h : ∀ v' w' row, w'.ownsRow base e size v' (n + m) (xs ++ news) → w.grownBy w' row → (∀ g, row = some g → v.ownBlock = some g ∧ base ≤ g) → wpList P ops Q rest (a.put o.dst v') w') : wpList P ops Q (o :: rest) a w := by
  rcases hown with ⟨rfl, rfl, ao, rfl⟩ | hown
  · refine wpList_append_grows w hgd s x t ho e i z size bytes ht hi hz hsize hby hzs hsz ao 0 0 [] hs (fun _ => ⟨rfl, rfl⟩) (by simp) (fun b _ j u hj => by simp at hj) ad m c news hx hl hnews h1 (by omega) h63 hbytes ?_
    intro v' w' h2 h3
    exact h v' w' none (ownsRow_base h2 hbase) h3 (fun k hk => by cases hk)
  · refine wpList_append_own w hgd s x t ho base e i z size bytes ht hi hz hsize hby hzs hsz v n xs hs hown ad m c news hx hl hnews h1 h63 hbytes hbase ?_
    intro v' w' h2 h3 _
    exact h v' w' _ h2 h3 (fun k hk => ⟨hk, (hown.lt k hk).1⟩)
/-- While names are gathered. -/
structure NmR (w : World) (x : ModelV) (xs : List ByteArray) (W : World) : Prop where
  out : ∃ v, Boxed W (w.heap.size + 1) 40 v ∧ Gath W (w.heap.size + 1 + 1) 9 1 v xs.length (sv xs) ∧ ∀ g, v.ownBlock = some g → g < W.heap.size
  low : Below (w.heap.size + 1) (w.alloc (.cells #[.int .i64 x.ver, .slice x.pa x.procs.length x.pc, .slice x.la x.links.length x.lc, .slice x.ea x.events.length x.ec] 26)) W
  size : w.heap.size + 1 + 1 ≤ W.heap.size
theorem NmR.below {w W : World} {x : ModelV} {xs : List ByteArray} (h : NmR w x xs W) : Below w.heap.size w W := (below_one w _).trans (h.low.mono (Nat.le_succ _))
theorem NmR.box {w W : World} {x : ModelV} {xs : List ByteArray} (h : NmR w x xs W) : W.heap[w.heap.size]? = some (.cells #[.int .i64 x.ver, .slice x.pa x.procs.length x.pc, .slice x.la x.links.length x.lc, .slice x.ea x.events.length x.ec] 26 (0, 0)) := heap_below (heap_new _ rfl) h.low (Nat.lt_succ_self _)
theorem NmR.alloc {w W : World} {x : ModelV} {xs : List ByteArray} (h : NmR w x xs W) (o : Obj) : NmR w x xs (W.alloc o) := by
  obtain ⟨v, h1, h2, h3⟩ := h.out
  exact ⟨⟨v, heap_alloc h1 o, h2.alloc o, fun g e => by have := h3 g e; simp; omega⟩, h.low.alloc (by have := h.size; omega) o, by have := h.size; simp; omega⟩
theorem NmR.app {w W w3 : World} {x : ModelV} {xs : List ByteArray} {y : ByteArray} {v' : Value} {row : Option Nat} (h : NmR w x xs W) (hown : w3.ownsRow (w.heap.size + 1 + 1) 9 1 v' (xs.length + 1) (sv xs ++ [.string y])) (hg : W.grownBy w3 row) (hrow : ∀ g, row = some g → w.heap.size + 1 + 1 ≤ g) :
    (∃ u, Boxed w3 (w.heap.size + 1) 40 u) ∧ NmR w x (xs ++ [y]) (w3.setCell ⟨w.heap.size + 1, 0, none⟩ v') := by
  obtain ⟨v, h1, h2, _⟩ := h.out
  have hb1 : Boxed w3 (w.heap.size + 1) 40 v := heap_kept h1 hg (fun e => by have := hrow _ e.symm; omega)
  have hz := h.size
  have hz3 := hg.size
  refine ⟨⟨v, hb1⟩, ⟨⟨v', hb1.set v', ?_, fun g e => by rw [size_set]; exact (hown.lt g e).2⟩, ?_, by rw [size_set]; omega⟩⟩
  · rw [List.length_append, sv_snoc]
    exact gath_setI (.inr hown) (by omega) 0 v'
  · exact (h.low.grown hg (by omega) (fun g e => by have := hrow g e; omega)).setCell (p := ⟨w.heap.size + 1, 0, none⟩) (Nat.le_refl _) v'
def NmPost (w : World) (ns : List ByteArray) (e : Ending) (w' : World) : Prop := ∃ v, e = .returned (.func (.func 78) #[] #[.pointer (some ⟨w.heap.size + 1, 0, none⟩)]) ∧ Hid (Boxed w' (w.heap.size + 1) 40 v ∧ Gath w' (w.heap.size + 1 + 1) 9 1 v ns.length (sv ns)) ∧ Hid (Below w.heap.size w w')
set_option maxRecDepth 100000 in
set_option maxHeartbeats 4000000 in
theorem names_seq {w : World} {x : ModelV} (h : ModelAt w.heap.size w x) (hs : (mdN x.m).length ≤ 1000000) : Calls Try.prog 51 #[.agg #[.int .i64 x.ver, .slice x.pa x.procs.length x.pc, .slice x.la x.links.length x.lc, .slice x.ea x.events.length x.ec]] w (NmPost w (mdN x.m)) := by
  obtain ⟨i0, hi0, hz0, hz1, hz2⟩ := info_parts Try.infoStr
  have HI := Lib.hid hi0
  have HZ0 := Lib.hid hz0
  have HZ1 := Lib.hid hz1
  have HZ2 := Lib.hid hz2
  clear hi0 hz0 hz1 hz2
  have HM := Lib.hid h
  have H0 : Hid (NmR w x [] ((w.alloc (.cells #[.int .i64 x.ver, .slice x.pa x.procs.length x.pc, .slice x.la x.links.length x.lc, .slice x.ea x.events.length x.ec] 26)).alloc (.cells #[.slice none 0 0] 40))) := Lib.hid ⟨⟨_, heap_new _ (by simp), .inl ⟨rfl, rfl, none, rfl⟩, fun g e => by simp [Value.ownBlock] at e⟩, ((Below.refl _ _).alloc (by simp) _), by simp⟩
  clear h
  have hlp : x.procs.length ≤ 1000000 := by
    have : ∀ l : List ProcM, l.length ≤ (l.flatMap prN).length := fun l => by
      induction l with
      | nil => simp
      | cons p r ih => simp only [List.flatMap_cons, List.length_append, List.length_cons, prN]; omega
    have h1 := this x.m.procs
    unfold mdN at hs
    rw [List.length_append] at hs
    have h2 : x.m.procs.length = x.procs.length := by unfold ModelV.m; simp
    omega
  go_enter Try.func51, Try.ntmps51
  go_upto_region 2 with fail
  generalize ((w.alloc (.cells #[.int .i64 x.ver, .slice x.pa x.procs.length x.pc, .slice x.la x.links.length x.lc, .slice x.ea x.events.length x.ec] 26)).alloc (.cells #[.slice none 0 0] 40)) = w1 at *
  have b1 := heap_cell H0.out.box (i := 1) rfl
  simp only [List.getElem_toArray, List.getElem_cons_zero, List.getElem_cons_succ] at b1
  go_wp2
  go_loopw [13] (fun i wr => ∃ j : Nat, i = .int .i64 (j : Int) ∧ j ≤ x.procs.length ∧ Hid (NmR w x (((x.procs.map (·.p)).take j).flatMap prN) wr)) (fun i _ => x.procs.length - (intOf i).toNat)
  case atStart => exact ⟨0, rfl, Nat.zero_le _, H0⟩
  case round =>
    clear H0 b1
    obtain ⟨j, rfl, hj, HR⟩ := hrel
    by_cases hlt : j < x.procs.length
    · have hI := (HM.out.procs.kept HR.out.below (Nat.le_refl _))
      have ha := hI.addr.resolve_left (by omega)
      have hx : x.procs[j]? = some (x.procs[j]'hlt) := List.getElem?_eq_getElem _
      obtain ⟨p, hp⟩ : ∃ p, x.procs[j]'hlt = p := ⟨_, rfl⟩
      rw [hp] at hx
      have c0 : wr.cell? ⟨x.pb, x.po + j * 4, none⟩ = some (.string p.p.name) := hI.cell j p hx 0 _ rfl
      have c1 : wr.cell? ⟨x.pb, x.po + j * 4 + 1, none⟩ = some (.int .i64 p.p.weight) := hI.cell j p hx 1 _ rfl
      have c2 : wr.cell? ⟨x.pb, x.po + j * 4 + 2, none⟩ = some (.slice p.va p.p.vars.length p.vc) := hI.cell j p hx 2 _ rfl
      have c3 : wr.cell? ⟨x.pb, x.po + j * 4 + 3, none⟩ = some (.slice p.sa p.p.steps.length p.sc) := hI.cell j p hx 3 _ rfl
      have hji : (j : Int) < (x.procs.length : Int) := by omega
      have hj0 : (0 : Int) ≤ (j : Int) := Int.natCast_nonneg j
      have HPi := Lib.hid (HM.out.inner p (List.mem_of_getElem? hx))
      obtain ⟨ns, hns⟩ : ∃ ns, ((x.procs.map (·.p)).take j).flatMap prN = ns := ⟨_, rfl⟩
      have HNext : Hid (((x.procs.map (·.p)).take (j + 1)).flatMap prN = ns ++ prN p.p) := Lib.hid (by
        have hm : (x.procs.map (·.p))[j]? = some p.p := by rw [List.getElem?_map, hx]; rfl
        obtain ⟨h1, h2⟩ := List.getElem?_eq_some_iff.1 hm
        rw [List.take_succ_eq_append_getElem h1, List.flatMap_append, hns, h2]
        simp)
      have hnl : ns.length + (prN p.p).length ≤ 1000000 := by
        have h1 : (((x.procs.map (·.p)).take (j + 1)).flatMap prN).length ≤ (mdN x.m).length := by
          unfold mdN ModelV.m
          rw [List.length_append]
          refine Nat.le_trans ?_ (Nat.le_add_right _ _)
          have h2 : (x.procs.map (·.p)).flatMap prN = ((x.procs.map (·.p)).take (j + 1)).flatMap prN ++ ((x.procs.map (·.p)).drop (j + 1)).flatMap prN := by rw [← List.flatMap_append, List.take_append_drop]
          rw [h2, List.length_append]
          omega
        rw [HNext.out, List.length_append] at h1
        omega
      rw [hns] at HR
      have hnl' : ns.length + 1 + p.p.vars.length ≤ 1000000 := by
        unfold prN vNames at hnl
        simp at hnl
        omega
      obtain ⟨v, hv1, hv2, hv3⟩ := HR.out.out
      obtain ⟨a6, cap6, rfl⟩ := hv2.slice
      have HV := Lib.hid (And.intro hv1 hv2)
      have hzr := HR.out.size
      have HLt : Hid (∀ g, (Value.slice a6 ns.length cap6).ownBlock = some g → g < wr.heap.size) := Lib.hid hv3
      have hlt1 : w.heap.size + 1 < wr.heap.size := by omega
      have hne1 : ¬ w.heap.size + 1 = wr.heap.size := by omega
      have k0 := hv1.cell
      have k1 := hv1.frozen
      clear hns hp hI hx hnl hv1 hv2 hv3
      generalize x.pa = pa at *
      subst ha
      have HNw : Hid (∀ j u, [Value.string p.p.name][j]? = some u → ((wr.alloc (.cells #[.string p.p.name, .int .i64 p.p.weight, .slice p.va p.p.vars.length p.vc, .slice p.sa p.p.steps.length p.sc] 36)).alloc (.cells #[.string p.p.name] 9)).cell? ((⟨wr.heap.size + 1, 0, none⟩ : Addr).add j) = some u) := Lib.hid (fun j u hu => by have := cell_one (wr.alloc (.cells #[.string p.p.name, .int .i64 p.p.weight, .slice p.va p.p.vars.length p.vc, .slice p.sa p.p.steps.length p.sc] 36)) (.string p.p.name) 9 j u hu; rw [World.size_alloc] at this; exact this)
      go_wp2_with (at_builtin; refine wpList_append_gathP _ rfl _ _ 40 rfl (w.heap.size + 1 + 1) 9 i0 (.string ⟨#[]⟩) 1 16 Try.underlying40 HI.out HZ0.out HZ1.out HZ2.out rfl (by decide) _ _ _ rfl ((HV.out.2.alloc _).alloc _) ⟨wr.heap.size + 1, 0, none⟩ 1 1 [.string p.p.name] rfl rfl HNw.out (one_val rfl) (by decide) (by unfold maxLen; omega) (by omega) (by simp; omega) ?_; intro v' w3 row hown hg hrow; obtain ⟨g', cap', rfl⟩ := ownsRow_succ hown; obtain ⟨⟨u9, hu9⟩, hR9⟩ := ((HR.out.alloc (.cells #[.string p.p.name, .int .i64 p.p.weight, .slice p.va p.p.vars.length p.vc, .slice p.sa p.p.steps.length p.sc] 36)).alloc _).app hown hg (fun g e => (hrow g e).2); have c9 := hu9.cell; have f9 := hu9.frozen; have HR9 := Lib.hid hR9; have hpb : w3.heap[wr.heap.size]? = some (.cells #[.string p.p.name, .int .i64 p.p.weight, .slice p.va p.p.vars.length p.vc, .slice p.sa p.p.steps.length p.sc] 36 (0, 0)) := heap_kept (heap_alloc (heap_new (w := wr) _ rfl) _) hg (fun e => by have := HLt.out _ (hrow _ e.symm).1; omega); have p2 := heap_cell hpb (i := 2) rfl; simp only [List.getElem_toArray, List.getElem_cons_zero, List.getElem_cons_succ] at p2; clear hown hg hrow hu9 hR9 hpb)
      have HW4 : Hid (NmR w x (ns ++ [p.p.name] ++ (vNames p.p).take 0) (w3.setCell ⟨w.heap.size + 1, 0, none⟩ (.slice (some ⟨g', 0, none⟩) (ns.length + 1) cap'))) := Lib.hid (by rw [List.take_zero, List.append_nil]; exact HR9.out)
      generalize w3.setCell ⟨w.heap.size + 1, 0, none⟩ (.slice (some ⟨g', 0, none⟩) (ns.length + 1) cap') = w4 at *
      clear c9 f9 p2 HR9 HNw HV HLt HR k0 k1 c0 c1 c2 c3 hlt1 hne1 hzr
      go_loopw [25] (fun i wr => ∃ k : Nat, i = .int .i64 (k : Int) ∧ k ≤ p.p.vars.length ∧ Hid (NmR w x (ns ++ [p.p.name] ++ (vNames p.p).take k) wr)) (fun i _ => p.p.vars.length - (intOf i).toNat)
      case atStart => exact ⟨0, rfl, Nat.zero_le _, HW4⟩
      case round =>
        clear HW4
        obtain ⟨k, rfl, hk, HR⟩ := hrel
        by_cases hkt : k < p.p.vars.length
        · have hI := (HPi.out.vars.kept HR.out.below (Nat.le_refl _))
          have ha := hI.addr.resolve_left (by omega)
          have hx : p.p.vars[k]? = some (p.p.vars[k]'hkt) := List.getElem?_eq_getElem _
          obtain ⟨vx, hp⟩ : ∃ vx, p.p.vars[k]'hkt = vx := ⟨_, rfl⟩
          rw [hp] at hx
          have c0 : wr.cell? ⟨p.vb, p.vo + k * 2, none⟩ = some (.string vx.name) := hI.cell k vx hx 0 _ rfl
          have c1 : wr.cell? ⟨p.vb, p.vo + k * 2 + 1, none⟩ = some (.int .i64 vx.init) := hI.cell k vx hx 1 _ rfl
          have hki : (k : Int) < (p.p.vars.length : Int) := by omega
          have hk0 : (0 : Int) ≤ (k : Int) := Int.natCast_nonneg k
          obtain ⟨zs, hzs⟩ : ∃ zs, ns ++ [p.p.name] ++ (vNames p.p).take k = zs := ⟨_, rfl⟩
          have HNext2 : Hid (ns ++ [p.p.name] ++ (vNames p.p).take (k + 1) = zs ++ [vx.name]) := Lib.hid (by
            have hm : (vNames p.p)[k]? = some vx.name := by unfold vNames; rw [List.getElem?_map, hx]; rfl
            obtain ⟨h1, h2⟩ := List.getElem?_eq_some_iff.1 hm
            rw [List.take_succ_eq_append_getElem h1, ← List.append_assoc, hzs, h2])
          have hzl : zs.length + 1 ≤ 1000000 := by
            rw [← hzs]
            simp [vNames]
            omega
          rw [hzs] at HR
          obtain ⟨v, hv1, hv2, hv3⟩ := HR.out.out
          obtain ⟨a6, cap6, rfl⟩ := hv2.slice
          have HV := Lib.hid (And.intro hv1 hv2)
          have hzr := HR.out.size
          have hlt1 : w.heap.size + 1 < wr.heap.size := by omega
          have hne1 : ¬ w.heap.size + 1 = wr.heap.size := by omega
          have k0 := hv1.cell
          have k1 := hv1.frozen
          clear hzs hp hI hx hv1 hv2 hv3
          generalize p.va = pva at *
          subst ha
          have HNv : Hid (∀ j u, [Value.string vx.name][j]? = some u → ((wr.alloc (.cells #[.string vx.name, .int .i64 vx.init] 80)).alloc (.cells #[.string vx.name] 9)).cell? ((⟨wr.heap.size + 1, 0, none⟩ : Addr).add j) = some u) := Lib.hid (fun j u hu => by have := cell_one (wr.alloc (.cells #[.string vx.name, .int .i64 vx.init] 80)) (.string vx.name) 9 j u hu; rw [World.size_alloc] at this; exact this)
          go_wp2_with (at_builtin; refine wpList_append_gathP _ rfl _ _ 40 rfl (w.heap.size + 1 + 1) 9 i0 (.string ⟨#[]⟩) 1 16 Try.underlying40 HI.out HZ0.out HZ1.out HZ2.out rfl (by decide) _ _ _ rfl ((HV.out.2.alloc _).alloc _) ⟨wr.heap.size + 1, 0, none⟩ 1 1 [.string vx.name] rfl rfl HNv.out (one_val rfl) (by decide) (by unfold maxLen; omega) (by omega) (by simp; omega) ?_; intro v' w5 row hown hg hrow; obtain ⟨g', cap', rfl⟩ := ownsRow_succ hown; obtain ⟨⟨u9, hu9⟩, hR9⟩ := ((HR.out.alloc (.cells #[.string vx.name, .int .i64 vx.init] 80)).alloc _).app hown hg (fun g e => (hrow g e).2); have c9 := hu9.cell; have f9 := hu9.frozen; have HR9 := Lib.hid hR9; clear hown hg hrow hu9 hR9)
          refine ⟨⟨k + 1, by simp, by omega, ?_⟩, ?_⟩
          · rw [HNext2.out]
            exact HR9
          · unfold intOf
            simp
            omega
        · obtain rfl : k = p.p.vars.length := by omega
          have HR2 : Hid (NmR w x (((x.procs.map (·.p)).take (j + 1)).flatMap prN) wr) := Lib.hid (by
            rw [HNext.out]
            have := HR.out
            rw [List.take_of_length_le (by simp [vNames])] at this
            unfold prN
            simpa using this)
          clear HR HNext
          go_wp2
          refine ⟨⟨j + 1, by simp, by omega, HR2⟩, ?_⟩
          unfold intOf
          simp
          omega
    · obtain rfl : j = x.procs.length := by omega
      have HR2 : Hid (NmR w x (x.m.procs.flatMap prN ++ (nmsL x.m).take 0) wr) := Lib.hid (by
        have := HR.out
        rw [List.take_of_length_le (by simp)] at this
        rw [List.take_zero, List.append_nil]
        exact this)
      clear HR
      have hsl : (x.m.procs.flatMap prN).length + x.links.length ≤ 1000000 := by
        have h1 : (mdN x.m).length = (x.m.procs.flatMap prN).length + x.links.length := by unfold mdN nmsL ModelV.m; simp
        omega
      have HE : Hid (mdN x.m = x.m.procs.flatMap prN ++ (nmsL x.m).take x.links.length) := Lib.hid (by unfold mdN; rw [List.take_of_length_le (by unfold nmsL ModelV.m; simp)])
      generalize mdN x.m = all at *
      generalize x.m.procs.flatMap prN = ps at *
      have b2 := heap_cell HR2.out.box (i := 2) rfl
      simp only [List.getElem_toArray, List.getElem_cons_zero, List.getElem_cons_succ] at b2
      go_wp2
      go_loopw [39] (fun i wr => ∃ k : Nat, i = .int .i64 (k : Int) ∧ k ≤ x.links.length ∧ Hid (NmR w x (ps ++ (nmsL x.m).take k) wr)) (fun i _ => x.links.length - (intOf i).toNat)
      case atStart => exact ⟨0, rfl, Nat.zero_le _, HR2⟩
      case round =>
        clear HR2 b2
        obtain ⟨k, rfl, hk, HR⟩ := hrel
        by_cases hkt : k < x.links.length
        · have hI := (HM.out.links.kept HR.out.below (Nat.le_refl _))
          have ha := hI.addr.resolve_left (by omega)
          have hx : x.links[k]? = some (x.links[k]'hkt) := List.getElem?_eq_getElem _
          obtain ⟨lx, hp⟩ : ∃ lx, x.links[k]'hkt = lx := ⟨_, rfl⟩
          rw [hp] at hx
          have c0 : wr.cell? ⟨x.lb, x.lo + k * 5, none⟩ = some (.string lx.name) := hI.cell k lx hx 0 _ rfl
          have c1 : wr.cell? ⟨x.lb, x.lo + k * 5 + 1, none⟩ = some (.string lx.frm) := hI.cell k lx hx 1 _ rfl
          have c2 : wr.cell? ⟨x.lb, x.lo + k * 5 + 2, none⟩ = some (.string lx.to_) := hI.cell k lx hx 2 _ rfl
          have c3 : wr.cell? ⟨x.lb, x.lo + k * 5 + 3, none⟩ = some (.int .i64 lx.delay) := hI.cell k lx hx 3 _ rfl
          have c4 : wr.cell? ⟨x.lb, x.lo + k * 5 + 4, none⟩ = some (.int .i64 lx.weight) := hI.cell k lx hx 4 _ rfl
          have hki : (k : Int) < (x.links.length : Int) := by omega
          have hk0 : (0 : Int) ≤ (k : Int) := Int.natCast_nonneg k
          obtain ⟨zs, hzs⟩ : ∃ zs, ps ++ (nmsL x.m).take k = zs := ⟨_, rfl⟩
          have HNext2 : Hid (ps ++ (nmsL x.m).take (k + 1) = zs ++ [lx.name]) := Lib.hid (by
            have hm : (nmsL x.m)[k]? = some lx.name := by unfold nmsL ModelV.m; rw [List.getElem?_map, hx]; rfl
            obtain ⟨h1, h2⟩ := List.getElem?_eq_some_iff.1 hm
            rw [List.take_succ_eq_append_getElem h1, ← List.append_assoc, hzs, h2])
          have hzl : zs.length + 1 ≤ 1000000 := by
            rw [← hzs]
            simp
            omega
          rw [hzs] at HR
          obtain ⟨v, hv1, hv2, hv3⟩ := HR.out.out
          obtain ⟨a6, cap6, rfl⟩ := hv2.slice
          have HV := Lib.hid (And.intro hv1 hv2)
          have hzr := HR.out.size
          have hlt1 : w.heap.size + 1 < wr.heap.size := by omega
          have hne1 : ¬ w.heap.size + 1 = wr.heap.size := by omega
          have k0 := hv1.cell
          have k1 := hv1.frozen
          clear hzs hp hI hx hv1 hv2 hv3
          generalize x.la = pva at *
          subst ha
          have HNv : Hid (∀ j u, [Value.string lx.name][j]? = some u → ((wr.alloc (.cells #[.string lx.name, .string lx.frm, .string lx.to_, .int .i64 lx.delay, .int .i64 lx.weight] 57)).alloc (.cells #[.string lx.name] 9)).cell? ((⟨wr.heap.size + 1, 0, none⟩ : Addr).add j) = some u) := Lib.hid (fun j u hu => by have := cell_one (wr.alloc (.cells #[.string lx.name, .string lx.frm, .string lx.to_, .int .i64 lx.delay, .int .i64 lx.weight] 57)) (.string lx.name) 9 j u hu; rw [World.size_alloc] at this; exact this)
          go_wp2_with (at_builtin; refine wpList_append_gathP _ rfl _ _ 40 rfl (w.heap.size + 1 + 1) 9 i0 (.string ⟨#[]⟩) 1 16 Try.underlying40 HI.out HZ0.out HZ1.out HZ2.out rfl (by decide) _ _ _ rfl ((HV.out.2.alloc _).alloc _) ⟨wr.heap.size + 1, 0, none⟩ 1 1 [.string lx.name] rfl rfl HNv.out (one_val rfl) (by decide) (by unfold maxLen; omega) (by omega) (by simp; omega) ?_; intro v' w5 row hown hg hrow; obtain ⟨g', cap', rfl⟩ := ownsRow_succ hown; obtain ⟨⟨u9, hu9⟩, hR9⟩ := ((HR.out.alloc (.cells #[.string lx.name, .string lx.frm, .string lx.to_, .int .i64 lx.delay, .int .i64 lx.weight] 57)).alloc _).app hown hg (fun g e => (hrow g e).2); have c9 := hu9.cell; have f9 := hu9.frozen; have HR9 := Lib.hid hR9; clear hown hg hrow hu9 hR9)
          refine ⟨⟨k + 1, by simp, by omega, ?_⟩, ?_⟩
          · rw [HNext2.out]
            exact HR9
          · unfold intOf
            simp
            omega
        · obtain rfl : k = x.links.length := by omega
          rw [← HE.out] at HR
          clear HE
          go_wp2
          go_ret
          obtain ⟨v, hv1, hv2, hv3⟩ := HR.out.out
          exact ⟨v, rfl, Lib.hid ⟨hv1, hv2⟩, Lib.hid HR.out.below⟩
end Go.Proofs.Ytgnlehenbdcgmaa.Md
