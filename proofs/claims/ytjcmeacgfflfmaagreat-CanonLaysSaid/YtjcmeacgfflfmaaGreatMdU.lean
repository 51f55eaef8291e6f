/- Contracts: the document's names. -/
import Derived.Test.YtjcmeacgfflfmaaGreatMkp
set_option linter.unusedVariables false
set_option linter.unusedSectionVars false
set_option linter.unusedSimpArgs false
namespace Go.Proofs.YtjcmeacgfflfmaaGreat.Md
open Go.RowKit Go.Shelf

/-- While names are gathered, in a variable that lies in no box. -/
structure NmG (w : World) (x : ModelV) (xs : List ByteArray) (v : Value) (W : World) : Prop where
  row : Gath W (w.heap.size + 1) 9 1 v xs.length (sv xs)
  low : Below (w.heap.size + 1) (w.alloc (.cells #[.int .i64 x.ver, .slice x.pa x.procs.length x.pc, .slice x.la x.links.length x.lc, .slice x.ea x.events.length x.ec] 26)) W
  size : w.heap.size + 1 ≤ W.heap.size
theorem NmG.below {w W : World} {x : ModelV} {xs : List ByteArray} {v : Value} (h : NmG w x xs v W) : Below w.heap.size w W := (below_one w _).trans (h.low.mono (Nat.le_succ _))
theorem NmG.box {w W : World} {x : ModelV} {xs : List ByteArray} {v : Value} (h : NmG w x xs v W) : W.heap[w.heap.size]? = some (.cells #[.int .i64 x.ver, .slice x.pa x.procs.length x.pc, .slice x.la x.links.length x.lc, .slice x.ea x.events.length x.ec] 26 (0, 0)) := heap_below (heap_new _ rfl) h.low (Nat.lt_succ_self _)
theorem NmG.bx {w W : World} {x : ModelV} {xs : List ByteArray} {v : Value} (h : NmG w x xs v W) : W.cell? ⟨w.heap.size, 1, none⟩ = some (.slice x.pa x.procs.length x.pc) ∧ W.cell? ⟨w.heap.size, 2, none⟩ = some (.slice x.la x.links.length x.lc) := ⟨heap_cell h.box rfl, heap_cell h.box rfl⟩
theorem NmG.app {w W w3 : World} {x : ModelV} {xs : List ByteArray} {y : ByteArray} {v v' : Value} {row : Option Nat} {o : Obj} (h : NmG w x xs v W) (hown : w3.ownsRow (w.heap.size + 1) 9 1 v' (xs.length + 1) (sv xs ++ [.string y])) (hg : (W.alloc o).grownBy w3 row) (hrow : ∀ g, row = some g → w.heap.size + 1 ≤ g) :
    NmG w x (xs ++ [y]) v' w3 :=
  ⟨.inr (by rw [List.length_append, sv_snoc]; exact hown), (h.low.alloc h.size o).grown hg (by rw [World.size_alloc]; have := h.size; omega) hrow, by have h1 := hg.size; rw [World.size_alloc] at h1; have h2 := h.size; omega⟩
def GNmP (w : World) (ns : List ByteArray) (e : Ending) (w' : World) : Prop := Below w.heap.size w w' ∧ ∃ v, e = .returned v ∧ Gath w' (w.heap.size + 1) 9 1 v ns.length (sv ns)
set_option maxRecDepth 100000 in
set_option maxHeartbeats 4000000 in
theorem rnames_any {w : World} {x : ModelV} (h : ModelAt w.heap.size w x) (hs : (mdN x.m).length ≤ 1000000) : Calls Tryz.prog 29 #[.agg #[.int .i64 x.ver, .slice x.pa x.procs.length x.pc, .slice x.la x.links.length x.lc, .slice x.ea x.events.length x.ec]] w (GNmP w (mdN x.m)) := by
  obtain ⟨i0, hi0, hz0, hz1, hz2⟩ := info_parts Tryz.infoStr
  have HI := Lib.hid hi0
  have HZ0 := Lib.hid hz0
  have HZ1 := Lib.hid hz1
  have HZ2 := Lib.hid hz2
  clear hi0 hz0 hz1 hz2
  have HM := Lib.hid h
  have H0 : Hid (NmG w x [] (.slice (some ⟨w.heap.size + 1, 0, none⟩) 0 0) ((w.alloc (.cells #[.int .i64 x.ver, .slice x.pa x.procs.length x.pc, .slice x.la x.links.length x.lc, .slice x.ea x.events.length x.ec] 26)).alloc (.cells #[] 9))) := Lib.hid ⟨.inl ⟨rfl, rfl, _, rfl⟩, ((Below.refl _ _).alloc (by simp) _), by simp⟩
  clear h
  have hlp : x.procs.length ≤ 1000000 := by
    have : ∀ l : List ProcM, l.length ≤ (l.flatMap prN).length := fun l => by
      induction l with
      | nil => simp
      | cons p r ih => simp only [List.flatMap_cons, List.length_append, List.length_cons, prN]; omega
    have h1 := this x.m.procs
    unfold mdN at hs
    rw [List.length_append] at hs
    have h2 : x.m.procs.length = x.procs.length := by unfold ModelV.m; simp
    omega
  go_enter Tryz.func29, Tryz.ntmps29
  go_upto_region 3 with fail
  generalize ((w.alloc (.cells #[.int .i64 x.ver, .slice x.pa x.procs.length x.pc, .slice x.la x.links.length x.lc, .slice x.ea x.events.length x.ec] 26)).alloc (.cells #[] 9)) = w1 at *
  go_loopw [3, 4] (fun v i wr => ∃ j : Nat, i = .int .i64 (j : Int) ∧ j ≤ x.procs.length ∧ Hid (NmG w x (((x.procs.map (·.p)).take j).flatMap prN) v wr)) (fun v i _ => x.procs.length - (intOf i).toNat)
  case atStart => exact ⟨0, rfl, Nat.zero_le _, H0⟩
  case round =>
    clear H0
    obtain ⟨j, rfl, hj, HR⟩ := hrel
    by_cases hlt : j < x.procs.length
    · have hI := (HM.out.procs.kept HR.out.below (Nat.le_refl _))
      have ha := hI.addr.resolve_left (by omega)
      have hx : x.procs[j]? = some (x.procs[j]'hlt) := List.getElem?_eq_getElem _
      obtain ⟨p, hp⟩ : ∃ p, x.procs[j]'hlt = p := ⟨_, rfl⟩
      rw [hp] at hx
      have HXj := Lib.hid hx
      have c0 : wr.cell? ⟨x.pb, x.po + j * 4, none⟩ = some (.string p.p.name) := hI.cell j p hx 0 _ rfl
      have hji : (j : Int) < (x.procs.length : Int) := by omega
      have hj0 : (0 : Int) ≤ (j : Int) := Int.natCast_nonneg j
      have HPi := Lib.hid (HM.out.inner p (List.mem_of_getElem? hx))
      obtain ⟨ns, hns⟩ : ∃ ns, ((x.procs.map (·.p)).take j).flatMap prN = ns := ⟨_, rfl⟩
      have HNext : Hid (((x.procs.map (·.p)).take (j + 1)).flatMap prN = ns ++ prN p.p) := Lib.hid (by
        have hm : (x.procs.map (·.p))[j]? = some p.p := by rw [List.getElem?_map, hx]; rfl
        obtain ⟨h1, h2⟩ := List.getElem?_eq_some_iff.1 hm
        rw [List.take_succ_eq_append_getElem h1, List.flatMap_append, hns, h2]
        simp)
      have hnl : ns.length + (prN p.p).length ≤ 1000000 := by
        have h1 : (((x.procs.map (·.p)).take (j + 1)).flatMap prN).length ≤ (mdN x.m).length := by
          unfold mdN ModelV.m
          rw [List.length_append]
          refine Nat.le_trans ?_ (Nat.le_add_right _ _)
          have h2 : (x.procs.map (·.p)).flatMap prN = ((x.procs.map (·.p)).take (j + 1)).flatMap prN ++ ((x.procs.map (·.p)).drop (j + 1)).flatMap prN := by rw [← List.flatMap_append, List.take_append_drop]
          rw [h2, List.length_append]
          omega
        rw [HNext.out, List.length_append] at h1
        omega
      rw [hns] at HR
      have hnl' : ns.length + 1 + p.p.vars.length ≤ 1000000 := by
        unfold prN vNames at hnl
        simp at hnl
        omega
      obtain ⟨b1, b2⟩ := HR.out.bx
      have hzr := HR.out.size
      clear hns hp hI hx hnl b2
      have HA : Hid (x.pa = some ⟨x.pb, x.po, none⟩) := Lib.hid ha
      rw [ha] at b1
      clear ha
      have HNw : Hid (∀ j u, [Value.string p.p.name][j]? = some u → (wr.alloc (.cells #[.string p.p.name] 9)).cell? ((⟨wr.heap.size, 0, none⟩ : Addr).add j) = some u) := Lib.hid (cell_one wr (.string p.p.name) 9)
      go_wp2_with (at_builtin; refine wpList_append_gathP _ rfl _ _ 58 rfl (w.heap.size + 1) 9 i0 (.string ⟨#[]⟩) 1 16 Tryz.underlying58 HI.out HZ0.out HZ1.out HZ2.out rfl (by decide) _ _ _ rfl (HR.out.row.alloc _) ⟨wr.heap.size, 0, none⟩ 1 1 [.string p.p.name] rfl rfl HNw.out (one_val rfl) (by decide) (by unfold maxLen; omega) (by omega) (by rw [World.size_alloc]; omega) ?_; intro v' w3 row hown hg hrow; have HR9 := Lib.hid (HR.out.app hown hg (fun g e => (hrow g e).2)); clear hown hg hrow)
      have HW4 : Hid (NmG w x (ns ++ [p.p.name] ++ (vNames p.p).take 0) v' w3) := Lib.hid (by rw [List.take_zero, List.append_nil]; exact HR9.out)
      clear c0 b1 HR9 HNw HR hzr
      go_loopw [3, 5] (fun v i wr => ∃ k : Nat, i = .int .i64 (k : Int) ∧ k ≤ p.p.vars.length ∧ Hid (NmG w x (ns ++ [p.p.name] ++ (vNames p.p).take k) v wr)) (fun v i _ => p.p.vars.length - (intOf i).toNat)
      case atStart => exact ⟨0, rfl, Nat.zero_le _, HW4⟩
      case round =>
        clear HW4
        obtain ⟨k, rfl, hk, HR⟩ := hrel
        obtain ⟨b1, b2⟩ := HR.out.bx
        rw [HA.out] at b1
        clear b2
        have c2 : wr.cell? ⟨x.pb, x.po + j * 4 + 2, none⟩ = some (.slice p.va p.p.vars.length p.vc) := (HM.out.procs.kept HR.out.below (Nat.le_refl _)).cell j p HXj.out 2 _ rfl
        have hk0 : (0 : Int) ≤ (k : Int) := Int.natCast_nonneg k
        by_cases hkt : k < p.p.vars.length
        · have hI := (HPi.out.vars.kept HR.out.below (Nat.le_refl _))
          have ha := hI.addr.resolve_left (by omega)
          have hx : p.p.vars[k]? = some (p.p.vars[k]'hkt) := List.getElem?_eq_getElem _
          obtain ⟨vx, hp⟩ : ∃ vx, p.p.vars[k]'hkt = vx := ⟨_, rfl⟩
          rw [hp] at hx
          have c0 : wr.cell? ⟨p.vb, p.vo + k * 2, none⟩ = some (.string vx.name) := hI.cell k vx hx 0 _ rfl
          have hki : (k : Int) < (p.p.vars.length : Int) := by omega
          obtain ⟨zs, hzs⟩ : ∃ zs, ns ++ [p.p.name] ++ (vNames p.p).take k = zs := ⟨_, rfl⟩
          have HNext2 : Hid (ns ++ [p.p.name] ++ (vNames p.p).take (k + 1) = zs ++ [vx.name]) := Lib.hid (by
            have hm : (vNames p.p)[k]? = some vx.name := by unfold vNames; rw [List.getElem?_map, hx]; rfl
            obtain ⟨h1, h2⟩ := List.getElem?_eq_some_iff.1 hm
            rw [List.take_succ_eq_append_getElem h1, ← List.append_assoc, hzs, h2])
          have hzl : zs.length + 1 ≤ 1000000 := by
            rw [← hzs]
            simp [vNames]
            omega
          rw [hzs] at HR
          have hzr := HR.out.size
          rw [ha] at c2
          clear hzs hp hI hx ha
          have HNw : Hid (∀ j u, [Value.string vx.name][j]? = some u → (wr.alloc (.cells #[.string vx.name] 9)).cell? ((⟨wr.heap.size, 0, none⟩ : Addr).add j) = some u) := Lib.hid (cell_one wr (.string vx.name) 9)
          go_wp2_with (at_builtin; refine wpList_append_gathP _ rfl _ _ 58 rfl (w.heap.size + 1) 9 i0 (.string ⟨#[]⟩) 1 16 Tryz.underlying58 HI.out HZ0.out HZ1.out HZ2.out rfl (by decide) _ _ _ rfl (HR.out.row.alloc _) ⟨wr.heap.size, 0, none⟩ 1 1 [.string vx.name] rfl rfl HNw.out (one_val rfl) (by decide) (by unfold maxLen; omega) (by omega) (by rw [World.size_alloc]; omega) ?_; intro v' w3 row hown hg hrow; have HR9 := Lib.hid (HR.out.app hown hg (fun g e => (hrow g e).2)); clear hown hg hrow)
          refine ⟨⟨k + 1, by simp, by omega, ?_⟩, ?_⟩
          · rw [HNext2.out]
            exact HR9
          · unfold intOf
            simp
            omega
        · obtain rfl : k = p.p.vars.length := by omega
          have HR2 : Hid (NmG w x (((x.procs.map (·.p)).take (j + 1)).flatMap prN) u3 wr) := Lib.hid (by
            rw [HNext.out]
            have := HR.out
            rw [List.take_of_length_le (by simp [vNames])] at this
            unfold prN
            simpa using this)
          clear HR HNext
          go_wp2
          refine ⟨⟨j + 1, by simp, by omega, HR2⟩, ?_⟩
          unfold intOf
          simp
          omega
    · obtain rfl : j = x.procs.length := by omega
      obtain ⟨b1, b2⟩ := HR.out.bx
      have HR2 : Hid (NmG w x (x.m.procs.flatMap prN ++ (nmsL x.m).take 0) u3 wr) := Lib.hid (by
        have := HR.out
        rw [List.take_of_length_le (by simp)] at this
        rw [List.take_zero, List.append_nil]
        exact this)
      clear HR b2
      have hsl : (x.m.procs.flatMap prN).length + x.links.length ≤ 1000000 := by
        have h1 : (mdN x.m).length = (x.m.procs.flatMap prN).length + x.links.length := by unfold mdN nmsL ModelV.m; simp
        omega
      have HE : Hid (mdN x.m = x.m.procs.flatMap prN ++ (nmsL x.m).take x.links.length) := Lib.hid (by unfold mdN; rw [List.take_of_length_le (by unfold nmsL ModelV.m; simp)])
      generalize mdN x.m = all at *
      generalize x.m.procs.flatMap prN = ps at *
      go_wp2
      go_loopw [3, 6] (fun v i wr => ∃ k : Nat, i = .int .i64 (k : Int) ∧ k ≤ x.links.length ∧ Hid (NmG w x (ps ++ (nmsL x.m).take k) v wr)) (fun v i _ => x.links.length - (intOf i).toNat)
      case atStart => exact ⟨0, rfl, Nat.zero_le _, HR2⟩
      case round =>
        clear HR2 b1
        obtain ⟨k, rfl, hk, HR⟩ := hrel
        obtain ⟨b1, b2⟩ := HR.out.bx
        clear b1
        have hk0 : (0 : Int) ≤ (k : Int) := Int.natCast_nonneg k
        by_cases hkt : k < x.links.length
        · have hI := (HM.out.links.kept HR.out.below (Nat.le_refl _))
          have ha := hI.addr.resolve_left (by omega)
          have hx : x.links[k]? = some (x.links[k]'hkt) := List.getElem?_eq_getElem _
          obtain ⟨lx, hp⟩ : ∃ lx, x.links[k]'hkt = lx := ⟨_, rfl⟩
          rw [hp] at hx
          have c0 : wr.cell? ⟨x.lb, x.lo + k * 5, none⟩ = some (.string lx.name) := hI.cell k lx hx 0 _ rfl
          have hki : (k : Int) < (x.links.length : Int) := by omega
          obtain ⟨zs, hzs⟩ : ∃ zs, ps ++ (nmsL x.m).take k = zs := ⟨_, rfl⟩
          have HNext2 : Hid (ps ++ (nmsL x.m).take (k + 1) = zs ++ [lx.name]) := Lib.hid (by
            have hm : (nmsL x.m)[k]? = some lx.name := by unfold nmsL ModelV.m; rw [List.getElem?_map, hx]; rfl
            obtain ⟨h1, h2⟩ := List.getElem?_eq_some_iff.1 hm
            rw [List.take_succ_eq_append_getElem h1, ← List.append_assoc, hzs, h2])
          have hzl : zs.length + 1 ≤ 1000000 := by
            rw [← hzs]
            simp
            omega
          rw [hzs] at HR
          have hzr := HR.out.size
          rw [ha] at b2
          clear hzs hp hI hx ha
          have HNw : Hid (∀ j u, [Value.string lx.name][j]? = some u → (wr.alloc (.cells #[.string lx.name] 9)).cell? ((⟨wr.heap.size, 0, none⟩ : Addr).add j) = some u) := Lib.hid (cell_one wr (.string lx.name) 9)
          go_wp2_with (at_builtin; refine wpList_append_gathP _ rfl _ _ 58 rfl (w.heap.size + 1) 9 i0 (.string ⟨#[]⟩) 1 16 Tryz.underlying58 HI.out HZ0.out HZ1.out HZ2.out rfl (by decide) _ _ _ rfl (HR.out.row.alloc _) ⟨wr.heap.size, 0, none⟩ 1 1 [.string lx.name] rfl rfl HNw.out (one_val rfl) (by decide) (by unfold maxLen; omega) (by omega) (by rw [World.size_alloc]; omega) ?_; intro v' w3 row hown hg hrow; have HR9 := Lib.hid (HR.out.app hown hg (fun g e => (hrow g e).2)); clear hown hg hrow)
          refine ⟨⟨k + 1, by simp, by omega, ?_⟩, ?_⟩
          · rw [HNext2.out]
            exact HR9
          · unfold intOf
            simp
            omega
        · obtain rfl : k = x.links.length := by omega
          rw [← HE.out] at HR
          clear HE
          go_wp2
          go_ret
          exact ⟨HR.out.below, _, rfl, HR.out.row⟩
end Go.Proofs.YtjcmeacgfflfmaaGreat.Md
